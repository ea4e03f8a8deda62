import PyProof.Rows.All
import Wide.All
import OpenK.AllK
import Wide.FinOn
import Lean
import PyProof.EqAt
import PyProof.EqKinds
import PyProof.TupleCall
import PySem.Str
import PySem.Builtin.Int.W1All
import PyProof.NeKinds
import PyProof.ZipIter
import PyProof.SumWalkG
import PyProof.MinMaxWalk
import PyProof.WalksMore
import PyProof.SeqI3
import PyProof.WalkInts
import PyProof.Rows.CallKwBuiltin
import PyProof.Rows.Tup
import PyProof.CollectIter
import PyProof.EnumMake
import PyProof.TupleOfSeq
import PyProof.ListNew
import PyProof.ReprLoop
import PyProof.StationsW
import PyProof.ExcClass3
import PyProof.Rows.CatchBare
import OpenK.KOwn
import KE.KIsAll
import PyProof.NsDelKeeps
import PyProof.RulesAs
import PyProof.ExcArgsOwn
import PyProof.ListRange
import KE.RegKIsAll
import KE.KRevIter
import PyProof.Rows.SortRuns
import KE.KSortTup
import PyProof.DictWalks
import KE.KDictList
import KE.KItemsList
import PyProof.ExcBaseAll.ValueError
import PySem.Challenge.RW_hourhaul_k38_best_rounds
set_option Elab.async false
set_option linter.all false
set_option maxRecDepth 100000
set_option genInjectivity false
set_option genSizeOf false
set_option compiler.extract_closed false
set_option bootstrap.genMatcherCode false
open Option renaming some→aU,none→ci,map_eq_some_iff→fi,map_some→kH,isSome_iff_exists→nl
open Bool renaming false→a_,true→b_,false_ne_true→de,and_eq_true→eW,false_eq_true→iL,and_eq_false_iff→kQ,or_eq_false_iff→k6,or_eq_true→mv,not_eq_true'→mS,false_and→nm,and_false→nq
open PySem renaming wpAny_bind→bdq,Value→bx,Shared→cn,Addr→cq,wpAny_pure→cv,starEach→cx,wpAny→cE,model→cS,Program→df,Expr→dy,mainGlobals→dL,compareOp→dY,World→er,wpAny_mono→eu,Around→ew,wpAny_newObj_type→ey,eval→eA,Heap→eF,bootBuiltins→eH,Stmt→eL,sizeLine_eq→fb,foldedSetIterable→fe,wpAny_pyIter_tuple→fm,wpAny_field→fo,IsPair→ft,binaryOp→fF,wpAny_callSpecial?_slot→fR,wpAny_loadPart'→fS,cLine→f_,behindInMarks→ga,swapsWith→gi,wpAny_seqItems→gl,wpAny_truthy_bool→gS,wpAny_pyIter_list→gT,wpAny_call_entry→hQ,wpAny_setField_rec→hY,sysModules→h8,wpAny_passesOwn→ib,FuncData→ii,wpAny_holding→im,Builtin→iE,tupleKind_room_in1→iN,backTo→i7,IsZip→i9,relabel→jI,attributeBase→jS,sliceBounds→j_,Scope→kf,getItem→ku,callType_new→kw,cellsFrom→kA,wpAny_rule→kC,assignEach→kD,NameKind→kF,holding→kL,wpAny_typeOf→k7,codeAny→k_,assign→lb,letOwnedTupleGo→lc,codeAny_builtin→lg,wpAny_nextOf_list_end→lh,wpAny_updateSeq_pair→ln,ZipApart→lM,Operator→lP,IsPart→lS,tupleKind→lT,callerA→l7,PassesOwn→l8,Keyword→l9,wpAny_standAt→me,wpAny_onRaise→mf,swapsWithSole→mh,swappedStores→mi,plainId_quiet→mn,wpAny_Call_Name_kw→mr,typeIs_int→ms,rawInt→mu,call_meets→mA,wpAny_pyIter_enum→mM,valueAt→mN,seqIndex_neg→mP,concat_meets→m4,Meets→m5,wpAny_eqBool_int→ny,noFill_tuple_add→nz,wpAny_letGo→nE,unsupported→nI,subscripted→nK,seqIndex_of→nN,keywordEach→nS,CmpOp→nV,wpAny_updateSeq→nX,wpAny_specialOf→n1,wpAny_execs_nil→n3,setItem→n5,notedBy→n7,BindsTo→oe,wpAny_letOwnedTupleGo_enum→og,typeLookup→oj,pyNext→om,newFunctionEnv→oq,atKey→ox,wpAny_binaryOp_repeat_ref→pf,wpAny_comprehension_free→pK,wpAny_attempt→pS,seq_tuple_add→p4,assignInOrder→p9,wpAny_pyNext_enum_itemD→qc,field→qf,bindL→qh,bindC→qk,wpAny_pyNext_enum_endD→qB,wpAny_nextOf_list_item→qE,wpAny_getItem_list_neg→qS,pyIter→rc,codeAny_mono→rh,call_meetsIn→ri,wpAny_isTrue_Compare1→rl,builtinLookup_eq_fast→ro,wpAny_loadName_local→rL,bindName→se,bindArgs→sf,backToKw→sh,Model→sk,wpAny_loadName_cell→sn
open List renaming getElem?_set_self→cp,replicate→cr,size_toArray→cy,mem_cons→cK,map_cons→c_,mem_map→da,mem_of_getElem?→dl,mem_cons_of_mem→dr,getElem?_append_left→du,getElem?_eq_getElem→dA,mem_singleton→dP,range→dS,length_cons→dU,length_map→dV,map_map→eh,length_append→ek,nodup_cons→ez,getElem?_set_ne→eI,append_assoc→eM,mem_append→eS,append_nil→e_,getElem?_map→fk,mem_append_right→fq,lookup_cons→fI,drop_eq_getElem_cons→fN,all_eq_true→gc,map_congr_left→gu,map_append→gy,getElem?_cons_succ→gE,find?_cons→gI,filterMap_cons→gL,getElem?_append_right→gN,eq_nil_of_length_eq_zero→hB,sum_cons→hU,replicate_succ→hV,mem_filter→hX,getElem?_replicate→h9,mem_cons_self→io,mem_range→iq,not_mem_nil→iS,length_singleton→iX,filter_cons→i3,nodup_append→i5,length_replicate→ja,length_filter_le→jg,contains_iff_mem→jv,set_cons_succ→jx,getElem_mem→ka,cons_append→kb,any_cons→kc,getD→kg,pairwise_cons→ki,reverse_cons→ko,length_range→kq,any_eq_true→kG,all_cons→kS,pairwise_append→kU,length→kX,getElem?_of_mem→k4,foldl_cons→k8,foldl_append→k9,drop_eq_nil_iff→lf,map_inj_right→lj,getElem?_take→ll,filter_append→lm,length_take→lw,getElem_of_mem→ly,ext_getElem→lI,map_nil→l6,set_cons_zero→ml,nil_append→mw,length_nil→mx,take_append_of_le_length→mI,getElem?_set→m2,flatten_cons→m3,getElem?_zip_eq_some→nB,take_of_length_le→n9,length_pos_of_mem→n_,sum_append→ol,of_mem_zip→oo,length_set→ow,min?_eq_some_iff→oC,min?_eq_none_iff→oI,eq_nil_or_concat→oN,countP_mono_left→oP,concat_eq_append→oQ,mem_append_left→pz,getElem?_mapIdx→pE,toArray→qV,map_set→rf,foldl→r_
open PySem.Heap renaming get?_push_size→cw,lt_size→dc,size_push→ej,get?_update_other→gX,get?_update_self→jp,SameBut→rj,IsTuple→rk
open Nat renaming ne_of_lt→dE,lt_of_lt_of_le→ef,le_trans→ic,lt_irrefl→ip,le_of_lt→lx,le_of_not_lt→mE,mul_comm→oy,lt_trans→oz,le_mul_of_pos_left→oB,pow_le_pow_right→p_,le_succ→rg,zero_add→rq,ne_of_gt→r6
open Sum renaming inl→dQ,inr→ma
open Int renaming le_refl→d_,mul_le_mul_of_nonneg_right→g9,toNat_natCast→kN,mul_comm→kR,mul_add→mT,add_assoc→n4,mul_neg→n8,le_trans→oT,add_zero→o3,mul_sub→qa,add_mul→qb,toNat_of_nonneg→qq,sub_zero→rS,mul_zero→r8
open PySem.Value renaming ref→ec,none→eP,type→fv,int→fT,bool→ke,notImplemented→kT
open PyProof.Rows renaming callWith_type1→eg,Keyed→gd,IntsAre→hJ,wpS_bind→ia,slot_tuple_getitem→iA,SortSt→iP,SortKind→i8,pendingOf→ky,wpS_pure→kB,envOfC→lL,AllBare→l_,assignInOrder_cons→mB,subscriptTail→pV,listUpdate_at→p5,IsTup→qo,Call_→qr,wpS_get→qv,wpS_forRange→qA,subscriptTail_builtinR→q_,seqObj→rb,minRun'→rd,seqEpoch_at→rX,failedOf→sd,arrOf→sj
open PySem.PassesOwn renaming never→ei
open Option.some renaming inj→eJ
open PySem.NameKind renaming free→eK,cell→gj
open Or renaming inr→eR,inl→eT
open Pure renaming pure→fg
open False renaming elim→fh
open Ne renaming symm→fx
open PySem.Builtin.SmallTypes renaming ownedTupleIsFree→fy,ownedTupleHandOut→kl,nextOf→lp
open PySem.Obj renaming mapSeq→fE
open PySem.SeqAt renaming EqAt→g_
open PySem.Shared renaming heap→h_
open ForInStep renaming yield→ix
open PySem.Calls renaming spliced_cons→iB,spliced_nil→kn,callWith_builtin→kK,Name_function_global→ng,evalArgs_plain→pc
open Function renaming comp_def→iF
open PySem.Str renaming ofString→iO
open PySem.Around renaming under_plainId→i4
open PySem.Builtin.List renaming listExtendWith→i6,listItems→mo,listTooLong→r9
open PySem.Builtin.Tuple renaming tupleExact→i_
open Array renaming length_toList→jR,toList_inj→md,getElem?_eq_some_iff→nh,getD→nk,getElem?_eq_getElem→nv
open True renaming intro→kM
open PyProof.Rows.IntsAre renaming length→kP
open PyProof.Rows.IsTup renaming new→k5
open PySem.SeqAt.EqAt renaming same→li
open PySem.Heap.SameBut renaming update→m_
open PySem.Builtin.Slice renaming slicePlaces→nL,sliceAdjust→rV
open PySem.CmpOp renaming NotIn→o_
open List(foldl map toArray forIn_cons forIn_nil)
open PySem.W(mg_none_of keepIn methodObj mg_of kitx_dict)
open PySem.Heap(IsList)
open Nat(le_refl)
open PySem.Builtin.Tuple(tupleItemsOf)
open PySem.Builtin.List(listLengthHint listSameRef)
open Option(bind_some isSome_map getD_none)
open PySem.Builtin.Slice(sliceApplied)
open Int(mul_comm mul_zero max_eq_left mul_one)
open Array(toList)
open PySem.SeqAt.EqAt(int_str str_int none_bool none_int none_str bool_none bool_bool bool_int bool_str int_none int_bool int_int str_none str_bool str_str)
open PySem.F(slot_tuple_add entry_tuple_add args_tuple_add_2 slot_tuple_mul)
open PySem.SeqAt.RcAt(lists_lengths)
open PySem.SeqAt.RcNeAt(int_list str_list list_int list_str)
theorem dF{h:PySem.Heap}{o b:PySem.Obj}{a:PySem.Addr}(e:h.get? a=aU o):(h.push b).get? a=aU o:=PySem.Heap.get?_push_of_some _ e
theorem dD{b:Type}{l:List b}{i:Nat}{a:b}(h:l[i]?=aU a):∃h:i<l.length,l[i]=a:=List.getElem?_eq_some_iff.mp h
theorem fC{b:Type}{l:List b}{i j:Nat}{a:b}(h:j≠i):(l.set i a)[j]?=l[j]?:=List.getElem?_set_ne (fx h)
theorem tU{n:Nat}:0<=n:=Nat.zero_le n
theorem cN{n:Nat}:n<=n:=Nat.le_refl n
namespace _L
open PySem Spec PyProof.Rows
variable{w:er}{h:eF}{t' i:Nat}{M:sk}{A:ew}{s:cn}{pins:List (cq×Obj)}{op:nV}{K:PySem.W.Frag}{tg:dy}{us:List bx}
noncomputable abbrev Key:=Sum Int Str
noncomputable def oW:Key->bx->Bool|.inl k,v=>Value.isInt k v|.inr x,v=>Value.isStrOf x v
noncomputable def aeT(w:er):Key->Int|.inl k=>hashInt k|.inr x=>hashStr w x
theorem bM:∀{k:Key}{v:bx},oW k v=b_->(∃i t,k=dQ i/\v=fT i t)\/(∃x t,k=ma x/\v=Value.str x t)|.inl i,v,h=>by obtain⟨t,e⟩:=Value.isInt_shape (k:=i) (v:=v) h;exact .inl ⟨i,t,rfl,e⟩|.inr x,v,h=>by obtain⟨t,e⟩:=Value.isStrOf_shape (x:=x) (v:=v) h;exact .inr ⟨x,t,rfl,e⟩
theorem Gm(i:Int)(t:Tok):oW (.inl i) (.int i t)=b_:=by simp[oW,Value.isInt]
theorem Gf(x:Str)(t:Tok):oW (.inr x) (.str x t)=b_:=by simp[oW,Value.isStrOf]
theorem Wu(a b:Int):decide ((dQ a:Key)=dQ b)=(a==b):=by
 by_cases e:a=b;.subst e;simp
 .have h:¬(dQ a:Key)=dQ b:=λq=>e (Sum.inl.inj q);rw[decide_eq_false h];exact(beq_eq_false_iff_ne.mpr e).symm
theorem U3(a b:Str):decide ((ma a:Key)=ma b)=decide (a=b):=by
 by_cases e:a=b;.subst e;simp
 .have h:¬(ma a:Key)=ma b:=λq=>e (Sum.inr.inj q);rw[decide_eq_false h,decide_eq_false e]
theorem VH(a:Int)(b:Str):decide ((dQ a:Key)=ma b)=a_:=decide_eq_false (λq=>nomatch q)
theorem V9(a:Str)(b:Int):decide ((ma a:Key)=dQ b)=a_:=decide_eq_false (λq=>nomatch q)
noncomputable def bB(prog:df)(w:er):PySem.KeyKind prog w Key where
 is:=oW;hash:=aeT w;inj:=λv a b g f=>by
  rcases bM g with⟨i,t,rfl,rfl⟩|⟨x,t,rfl,rfl⟩
  . rcases bM f with⟨j,u,rfl,e⟩|⟨y,u,rfl,e⟩;.injection e with e1 _;rw[e1]
    .exact nomatch e
  . rcases bM f with⟨j,u,rfl,e⟩|⟨y,u,rfl,e⟩;.exact nomatch e
    .injection e with e1 _;rw[e1]
 byValue:=λk v h=>by rcases bM h with⟨i,t,rfl,rfl⟩|⟨x,t,rfl,rfl⟩<;>rfl
 pyHash:=λc h=>by
  rcases bM c with⟨i,t,rfl,rfl⟩|⟨x,t,rfl,rfl⟩;.exact wpAny_pyHash_int h
  .exact wpAny_pyHash_str h
 eqBool:=λl c h=>by
  rcases bM l with⟨i,t,rfl,rfl⟩|⟨x,t,rfl,rfl⟩
  . rcases bM c with⟨j,u,rfl,rfl⟩|⟨y,u,rfl,rfl⟩;.rw[Wu]at h;exact ny h
    .rw[VH]at h;exact int_str i t y u _ _ _ _ h
  . rcases bM c with⟨j,u,rfl,rfl⟩|⟨y,u,rfl,rfl⟩;.rw[V9]at h;exact str_int x t j u _ _ _ _ h
    .rw[U3]at h;exact wpAny_eqBool_str h
 «strs»:=λk x t v h=>by
  rcases bM h with⟨i,u,rfl,e⟩|⟨y,u,rfl,e⟩;.exact nomatch e
  .injection e with e1 _;subst e1;cases v<;>rfl
theorem yz(prog:df)(w:er)(i:Int)(t:Tok):(bB prog w).is (.inl i) (.int i t)=b_:=Gm i t
theorem yH(prog:df)(w:er)(x:Str)(t:Tok):(bB prog w).is (.inr x) (.str x t)=b_:=Gf x t
inductive V where|non|bl(b:Bool)|int(i:Int)|str(x:Str)|byt(b:Array UInt8)|flt(b:UInt64)|ref(a:cq)|ty(n:String)deriving DecidableEq
noncomputable def RelV:V->bx->Prop|.non,u=>u=eP|.bl b,u=>u=ke b|.int i,u=>∃t,u=fT i t|.str x,u=>∃t,u=Value.str x t|.byt b,u=>∃t,u=Value.bytes b t|.flt b,u=>∃t,u=Value.float b t|.ref a,u=>u=ec a|.ty n,u=>u=fv n
noncomputable abbrev Vals:List V->List bx->Prop:=Paired RelV
theorem Vals.length{xs:List V}{us:List bx}(r:Vals xs us):xs.length=us.length:=Paired.length r
theorem Vals.get:∀{xs:List V}{us:List bx}{i:Nat}{x:V},Vals xs us->xs[i]?=aU x->∃u,us[i]?=aU u/\RelV x u|_,_,_,_,.nil,e=>by simp at e|_,_,0,_,.cons r _,e=>by simp at e;subst e;exact⟨_,rfl,r⟩|_,_,i+1,x,.cons _ t,e=>by obtain⟨u,h1,a⟩:=Vals.get (i:=i) (x:=x) t (by simpa using e);exact⟨u,by simpa using h1,a⟩
theorem Vals.set{x:V}{u:bx}(r:RelV x u):∀{xs:List V}{us:List bx}(i:Nat),Vals xs us->Vals (xs.set i x) (us.set i u)|_,_,_,.nil=>.nil|_,_,0,.cons _ t=>.cons r t|_,_,i+1,.cons q t=>.cons q (Vals.set r i t)
theorem Vals.append:∀{xs ys:List V}{us ws:List bx},Vals xs us->Vals ys ws->Vals (xs++ys) (us++ws)|_,_,_,_,.nil,s=>s|_,_,_,_,.cons r t,s=>.cons r (Vals.append t s)
theorem Vals.take:∀{xs:List V}{us:List bx}(n:Nat),Vals xs us->Vals (xs.take n) (us.take n)|_,_,0,_=>.nil|_,_,_+1,.nil=>.nil|_,_,n+1,.cons r t=>.cons r (Vals.take n t)
theorem Vals.drop:∀{xs:List V}{us:List bx}(n:Nat),Vals xs us->Vals (xs.drop n) (us.drop n)|_,_,0,r=>r|_,_,_+1,.nil=>.nil|_,_,n+1,.cons _ t=>Vals.drop n t
noncomputable def pA:Option V->Option bx->Prop|some v,aU u=>RelV v u|none,ci=>True|_,_=>False
noncomputable def KV{κ:Type}:List (κ×V)->List (κ×bx)->Prop:=Paired λ(p:κ×V)(q:κ×bx)=>p.1=q.1/\RelV p.2 q.2
noncomputable def kV:Key->V|.inl i=>.int i|.inr x=>.str x
inductive HO where|lst(xs:List V)|tup(xs:List V)|dK(kvs:List (Key×V))|dT(kvs:List (List Key×V))|set(S:Int->Bool)(n:Nat)|ins(C dx:cq)(fs:List (Str×V))|own(x:cq)|xd(fs:List (Str×V))|met(f x:cq)|xn(lo hi:Int)|dB(o:Obj)(u:HO)|Xz(ps:Array bx)|ext(φ:eF->Prop)
noncomputable abbrev Hp:=cq->Option HO
variable{H:Hp}
noncomputable def upd(H:Hp)(a:cq)(o:HO):Hp:=λb=>if b=a then aU o else H b
theorem aP{a:cq}{o:HO}:upd H a o a=aU o:=by unfold upd;rw[if_pos rfl]
theorem aB{a b:cq}{o:HO}(h:b≠a):upd H a o b=H b:=by unfold upd;rw[if_neg h]
theorem vI{a:cq}{o u:HO}:upd (upd H a o) a u=upd H a u:=by funext b;unfold upd;split<;>rfl
theorem aaU{a b:cq}{o u:HO}(h:H a=aU o)(h':H b=aU u)(d:o≠u):a≠b:=by intro e;subst e;rw[h]at h';exact d (eJ h')
theorem gP{a b:cq}{o:HO}(h:H a=aU o)(h':H b=ci):a≠b:=by intro e;subst e;rw[h]at h';cases h'
section
variable(P:df)(w:er)
noncomputable def bQ(H:Hp)(h:eF)(a:cq):HO->Prop|.lst xs=>xs.length<=sizeLine/\∃(b:List bx)(n:Nat),Vals xs b/\h.get? a=aU {cls:=.type "list",data:=.seq b.toArray n}|.tup xs=>xs.length<=sizeLine/\∃b:List bx,Vals xs b/\qo h a b.toArray|.dK kvs=>kvs.length<=sizeLine/\(a==h8)=a_/\∃vs,KV kvs vs/\h.DictOf (bB P w) a vs|.dT kvs=>kvs.length<=sizeLine/\(a==h8)=a_/\∃xs:List (List Key×cq×bx),Paired (λ(p:List Key×V)(q:List Key×cq×bx)=>p.1=q.1/\H q.2.1=aU (.tup (p.1.map kV))/\RelV p.2 q.2.2) kvs xs/\∃o es ep,h.get? a=aU o/\o.ExactDict/\o.data=.dict es ep/\es.toList=xs.map (entryOfKey (lT (bB P w)))/\(xs.map (·.1)).Nodup|.set S n=>h.SetOf (intKind P w) a S n|.ins C e fs=>H e=aU (.own a)/\fs.length<=1000/\e≠a/\h.get? a=aU (PySem.W.instObj C e)/\∃c,h.Ns1 e c/\(∀f,pA (fs.lookup f) (c f))/\PySem.Within c (fs.map (·.1))|.own _=>∃o,h.get? a=aU o|.xd fs=>∃c,h.Ns1 a c/\∀f,pA (fs.lookup f) (c f)|.xn lo hi=>∃t u v,h.get? a=aU {cls:=.type "range",data:=.fields #[.int lo t,.int hi u,.int 1 v]}|.dB o u=>h.get? a=aU o/\bQ H h a u|.Xz ps=>h.get? a=aU {cls:=.none,data:=.fields ps}|.met f x=>h.get? a=aU (methodObj (.ref f) (.ref x))|.ext g=>g h/\(∃o,h.get? a=aU o)/\∀h1 j:eF,g h1->(∀o,h1.get? a=aU o->j.get? a=aU o)->g j
noncomputable def m7(H:Hp)(h:eF):Prop:=∀a o,H a=aU o->bQ P w H h a o
end
section
variable{P:df}{w:er}{H H':Hp}{h h':eF}{a:cq}{o:HO}
theorem bQ.lt(x:bQ P w H h a o):a<h.objs.size:=by cases o with|lst xs=>obtain⟨_,_,_,_,e⟩:=x;exact dc e|tup xs=>obtain⟨_,_,_,p⟩:=x;exact p.lt|dK kvs=>obtain⟨_,_,_,_,o,_,_,e,_⟩:=x;exact dc e|dT kvs=>obtain⟨_,_,_,_,o,_,_,e,_⟩:=x;exact dc e|set S n=>obtain⟨o,_,_,_,e,_⟩:=x;exact dc e|ins C b fs=>obtain⟨_,_,_,e,_⟩:=x;exact dc e|own y=>obtain⟨_,e⟩:=x;exact dc e|xd fs=>obtain⟨_,⟨_,_,_,e,_⟩,_⟩:=x;exact dc e|xn lo hi=>obtain⟨_,_,_,e⟩:=x;exact dc e|dB c u=>obtain⟨e,_⟩:=x;exact dc e|Xz ps=>exact dc (show h.get? a=aU _ from x)|met f y=>exact dc (show h.get? a=aU _ from x)|ext g=>obtain⟨_,⟨_,e⟩,_⟩:=x;exact dc e
theorem Paired.We{g j:Type}{F G:g->j->Prop}:∀{c:List g}{e:List j},Paired F c e->(∀a b,F a b->G a b)->Paired G c e|_,_,.nil,_=>.nil|_,_,.cons r t,f=>.cons (f _ _ r) (Paired.We t f)
theorem bQ.stay(x:bQ P w H h a o)(k:∀b u,(b=a\/H b=aU (.own a))->h.get? b=aU u->h'.get? b=aU u)(ho:∀b,H b=aU (.own a)->H' b=aU (.own a))(ht:∀b xs,H b=aU (.tup xs)->H' b=aU (.tup xs)):bQ P w H' h' a o:=by induction o with|lst xs=>obtain⟨z,j,n,r,e⟩:=x;exact⟨z,j,n,r,k _ _ (.inl rfl) e⟩|tup xs=>obtain⟨z,j,r,g,e,c⟩:=x;exact⟨z,j,r,g,k _ _ (.inl rfl) e,c⟩|dK kvs=>obtain⟨z,y,vs,r,g,es,ep,e,c⟩:=x;exact⟨z,y,vs,r,g,es,ep,k _ _ (.inl rfl) e,c⟩|dT kvs=>obtain⟨z,y,xs,r,g,es,ep,e,c⟩:=x;exact⟨z,y,xs,Paired.We r λp q z=>⟨z.1,ht _ _ z.2.1,z.2.2⟩,g,es,ep,k _ _ (.inl rfl) e,c⟩|set S n=>obtain⟨g,es,ep,t,e,c⟩:=x;exact⟨g,es,ep,t,k _ _ (.inl rfl) e,c⟩|ins C G fs=>obtain⟨d,z,ne,e,l,⟨m,es,ep,B,c⟩,r⟩:=x;exact⟨ho _ d,z,ne,k _ _ (.inl rfl) e,l,⟨m,es,ep,k _ _ (.inr d) B,c⟩,r⟩|own y=>obtain⟨g,e⟩:=x;exact⟨g,k _ _ (.inl rfl) e⟩|xd fs=>obtain⟨l,⟨m,es,ep,e,c⟩,r⟩:=x;exact⟨l,⟨m,es,ep,k _ _ (.inl rfl) e,c⟩,r⟩|xn lo hi=>obtain⟨t,u,v,e⟩:=x;exact⟨t,u,v,k _ _ (.inl rfl) e⟩|dB g u E=>obtain⟨e,q⟩:=x;exact⟨k _ _ (.inl rfl) e,E q⟩|Xz ps=>have e:h.get? a=aU {cls:=.none,data:=.fields ps}:=x;show h'.get? a=aU {cls:=.none,data:=.fields ps};exact k a _ (.inl rfl) e|met f y=>have e:h.get? a=aU (methodObj (.ref f) (.ref y)):=x;show h'.get? a=aU (methodObj (.ref f) (.ref y));exact k a _ (.inl rfl) e|ext I=>obtain⟨p,⟨o,e⟩,st⟩:=x;exact⟨st _ _ p λo q=>k _ _ (.inl rfl) q,⟨o,k _ _ (.inl rfl) e⟩,st⟩
theorem m7.lt(x:m7 P w H h)(e:H a=aU o):a<h.objs.size:=(x a o e).lt
theorem m7.fresh(x:m7 P w H h)(e:h.objs.size<=a):H a=ci:=by cases q:H a with|none=>rfl|some u=>exact absurd (ef (x.lt q) e) (ip _)
theorem m7.kept(x:m7 P w H h)(k:∀b u,h.get? b=aU u->h'.get? b=aU u):m7 P w H h':=λa o e=>(x a o e).stay (λb u _ q=>k b u q) (λ_ q=>q) λ_ _ q=>q
theorem m7.laid(x:m7 P w H h)(k:∀b u,h.get? b=aU u->h'.get? b=aU u)(l:h.objs.size<=a)(f:bQ P w (upd H a o) h' a o):m7 P w (upd H a o) h':=λb u e=>by
 have g:=x.fresh l;by_cases j:b=a;.subst j;rw[aP]at e;cases e;exact f
 .rw[aB j]at e;exact(x b u e).stay (λc v _ q=>k c v q) (λc q=>by rw[aB (gP q g)];exact q) λc xs q=>by rw[aB (gP q g)];exact q
end
noncomputable def Rd(H:Hp)(a:cq)(u:HO):Prop:=H a=aU u\/∃o,H a=aU (.dB o u)
theorem Rd.ok{P:df}{a:cq}{u:HO}(r:Rd H a u)(x:m7 P w H h):bQ P w H h a u:=by
 rcases r with r|⟨o,r⟩;.exact x a u r
 .obtain⟨_,q⟩:=x a _ r;exact q
noncomputable def Mut:Option HO->Prop|some (.lst _)=>True|some (.dK _)=>True|some (.dT _)=>True|some (.set _ _)=>True|some (.ins _ _ _)=>True|some (.ext _)=>True|_=>False
section
variable{P:df}{w:er}{H:Hp}{h h':eF}{x e:cq}{o':HO}
theorem m7.write(ok:m7 P w H h)(g:Mut (H x))(he:e=x\/H e=aU (.own x))(k:∀b u,b≠e->h.get? b=aU u->h'.get? b=aU u)(l:∃u,h'.get? e=aU u)(m:bQ P w (upd H x o') h' x o'):m7 P w (upd H x o') h':=λb u q=>by
 have f:∀c y,H c=aU (.own y)->c≠x:=λc y r z=>by subst z;rw[r]at g;exact g
 have n:∀c xs,H c=aU (.tup xs)->c≠x:=λc xs r z=>by subst z;rw[r]at g;exact g
 by_cases j:b=x;.subst j;rw[aP]at q;cases q;exact m
 . rw[aB j]at q;by_cases a:b=e
   . have o:H b=aU (.own x):=by
      rcases he with z|z;.exact absurd (a.trans z) j
      .rw[a];exact z
     rw[q]at o;cases o;obtain⟨v,p⟩:=l;exact⟨v,by rw[a];exact p⟩
   . refine(ok b u q).stay (λc v hc r=>k c v ?_ r) (λc r=>by rw[aB (f c b r)];exact r) λc xs r=>by rw[aB (n c xs r)];exact r
     rcases hc with rfl|hc;.exact a
     . rintro rfl;rcases he with z|z;.exact f c b hc z
       .rw[hc]at z;cases z;exact j rfl
end
structure Un(fs ex:List cq)(H H':Hp)(h h':eF):Prop where
 keep:∀b o,h.get? b=aU o->H b=ci->b∉fs->b∉ex->h'.get? b=aU o
 slot:∀b o,h.get? b=aU o->H b=ci->b∈fs->b∉ex->∃sl,h'.get? b=aU {o with slots:=sl}free:∀b o,h.get? b=aU o->H b=ci->b∉ex->H' b=ci
 there:∀b o,h.get? b=aU o->b∉ex->∃o',h'.get? b=aU o'
 tups:∀b xs,H b=aU (.tup xs)->H' b=aU (.tup xs)wU:∀b o u,H b=aU (.dB o u)->H' b=aU (.dB o u)zf:∀b ps,H b=aU (.Xz ps)->∃more,H' b=aU (.Xz (ps++more))
section
variable{fs fs' ex ex':List cq}{H H1 H2:Hp}{h h1 h2 h':eF}{a x e:cq}{o:HO}
theorem Un.any(u:Un fs ex H H1 h h1){b:cq}{c:Obj}(q:h.get? b=aU c)(n:H b=ci)(f:b∉ex):∃sl,h1.get? b=aU {c with slots:=sl}:=by
 by_cases g:b∈fs;.exact u.slot b c q n g f
 .exact⟨c.slots,u.keep b c q n g f⟩
theorem Un.kept(k:∀b u,h.get? b=aU u->h'.get? b=aU u):Un fs ex H H h h':=⟨λb c q _ _ _=>k b c q,λb c q _ _ _=>⟨c.slots,k b c q⟩,λ_ _ _ n _=>n,λb c q _=>⟨c,k b c q⟩,λ_ _ q=>q,λ_ _ _ q=>q,λ_ ps q=>⟨#[],by rw[q];simp⟩⟩
theorem Un.refl:Un fs ex H H h h:=Un.kept λ_ _ q=>q
theorem Un.laid(k:∀b u,h.get? b=aU u->h'.get? b=aU u)(f:h.objs.size<=a)(c:H a=ci):Un fs ex H (upd H a o) h h' where
 keep:=λb u q _ _ _=>k b u q;slot:=λb u q _ _ _=>⟨u.slots,k b u q⟩;free:=λb u q n _=>by rw[aB (dE (ef (dc q) f))];exact n
 there:=λb u q _=>⟨u,k b u q⟩;tups:=λb xs q=>by rw[aB (gP q c)];exact q
 wU:=λb u xs q=>by rw[aB (gP q c)];exact q
 zf:=λb ps q=>⟨#[],by rw[aB (gP q c),q];simp⟩
theorem Un.write(f:Mut (H x))(he:e=x\/H e=aU (.own x))(k:∀b u,b≠e->h.get? b=aU u->h'.get? b=aU u)(g:∃u,h'.get? e=aU u):Un fs ex H (upd H x o) h h':=by
 have l:∀b,H b=ci->b≠x:=λb n z=>by subst z;rw[n]at f;exact f
 have m:∀b,H b=ci->b≠e:=λb n z=>by
  subst z;rcases he with r|r;.exact l b n r
  .rw[n]at r;cases r
 have j:∀b u,H b=aU u->¬ Mut (aU u)->b≠x:=λb u q p z=>by subst z;rw[q]at f;exact p f
 refine⟨λb u q n _ _=>k b u (m b n) q,λb u q n _ _=>⟨u.slots,k b u (m b n) q⟩,λb u q n _=>by rw[aB (l b n)];exact n,λb u q _=>?_,λb xs q=>by rw[aB (j b _ q λz=>z)];exact q,λb u xs q=>by rw[aB (j b _ q λz=>z)];exact q,λb ps q=>⟨#[],by rw[aB (j b _ q λz=>z),q];simp⟩⟩;by_cases c:b=e;.subst c;exact g
 .exact⟨u,k b u c q⟩
end
noncomputable def trk(h:eF)(H:Hp):List cq:=(dS h.objs.size).filter λa=>(H a).isSome
noncomputable def wQ(h:eF)(H:Hp):eF:=PySem.W.hideAll h (trk h H)
theorem Gz(h:eF)(H:Hp):(wQ h H).objs.size=h.objs.size:=PySem.W.hideAll_size _ _
theorem Jd{b:cq}{o:Obj}(e:h.get? b=aU o)(n:H b=ci):(wQ h H).get? b=aU o:=PySem.W.hideAll_get _ e λa=>by have q:(H b).isSome=b_:=(hX.mp a).2;rw[n]at q;simp at q
theorem Qi{b:cq}{o:Obj}(e:(wQ h H).get? b=aU o):h.get? b=aU o/\H b=ci:=by have a:h.get? b=aU o:=PySem.W.of_hideAll (trk h H) e;refine⟨a,?_⟩;cases q:H b with|none=>rfl|some x=>have c:b∈trk h H:=hX.mpr ⟨iq.mpr (dc a),by simp[q]⟩;have z:(wQ h H).get? b=ci:=PySem.W.hideAll_none (trk h H) c;rw[z]at e;cases e
structure Mod(K:PySem.W.Frag)(mg:Str->Option bx)(base:eF):Prop where
 pI:K.In base
 glob:base.Ns dL mg
 blt:∃mb,base.Ns builtinsNs mb/\∀x:Str,x≠"__name__"->mb x=eH x
 nolimit:base.NoLimit
structure Cx where
 prog:df
 w:er
 K:PySem.W.Frag
 mg:Str->Option bx
 base:eF
 A:ew
 N:List Str
 s₀:cn
 H₀:Hp
 env:Env
 outer:List Env
 stack:List Env
 ex:List cq
 fn:Str->Bool
 calm:Bool
 pn:List (cq×Obj)xe:bx->cn->Prop
variable{X:Cx}
noncomputable def frs(l:List Env):List cq:=l.filterMap (·.frame)
noncomputable abbrev Cx.fs(X:Cx):List cq:=frs X.outer
noncomputable def yZ(a:kf)(x:Str):Prop:=a.names.lookup x=aU .local\/a.names.lookup x=aU .cell\/a.names.lookup x=aU .free
noncomputable def Loc(a:kf)(x:Str):Prop:=a.names.lookup x=aU .local\/a.names.lookup x=aU .cell
noncomputable def Look(env:Env)(h:eF)(m:Str->Option bx)(x:Str)(u:bx):Prop:=(env.kindOf x=aU .local/\m x=aU u)\/((env.kindOf x=aU .cell\/env.kindOf x=aU .free)/\∃c,env.cells.lookup x=aU c/\h.IsCell c (aU u))
structure Cx.Ok(X:Cx):Prop where
 mod:Mod X.K X.mg X.base
 kind:X.env.scope.kind=.function
 glob:X.env.globals=dL
 blt:X.env.builtins=builtinsNs
 above:X.s₀.heap.objs.size<=X.env.locals
 inj:∀x y c,X.env.cells.lookup x=aU c->X.env.cells.lookup y=aU c->x=y
 has:∀x,(X.env.kindOf x=aU .cell\/X.env.kindOf x=aU .free)->∃c,X.env.cells.lookup x=aU c
 cab:∀x c,X.fn x=b_->X.env.cells.lookup x=aU c->X.s₀.heap.objs.size<=c
 hd:X.calm=b_->X.A.handled=ci
 frames:X.A.frames=aU X.stack
 stk:X.stack=X.outer\/(X.stack=X.env::X.outer/\X.env.frame=aU X.env.locals)exf:∀b∈X.ex,b≠X.env.locals/\∀x c,X.env.cells.lookup x=aU c->c≠b
 bs:∀b o,X.base.get? b=aU o->X.s₀.heap.get? b=aU o/\X.H₀ b=ci
 Tq:X.base.objs.size<=X.s₀.heap.objs.size
 M4:∀b o,X.base.get? b=aU o->b∉X.ex
 Rp:∀b∈X.ex,b∉X.fs
 rO:X.s₀.heap.FunFrames X.base X.outer
 ZD:∀b∈X.fs,X.H₀ b=ci
structure Inv(X:Cx)(pins:List (cq×Obj))(σ:List (Option V))(H:Hp)(s:cn):Prop where
 ok:X.Ok
 os:s.os=X.s₀.os
 bare:l_ s.gens
 base:Un X.fs X.ex X.H₀ H X.s₀.heap s.heap
 loc:∃m,s.heap.Ns X.env.locals m/\∀(i:Nat)(x:Str)(v:V),X.N[i]?=aU x->σ[i]?=aU (aU v)->yZ X.env.scope x->∃u,RelV v u/\Look X.env s.heap m x u
 cell:∀x c,X.env.cells.lookup x=aU c->∃v,s.heap.IsCell c v
 free:H X.env.locals=ci
 kZ:∀x c,X.env.cells.lookup x=aU c->H c=ci
 pin:∀p∈X.pn++pins,s.heap.get? p.1=aU p.2/\H p.1=ci/\p.1≠X.env.locals/\p.1∉X.fs/\∀v,p.2.data≠.cell v
 hok:m7 X.prog X.w H s.heap
 len:σ.length=X.N.length
section
variable{X:Cx}{pins:List (cq×Obj)}{σ:List (Option V)}{H H':Hp}{s:cn}{h':eF}
theorem Cx.Ok.afa(ok:X.Ok){b:cq}{o:Obj}(e:X.base.get? b=aU o):b∉X.fs:=λa=>by have:=(ok.rO.mem a).1;rw[e]at this;cases this
theorem Inv.bs(I:Inv X pins σ H s):∀b o,X.base.get? b=aU o->s.heap.get? b=aU o/\H b=ci:=λb o e=>⟨I.base.keep b o (I.ok.bs b o e).1 (I.ok.bs b o e).2 (I.ok.afa e) (I.ok.M4 b o e),I.base.free b o (I.ok.bs b o e).1 (I.ok.bs b o e).2 (I.ok.M4 b o e)⟩
theorem Inv.bk(I:Inv X pins σ H s):∀b o,X.base.get? b=aU o->s.heap.get? b=aU o:=λb o e=>(I.bs b o e).1
theorem Inv.mod(I:Inv X pins σ H s):Mod X.K X.mg X.base:=I.ok.mod
theorem Inv.T4(I:Inv X pins σ H s):X.K.In s.heap:=I.ok.mod.pI.keeps I.bk
theorem Inv.lt(I:Inv X pins σ H s):X.env.locals<s.heap.objs.size:=let⟨_,hn,_⟩:=I.loc;hn.lt
theorem Inv.sz(I:Inv X pins σ H s):X.s₀.heap.objs.size<=s.heap.objs.size:=ic I.ok.above (lx I.lt)
theorem Inv.aeF(I:Inv X pins σ H s){a:cq}(h:s.heap.objs.size<=a):a∉X.fs:=λb=>by obtain⟨_,o,ho,_⟩:=I.ok.rO.mem b;exact absurd (ef (dc ho) (ic I.sz h)) (ip _)
theorem Inv.VF(I:Inv X pins σ H s):∀x c,X.env.cells.lookup x=aU c->c≠X.env.locals:=λx c e z=>by obtain⟨v,o,ho,hd⟩:=I.cell x c e;obtain⟨m,⟨f,es,ep,a,b,_⟩,_⟩:=I.loc;rw[z,a]at ho;cases ho;rw[b]at hd;cases hd
theorem Inv.rO(I:Inv X pins σ H s):s.heap.FunFrames X.base X.outer:=by
 have all:∀(l:List Env),(∀b∈frs l,b∈X.fs)->X.s₀.heap.FunFrames X.base l->s.heap.FunFrames X.base l:=by intro l;induction l with|nil=>intro _ _;trivial|cons env r g=>intro hs j;obtain⟨k,⟨L,o,a,m,ho,hd⟩,hr⟩:=j;have c:L∈X.fs:=hs L (by unfold frs;rw[gL,a];exact io);obtain⟨sl,e⟩:=I.base.slot L o ho (I.ok.ZD L c) c λz=>I.ok.Rp L z c;exact⟨k,⟨L,_,a,m,e,hd⟩,g (λb f=>hs b (by unfold frs;rw[gL,a];exact dr _ f)) hr⟩
 exact all X.outer (λ_ f=>f) I.ok.rO
theorem Inv.stack(I:Inv X pins σ H s):s.heap.FunFrames X.base X.stack:=by
 rcases I.ok.stk with e|⟨e,a⟩;.rw[e];exact I.rO
 .rw[e];obtain⟨m,b,_⟩:=I.loc;refine .cons (by rw[I.ok.kind];decide) a b ?_ I.rO;exact Heap.get?_none_of_le (ic I.ok.Tq I.ok.above)
theorem Inv.wg(I:Inv X pins σ H s):∀b∈frs X.stack,b∈X.env.locals::X.fs:=λb a=>by
 rcases I.ok.stk with e|⟨e,c⟩;.rw[e]at a;exact dr _ a
 .rw[e]at a;unfold frs at a;rw[gL,c]at a;exact a
theorem Inv.El(I:Inv X pins σ H s):∀b∈frs X.stack,H b=ci:=λb hb=>by
 rcases cK.mp (I.wg b hb)with e|hb;.rw[e];exact I.free
 .obtain⟨_,o,ho,_⟩:=I.ok.rO.mem hb;exact I.base.free b o ho (I.ok.ZD b hb) λz=>I.ok.Rp b z hb
theorem Inv.step{g':Array GenState}{t':Nat}{d':Drawn}{ch:List cq}(I:Inv X pins σ H s)(f:∀b∈ch,(b∈X.ex\/X.s₀.heap.objs.size<=b)/\b≠X.env.locals/\(∀x c,X.env.cells.lookup x=aU c->c≠b)/\∀p∈X.pn++pins,p.1≠b)(keep:∀b o,b≠X.env.locals->b∉X.fs->b∉ch->s.heap.get? b=aU o->H b=ci->h'.get? b=aU o)(slot:∀b o,b≠X.env.locals->b∈X.fs->b∉ch->s.heap.get? b=aU o->H b=ci->∃sl,h'.get? b=aU {o with slots:=sl})(free:∀b o,b∉ch->s.heap.get? b=aU o->H b=ci->H' b=ci)(there:∀b o,b∉ch->s.heap.get? b=aU o->∃B,h'.get? b=aU B)(tups:∀b xs,H b=aU (.tup xs)->H' b=aU (.tup xs))(wU:∀b o u,H b=aU (.dB o u)->H' b=aU (.dB o u))(zf:∀b ps,H b=aU (.Xz ps)->∃more,H' b=aU (.Xz (ps++more)))(ns:∀m,s.heap.Ns X.env.locals m->h'.Ns X.env.locals m)(hok:m7 X.prog X.w H' h')(O:l_ g'):Inv X pins σ H' {s with heap:=h',gens:=g',drawn:=d',toks:=t'}:=by
 have C:∀b o,X.s₀.heap.get? b=aU o->b≠X.env.locals:=λb o e=>dE (ef (dc e) I.ok.above);have j:∀b o,X.s₀.heap.get? b=aU o->b∉X.ex->b∉ch:=λb o e a y=>by
  rcases(f b y).1 with z|z;.exact a z
  .exact absurd (ef (dc e) z) (ip _)
 have g:∀x c,X.env.cells.lookup x=aU c->∀v,s.heap.IsCell c v->h'.IsCell c v:=λx c e v⟨o,ho,hd⟩=>by
  have E:c∉ch:=λz=>(f c z).2.2.1 x c e rfl;by_cases hc:c∈X.fs;.obtain⟨sl,q⟩:=slot c o (I.VF x c e) hc E ho (I.kZ x c e);exact⟨_,q,hd⟩
  .exact⟨o,keep c o (I.VF x c e) hc E ho (I.kZ x c e),hd⟩
 refine⟨I.ok,I.os,O,⟨λb o e n y a=>?_,λb o e n y a=>?_,λb o e n a=>?_,λb o e a=>?_,λb xs e=>tups b xs (I.base.tups b xs e),λb o xs e=>wU b o xs (I.base.wU b o xs e),λb ps e=>?_⟩,?_,λx c e=>?_,?_,λx c e=>?_,λp L=>?_,hok,I.len⟩;.exact keep b o (C b o e) y (j b o e a) (I.base.keep b o e n y a) (I.base.free b o e n a)
 .obtain⟨sl,t⟩:=I.base.slot b o e n y a;obtain⟨J,G⟩:=slot b _ (C b o e) y (j b o e a) t (I.base.free b o e n a);exact⟨J,G⟩
 .obtain⟨B,t⟩:=I.base.there b o e a;exact free b B (j b o e a) t (I.base.free b o e n a)
 .obtain⟨B,t⟩:=I.base.there b o e a;exact there b B (j b o e a) t
 .obtain⟨m1,t⟩:=I.base.zf b ps e;obtain⟨Q,G⟩:=zf b _ t;exact⟨m1++Q,by rw[G,Array.append_assoc]⟩
 . obtain⟨m,U,W⟩:=I.loc;refine⟨m,ns m U,λi x v t G Y=>?_⟩;obtain⟨u,r,l⟩:=W i x v t G Y;refine⟨u,r,?_⟩;rcases l with l|⟨k,c,e,z⟩;.exact .inl l
   .exact .inr ⟨k,c,e,g x c e _ z⟩
 .obtain⟨v,z⟩:=I.cell x c e;exact⟨v,g x c e v z⟩
 .obtain⟨m,⟨o,_,_,ho,_⟩,_⟩:=I.loc;exact free _ o (λz=>(f _ z).2.1 rfl) ho I.free
 .obtain⟨v,o,ho,hd⟩:=I.cell x c e;exact free c o (λz=>(f c z).2.2.1 x c e rfl) ho (I.kZ x c e)
 .obtain⟨e,n,ne,N,d⟩:=I.pin p L;have E:p.1∉ch:=λz=>(f p.1 z).2.2.2 p L rfl;exact⟨keep p.1 p.2 ne N E e n,free p.1 p.2 E e n,ne,N,d⟩
theorem Inv.un(I:Inv X pins σ H s)(u:Un X.fs [] H H' s.heap h')(hok:m7 X.prog X.w H' h'):Inv X pins σ H' {s with heap:=h',toks:=t'}:=by obtain⟨m,⟨o,es,ep,ho,r⟩,_⟩:=id I.loc;obtain⟨sl,j⟩:=u.any ho I.free (by simp);exact I.step (g':=s.gens) (d':=s.drawn) (ch:=[]) (λ_ z=>nomatch z) (λb o _ c _ e n=>u.keep b o e n c (by simp)) (λb o _ c _ e n=>u.slot b o e n c (by simp)) (λb o _ e n=>u.free b o e n (by simp)) (λb o _ e=>u.there b o e (by simp)) u.tups u.wU u.zf (λp k=>by obtain⟨q,f,g,a,l⟩:=k;rw[ho]at a;cases a;exact⟨_,f,g,j,l⟩) hok I.bare
theorem Inv.call{g':Array GenState}{d':Drawn}{ch:List cq}(I:Inv X pins σ H s)(u:Un (frs X.stack) ch H H' s.heap h')(hok:m7 X.prog X.w H' h')(l:l_ g')(a:∀b∈ch,(b∈X.ex\/X.s₀.heap.objs.size<=b)/\b≠X.env.locals/\(∀x c,X.env.cells.lookup x=aU c->c≠b)/\∀p∈X.pn++pins,p.1≠b):Inv X pins σ H' {s with heap:=h',gens:=g',drawn:=d',toks:=t'}:=by obtain⟨m,⟨o,es,ep,ho,r⟩,_⟩:=id I.loc;obtain⟨sl,g⟩:=u.any ho I.free λz=>(a _ z).2.1 rfl;exact I.step (ch:=ch) a (λb o g q hc e n=>u.keep b o e n (λz=>(cK.mp (I.wg b z)).elim g q) hc) (λb o _ _ hc e n=>u.any e n hc) (λb o hc e n=>u.free b o e n hc) (λb o hc e=>u.there b o e hc) u.tups u.wU u.zf (λy t=>by obtain⟨B,j,k,f,v⟩:=t;rw[ho]at f;cases f;exact⟨_,j,k,g,v⟩) hok l
theorem Inv.turned{it:cq}(I:Inv X pins σ H s)(k:∀b o,b≠it->s.heap.get? b=aU o->h'.get? b=aU o)(g:H it=ci)(f:it≠X.env.locals)(h1:it∈X.ex\/X.s₀.heap.objs.size<=it)(j:∀x c,X.env.cells.lookup x=aU c->c≠it)(l:∀p∈X.pn++pins,p.1≠it):Inv X pins σ H {s with heap:=h',toks:=t'}:=by
 have a:∀b u,H b=aU u->b≠it:=λb u e z=>by rw[z,g]at e;cases e
 refine I.step (g':=s.gens) (d':=s.drawn) (ch:=[it]) (λb t=>?_) (λb o _ _ hc e _=>k b o (λz=>hc (by simp[z])) e) (λb o _ _ hc e _=>⟨o.slots,k b o (λz=>hc (by simp[z])) e⟩) (λ_ _ _ _ n=>n) (λb o hc e=>⟨o,k b o (λz=>hc (by simp[z])) e⟩) (λ_ _ e=>e) (λ_ _ _ e=>e) (λb ps e=>⟨#[],by rw[e];simp⟩) (λm y=>?_) (λb u e=>?_) I.bare
 . have e:b=it:=by simpa using t
   subst e;exact⟨h1,f,j,l⟩
 .obtain⟨o,es,ep,ho,r⟩:=y;exact⟨o,es,ep,k _ o (fx f) ho,r⟩
 . refine(I.hok b u e).stay (λc v hc q=>k c v ?_ q) (λ_ q=>q) λ_ _ q=>q;rcases hc with z|z;.rw[z];exact a b u e
   .exact a c _ z
theorem Inv.tok(I:Inv X pins σ H s)(t:Nat):Inv X pins σ H {s with toks:=t}:=I.un (h':=s.heap) (t':=t) Un.refl I.hok
theorem Inv.kept{t':Nat}(I:Inv X pins σ H s)(k:∀b u,s.heap.get? b=aU u->h'.get? b=aU u):Inv X pins σ H {s with heap:=h',toks:=t'}:=I.un (Un.kept k) (I.hok.kept k)
theorem Inv.laid{a:cq}{o:HO}{t':Nat}(I:Inv X pins σ H s)(k:∀b u,s.heap.get? b=aU u->h'.get? b=aU u)(c:s.heap.objs.size<=a)(e:bQ X.prog X.w (upd H a o) h' a o):Inv X pins σ (upd H a o) {s with heap:=h',toks:=t'}:=I.un (Un.laid k c (I.hok.fresh c)) (I.hok.laid k c e)
theorem Inv.write{x e:cq}{o:HO}{t':Nat}(I:Inv X pins σ H s)(f:Mut (H x))(he:e=x\/H e=aU (.own x))(k:∀b u,b≠e->s.heap.get? b=aU u->h'.get? b=aU u)(a:∃u,h'.get? e=aU u)(c:bQ X.prog X.w (upd H x o) h' x o):Inv X pins σ (upd H x o) {s with heap:=h',toks:=t'}:=I.un (Un.write f he k a) (I.hok.write f he k a c)
theorem Inv.Fy{a:List (cq×Obj)}(I:Inv X pins σ H s)(h:∀p∈a,s.heap.get? p.1=aU p.2/\H p.1=ci/\p.1≠X.env.locals/\p.1∉X.fs/\∀v,p.2.data≠.cell v):Inv X a σ H s:=⟨I.ok,I.os,I.bare,I.base,I.loc,I.cell,I.free,I.kZ,λp b=>(eS.mp b).elim (λz=>I.pin p (pz _ z)) (h p),I.hok,I.len⟩
theorem yr{N:List Str}(c:N.Nodup){j:Nat}{x:Str}(a:N[i]?=aU x)(b:N[j]?=aU x):i=j:=by obtain⟨h1,e⟩:=dD a;obtain⟨g,f⟩:=dD b;exact(List.getElem_inj c).mp (e.trans f.symm)
theorem uX{E:bx->cn->Prop}{x:Str}{v:V}{u:bx}{Q:Unit->cn->Prop}(I:Inv X pins σ H s)(hN:X.N.Nodup)(hi:X.N[i]?=aU x)(l:Loc X.env.scope x)(r:RelV v u)(h:∀s',Inv X pins (σ.set i (aU v)) H s'->(∃a,rj a s.heap s'.heap/\(a=X.env.locals\/X.env.cells.lookup x=aU a))->Q () s')(hf:X.fn x=b_\/X.env.scope.names.lookup x=aU .local:=by first|(left;rfl)|(right;rfl)|assumption):cE M A (storeName X.env x u) Q E s:=by
 obtain⟨m,hn,hl⟩:=id I.loc;have O:(X.env.scope.kind==.class||(X.env.scope.kind==.module&&X.env.locals !=X.env.globals))=a_:=by rw[I.ok.kind];rfl
 have C:i<σ.length:=by rw[I.len];exact(dD hi).1
 have VF:=I.VF;have f:∀{a:cq}{h':eF},(∃o,s.heap.get? a=aU o/\H a=ci)->rj a s.heap h'->m7 X.prog X.w H h':=λ{a h'}ha hs b ob e=>by
  obtain⟨_,_,t⟩:=ha;refine(I.hok b ob e).stay (λc Z hc q=>(hs.2 c ?_).trans q) (λ_ q=>q) λ_ _ q=>q;rintro rfl;rcases hc with rfl|hc;.rw[t]at e;cases e
  .rw[t]at hc;cases hc
 rcases l with hk|hk
 . refine wpAny_storeName_local hk hn (λh' ac hs=>?_) O;obtain⟨oL,_,_,ae,_⟩:=id hn;refine h _ ⟨I.ok,I.os,I.bare,⟨λb o e n G l=>?_,λb o e n G l=>?_,I.base.free,λb o e l=>?_,I.base.tups,I.base.wU,I.base.zf⟩,⟨_,ac,λj y v' g B e3=>?_⟩,λy c e=>?_,I.free,I.kZ,λp hp=>?_,f ⟨oL,ae,I.free⟩ hs,by simpa using I.len⟩ ⟨_,hs,.inl rfl⟩;.exact(hs.2 b (dE (ef (dc e) I.ok.above))).trans (I.base.keep b o e n G l)
   .obtain⟨sl,g⟩:=I.base.slot b o e n G l;exact⟨sl,(hs.2 b (dE (ef (dc e) I.ok.above))).trans g⟩
   .obtain⟨o',g⟩:=I.base.there b o e l;exact⟨o',(hs.2 b (dE (ef (dc e) I.ok.above))).trans g⟩
   . by_cases J:j=i;.subst J;rw[hi]at g;cases g;rw[cp C]at B;cases B;exact⟨u,r,.inl ⟨hk,by simp⟩⟩
     . rw[fC J]at B;obtain⟨u',r',q⟩:=hl j y v' g B e3;refine⟨u',r',?_⟩;rcases q with⟨k,e⟩|⟨k,c,e,z⟩;.refine .inl ⟨k,?_⟩;have:y≠x:=λe=>J (yr hN g (e▸hi));simp[this,e]
       .exact .inr ⟨k,c,e,z.sameBut hs (VF y c e)⟩
   .obtain⟨Z,z⟩:=I.cell y c e;exact⟨Z,z.sameBut hs (VF y c e)⟩
   .obtain⟨e,n,ne,nf,d⟩:=I.pin p hp;exact⟨(hs.2 p.1 ne).trans e,n,ne,nf,d⟩
 . have L:X.fn x=b_:=by
    rcases hf with z|z;.exact z
    .rw[z]at hk;cases hk
   obtain⟨c,hc⟩:=I.ok.has x (.inl hk);obtain⟨Z,z⟩:=I.cell x c hc;refine wpAny_storeName_cell I.ok.kind hk hc z (λh' U hs=>?_);obtain⟨oc,W,af⟩:=id z;refine h {s with heap:=h'} ⟨I.ok,I.os,I.bare,⟨λb o e n G l=>?_,λb o e n G l=>?_,I.base.free,λb o e l=>?_,I.base.tups,I.base.wU,I.base.zf⟩,⟨m,hn.sameBut hs (fx (VF x c hc)),λj y v' g B e3=>?_⟩,λy c' e=>?_,I.free,I.kZ,λp hp=>?_,f ⟨oc,W,I.kZ x c hc⟩ hs,by simpa using I.len⟩ ⟨c,hs,.inr hc⟩;.exact(hs.2 b (dE (ef (dc e) (I.ok.cab x c L hc)))).trans (I.base.keep b o e n G l)
   .obtain⟨sl,g⟩:=I.base.slot b o e n G l;exact⟨sl,(hs.2 b (dE (ef (dc e) (I.ok.cab x c L hc)))).trans g⟩
   .obtain⟨o',g⟩:=I.base.there b o e l;exact⟨o',(hs.2 b (dE (ef (dc e) (I.ok.cab x c L hc)))).trans g⟩
   . by_cases J:j=i;.subst J;rw[hi]at g;cases g;rw[cp C]at B;cases B;exact⟨u,r,.inr ⟨.inl hk,c,hc,U⟩⟩
     . rw[fC J]at B;obtain⟨u',r',q⟩:=hl j y v' g B e3;refine⟨u',r',?_⟩;rcases q with q|⟨k,c',e,z'⟩;.exact .inl q
       .refine .inr ⟨k,c',e,z'.sameBut hs ?_⟩;rintro rfl;exact J (yr hN g (I.ok.inj _ _ _ e hc▸hi))
   . by_cases Y:c'=c;.subst Y;exact⟨_,U⟩
     .obtain⟨w2,z2⟩:=I.cell y c' e;exact⟨w2,z2.sameBut hs Y⟩
   .obtain⟨e,n,ne,nf,d⟩:=I.pin p hp;refine⟨(hs.2 p.1 ?_).trans e,n,ne,nf,d⟩;intro q;rw[q,W]at e;have q':oc=p.2:=eJ e;exact d Z (by rw[<-q'];exact af)
theorem jt{E:bx->cn->Prop}{x:Str}{v:V}{u:bx}{Q:Unit->cn->Prop}(I:Inv X pins σ H s)(b:X.N.Nodup)(hi:X.N[i]?=aU x)(c:Loc X.env.scope x)(r:RelV v u)(h:∀a,Inv X pins (σ.set i (aU v)) H a->Q () a)(e:X.fn x=b_\/X.env.scope.names.lookup x=aU .local:=by first|(left;rfl)|(right;rfl)|assumption):cE M A (storeName X.env x u) Q E s:=uX I b hi c r (λa f _=>h a f) e
end
noncomputable abbrev XK:=bx->Option cq->Hp->Prop
noncomputable abbrev St:=List (Option V)
noncomputable abbrev VK:=V->Hp->Prop
noncomputable abbrev TE:=St->Hp->VK->Prop
variable{te:TE}
noncomputable abbrev TT:=St->Hp->(Bool->Hp->Prop)->Prop
noncomputable abbrev TA:=St->Hp->(List V->Hp->Prop)->Prop
structure Ends where
 nx:St->Hp->Prop
 rt:VK
 bk:St->Hp->Prop:=λ_ _=>False
 ct:St->Hp->Prop:=λ_ _=>False
noncomputable abbrev TS:=Ends->St->Hp->Prop
inductive EP(X:Cx)(pins:List (cq×Obj))(σ:St)(Q:VK)(u:bx)(s':cn):Prop where|mk(v:V)(H':Hp)(q0:Inv X pins σ H' s')(q1:RelV v u)(q2:Q v H')
noncomputable def TP(X:Cx)(pins:List (cq×Obj))(σ:St)(Q:Bool->Hp->Prop)(b:Bool)(c:cn):Prop:=∃a,Inv X pins σ a c/\Q b a
inductive AP(X:Cx)(pins:List (cq×Obj))(σ:St)(Q:List V->Hp->Prop)(us:List bx)(s':cn):Prop where|mk(vs:List V)(H':Hp)(q0:Inv X pins σ H' s')(q1:Vals vs us)(q2:Q vs H')
noncomputable def SP(X:Cx)(pins:List (cq×Obj))(D:Ends)(f:Flow)(c:cn):Prop:=match f with|.next=>∃a b,Inv X pins a b c/\D.nx a b|.brk=>∃a b,Inv X pins a b c/\D.bk a b|.cont=>∃a b,Inv X pins a b c/\D.ct a b|.ret u=>∃v a b,Inv X pins a b c/\RelV v u/\D.rt v b
noncomputable def PE(X:Cx)(e:dy)(t:TE):Prop:=∀(pins:List (cq×Obj))(s:cn)(σ:St)(H:Hp)(Q:VK),Inv X pins σ H s->t σ H Q->cE (cS X.prog X.w) X.A (eA e X.env) (EP X pins σ Q) X.xe s
noncomputable def PT(X:Cx)(e:dy)(t:TT):Prop:=∀(pins:List (cq×Obj))(s:cn)(σ:St)(H:Hp)(Q:Bool->Hp->Prop),Inv X pins σ H s->t σ H Q->cE (cS X.prog X.w) X.A (isTrue e X.env (eA e X.env)) (TP X pins σ Q) X.xe s
noncomputable def PW(X:Cx)(e:dy)(t:TT):Prop:=∀(a:Sem bx)(pins:List (cq×Obj))(s:cn)(σ:St)(H:Hp)(Q:Bool->Hp->Prop),Inv X pins σ H s->t σ H Q->cE (cS X.prog X.w) X.A (isTrue e X.env a) (TP X pins σ Q) X.xe s
theorem PW.pt{e:dy}{t:TT}(h:PW X e t):PT X e t:=h _
noncomputable def PA(X:Cx)(es:List dy)(t:TA):Prop:=∀(pos:Pos)(pins:List (cq×Obj))(s:cn)(σ:St)(H:Hp)(Q:List V->Hp->Prop),Inv X pins σ H s->t σ H Q->cE (cS X.prog X.w) X.A (spliced (i7 pos (cx es X.env))) (AP X pins σ Q) X.xe s
noncomputable def PS(X:Cx)(st:eL)(t:TS):Prop:=∀(pins:List (cq×Obj))(s:cn)(σ:St)(H:Hp)(D:Ends),Inv X pins σ H s->t D σ H->cE (cS X.prog X.w) X.A (exec st X.env) (SP X pins D) X.xe s
noncomputable def xJ(X:Cx)(st:List eL)(t:TS):Prop:=∀(pins:List (cq×Obj))(s:cn)(σ:St)(H:Hp)(D:Ends),Inv X pins σ H s->t D σ H->cE (cS X.prog X.w) X.A (execs st X.env) (SP X pins D) X.xe s
theorem cA{b:Type}{t:Sem b}{Q c:b->cn->Prop}{E:bx->cn->Prop}(h:cE M A t Q E s)(e:∀a s,Q a s->c a s):cE M A t c E s:=eu h e λ_ _ x=>x
section
variable{X:Cx}
noncomputable def Vg(i:Nat):TE:=λσ H Q=>∃v,σ[i]?=aU (aU v)/\Q v H
noncomputable def tC(v:V):TE:=λ_ H Q=>Q v H
theorem gh{x:Str}{pos:Pos}(f:X.N[i]?=aU x)(g:yZ X.env.scope x)(hd:(x==("__debug__":Str))=a_:=by decide)(b:(x==("__classdict__":Str))=a_:=by decide):PE X (.Name x pos) (Vg i):=by
 intro pins s σ H Q I h;obtain⟨v,e,h⟩:=h;obtain⟨m,j,k⟩:=I.loc;obtain⟨u,r,l⟩:=k i x v f e g;have fin:EP X pins σ Q u s:=⟨v,H,I,r,h⟩;rcases l with⟨hk,n⟩|⟨hk,c,hc,a⟩;.exact wpAny_Name (rL I.ok.kind hk j n fin) hd
 . rcases hk with hk|hk;.exact wpAny_Name (sn I.ok.kind hk hc a fin) hd
   .exact wpAny_Name (wpAny_loadName_free I.ok.kind hk hc a fin b) hd
theorem qX{i j pos}:PE X (.Constant (.int i) j pos) (tC (.int i)):=λ_ _ _ H _ I h=>wpAny_Constant_int ⟨.int i,H,I.tok _,⟨_,rfl⟩,h⟩
theorem aaA{b j pos}:PE X (.Constant (.bool b) j pos) (tC (.bl b)):=λ_ _ _ H _ I h=>Constant_bool ⟨.bl b,H,I,rfl,h⟩
theorem W3{j pos}:PE X (.Constant .none j pos) (tC .non):=λ_ _ _ H _ I h=>Constant_none ⟨.non,H,I,rfl,h⟩
noncomputable def Gl(X:Cx)(x:Str):Prop:=X.env.kindOf x=aU .globalImplicit
theorem Ox{E:bx->cn->Prop}{σ:St}{x:Str}{u:bx}{pos:Pos}{Q:bx->cn->Prop}(I:Inv X pins σ H s)(a:Gl X x)(b:X.mg x=aU u)(h:Q u s)(hd:(x==("__debug__":Str))=a_:=by decide):cE (cS X.prog X.w) X.A (eA (.Name x pos) X.env) Q E s:=ng I.ok.kind a (Calls.loadGlobal_global (by rw[I.ok.glob];exact I.mod.glob.keeps I.bk) b h) hd
theorem gM{E:bx->cn->Prop}{σ:St}{x:Str}{u:bx}{pos:Pos}{Q:bx->cn->Prop}(I:Inv X pins σ H s)(a:Gl X x)(b:X.mg x=ci)(c:eH x=aU u)(h:Q u s)(e:x≠"__name__":=by decide)(hd:(x==("__debug__":Str))=a_:=by decide):cE (cS X.prog X.w) X.A (eA (.Name x pos) X.env) Q E s:=by obtain⟨g,h1,f⟩:=I.mod.blt;exact ng I.ok.kind a (Calls.loadGlobal_builtin (by rw[I.ok.glob];exact I.mod.glob.keeps I.bk) b (by rw[I.ok.blt];exact h1.keeps I.bk) ((f x e).trans c) h) hd
theorem Qh{x:Str}{v:V}{u:bx}{pos:Pos}(a:Gl X x)(b:X.mg x=ci)(c:eH x=aU u)(r:RelV v u)(e:x≠"__name__":=by decide)(hd:(x==("__debug__":Str))=a_:=by decide):PE X (.Name x pos) (tC v):=λ_ _ _ H _ I h=>gM I a b c ⟨v,H,I,r,h⟩ e hd
variable{a b:dy}{ta tb:TE}{pos:Pos}
noncomputable def PC(X:Cx)(op:nV)(a b:dy)(t:TE):Prop:=∀(pins:List (cq × Obj))(s:cn)(σ:St)(H:Hp)(Q:VK),Inv X pins σ H s->t σ H Q->cE (cS X.prog X.w) X.A (eA a X.env) (λv c=>cE (cS X.prog X.w) X.A (eA b X.env) (λu e=>cE (cS X.prog X.w) X.A (dY op v u) (EP X pins σ Q) X.xe e) X.xe c) X.xe s
noncomputable def tB(t:TE):TT:=λσ H Q=>t σ H λx e=>∃c,x=.bl c/\Q c e
theorem Wq{t:TE}(h:PC X op a b t)(h1:ga op b=a_:=by first|(apply abI<;>decide)|rfl):PT X (.Compare a [op] [b] pos) (tB t):=by intro pins s σ H Q I e;refine rl (cA (h pins s σ H _ I e) λv s1 h1=>cA h1 λu s2 f=>cA f λc s3⟨x,H1,I1,r1,q1⟩=>?_) h1;obtain⟨d,rfl,q⟩:=q1;cases r1;exact gS ⟨H1,I1,q⟩
theorem V6{e:dy}{t:TE}(h:PE X e t)(he:∀c,isTrue e X.env c=(do let v<-c;standAt e.pos;kL [v] (truthy v)):=by intro _;rfl):PT X e (tB t):=by intro pins s σ H Q I f;refine isTrue_plain (cA (h pins s σ H _ I f) λv s1⟨x,H1,I1,r1,q1⟩=>?_) (he _);obtain⟨d,rfl,q⟩:=q1;cases r1;exact gS ⟨H1,I1,q⟩
variable{tA tB':TT}{rest:List dy}
noncomputable def ae4(t u:TT):TT:=λσ H Q=>t σ H λc e=>if c=b_ then u σ e Q else Q a_ e
noncomputable def tOr(t u:TT):TT:=λσ H Q=>t σ H λc e=>if c=b_ then Q b_ e else u σ e Q
noncomputable def aev(t:TT):TT:=λσ H Q=>t σ H λc e=>Q (!c) e
theorem Q6(f:PT X a tA):PW X (.BoolOp .And [a] pos) tA:=by intro wh pins s σ H Q I h;refine isTrue_and (cA (f pins s σ H Q I h) λc s1 e=>?_);cases c with|true=>exact isTrue_and_nil e|false=>exact e
theorem Ub(f:PT X a tA):PW X (.BoolOp .Or [a] pos) tA:=by intro wh pins s σ H Q I h;refine isTrue_or (cA (f pins s σ H Q I h) λc s1 e=>?_);cases c with|false=>exact isTrue_or_nil e|true=>exact e
theorem Uu(f:PT X a tA)(g:PW X (.BoolOp .And (b::rest) pos) tB'):PW X (.BoolOp .And (a::b::rest) pos) (ae4 tA tB'):=by intro wh pins s σ H Q I h;refine isTrue_and (cA (f pins s σ H _ I h) λc s1⟨e,I1,q1⟩=>?_);cases c with|true=>exact g wh pins s1 σ e Q I1 q1|false=>exact⟨e,I1,q1⟩
theorem aay(f:PT X a tA)(g:PW X (.BoolOp .Or (b::rest) pos) tB'):PW X (.BoolOp .Or (a::b::rest) pos) (tOr tA tB'):=by intro wh pins s σ H Q I h;refine isTrue_or (cA (f pins s σ H _ I h) λc s1⟨e,I1,q1⟩=>?_);cases c with|true=>exact⟨e,I1,q1⟩|false=>exact g wh pins s1 σ e Q I1 q1
theorem V3(e:PT X a tA):PT X (.UnaryOp .Not a pos) (aev tA):=by intro pins s σ H Q I h;exact isTrue_not (e pins s σ H (λc f=>Q (!c) f) I h)
noncomputable def aax(ta tb:TE):TE:=λσ H Q=>ta σ H λx e=>∃c,x=.bl c/\if c=b_ then tb σ e Q else Q (.bl a_) e
theorem Uy{op}{t:TE}(h:PE X a t):PE X (.BoolOp op [a] pos) t:=λpins s σ H Q I c=>BoolOp_one (h pins s σ H Q I c)
theorem V2(f:PE X a ta)(g:PE X (.BoolOp .And (b::rest) pos) tb):PE X (.BoolOp .And (a::b::rest) pos) (aax ta tb):=by intro pins s σ H Q I h;refine BoolOp_and (cA (f pins s σ H _ I h) λv s1⟨x,H1,I1,r1,e⟩=>?_);obtain⟨c,rfl,e⟩:=e;cases r1;refine gS ?_;cases c with|true=>exact g pins s1 σ H1 Q I1 e|false=>exact⟨.bl a_,H1,I1,rfl,e⟩
noncomputable def tIf(t:TT)(ta tb:TE):TE:=λσ H Q=>t σ H λc e=>if c=b_ then ta σ e Q else tb σ e Q
theorem Ke{c:dy}(hc:PT X c tA)(f:PE X a ta)(g:PE X b tb):PE X (.IfExp c a b pos) (tIf tA ta tb):=by intro pins s σ H Q I h;refine wpAny_IfExp (cA (hc pins s σ H _ I h) λd s1⟨e,I1,q1⟩=>?_);cases d with|true=>exact f pins s1 σ e Q I1 q1|false=>exact g pins s1 σ e Q I1 q1
end
noncomputable def dO(K:PySem.W.Frag)(H:Hp)(a:cq)(xs:List V):Prop:=Rd H a (.lst xs)\/∃(o:Obj)(b:Array bx)(n:Nat),K.lookup a=aU o/\o.cls=.type "list"/\o.dict=ci/\o.data=.seq b n/\b.size<=sizeLine/\Vals xs b.toList
noncomputable def iQ(K:PySem.W.Frag)(H:Hp)(a:cq)(xs:List V):Prop:=Rd H a (.tup xs)\/∃(o:Obj)(b:Array bx)(n:Nat),K.lookup a=aU o/\o.cls=.type "tuple"/\o.data=.seq b n/\b.size<=sizeLine/\Vals xs b.toList
noncomputable def agu:bx->Option V|.none=>aU .non|.bool b=>aU (.bl b)|.int i _=>aU (.int i)|.str x _=>aU (.str x)|.bytes b _=>aU (.byt b)|.float b _=>aU (.flt b)|.ref a=>aU (.ref a)|.type n=>aU (.ty n)|_=>ci
theorem RelV.abs{x:V}{u:bx}(r:RelV x u):agu u=aU x:=by cases x with|non=>cases r;rfl|bl _=>cases r;rfl|int _=>obtain⟨t,rfl⟩:=r;rfl|str _=>obtain⟨t,rfl⟩:=r;rfl|byt _=>obtain⟨t,rfl⟩:=r;rfl|flt _=>obtain⟨t,rfl⟩:=r;rfl|ref _=>cases r;rfl|ty _=>cases r;rfl
theorem RelV.inj{x y:V}{u:bx}(r:RelV x u)(q:RelV y u):x=y:=eJ (r.abs.symm.trans q.abs)
theorem Vals.inj:∀{xs ys:List V}{us:List bx},Vals xs us->Vals ys us->xs=ys|_,_,_,.nil,.nil=>rfl|_,_,_,.cons r t,.cons a t'=>by rw[r.inj a,Vals.inj t t']
section
variable{X:Cx}{pins:List (cq×Obj)}{σ:St}{H:Hp}{s:cn}{a:cq}{xs ys:List V}
theorem dO.of(h:H a=aU (.lst xs)):dO K H a xs:=.inl (.inl h)
theorem iQ.of(h:H a=aU (.tup xs)):iQ K H a xs:=.inl (.inl h)
theorem Inv.list(I:Inv X pins σ H s)(h:dO X.K H a xs):∃b:List bx,Vals xs b/\PlainL s.heap a b.toArray/\xs.length<=sizeLine:=by
 rcases h with h|⟨o,b,n,c,hc,hd,hs,hz,r⟩;.obtain⟨z,b,n,r,e⟩:=h.ok I.hok;exact⟨b,r,⟨_,n,e,rfl,rfl,rfl⟩,z⟩
 .refine⟨b.toList,r,⟨o,n,I.T4 a o c,hc,hd,by simpa using hs⟩,?_⟩;have e:=r.length;simp only[jR]at e;lia
theorem Inv.tuple(I:Inv X pins σ H s)(h:iQ X.K H a xs):∃b:List bx,Vals xs b/\qo s.heap a b.toArray/\xs.length<=sizeLine:=by
 rcases h with h|⟨o,b,n,c,hc,hs,hz,r⟩;.obtain⟨z,b,r,p⟩:=h.ok I.hok;exact⟨b,r,p,z⟩
 .refine⟨b.toList,r,⟨o,I.T4 a o c,hc,n,by simpa using hs⟩,?_⟩;have e:=r.length;simp only[jR]at e;lia
theorem Inv.mU(I:Inv X pins σ H s)(h:dO X.K H a xs)(h':dO X.K H a ys):xs=ys:=by
 obtain⟨b,r,⟨o,n,e,_,_,d⟩,_⟩:=I.list h;obtain⟨its',f,⟨g,j,c,_,_,d'⟩,_⟩:=I.list h';rw[e]at c;cases c;rw[d]at d';injection d' with d1 _;have:b=its':=by simpa using congrArg toList d1
 subst this;exact r.inj f
theorem Inv.jU(I:Inv X pins σ H s)(h:iQ X.K H a xs)(h':iQ X.K H a ys):xs=ys:=by
 obtain⟨b,r,⟨o,e,_,n,d⟩,_⟩:=I.tuple h;obtain⟨its',f,⟨g,c,_,j,d'⟩,_⟩:=I.tuple h';rw[e]at c;cases c;rw[d]at d';injection d' with d1 _;have:b=its':=by simpa using congrArg toList d1
 subst this;exact r.inj f
end
noncomputable abbrev Cx.wish(X:Cx)(E:bx->cn->Prop):Cx:={X with xe:=E}
noncomputable abbrev Cx.nox(X:Cx):Cx:=X.wish λ_ _=>False
theorem Cx.Ok.wish{X:Cx}(ok:X.Ok)(E:bx->cn->Prop):(X.wish E).Ok:=⟨ok.mod,ok.kind,ok.glob,ok.blt,ok.above,ok.inj,ok.has,ok.cab,ok.hd,ok.frames,ok.stk,ok.exf,ok.bs,ok.Tq,ok.M4,ok.Rp,ok.rO,ok.ZD⟩
theorem Cx.Ok.jL{E:bx->cn->Prop}(ok:(X.wish E).Ok):X.Ok:=⟨ok.mod,ok.kind,ok.glob,ok.blt,ok.above,ok.inj,ok.has,ok.cab,ok.hd,ok.frames,ok.stk,ok.exf,ok.bs,ok.Tq,ok.M4,ok.Rp,ok.rO,ok.ZD⟩
section
variable{X:Cx}{pins:List (cq×Obj)}{σ:St}{H:Hp}{s:cn}{E:bx->cn->Prop}
theorem Inv.wish(I:Inv X pins σ H s)(E:bx->cn->Prop):Inv (X.wish E) pins σ H s:=⟨I.ok.wish E,I.os,I.bare,I.base,I.loc,I.cell,I.free,I.kZ,I.pin,I.hok,I.len⟩
theorem Inv.jL(I:Inv (X.wish E) pins σ H s):Inv X pins σ H s:=⟨I.ok.jL,I.os,I.bare,I.base,I.loc,I.cell,I.free,I.kZ,I.pin,I.hok,I.len⟩
theorem SP.jL{D:Ends}{f:Flow}{c:cn}(h:SP (X.wish E) pins D f c):SP X pins D f c:=by cases f with|next=>obtain⟨a,b,I,q⟩:=h;exact⟨a,b,I.jL,q⟩|brk=>obtain⟨a,b,I,q⟩:=h;exact⟨a,b,I.jL,q⟩|cont=>obtain⟨a,b,I,q⟩:=h;exact⟨a,b,I.jL,q⟩|ret u=>obtain⟨v,a,b,I,r,q⟩:=h;exact⟨v,a,b,I.jL,r,q⟩
theorem xJ.nox{st:List eL}{t:TS}(h:xJ X.nox st t):xJ X st t:=λpins s σ H D I a=>eu (h pins s σ H D (I.wish _) a) (λ_ _ q=>q.jL) λ_ _ z=>fh z
end
section
variable{X:Cx}{st:eL}{rest:List eL}{t u:TS}{e:dy}{te:TE}{pos:Pos}
noncomputable def aao:TS:=λD σ H=>D.nx σ H
noncomputable def agA(t u:TS):TS:=λD σ H=>t {D with nx:=u D} σ H
theorem CP:xJ X [] aao:=λ_ _ σ H _ I h=>n3 ⟨σ,H,I,h⟩
theorem lR(h1:PS X st t)(b:xJ X rest u):xJ X (st::rest) (agA t u):=by intro pins s σ H D I h;refine wpAny_execs_cons (cA (h1 pins s σ H {D with nx:=u D} I h) λf s1 q=>?_);cases f with|next=>obtain⟨a,c,g,q⟩:=q;exact b pins s1 a c D g q|ret v=>exact q|brk=>exact q|cont=>exact q
theorem Inv.quiet{σ:St}(I:Inv X pins σ H s):interactive X.env=a_:=by simp[interactive,I.ok.kind]
noncomputable def aar(te:TE):TS:=λD σ H=>te σ H λ_ a=>D.nx σ a
theorem Dp(he:PE X e te)(hs:gi e ci pos.line X.env=fg a_:=by rfl):PS X (.Expr e pos) (aar te):=by intro pins s σ H D I h;exact wpAny_Expr_any (cA (he pins s σ H _ I h) λv s1⟨x,H1,I1,r1,q1⟩=>⟨σ,H1,I1,q1⟩) I.quiet hs
noncomputable def afm(te:TE):TS:=λD σ H=>te σ H D.rt
theorem Jy(he:PE X e te):PS X (.Return (aU e) pos) (afm te):=by intro pins s σ H D I h;exact wpAny_Return_some (cA (he pins s σ H _ I h) λv s1⟨x,H1,I1,r1,q1⟩=>⟨x,σ,H1,I1,r1,q1⟩)
noncomputable def aeq(c:TT)(t u:TS):TS:=λD σ H=>c σ H λb a=>if b=b_ then t D σ a else u D σ a
theorem Te{c:dy}{a b:List eL}{f:TT}(hc:PT X c f)(j:xJ X a t)(k:xJ X b u):PS X (.If c a b pos) (aeq f t u):=by intro pins s σ H D I h;refine wpAny_If (cA (hc pins s σ H _ I h) λd s1⟨g,I1,q1⟩=>?_);cases d with|true=>exact j pins s1 σ g D I1 q1|false=>exact k pins s1 σ g D I1 q1
noncomputable def Uw:TS:=λ_ _ _=>False
theorem KC:PS X st Uw:=λ_ _ _ _ _ _ h=>h.elim
end
noncomputable abbrev TG:=V->St->Hp->(St->Hp->Prop)->Prop
noncomputable abbrev HY:=List V->St->Hp->(St->Hp->Prop)->Prop
noncomputable def PG(X:Cx)(a:dy)(t:TG):Prop:=∀(pins:List (cq × Obj))(s:cn)(σ:St)(H:Hp)(v:V)(u:bx)(Q:St->Hp->Prop),Inv X pins σ H s->RelV v u->t v σ H Q->cE (cS X.prog X.w) X.A (lb a X.env u) (λ_ e=>∃b c,Inv X pins b c e/\Q b c) X.xe s
noncomputable def PGs(X:Cx)(c:List dy)(t:HY):Prop:=∀(pins:List (cq × Obj))(s:cn)(σ:St)(H:Hp)(vs:List V)(us:List bx)(Q:St->Hp->Prop),Inv X pins σ H s->Vals vs us->t vs σ H Q->cE (cS X.prog X.w) X.A (p9 ((kD c X.env).map (·.2)) us) (λ_ e=>∃a b,Inv X pins a b e/\Q a b) X.xe s
noncomputable abbrev Ih:=V->V->V->Hp->(Hp->Prop)->Prop
noncomputable def Xx(X:Cx)(t:Ih):Prop:=∀(pins:List (cq × Obj))(s:cn)(σ:St)(H:Hp)(o i v:V)(a iv u:bx)(Q:Hp->Prop),Inv X pins σ H s->RelV o a->RelV i iv->RelV v u->t o i v H Q->cE (cS X.prog X.w) X.A (n5 a iv u) (λ_ c=>∃b,Inv X pins σ b c/\Q b) X.xe s
noncomputable abbrev Zc:=V->V->Hp->VK->Prop
noncomputable def R4(X:Cx)(op:lP)(t:Zc):Prop:=∀(pins:List (cq × Obj))(s:cn)(σ:St)(H:Hp)(x y:V)(v u:bx)(Q:VK),Inv X pins σ H s->RelV x v->RelV y u->t x y H Q->cE (cS X.prog X.w) X.A (inplaceOp op v u) (EP X pins σ Q) X.xe s
section
variable{X:Cx}{pos:Pos}
noncomputable def jq(i:Nat):TG:=λv σ H Q=>Q (σ.set i (aU v)) H
theorem aM{x:Str}(a:X.N.Nodup)(hi:X.N[i]?=aU x)(b:Loc X.env.scope x)(c:X.fn x=b_\/X.env.scope.names.lookup x=aU .local:=by first|(left;rfl)|(right;rfl)|assumption):PG X (.Name x pos) (jq i):=by intro pins s σ H v u Q I r h;exact wpAny_assign_Name (jt I a hi b r (λf e=>⟨_,H,e,h⟩) c)
noncomputable def Wz:HY:=λvs σ H Q=>vs=[]/\Q σ H
noncomputable def Io(t:TG)(u:HY):HY:=λvs σ H Q=>∃v r,vs=v::r/\t v σ H λa b=>u r a b Q
theorem dX:PGs X [] Wz:=by intro pins s σ H vs us Q I r h;obtain⟨e,h⟩:=h;subst e;cases r;exact assignInOrder_nil ⟨σ,H,I,h⟩
theorem aV{e:dy}{es:List dy}{t:TG}{u:HY}(h1:PG X e t)(b:PGs X es u)(hs:(kD (e::es) X.env).map (·.2)=lb e X.env::(kD es X.env).map (·.2):=by rfl):PGs X (e::es) (Io t u):=by intro pins s σ H vs us Q I r h;obtain⟨v,g,c,h⟩:=h;subst c;cases r with|cons r f=>rw[hs];refine mB (cA (h1 pins s σ H _ _ _ I r h) λ_ s1⟨a,H1,I1,q1⟩=>?_);exact b pins s1 a H1 _ _ Q I1 f q1
noncomputable def Wa(K:PySem.W.Frag)(n:Nat)(t:HY):TG:=λv σ H Q=>∃a xs,v=.ref a/\iQ K H a xs/\xs.length=n/\t xs σ H Q
theorem fZ{es:List dy}{k:Nat}{t:HY}{n:Nat}(hc:X.calm=b_)(h:PGs X es t)(g:(kD es X.env).length=n:=by rfl)(hst:(kD es X.env).findIdx? (·.1)=ci:=by rfl):PG X (.Tuple es k pos) (Wa X.K n t):=by intro pins s σ H v u Q I r c;obtain⟨a,xs,j,l,m,c⟩:=c;subst j;cases r;obtain⟨p,f,ht,hz⟩:=I.tuple l;refine assign_Tuple_tuple (I.ok.hd hc) ht (by simp[g,<-m,f.length]) hst λh' q=>?_;have x:Inv X pins σ H {s with heap:=h'}:=I.kept (t':=s.toks) λb o e=>q b o (dE (dc e)) e;exact h pins _ σ H xs _ Q x (by simpa using f) c
noncomputable def aeO(to a:TE)(t:Ih):TG:=λv σ H Q=>to σ H λo b=>a σ b λi c=>t o i v c λe=>Q σ e
theorem Ug{o i:dy}{to b:TE}{t:Ih}(ho:PE X o to)(hi:PE X i b)(hs:Xx X t)(c:∀ v,lb (.Subscript o i pos) X.env v=(do
  let a<-kL [v] (eA o X.env)let iv<-kL [v,a] (eA i X.env)standAt pos
  kL [v,a,iv] (n5 a iv v)release [v,a,iv] []):=by intro _;rfl):PG X (.Subscript o i pos) (aeO to b t):=by intro pins s σ H v u Q I r h;rw[c];refine bdq (im (cA (ho pins s σ H _ I h) λa s1⟨x,H1,I1,r1,q1⟩=>?_));refine bdq (im (cA (hi pins s1 σ H1 _ I1 q1) λiv s2⟨y,H2,I2,r2,q2⟩=>?_));refine bdq (me (bdq (im (cA (hs pins s2 σ H2 x y v a iv u _ I2 r1 r2 r q2) λ_ s3⟨e,I3,q3⟩=>?_))));exact wpAny_release ⟨σ,e,I3,q3⟩
noncomputable def WM(te:TE)(g:TG):TS:=λD σ H=>te σ H λx a=>g x σ a D.nx
theorem Wm{e:dy}{g:TG}(he:PE X e te)(a:PG X tg g)(hs:mh [tg] e pos.line X.env=fg a_:=by rfl)(b:mi [tg] e X.env=fg ci:=by rfl)(h1:(kD [tg] X.env).map (·.2)=[lb tg X.env]:=by rfl):PS X (.Assign [tg] e pos) (WM te g):=by intro pins s σ H D I h;refine wpAny_Assign_stores (cA (he pins s σ H _ I h) λv s1⟨x,H1,I1,r1,q1⟩=>?_) hs b;rw[h1];exact cA (a pins s1 σ H1 x v _ I1 r1 q1) λ_ s2 q=>q
theorem vR{x:Str}{e:dy}{a:Pos}(b:X.N.Nodup)(hi:X.N[i]?=aU x)(c:Loc X.env.scope x)(he:PE X e te)(hs:gi e (aU (.Name x a)) pos.line X.env=fg a_:=by rfl)(f:X.fn x=b_\/X.env.scope.names.lookup x=aU .local:=by first|(left;rfl)|(right;rfl)|assumption):PS X (.Assign [.Name x a] e pos) (WM te (jq i)):=by intro pins s σ H D I h;refine wpAny_Assign_Name (cA (he pins s σ H _ I h) λv s1⟨y,H1,I1,r1,q1⟩=>?_) hs;exact jt I1 b hi c r1 (λs2 g=>⟨_,H1,g,q1⟩) f
noncomputable def aef(i j:Nat)(a:TA):TS:=λD σ H=>a σ H λvs b=>∃v w,vs=[v,w]/\D.nx ((σ.set i (aU v)).set j (aU w)) b
theorem WN{j:Nat}{x y:Str}{a b:dy}{r:TA}{g k pt:Pos}{kt k2 XC}(hc:X.calm=b_)(t:X.N.Nodup)(hi:X.N[i]?=aU x)(C:X.N[j]?=aU y)(l:i≠j)(u:X.env.scope.names.lookup x=aU .local)(z:X.env.scope.names.lookup y=aU .local)(E:PA X [a,b] r)(G:mi [.Tuple [.Name x g,.Name y k] kt pt] (.Tuple [a,b] k2 XC) X.env=fg (aU [x,y]))(hs:mh [.Tuple [.Name x g,.Name y k] kt pt] (.Tuple [a,b] k2 XC) pos.line X.env=fg a_:=by rfl):PS X (.Assign [.Tuple [.Name x g,.Name y k] kt pt] (.Tuple [a,b] k2 XC) pos) (aef i j r):=by
 intro pins s σ H D I h;rw[exec_Assign_arm];refine bdq (me ?_);rw[hs];refine bdq (cv ?_);rw[if_neg (by decide)];refine bdq (Tuple_ (cA (E _ pins s σ H _ I h) λus s1⟨vs,H1,I1,r1,m⟩=>?_));obtain⟨v,w,J,m⟩:=m;subst J;obtain⟨c,f,rfl,L,O⟩:∃c f,us=[c,f]/\RelV v c/\RelV w f:=by cases r1 with|cons p q=>cases q with|cons Q U=>cases U;exact⟨_,_,rfl,p,Q⟩
 refine ey ?_ (by show 2<=sizeLine;decide);have W:Inv X pins σ H1 {s1 with heap:=s1.heap.push {cls:=.type "tuple",data:=.seq [c,f].toArray}}:=I1.kept (t':=s1.toks) λb o e=>dF e;rw[G];refine bdq (cv ?_);show cE (cS X.prog X.w) X.A (do rule "assign.swapped-stores";let items<-unpackItems (.ref s1.heap.objs.size) 2 ci;p9 [λv=>se X.env y v,λv=>se X.env x v] items.reverse;fg Flow.next) _ _ _;refine bdq (kC (bdq (unpackItems_tuple (items:=#[c,f]) (I.ok.hd hc) (k5 s1.heap _) λh' n=>?_)));have Y:=W.kept (h':=h') (t':=s1.toks) λb o e=>n b o (dE (dc e)) e;show cE _ _ (p9 [λv=>se X.env y v,λv=>se X.env x v] [f,c]>>=λ_=>fg Flow.next) _ _ _;refine bdq (mB (wpAny_bindName (jt Y t C (.inl z) O (λs2 Z=>?_) (.inr z))));refine mB (wpAny_bindName (jt Z t hi (.inl u) L (λs3 B=>assignInOrder_nil (cv ?_)) (.inr u)));rw[List.set_comm _ _ (fx l)]at B;exact⟨_,H1,B,m⟩
noncomputable def agl(i:Nat)(te:TE)(a:Zc):TS:=λD σ H=>∃x,σ[i]?=aU (aU x)/\te σ H λy b=>a x y b λz c=>D.nx (σ.set i (aU z)) c
theorem T7{x:Str}{e:dy}{op:lP}{o:Zc}{b:Pos}(p:X.N.Nodup)(hi:X.N[i]?=aU x)(j:Loc X.env.scope x)(he:PE X e te)(ho:R4 X op o)(q:X.fn x=b_\/X.env.scope.names.lookup x=aU .local:=by first|(left;rfl)|(right;rfl)|assumption):PS X (.AugAssign (.Name x b) op e pos) (agl i te o):=by
 intro pins s σ H D I h;obtain⟨v,t,h⟩:=h;obtain⟨m,B,C⟩:=I.loc;have n:yZ X.env.scope x:=by rcases j with k|k;exact .inl k;exact .inr (.inl k)
 obtain⟨u,r,l⟩:=C i x v hi t n;refine wpAny_AugAssign_Name ?_;have go:cE (cS X.prog X.w) X.A (eA e X.env) (λw f=>cE (cS X.prog X.w) X.A (inplaceOp op u w) (λr g=>cE (cS X.prog X.w) X.A (storeName X.env x r) (λ_=>SP X pins D .next) X.xe g) X.xe f) X.xe s:=by refine cA (he pins s σ H _ I h) λw s1⟨y,H1,I1,r1,q1⟩=>?_;refine cA (ho pins s1 σ H1 v y u w _ I1 r r1 q1) λz s2⟨J,H2,I2,r2,q2⟩=>?_;exact jt I2 p hi j r2 (λs3 E=>⟨_,H2,E,q2⟩) q
 rcases l with⟨hk,G⟩|⟨hk,c,hc,a⟩;.exact rL I.ok.kind hk B G go
 . rcases hk with hk|hk;.exact sn I.ok.kind hk hc a go
   . rcases j with k|k;.have:X.env.scope.names.lookup x=aU .free:=hk;rw[k]at this;cases this
     .have:X.env.scope.names.lookup x=aU .free:=hk;rw[k]at this;cases this
noncomputable def abG(to b te:TE)(c:V->V->Hp->VK->Prop)(a:Zc)(e:Ih):TS:=λD σ H=>to σ H λo f=>b σ f λi g=>c o i g λx j=>te σ j λy k=>a x y k λz l=>e o i z l λm=>D.nx σ m
noncomputable def aa9(X:Cx)(t:V->V->Hp->VK->Prop):Prop:=∀(pins:List (cq × Obj))(s:cn)(σ:St)(H:Hp)(o i:V)(a iv:bx)(Q:VK),Inv X pins σ H s->RelV o a->RelV i iv->t o i H Q->cE (cS X.prog X.w) X.A (ku a iv) (EP X pins σ Q) X.xe s
theorem Q7{o i e:dy}{to j:TE}{k:V->V->Hp->VK->Prop}{c:Zc}{l:Ih}{op:lP}{f:Pos}(ho:PE X o to)(hi:PE X i j)(p:aa9 X k)(he:PE X e te)(q:R4 X op c)(hs:Xx X l)(r:∀b iv a,augStore i b iv a=(do kL [a,b,iv] (n5 b iv a);release [a,b,iv] [];fg .next):=by intros;rfl):PS X (.AugAssign (.Subscript o i f) op e pos) (abG to j te k c l):=by intro pins s σ H D I h;refine wpAny_AugAssign_SubscriptAny (cA (ho pins s σ H _ I h) λb s1⟨m,H1,I1,r1,q1⟩=>?_) r;refine cA (hi pins s1 σ H1 _ I1 q1) λiv s2⟨n,H2,I2,r2,q2⟩=>?_;refine cA (p pins s2 σ H2 m n b iv _ I2 r1 r2 q2) λg s3⟨t,H3,I3,r3,q3⟩=>?_;refine cA (he pins s3 σ H3 _ I3 q3) λv s4⟨u,H4,I4,r4,q4⟩=>?_;refine cA (q pins s4 σ H4 t u g v _ I4 r3 r4 q4) λa s5⟨x,H5,I5,r5,q5⟩=>?_;exact cA (hs pins s5 σ H5 m n x b iv a _ I5 r1 r2 r5 q5) λ_ s6⟨y,I6,q6⟩=>⟨σ,y,I6,q6⟩
noncomputable def Yd(f:Int->Int->Int):Zc:=λx y H Q=>∃i j,x=.int i/\y=.int j/\Q (.int (f i j)) H
theorem Xl:R4 X .Add (Yd λi j=>i+j):=by intro pins s σ H x y v u Q I r1 a h;obtain⟨i,j,b,c,q⟩:=h;subst b;subst c;obtain⟨t,rfl⟩:=r1;obtain⟨t',rfl⟩:=a;exact iadd_int ⟨.int _,H,I.tok _,⟨_,rfl⟩,q⟩
theorem WY:R4 X .Sub (Yd λi j=>i-j):=by intro pins s σ H x y v u Q I r1 a h;obtain⟨i,j,b,c,q⟩:=h;subst b;subst c;obtain⟨t,rfl⟩:=r1;obtain⟨t',rfl⟩:=a;exact isub_int ⟨.int _,H,I.tok _,⟨_,rfl⟩,q⟩
end
section
variable{X:Cx}{pos:Pos}
noncomputable def W0(c:TT)(j:TS):TS:=λD σ H=>∃W:Nat->St->Hp->Prop,(∃m,W m σ H)/\∀m σ H,W m σ H->c σ H λb e=>if b=b_ then ∃N:St->Hp->Prop,(∀a f,N a f->∃g,g<m/\W g a f)/\j {D with nx:=N,ct:=N,bk:=D.nx} σ e else D.nx σ e
theorem Jl{c:dy}{body:List eL}{t:TT}{u:TS}(x:l8 (cS X.prog X.w) X.A X.env X.xe)(hc:PT X c t)(E:xJ X body u):PS X (.While c body [] pos) (W0 t u):=by intro pins s σ H D I h;obtain⟨W,⟨m0,G⟩,turn⟩:=h;refine wpAny_While (codeAny_whileLoop (λn J=>∃g y,Inv X pins g y J/\W n g y) ?_ m0 ⟨σ,H,I,G⟩);rintro n s1⟨e,z,L,O⟩;refine ib x (cA (hc pins s1 e z _ L (turn n e z O)) λb s2⟨B,I2,k⟩=>?_);cases b with
 |true=>obtain⟨N,C,k⟩:=k;rw[if_pos rfl];refine ib x (cA (E pins s2 e B _ I2 k) λf s3 l=>?_);cases f with|next=>obtain⟨a,j,m,o⟩:=l;obtain⟨p,q,r⟩:=C a j o;exact⟨p,q,a,j,m,r⟩|cont=>obtain⟨a,j,m,o⟩:=l;obtain⟨p,q,r⟩:=C a j o;exact⟨p,q,a,j,m,r⟩|brk=>exact l|ret v=>exact l
 |false=>rw[if_neg de];exact n3 ⟨e,B,I2,k⟩
end
structure It where
 go:Nat->Hp->Prop
 M6:Nat->Hp->V->Hp->Prop
 stop:Nat->Hp->Prop
noncomputable def m9(X:Cx)(pins:List (cq×Obj))(H:Hp)(b:cq):Prop:=H b=ci/\b≠X.env.locals/\b∉X.fs/\(b∈X.ex\/X.s₀.heap.objs.size<=b)/\(∀x c,X.env.cells.lookup x=aU c->c≠b)/\∀p∈X.pn++pins,p.1≠b
theorem Inv.zH{σ:St}{f:Hp}{b:cq}(I:Inv X pins σ H s)(a:s.heap.objs.size<=b)(g:f b=ci):m9 X pins f b:=by
 refine⟨g,r6 (ef I.lt a),I.aeF a,.inr (ic I.sz a),λx c e z=>?_,λp j z=>?_⟩;.obtain⟨v,q⟩:=I.cell x c e;exact absurd (ef q.lt (by rw[z];exact a)) (ip _)
 .exact absurd (ef (dc (I.pin p j).1) (by rw[z];exact a)) (ip _)
structure Turn(P:df)(w:er)(K:PySem.W.Frag)(tg:dy)(J:It)(fp:List cq)(it:cq)(tn:Nat->eF->Prop):Prop where
 mem:it∈fp
 obj:∀i h,tn i h->∀b∈fp,∃o,h.get? b=aU o/\∀v,o.data≠.cell v
 keep:∀i h h',tn i h->(∀b∈fp,∀o,h.get? b=aU o->h'.get? b=aU o)->tn i h'
 item:∀(X:Cx),X.prog=P->X.w=w->X.K=K->X.calm=b_->∀(i:Nat)(pins:List (cq×Obj))(s:cn)(σ:St)(H:Hp)(E:bx->cn->Prop),Inv X pins σ H s->(∀b∈fp,m9 X pins H b)->tn i s.heap->J.go i H->cE (cS P w) X.A (om (.ref it)) (λr s1=>∃u,r=aU u/\cE (cS P w) X.A (lc tg (.ref it) u) (λ_ s2=>∃x H',Inv X pins σ H' s2/\RelV x u/\J.M6 i H x H'/\tn (i+1) s2.heap/\∀b∈fp,H' b=ci) E s1) E s
 done:∀(X:Cx),X.prog=P->X.w=w->X.K=K->X.calm=b_->∀(i:Nat)(pins:List (cq×Obj))(s:cn)(σ:St)(H:Hp)(E:bx->cn->Prop),Inv X pins σ H s->(∀b∈fp,m9 X pins H b)->tn i s.heap->J.stop i H->cE (cS P w) X.A (om (.ref it)) (λr s1=>r=ci/\Inv X pins σ H s1) E s
 self:∀(A:ew)(i:Nat)(s:cn)(Q:bx->cn->Prop)(E:bx->cn->Prop),tn i s.heap->Q (.ref it) s->cE (cS P w) A (rc (.ref it)) Q E s
noncomputable abbrev TI:=St->Hp->(It->Hp->Prop)->Prop
noncomputable def PIE(X:Cx)(pins:List (cq×Obj))(σ:St)(tg:dy)(R:It->Hp->Prop)(a:bx)(s2:cn):Prop:=∃(it:cq)(e:List cq)(f:Nat->eF->Prop)(J:It)(c:Hp),a=.ref it/\Inv X pins σ c s2/\Turn X.prog X.w X.K tg J e it f/\f 0 s2.heap/\(∀b∈e,m9 X pins c b)/\R J c
noncomputable def PI(X:Cx)(tg iter:dy)(a:TI):Prop:=∀(pins:List (cq × Obj))(s:cn)(σ:St)(H:Hp)(R:It->Hp->Prop),Inv X pins σ H s->a σ H R->cE (cS X.prog X.w) X.A (eA iter X.env) (λv s1=>cE (cS X.prog X.w) X.A (rc v) (PIE X pins σ tg R) X.xe s1) X.xe s
theorem Fe{E:bx->cn->Prop}{it:cq}{u:bx}{o:Obj}{n:String}{vs:Array bx}{Q:Unit->cn->Prop}(ho:s.heap.get? it=aU o)(hc:o.cls=.type n)(hd:o.data=.fields vs)(b:["enumerate","zip","dict_itemiterator","dict_reverseitemiterator","odict_iterator","itertools.zip_longest","itertools.pairwise"].contains n=a_)(a:Q () s):cE M A (lc tg (.ref it) u) Q E s:=by unfold lc;cases tg<;>first|exact cv a|(cases u<;>first|exact cv a|(refine bdq (wpAny_load ho ?_);rw[hc,hd];show cE M A (if(["enumerate","zip","dict_itemiterator","dict_reverseitemiterator","odict_iterator","itertools.zip_longest","itertools.pairwise"].contains n&&vs[0]?==aU (mu _))=b_ then _ else _) Q E s;rw[if_neg (by intro h;rw[b,nm]at h;cases h)];exact cv a))
noncomputable def Uq(K:PySem.W.Frag)(a:cq):It:=⟨λi H=>∃xs x,dO K H a xs/\xs[i]?=aU x,λi H x b=>b=H/\∀xs,dO K H a xs->xs[i]?=aU x,λi H=>∃xs,dO K H a xs/\xs.length<=i⟩
noncomputable def Yr(K:PySem.W.Frag)(a:cq):It:=⟨λi H=>∃xs x,iQ K H a xs/\xs[i]?=aU x,λi H x b=>b=H/\∀xs,iQ K H a xs->xs[i]?=aU x,λi H=>∃xs,iQ K H a xs/\xs.length<=i⟩
noncomputable def Yk(lo:Int)(n:Nat):It:=⟨λi _=>i<n,λi H x a=>a=H/\x=.int (lo+i),λi _=>n<=i⟩
theorem GZ{P:df}(a it:cq):Turn P w K tg (Uq K a) [it] it (λi h=>h.IsListIter it a i)where
 mem:=by simp
 obj:=λi h st b f=>by
  have e:b=it:=by simpa using f
  subst e;obtain⟨o,e,c,d⟩:=st;exact⟨o,e,λv z=>by rw[d]at z;cases z⟩
 keep:=λi h h' st k=>st.at λo e=>k it (by simp) o e;item:=by intro X m n q hc i pins s σ H E I j st r;subst m n q;obtain⟨xs,x,l,t⟩:=r;obtain⟨y,B,p,hz⟩:=I.list l;obtain⟨u,C,G⟩:=B.get t;obtain⟨f0,f1,f2,f3,f4,f5⟩:=j it (by simp);refine wpAny_pyNext_list_item st p.isList (x:=u) (by simpa using C) λh' g J=>?_;have L:Inv X pins σ H {s with heap:=h'}:=I.turned (t':=s.toks) (λb o f e=>(J.2 b f).trans e) f0 f1 f3 f4 f5;obtain⟨o,e,c,d⟩:=id g;exact⟨u,rfl,Fe (s:={s with heap:=h'}) e c d (by decide) ⟨x,H,L,G,⟨rfl,λys N=>by rw[I.mU N l];exact t⟩,g,λb f=>(j b f).1⟩⟩
 done:=by intro X m n q hc i pins s σ H E I j st r;subst m n q;obtain⟨xs,l,t⟩:=r;obtain⟨y,B,p,hz⟩:=I.list l;obtain⟨f0,f1,f2,f3,f4,f5⟩:=j it (by simp);have Q:=B.length;exact wpAny_pyNext_list_end (I.ok.hd hc) st p.isList (by simp;lia) λh' O=>⟨rfl,I.turned (t':=s.toks) (λb o f e=>O b o f e) f0 f1 f3 f4 f5⟩
 self:=λ_ _ _ _ _ st h=>wpAny_pyIter_listiter st h
theorem By{P:df}(a it:cq):Turn P w K tg (Yr K a) [it] it (λi h=>h.IsTupleIter it a i)where
 mem:=by simp
 obj:=λi h st b f=>by
  have e:b=it:=by simpa using f
  subst e;obtain⟨o,e,c,d⟩:=st;exact⟨o,e,λv z=>by rw[d]at z;cases z⟩
 keep:=λi h h' st k=>st.at λo e=>k it (by simp) o e;item:=by intro X n q r hc i pins s σ H E I l st t;subst n q r;obtain⟨xs,x,m,y⟩:=t;obtain⟨g,B,p,hz⟩:=I.tuple m;obtain⟨u,C,G⟩:=B.get y;obtain⟨f0,f1,f2,f3,f4,f5⟩:=l it (by simp);refine wpAny_pyNext_tuple_item st (show s.heap.IsTuple a g.toArray from p) (x:=u) (by simpa using C) λh' j J=>?_;have L:Inv X pins σ H {s with heap:=h'}:=I.turned (t':=s.toks) (λb o f e=>(J.2 b f).trans e) f0 f1 f3 f4 f5;obtain⟨o,e,c,d⟩:=id j;exact⟨u,rfl,Fe (s:={s with heap:=h'}) e c d (by decide) ⟨x,H,L,G,⟨rfl,λys N=>by rw[I.jU N m];exact y⟩,j,λb f=>(l b f).1⟩⟩
 done:=by intro X n q r hc i pins s σ H E I l st t;subst n q r;obtain⟨xs,m,y⟩:=t;obtain⟨g,B,p,hz⟩:=I.tuple m;obtain⟨f0,f1,f2,f3,f4,f5⟩:=l it (by simp);have Q:=B.length;exact wpAny_pyNext_tuple_end (I.ok.hd hc) st (show s.heap.IsTuple a g.toArray from p) (by simp;lia) λh' O=>⟨rfl,I.turned (t':=s.toks) (λb o f e=>O b o f e) f0 f1 f3 f4 f5⟩
 self:=λ_ _ _ _ _ st h=>wpAny_pyIter_tupleiter st h
theorem zQ{P:df}(it:cq)(lo:Int)(n:Nat):Turn P w K tg (Yk lo n) [it] it (λi h=>IsRangeIter h it (lo+(i:Nat)*1) ((n:Int)-(i:Nat)) 1)where
 mem:=by simp
 obj:=λi h st b a=>by
  have e:b=it:=by simpa using a
  subst e;exact⟨_,st,λv z=>by have q:Data.fields _=Data.cell v:=z;cases q⟩
 keep:=λi h h' st k=>k it (by simp) _ st;item:=by intro X g j l hc i pins s σ H E I f st m;subst g j l;obtain⟨f0,f1,f2,f3,f4,f5⟩:=f it (by simp);have W:=Walks.range (prog:=X.prog) (w:=X.w) (I.ok.hd hc) it lo 1 n;refine W.item i s _ _ m st λv h' p r c u=>?_;obtain⟨t,rfl⟩:=r;have x:Inv X pins σ H {s with heap:=h',toks:=p}:=I.turned (λb o a e=>u b o (by simpa using a) e) f0 f1 f3 f4 f5;refine⟨_,rfl,Fe (s:={s with heap:=h',toks:=p}) (n:="range_iterator") c rfl rfl (by decide) ⟨.int (lo+i),H,x,⟨t,?_⟩,⟨rfl,rfl⟩,c,λb a=>(f b a).1⟩⟩;rw[mul_one]
 done:=by intro X g j l hc i pins s σ H E I f st m;subst g j l;obtain⟨f0,f1,f2,f3,f4,f5⟩:=f it (by simp);exact wpAny_pyNext_range_end (I.ok.hd hc) st (by have:n<=i:=m;lia) λh' y=>⟨rfl,I.turned (t':=s.toks) (λb o a e=>y b o a e) f0 f1 f3 f4 f5⟩
 self:=λ_ _ _ _ _ st h=>wpAny_pyIter_rangeiter st h
section
variable{X:Cx}{tg:dy}
theorem yR{σ:St}{R:It->Hp->Prop}{E:bx->cn->Prop}{lo hi:Int}{t u v:Tok}{a:Nat}(I:Inv X pins σ H s)(h1:-(2^62)<=lo)(f:lo<2^62)(g:-(2^62)<=hi)(j:hi<2^62)(q:R (Yk lo (hi-lo).toNat) H):cE (cS X.prog X.w) X.A (rc (.ref s.heap.objs.size)) (PIE X pins σ tg R) E {s with heap:=s.heap.push {cls:=.type "range",data:=.fields #[.int lo t,.int hi u,.int 1 v]},toks:=a}:=by
 refine wpAny_pyIter_range (IsRange.new ..) (small_one h1 f g j) ?_;have c:Inv X pins σ H {s with heap:=s.heap.push {cls:=.type "range",data:=.fields #[.int lo t,.int hi u,.int 1 v]},toks:=a}:=I.kept λb o e=>dF e;refine⟨(s.heap.push {cls:=.type "range",data:=.fields #[.int lo t,.int hi u,.int 1 v]}).objs.size,[(s.heap.push {cls:=.type "range",data:=.fields #[.int lo t,.int hi u,.int 1 v]}).objs.size],_,_,H,rfl,c.kept (t':=a) λb o e=>dF e,zQ _ lo (hi-lo).toNat,?_,λb k=>?_,q⟩
 . have l:lo+((0:Nat):Int)*1=lo:=by simp
   have m:(((hi-lo).toNat:Nat):Int)-((0:Nat):Int)=Builtin.Range.rangeSize lo hi 1:=by rw[rangeSize_one];split<;>lia
   show IsRangeIter _ _ (lo+((0:Nat):Int)*1) ((((hi-lo).toNat:Nat):Int)-((0:Nat):Int)) 1;rw[l,m];exact cw _ rfl
 . have e:b=(s.heap.push {cls:=.type "range",data:=.fields #[.int lo t,.int hi u,.int 1 v]}).objs.size:=by simpa using k
   subst e;exact c.zH (cN) (c.hok.fresh (cN))
noncomputable def abd(a:TA):TI:=λσ H R=>a σ H λvs b=>∃j:Int,vs=[.int j]/\-(2^62)<=j/\j<2^62/\R (Yk 0 j.toNat) b
noncomputable def abf(a:TA):TI:=λσ H R=>a σ H λvs b=>∃i j:Int,vs=[.int i,.int j]/\(-(2^62)<=i/\i<2^62/\-(2^62)<=j/\j<2^62)/\R (Yk i (j-i).toNat) b
theorem uB{a:dy}{c:TA}{p pos:Pos}(f:Gl X "range")(g:X.mg "range"=ci)(k:PA X [a] c)(hs:cx [a] X.env=[(a_,eA a X.env)]:=by rfl):PI X tg (.Call (.Name "range" p) [a] [] pos) (abd c):=by intro pins s σ H R I h;refine qr (gM I f g boot_range (eg (cA (k pos pins s σ H _ I h) λus s1⟨vs,H1,I1,r1,b⟩=>?_) hs rfl));obtain⟨j,e,b,l,q⟩:=b;subst e;cases r1 with|cons r m=>cases m;obtain⟨t,rfl⟩:=r;exact call_range_1 (yR I1 (by lia) (by lia) b l (by simpa using q))
theorem Hf{a b:dy}{k:TA}{p pos:Pos}(l:Gl X "range")(m:X.mg "range"=ci)(n:PA X [a,b] k)(hs:cx [a,b] X.env=[(a_,eA a X.env),(a_,eA b X.env)]:=by rfl)(c:cx [b] X.env=[(a_,eA b X.env)]:=by rfl):PI X tg (.Call (.Name "range" p) [a,b] [] pos) (abf k):=by intro pins s σ H R I h;refine qr (gM I l m boot_range (eg (cA (n pos pins s σ H _ I h) λus s1⟨vs,H1,I1,r1,f⟩=>?_) (by rw[hs,c]) (by rw[c];rfl)));obtain⟨i,j,e,⟨f,o,u,v⟩,q⟩:=f;subst e;cases r1 with|cons r g=>cases g with|cons x g=>cases g;obtain⟨t,rfl⟩:=r;obtain⟨t',rfl⟩:=x;exact call_range_2 (yR I1 f o u v q)
noncomputable def afw(f:TI)(g:TG)(j:TS):TS:=λD σ H=>f σ H λJ k=>∃W:Nat->Nat->St->Hp->Prop,(∃m,W 0 m σ k)/\∀i m σ H,W i m σ H->(J.stop i H/\D.nx σ H)\/(J.go i H/\∃N:St->Hp->Prop,(∀a b,N a b->∃e,e<m/\W (i+1) e a b)/\∀x b,J.M6 i H x b->g x σ b λc l=>j {D with nx:=N,ct:=N,bk:=D.nx} c l)
noncomputable def sJ(a:List cq)(h:eF):List (cq×Obj):=a.filterMap λb=>(h.get? b).map λo=>(b,o)
theorem jb{a:List cq}{b:cq}{o:Obj}(c:b∈a)(e:h.get? b=aU o):(b,o)∈sJ a h:=List.mem_filterMap.mpr ⟨b,c,by rw[e];rfl⟩
theorem Gs{a:List cq}{p:cq×Obj}(c:p∈sJ a h):p.1∈a/\h.get? p.1=aU p.2:=by obtain⟨b,f,e⟩:=List.mem_filterMap.mp c;cases q:h.get? b with|none=>rw[q]at e;cases e|some o=>rw[q]at e;have g:(b,o)=p:=eJ e;subst g;exact⟨f,q⟩
theorem Inv.pinned{σ:St}{a:List cq}(I:Inv X pins σ H s)(g:∀b∈a,m9 X pins H b)(ho:∀b∈a,∃o,s.heap.get? b=aU o/\∀v,o.data≠.cell v):Inv X (pins++sJ a s.heap) σ H s:=I.Fy λp j=>(eS.mp j).elim (λz=>I.pin p (fq _ z)) λz=>by obtain⟨c,e⟩:=Gs z;obtain⟨f0,f1,f2,_⟩:=g p.1 c;obtain⟨o,f,d⟩:=ho p.1 c;rw[e]at f;cases f;exact⟨e,f0,f1,f2,d⟩
theorem Inv.lZ{a:List (cq×Obj)}{σ:St}(I:Inv X (pins++a) σ H s):Inv X pins σ H s:=I.Fy λp b=>I.pin p (fq _ (pz _ b))
theorem Iv{iter:dy}{body:List eL}{Y:TI}{g:TG}{Z:TS}{pos:Pos}(z:l8 (cS X.prog X.w) X.A X.env X.xe)(hc:X.calm=b_)(hi:PI X tg iter Y)(hg:PG X tg g)(c:xJ X body Z)(hs:∀x,fe iter X.env x=fg x:=by intro _;rfl):PS X (.For tg iter body [] pos) (afw Y g Z):=by
 intro pins s σ H D I h;refine wpAny_For (cA (hi pins s σ H _ I h) λv s1 h1=>cA h1 λac s2 h2=>?_) hs;obtain⟨it,B,tn,J,H2,e,I2,T,O,f2,W,⟨m0,w0⟩,turn⟩:=h2;subst e--what stays b_ of the iterator's objects through the loop
 have j:∀{t:Hp},(∀b∈B,t b=ci)->∀b∈B,m9 X pins t b:=λhn b c=>⟨hn b c,(f2 b c).2⟩;refine codeAny_forLoop_any (λn s'=>∃i k t,Inv X pins k t s'/\tn i s'.heap/\(∀b∈B,t b=ci)/\W i n k t) ?_ m0 ⟨0,σ,H2,I2,O,λb c=>(f2 b c).1,w0⟩;rintro n s3⟨i,l,L,I3,C,E,w3⟩;rcases turn i n l L w3 with⟨stop,qn⟩|⟨go,N,hN,step⟩;.refine ib z (cA (T.done X rfl rfl rfl hc i pins s3 l L X.xe I3 (j E) C stop) λr s4⟨hr,I4⟩=>?_);subst hr;exact n3 ⟨l,L,I4,qn⟩
 . refine ib z (cA (T.item X rfl rfl rfl hc i pins s3 l L X.xe I3 (j E) C go) λr s4⟨u,hr,h4⟩=>?_);subst hr;refine ib z (cA h4 λ_ s5⟨x,H5,I5,r5,y5,st5,fr5⟩=>?_);have Q:=I5.pinned (j fr5) (T.obj _ _ st5);refine ib z (cA (hg _ s5 l H5 x u _ Q r5 (step x H5 y5)) λ_ s6⟨U,H6,I6,q6⟩=>?_);refine ib z (cA (c _ s6 U H6 _ I6 q6) λf s7 y=>?_);have again:∀{a:St}{p:Hp},Inv X (pins++sJ B s5.heap) a p s7->N a p->∃m,m<n/\∃i k t,Inv X pins k t s7/\tn i s7.heap/\(∀b∈B,t b=ci)/\W i m k t:=λ{a p}q G=>by obtain⟨m',hm,w7⟩:=hN a p G;refine⟨m',hm,i+1,a,p,q.lZ,T.keep _ _ _ st5 λb c o e=>(q.pin (b,o) (fq _ (fq _ (jb c e)))).1,λb c=>?_,w7⟩;obtain⟨o,e,d⟩:=T.obj _ _ st5 b c;exact(q.pin (b,o) (fq _ (fq _ (jb c e)))).2.1
   cases f with|next=>obtain⟨a,p,q,G⟩:=y;exact again q G|cont=>obtain⟨a,p,q,G⟩:=y;exact again q G|brk=>obtain⟨a,p,q,y⟩:=y;exact⟨a,p,q.lZ,y⟩|ret v=>obtain⟨x7,a,p,q,r7,y⟩:=y;exact⟨x7,a,p,q.lZ,r7,y⟩
end
noncomputable abbrev R2:=V->V->Hp->VK->Prop
noncomputable def fY(X:Cx)(f:bx->bx->Sem bx)(r:R2):Prop:=∀(pins:List (cq × Obj))(s:cn)(σ:St)(H:Hp)(x y:V)(v u:bx)(Q:VK),Inv X pins σ H s->RelV x v->RelV y u->r x y H Q->cE (cS X.prog X.w) X.A (f v u) (EP X pins σ Q) X.xe s
noncomputable def UnR(X:Cx)(f:bx->Sem bx)(r:V->Hp->VK->Prop):Prop:=∀(pins:List (cq × Obj))(s:cn)(σ:St)(H:Hp)(x:V)(v:bx)(Q:VK),Inv X pins σ H s->RelV x v->r x H Q->cE (cS X.prog X.w) X.A (f v) (EP X pins σ Q) X.xe s
noncomputable def fj(X:Cx)(f:bx)(r:List V->Hp->VK->Prop):Prop:=∀(pins:List (cq × Obj))(s:cn)(σ:St)(H:Hp)(xs:List V)(us:List bx)(Q:VK),Inv X pins σ H s->Vals xs us->r xs H Q->cE (cS X.prog X.w) X.A (call f us) (EP X pins σ Q) X.xe s
noncomputable def Wg(r:R2)(a b:TE):TE:=λσ H Q=>a σ H λx c=>b σ c λy e=>r x y e Q
noncomputable def tUn(r:V->Hp->VK->Prop)(a:TE):TE:=λσ H Q=>a σ H λx b=>r x b Q
noncomputable def rI(C:Int->Int->Prop)(g:Int->Int->V):R2:=λx y H Q=>∃i j,x=.int i/\y=.int j/\C i j/\Q (g i j) H
noncomputable def Nz(g:Int->Int->V):R2:=λx y H Q=>∃i j,x=.int i/\y=.int j/\Q (g i j) H
noncomputable def rU(g:Int->V):V->Hp->VK->Prop:=λx H Q=>∃i,x=.int i/\Q (g i) H
section
variable{X:Cx}{a b c:dy}{ta tb tc:TE}{pos:Pos}
theorem Xm(l:PE X a ta)(m:PE X b tb){σ:St}{R:V->V->Hp->Prop}(I:Inv X pins σ H s)(h:ta σ H λx k=>tb σ k λy e=>R x y e){Q:bx->cn->Prop}{f:bx->bx->Sem bx}(n:∀v u s2 x y e,Inv X pins σ e s2->RelV x v->RelV y u->R x y e->cE (cS X.prog X.w) X.A (f v u) Q X.xe s2):cE (cS X.prog X.w) X.A (eA a X.env) (λv g=>cE (cS X.prog X.w) X.A (eA b X.env) (λu j=>cE (cS X.prog X.w) X.A (f v u) Q X.xe j) X.xe g) X.xe s:=by refine cA (l pins s σ H _ I h) λv s1⟨x,k,I1,r1,q1⟩=>?_;refine cA (m pins s1 σ k _ I1 q1) λu s2⟨y,e,I2,r2,q2⟩=>?_;exact n v u s2 x y e I2 r1 r2 q2
theorem abp{op:lP}{r:R2}(ho:fY X (fF op) r)(e:PE X a ta)(f:PE X b tb):PE X (.BinOp a op b pos) (Wg r ta tb):=by intro pins s σ H Q I h;exact wpAny_BinOp (Xm e f I h λv u s2 x y g j k l q=>ho pins s2 σ g x y v u Q j k l q)
theorem ZW{op:UnaryOp}{r:V->Hp->VK->Prop}(ho:UnR X (unaryOp op) r)(e:PE X a ta):PE X (.UnaryOp op a pos) (tUn r ta):=by intro pins s σ H Q I h;exact UnaryOp_ (cA (e pins s σ H _ I h) λv s1⟨x,H1,I1,r1,q1⟩=>ho pins s1 σ H1 x v Q I1 r1 q1)
theorem opI{f:bx->bx->Sem bx}{C:Int->Int->Prop}{g:Int->Int->Int}(rule:∀(i j:Int)(t u:Tok)(s:cn)(Q:bx->cn->Prop)(E:bx->cn->Prop),C i j->Q (.int (g i j) s.toks) {s with toks:=s.toks+1}->cE (cS X.prog X.w) X.A (f (.int i t) (.int j u)) Q E s):fY X f (rI C λi j=>.int (g i j)):=by intro pins s σ H x y v u Q I e k h;obtain⟨i,j,rfl,rfl,hc,q⟩:=h;obtain⟨t,rfl⟩:=e;obtain⟨t',rfl⟩:=k;exact rule i j t t' s _ _ hc ⟨.int (g i j),H,I.tok _,⟨_,rfl⟩,q⟩
theorem abt{f:bx->bx->Sem bx}{g:Int->Int->Int}(rule:∀(i j:Int)(t u:Tok)(s:cn)(Q:bx->cn->Prop)(E:bx->cn->Prop),Q (.int (g i j) s.toks) {s with toks:=s.toks+1}->cE (cS X.prog X.w) X.A (f (.int i t) (.int j u)) Q E s):fY X f (Nz λi j=>.int (g i j)):=by intro pins s σ H x y v u Q I e k h;obtain⟨i,j,rfl,rfl,q⟩:=h;obtain⟨t,rfl⟩:=e;obtain⟨t',rfl⟩:=k;exact rule i j t t' s _ _ ⟨.int (g i j),H,I.tok _,⟨_,rfl⟩,q⟩
theorem Pq{f:bx->bx->Sem bx}{g:Int->Int->Bool}(rule:∀(i j:Int)(t u:Tok)(s:cn)(Q:bx->cn->Prop)(E:bx->cn->Prop),Q (.bool (g i j)) s->cE (cS X.prog X.w) X.A (f (.int i t) (.int j u)) Q E s):fY X f (Nz λi j=>.bl (g i j)):=by intro pins s σ H x y v u Q I e k h;obtain⟨i,j,rfl,rfl,q⟩:=h;obtain⟨t,rfl⟩:=e;obtain⟨t',rfl⟩:=k;exact rule i j t t' s _ _ ⟨.bl (g i j),H,I,rfl,q⟩
noncomputable def agO(i j:Int):Prop:=0<=j/\j<=1000000/\i.natAbs<2^64
noncomputable def VG(i j:Int):Prop:=(-(2^64)<i/\i<2^64)\/(-(2^64)<j/\j<2^64)
theorem VG.ok{i j:Int}(h:VG i j):IntMulOk i j:=by
 rcases h with⟨h1,e⟩|⟨h1,e⟩;.exact .of_left (intBits_le_64 h1 e)
 .exact .of_right (intBits_le_64 h1 e)
theorem W2:fY X (fF .Add) (Nz λi j=>.int (i+j)):=abt λ_ _ _ _ _ _ _ q=>add_int q
theorem Vi:fY X (fF .Sub) (Nz λi j=>.int (i-j)):=abt λ_ _ _ _ _ _ _ q=>sub_int q
theorem VN:fY X (fF .Mult) (rI VG λi j=>.int (i*j)):=opI λ_ _ _ _ _ _ _ hc q=>mul_int q hc.ok
theorem WT:fY X (fF .Mod) (rI (λ_ j=>0<j) λi j=>.int (i%j)):=opI λi j _ _ _ _ _ hc q=>by have h1:(0:Int)<j:=hc;exact mod_int' (by lia) (by rw[Int.fmod_eq_emod_of_nonneg i (by lia)];exact q)
theorem Vn:fY X (fF .Pow) (rI agO λi j=>.int (i^j.toNat)):=opI λ_ _ _ _ _ _ _ hc q=>pow_int_small hc.1 hc.2.1 hc.2.2 q
theorem unI{f:bx->Sem bx}{g:Int->Int}(rule:∀(i:Int)(t:Tok)(s:cn)(Q:bx->cn->Prop)(E:bx->cn->Prop),Q (.int (g i) s.toks) {s with toks:=s.toks+1}->cE (cS X.prog X.w) X.A (f (.int i t)) Q E s):UnR X f (rU λi=>.int (g i)):=by intro pins s σ H x v Q I e h;obtain⟨i,rfl,q⟩:=h;obtain⟨t,rfl⟩:=e;exact rule i t s _ _ ⟨.int (g i),H,I.tok _,⟨_,rfl⟩,q⟩
theorem Vv:UnR X (unaryOp .USub) (rU λi=>.int (-i)):=unI λ_ _ _ _ _ q=>neg_int q
end
section
variable{X:Cx}{a b c:dy}{ta tb tc:TE}{pos:Pos}
theorem Jf{σ:St}{Q:VK}{k f:Bool}(I:Inv X pins σ H s)(q:Q (.bl k) H)(e:k=f):EP X pins σ Q (.bool f) s:=by subst e;exact⟨.bl k,H,I,rfl,q⟩
theorem aa0:fY X (dY .Lt) (Nz λi j=>.bl (decide (i<j))):=Pq λ_ _ _ _ _ _ _ q=>lt_int q
theorem aaS:fY X (dY .LtE) (Nz λi j=>.bl (decide (i<=j))):=Pq λ_ _ _ _ _ _ _ q=>le_int q
theorem aaH:fY X (dY .Gt) (Nz λi j=>.bl (decide (j<i))):=Pq λ_ _ _ _ _ _ _ q=>gt_int q
theorem Z6:fY X (dY .GtE) (Nz λi j=>.bl (decide (j<=i))):=Pq λ_ _ _ _ _ _ _ q=>ge_int q
theorem VD:fY X (dY .Is) (λx y H Q=>y=.non/\Q (.bl (decide (x=.non))) H):=by intro pins s σ H x y v u Q I e f h;obtain⟨rfl,q⟩:=h;cases f;refine is_none_gen (Jf I q ?_);cases x<;>first|(cases e;rfl)|(obtain⟨t,rfl⟩:=e;rfl)
theorem O1:fY X (dY .IsNot) (λx y H Q=>y=.non/\Q (.bl (!decide (x=.non))) H):=by intro pins s σ H x y v u Q I e f h;obtain⟨rfl,q⟩:=h;cases f;refine isnot_none_gen (Jf I q ?_);cases x<;>first|(cases e;rfl)|(obtain⟨t,rfl⟩:=e;rfl)
theorem afK{op:nV}{es:List dy}{k:Nat}{p:Pos}(e:(op==CmpOp.In)=a_)(f:(op==o_)=a_):ga op (.Set es k p)=a_:=by show(k==0&&(op==CmpOp.In||op==o_)&&_)=a_;rw[e,f];cases(k==0)<;>rfl
theorem bj(b:dy)(h:op≠.In:=by decide)(e:op≠.NotIn:=by decide):ga op b=a_:=by
 have f:(op==CmpOp.In)=a_:=by cases op<;>first|rfl|exact absurd rfl h
 have g:(op==o_)=a_:=by cases op<;>first|rfl|exact absurd rfl e
 cases b<;>first|rfl|exact afK f g
theorem PK{r:R2}(ho:fY X (dY op) r)(e:PE X a ta)(f:PE X b tb)(g:ga op b=a_):PE X (.Compare a [op] [b] pos) (Wg r ta tb):=by intro pins s σ H Q I h;exact wpAny_Compare1 (Xm e f I h λv u s2 x y j k l m q=>ho pins s2 σ j x y v u Q k l m q) g
noncomputable def RP(t:TE):TT:=λσ H Q=>t σ H λx e=>∃k,x=.bl k/\Q k e
theorem DN{r:R2}(ho:fY X (dY op) r)(f:PE X a ta)(g:PE X b tb)(j:ga op b=a_):PT X (.Compare a [op] [b] pos) (RP (Wg r ta tb)):=by intro pins s σ H Q I h;refine rl (cA (f pins s σ H _ I h) λv s1⟨x,H1,I1,r1,q1⟩=>cA (g pins s1 σ H1 _ I1 q1) λu s2⟨y,H2,I2,r2,q2⟩=>cA (ho pins s2 σ H2 x y v u _ I2 r1 r2 q2) λc s3⟨z,H3,I3,r3,k,e,q3⟩=>?_) j;subst e;cases r3;exact gS ⟨H3,I3,q3⟩
noncomputable def Kq(r f:R2)(ta tb tc:TE):TE:=λσ H Q=>ta σ H λx g=>tb σ g λy j=>r x y j λz e=>∃k,z=.bl k/\(if k=b_ then tc σ e λl m=>f y l m Q else Q (.bl a_) e)
theorem Lb{f:nV}{r j:R2}(ho:fY X (dY op) r)(g:fY X (dY f) j)(l:PE X a ta)(m:PE X b tb)(hc:PE X c tc)(n:lastMarks [op,f] [b,c]=a_:=by with_unfolding_all rfl):PT X (.Compare a [op,f] [b,c] pos) (RP (Kq r j ta tb tc)):=by intro pins s σ H Q I h;refine isTrue_chain (cA (l pins s σ H _ I h) λv s1⟨x,H1,I1,r1,q1⟩=>test_link (cA (m pins s1 σ H1 _ I1 q1) λu s2⟨y,H2,I2,r2,q2⟩=>cA (ho pins s2 σ H2 x y v u _ I2 r1 r2 q2) λd s3⟨z,H3,I3,r3,k,e,q3⟩=>?_)) n;subst e;cases r3;refine gS ?_;cases k with|false=>obtain⟨B,o,p⟩:=q3;cases o;exact ite_ff ⟨H3,I3,p⟩|true=>refine ite_tt (test_last (cA (hc pins s3 σ H3 _ I3 q3) λq s4⟨t,H4,I4,r4,q4⟩=>cA (g pins s4 σ H4 y t u q _ I4 r2 r4 q4) λd' s5⟨C,H5,I5,r5,k2,e2,q5⟩=>?_));subst e2;cases r5;exact gS ⟨H5,I5,q5⟩
theorem sU:(sizeLine:Nat)<2^63:=by rw[fb];decide
theorem zT:fY X (fF .Add) (λx y H Q=>∃i j,x=.str i/\y=.str j/\i.length+j.length<=sizeLine/\Q (.str (i++j)) H):=by intro pins s σ H x y v u Q I e f h;obtain⟨i,j,rfl,rfl,hz,q⟩:=h;obtain⟨t,rfl⟩:=e;obtain⟨t',rfl⟩:=f;exact add_str (λt' g=>⟨.str (i++j),H,I.tok _,⟨_,rfl⟩,q⟩) hz
theorem vals1{x:V}(r:Vals [x] us):∃u,us=[u]/\RelV x u:=by cases r with|cons r1 e=>cases e;exact⟨_,rfl,r1⟩
theorem vals2{x y:V}(r:Vals [x,y] us):∃u e,us=[u,e]/\RelV x u/\RelV y e:=by cases r with|cons r1 f=>cases f with|cons g j=>cases j;exact⟨_,_,rfl,r1,g⟩
theorem Hc(hc:X.calm=b_):fj X (.builtin "max") (λxs H Q=>∃i j,xs=[.int i,.int j]/\Q (.int (if j>i then j else i)) H):=by
 intro pins s σ H xs us Q I r h;obtain⟨i,j,rfl,q⟩:=h;obtain⟨u,f,rfl,⟨t,rfl⟩,⟨t',rfl⟩⟩:=vals2 r;refine max_two_ints (I.ok.hd hc) λh' g k=>⟨_,H,I.kept k,?_,q⟩;by_cases e:j>i;.rw[if_pos e,if_pos e];exact⟨_,rfl⟩
 .rw[if_neg e,if_neg e];exact⟨_,rfl⟩
theorem G4(hc:X.calm=b_):fj X (.builtin "min") (λxs H Q=>∃i j,xs=[.int i,.int j]/\Q (.int (if j<i then j else i)) H):=by
 intro pins s σ H xs us Q I r h;obtain⟨i,j,rfl,q⟩:=h;obtain⟨u,f,rfl,⟨t,rfl⟩,⟨t',rfl⟩⟩:=vals2 r;refine min_two_ints (I.ok.hd hc) λh' g k=>⟨_,H,I.kept k,?_,q⟩;by_cases e:j<i;.rw[if_pos e,if_pos e];exact⟨_,rfl⟩
 .rw[if_neg e,if_neg e];exact⟨_,rfl⟩
end
theorem pA.some_of{v:V}{o:Option bx}(r:pA (aU v) o):∃u,o=aU u/\RelV v u:=by cases o with|none=>exact(show False from r).elim|some u=>exact⟨u,rfl,r⟩
structure jB(k:Nat)(A:ew):Prop where
 hd:A.handled=ci
 dp:A.depth+3*k+5<recursionLimit
 un:A.units+16*k+200<f_
theorem jB.deeper{k:Nat}{A:ew}(r:jB (k+1) A)(env:Env):jB k (A.deeper env):=⟨r.hd,by have:=r.dp;show A.depth+1+3*k+5<_;lia,by have:=r.un;show A.units+3+16*k+200<_;lia⟩
theorem jB.depth{k:Nat}{A:ew}(r:jB k A):A.depth<recursionLimit:=by have:=r.dp;lia
noncomputable def agd:TA:=λ_ H Q=>Q [] H
noncomputable def abg(a:TE)(b:TA):TA:=λσ H Q=>a σ H λx c=>b σ c λxs e=>Q (x::xs) e
section
variable{X:Cx}{e:dy}{es:List dy}{te:TE}{t:TA}{pos:Pos}
theorem dZ:PA X [] agd:=λ_ _ _ _ H Q I h=>kn ⟨[],H,I,.nil,h⟩
theorem bZ(a:PE X e te)(hr:PA X es t)(hs:cx (e::es) X.env=(a_,eA e X.env)::cx es X.env:=by rfl):PA X (e::es) (abg te t):=by intro pos pins s σ H Q I h;rw[hs];show cE _ _ (spliced ((a_,eA e X.env)::i7 pos (cx es X.env))) _ _ s;refine iB (cA (a pins s σ H _ I h) λu s1⟨x,H1,I1,r1,q1⟩=>?_);exact cA (hr pos pins s1 σ H1 _ I1 q1) λus s2⟨xs,H2,I2,r2,q2⟩=>⟨x::xs,H2,I2,.cons r1 r2,q2⟩
noncomputable def aeB(t:TA):TE:=λσ H Q=>t σ H λxs a=>xs.length<=sizeLine/\∀p,a p=ci->Q (.ref p) (upd a p (.tup xs))
noncomputable def afZ(t:TA):TE:=λσ H Q=>t σ H λxs a=>xs.length<=sizeLine/\∀p,a p=ci->Q (.ref p) (upd a p (.lst xs))
theorem Um{x1}(h:PA X es t):PE X (.Tuple es x1 pos) (aeB t):=by intro pins s σ H Q I a;refine wpAny_Tuple_spliced (cA (h pos pins s σ H _ I a) λus s1⟨xs,H1,I1,r,z,q⟩=>⟨by rw[<-r.length];exact z,?_⟩);have c:H1 s1.heap.objs.size=ci:=I1.hok.fresh (cN);refine⟨.ref s1.heap.objs.size,upd H1 s1.heap.objs.size (.tup xs),I1.laid (t':=s1.toks) (λb u e=>dF e) (cN) ?_,rfl,q _ c⟩;exact⟨z,us,r,⟨_,cw _ rfl,rfl,_,rfl⟩⟩
theorem T9(h:PA X es t):PE X (.List es pos) (afZ t):=by intro pins s σ H Q I a;refine wpAny_List_spliced (cA (h pos pins s σ H _ I a) λus s1⟨xs,H1,I1,r,z,q⟩=>⟨by rw[<-r.length];exact z,?_⟩);have c:H1 s1.heap.objs.size=ci:=I1.hok.fresh (cN);refine⟨.ref s1.heap.objs.size,upd H1 s1.heap.objs.size (.lst xs),I1.laid (t':=s1.toks) (λb u e=>dF e) (cN) ?_,rfl,q _ c⟩;exact⟨z,us,0,r,cw _ rfl⟩
end
noncomputable abbrev Sp:=List V->Hp->VK->XK->Prop
noncomputable abbrev MP:=List Env->Hp->cn->XK->bx->cn->Prop
structure Oo(P:df)(w:er)(K:PySem.W.Frag)(mg:Str->Option bx)(base:eF)(A:ew)(outer:List Env)(s:cn)(H:Hp):Prop where
 frames:A.frames=aU outer
 mod:Mod K mg base
 bs:∀b o,base.get? b=aU o->s.heap.get? b=aU o/\H b=ci
 Tq:base.objs.size<=s.heap.objs.size
 rO:s.heap.FunFrames base outer
 ZD:∀b∈frs outer,H b=ci
 hok:m7 P w H s.heap
 bare:l_ s.gens
noncomputable def CE(outer:List Env)(P:df)(w:er)(H:Hp)(s:cn)(Q:VK)(u:bx)(a:cn):Prop:=∃v b,a.os=s.os/\l_ a.gens/\Un (frs outer) [] H b s.heap a.heap/\m7 P w b a.heap/\RelV v u/\Q v b
noncomputable def CR(CX:MP)(outer:List Env)(P:df)(w:er)(H:Hp)(s:cn)(Q:VK)(E:XK)(r:Result)(a:cn):Prop:=match r with|.ok (.ret u)=>CE outer P w H s Q u a|.ok _=>False|.error e=>CX outer H s E e a
structure oF(P:df)(w:er)(K:PySem.W.Frag)(mg:Str->Option bx)(base:eF)(CX:MP)(k:Nat)(f:cq)(fd:ii)(ps:List Str)(sp:Sp):Prop where
 len:∀vs H Q E,sp vs H Q E->vs.length=ps.length
 run:∀(A:ew)(outer:List Env)(s:cn)(H:Hp)(args:Args)(us:List bx)(vs:List V)(Q:VK)(E:XK),jB k A->Oo P w K mg base A outer s H->oe s fd args (ps.zip us)->Vals vs us->sp vs H Q E->k_ (cS P w) A (.call (.ref f) args) (CR CX outer P w H s Q E) s
section
variable{X:Cx}{pins:List (cq×Obj)}{σ:St}{H:Hp}{s s':cn}
theorem Inv.env0(I:Inv X pins σ H s):Oo X.prog X.w X.K X.mg X.base X.A X.stack s H:=⟨I.ok.frames,I.ok.mod,I.bs,ic I.ok.Tq I.sz,I.stack,I.El,I.hok,I.bare⟩
theorem Inv.after{Q:VK}{u:bx}(I:Inv X pins σ H s)(h:CE X.stack X.prog X.w H s Q u s'):EP X pins σ Q u s':=by obtain⟨v,c,os,bare,un,hok,r,q⟩:=h;obtain⟨hh,g,d,t,a⟩:=s';obtain rfl:a=s.os:=os;exact⟨v,c,I.call (h':=hh) (g':=g) (d':=d) (t':=t) (ch:=[]) un hok bare (λb z=>absurd z (by simp)),r,q⟩
end
noncomputable def aaV(sp:Sp)(a:List V)(E:XK)(t:TA):TE:=λσ H Q=>t σ H λvs b=>sp (vs++a) b Q E
noncomputable def Binds(K:PySem.W.Frag)(fd:ii)(ps:List Str)(a:List bx):Prop:=∀(s:cn)(us:List bx),K.In s.heap->(us++a).length=ps.length->oe s fd ⟨us,[]⟩ (ps.zip (us++a))
theorem Binds.all{fd:ii}{ps:List Str}(h:∀us:List bx,us.length=ps.length->sf fd ⟨us,[]⟩=fg (ps.zip us)):Binds K fd ps []:=λs us _ a=>by rw[e_]at a ⊢;exact .of_eq (h us a)
noncomputable def Passes(CX:MP)(X:Cx)(E:XK):Prop:=∀(pins:List (cq×Obj))(σ:St)(H:Hp)(s:cn)(e:bx)(a:cn),Inv X pins σ H s->CX X.stack H s E e a->X.xe e a
section
variable{X:Cx}{CX:MP}{k:Nat}{f C:cq}{fd:ii}{ps:List Str}{sp:Sp}{Tt:List V}{ds:List bx}{E:XK}{x m:Str}{p pos apos:Pos}{e o:dy}{es:List dy}{ta:TE}{t:TA}
theorem Vo{σ:St}{Q:VK}{vs:List V}(F:oF X.prog X.w X.K X.mg X.base CX k f fd ps sp)(hr:jB k X.A)(c:Binds X.K fd ps ds)(hd:Vals Tt ds)(g:Passes CX X E)(I:Inv X pins σ H s)(r:Vals vs us)(h:sp (vs++Tt) H Q E):cE (cS X.prog X.w) X.A (call (.ref f) us) (EP X pins σ Q) X.xe s:=by
 have b:Vals (vs++Tt) (us++ds):=r.append hd;have j:(us++ds).length=ps.length:=by rw[<-b.length];exact F.len _ _ _ _ h
 refine wpAny_call (rh (F.run X.A X.stack s H ⟨us,[]⟩ (us++ds) (vs++Tt) Q E hr I.env0 (c s us I.T4 j) b h) λr l a=>?_);cases r with|error e=>exact g pins σ H s e l I a|ok fl=>cases fl with|ret u=>exact I.after a|next=>exact fh a|brk=>exact fh a|cont=>exact fh a
theorem Oq(F:oF X.prog X.w X.K X.mg X.base CX k f fd ps sp)(hr:jB k X.A)(b:Gl X x)(c:X.mg x=aU (.ref f))(g:keepIn X.K (.ref f)=b_)(j:Binds X.K fd ps ds)(hd:Vals Tt ds)(l:Passes CX X E)(n:PA X (e::es) t)(a:(x==("__debug__":Str))=a_:=by decide)(he:cx (e::es) X.env=(a_,eA e X.env)::cx es X.env:=by rfl)(hpl:(i7 pos (cx es X.env)).any (·.1)=a_:=by rfl):PE X (.Call (.Name x p) (e::es) [] pos) (aaV sp Tt E t):=by intro pins s σ H Q I h;refine mr (Ox I b c ?_ a);refine PySem.W.callWith_K (h₀:=X.base) I.ok.mod.pI g (cA (n pos pins s σ H _ I h) λus s1⟨vs,H1,I1,r,q⟩=>⟨I1.T4,?_⟩) he hpl;exact Vo F hr j hd l I1 r q
end
structure aJ(N P:List Str)(sc:kf):Prop where
 kind:sc.kind=.function:=by rfl
 co:sc.isCoroutine=a_:=by rfl
 gen:sc.isGenerator=a_:=by rfl
 nd:N.Nodup:=by decide+kernel
 pre:N.take P.length=P:=by rfl
 par:∀x∈P,sc.names.lookup x=aU .local\/sc.names.lookup x=aU .cell:=by decide+kernel
 XD:∀y∈sc.names,y.2≠.free:=by decide+kernel
theorem uK{kindOf:Str->Option kF}{x:Str}:∀{binds:List (Str×bx)}{m:Str->Option bx},(∀v,(x,v)∉binds)->qh kindOf binds m x=m x
 |[],_,_=>rfl|(n,v)::r,m,h=>by
   unfold qh;rw[uK λw a=>h w (dr _ a)];split
   . have:x≠n:=by rintro rfl;exact h v io
     simp[this]
   .rfl
theorem ur{kindOf:Str->Option kF}{x:Str}:∀{binds:List (Str×bx)}{m:Str->Option bx},(∀v,(x,v)∉binds)->qk kindOf binds m x=m x
 |[],_,_=>rfl|(n,v)::r,m,h=>by
   unfold qk;rw[ur λw a=>h w (dr _ a)];split;.rfl
   . have:x≠n:=by rintro rfl;exact h v io
     simp[this]
theorem uM{kindOf:Str->Option kF}{x:Str}{v:bx}:∀{P:List Str}{vs:List bx}{i:Nat}{m:Str->Option bx},P.Nodup->P[i]?=aU x->vs[i]?=aU v->kindOf x=aU .local->qh kindOf (P.zip vs) m x=aU v|[],_,_,_,_,h,_,_=>by simp at h|_::_,[],_,_,_,_,h,_=>by simp at h|p::P,w::vs,0,m,nd,h1,a,b=>by simp at h1 a;subst h1;subst a;show qh kindOf ((p,w)::P.zip vs) m p=_;unfold qh;rw[uK λv c=>(ez.mp nd).1 (oo c).1,if_pos b];simp|p::P,w::vs,i+1,m,nd,h1,a,b=>by show qh kindOf ((p,w)::P.zip vs) m x=_;unfold qh;exact uM (i:=i) (ez.mp nd).2 (by simpa using h1) (by simpa using a) b
theorem uT{kindOf:Str->Option kF}{x:Str}{v:bx}:∀{P:List Str}{vs:List bx}{i:Nat}{m:Str->Option bx},P.Nodup->P[i]?=aU x->vs[i]?=aU v->kindOf x≠aU .local->qk kindOf (P.zip vs) m x=aU v|[],_,_,_,_,h,_,_=>by simp at h|_::_,[],_,_,_,_,h,_=>by simp at h|p::P,w::vs,0,m,nd,h1,a,b=>by simp at h1 a;subst h1;subst a;show qk kindOf ((p,w)::P.zip vs) m p=_;unfold qk;rw[ur λv c=>(ez.mp nd).1 (oo c).1,if_neg b];simp|p::P,w::vs,i+1,m,nd,h1,a,b=>by show qk kindOf ((p,w)::P.zip vs) m x=_;unfold qk;exact uT (i:=i) (ez.mp nd).2 (by simpa using h1) (by simpa using a) b
noncomputable def start(N:List Str)(vs:List V):St:=vs.map aU++cr (N.length-vs.length) ci
noncomputable def zY(CX:MP)(P:df)(w:er)(K:PySem.W.Frag)(mg:Str->Option bx)(base:eF)(N:List Str)(qual:Str)(scope:kf)(f:cq)(b:bx)(A:ew)(outer:List Env)(s:cn)(H:Hp)(E:XK):Cx where prog:=P;w:=w;K:=K;mg:=mg;base:=base;A:=A.deeper (lL qual scope s.heap.objs.size f b);N:=N;s₀:=s;H₀:=H;env:=lL qual scope s.heap.objs.size f b;outer:=outer;stack:=lL qual scope s.heap.objs.size f b::outer;ex:=[];calm:=b_;fn:=λ_=>b_;pn:=[];xe:=λe c=>cE (cS P w) (A.deeper (lL qual scope s.heap.objs.size f b)) (leaving (lL qual scope s.heap.objs.size f b) e) (λ_ a=>CX outer H s E e a) (λg a=>CX outer H s E g a) c
theorem yo{a:kf}{n:Nat}{x:Str}(h:a.names.lookup x=aU .cell):∃c,(kA n a.names []).lookup x=aU c:=by have q:=PySem.W.cellsFrom_some a.names n [] (.inl h);exact nl.mp q
theorem GD{CX:MP}{P:df}{mg:Str->Option bx}{base:eF}{N ps:List Str}{qual:Str}{scope:kf}{f:cq}{t:bx}{outer:List Env}{s1:cn}{E:XK}{vs:List V}(S:aJ N ps scope)(hd:A.handled=ci)(j:Oo P w K mg base A outer s H)(J:vs.length=ps.length)(r:Vals vs us)(x:InCallC s s.heap.objs.size (qh (lL qual scope s.heap.objs.size f t).kindOf (ps.zip us) λ_=>ci) (kA (s.heap.objs.size+1) scope.names []) (qk (lL qual scope s.heap.objs.size f t).kindOf (ps.zip us) λ_=>ci) s1):Inv (zY CX P w K mg base N qual scope f t A outer s H E) [] (start N vs) H s1:=by
 have hpl:ps.length<=N.length:=by have:=congrArg kX S.pre;rw[lw]at this;lia
 obtain⟨h1,L,rfl,B⟩:=x.done;have l:∀b:cq,b∉(zY CX P w K mg base N qual scope f t A outer s H E).ex:=λb z=>absurd (show b∈([]:List cq)from z) (by simp);refine⟨⟨j.mod,S.kind,rfl,rfl,cN,λy z c h1 g=>?_,λy hy=>?_,λy c _ h=>?_,λ_=>hd,Around.frames_deeper j.frames,.inr ⟨rfl,rfl⟩,λb z=>absurd z (l b),j.bs,j.Tq,λb _ _=>l b,λb z=>absurd z (l b),j.rO,j.ZD⟩,rfl,j.bare,Un.kept B,⟨_,x.toInCall.ns,λi y v h1 g O=>?_⟩,λy c h=>⟨_,x.cell y c h⟩,j.hok.fresh (cN),λy c h=>?_,λp m=>absurd (show p∈([]:List (cq×Obj))from m) (by simp),j.hok.kept B,?_⟩;.exact name_of_addr x.apart (PySem.mem_of_lookup h1) (PySem.mem_of_lookup g)
 . have hy:scope.names.lookup y=aU .cell\/scope.names.lookup y=aU .free:=hy;rcases hy with hy|hy;.exact yo hy
   .exact absurd rfl (S.XD _ (PySem.mem_of_lookup hy))
 .exact lx (x.above y c (PySem.mem_of_lookup h))
 . have hi:i<vs.length:=by
    unfold start at g;by_cases hi:i<vs.length;.exact hi
    .rw[gN (by simpa using hi)]at g;rw[h9]at g;split at g<;>cases g
   have G:vs[i]?=aU v:=by unfold start at g;rw[du (by simpa using hi),fk]at g;cases e:vs[i]?with|none=>rw[e]at g;cases g|some a=>rw[e]at g;cases g;rfl
   obtain⟨u,C,I⟩:=r.get G;have m:ps[i]?=aU y:=by rw[<-S.pre,List.getElem?_take_of_lt (by lia)];exact h1
   have o:ps.Nodup:=by rw[<-S.pre];exact S.nd.sublist (List.take_sublist _ _)
   refine⟨u,I,?_⟩;rcases S.par y (dl m)with k|k;.exact .inl ⟨k,uM o m C k⟩
   .obtain⟨c,e⟩:=yo (n:=s.heap.objs.size+1) k;refine .inr ⟨.inl k,c,e,?_⟩;have q:=x.cell y c e;rw[uT o m C (by show scope.names.lookup y≠_;rw[k];decide)]at q;exact q
 .exact j.hok.fresh (lx (x.above y c (PySem.mem_of_lookup h)))
 .unfold start;show _=N.length;rw[ek,dV,ja];lia
theorem aaK{CX:MP}{P:df}{w:er}{K:PySem.W.Frag}{mg:Str->Option bx}{base:eF}{k:Nat}{f:cq}{name qual:Str}{a:Arguments}{body:List eL}{scope:kf}{L kV m O cdv ct oc:bx}{U Z:Option cq}{z:Array (Option bx)}{N ps:List Str}{sp:Sp}(lk:K.lookup f=aU ⟨oc,Z,.func (PySem.W.fnOf name qual a body scope L kV m O U cdv ct),z⟩)(B:PySem.W.codeIn K cdv qual=b_)(S:aJ N ps scope)(len:∀vs H Q E,sp vs H Q E->vs.length=ps.length)(j:∀(A:ew)(outer:List Env)(s:cn)(H:Hp)(vs:List V)(Q:VK)(E:XK),jB k (A.deeper (lL qual scope s.heap.objs.size f cdv))->sp vs H Q E->∃t,xJ (zY CX P w K mg base N qual scope f cdv A outer s H E) body t/\t {nx:=λ_ g=>Q .non g,rt:=Q} (start N vs) H):oF P w K mg base CX (k+1) f (PySem.W.fnOf name qual a body scope L kV m O U cdv ct) ps sp:=by
 refine⟨len,λA outer s H args us vs Q E hr p hb r hsp=>?_⟩;have hl:=len _ _ _ _ hsp;have Y:K.In s.heap:=p.mod.pI.keeps λb o e=>(p.bs b o e).1;have lim:s.heap.NoLimit:=p.mod.nolimit.keeps λb o e=>(p.bs b o e).1;have l:∀y∈ps.zip us,scope.names.lookup y.1=aU .local\/(scope.names.lookup y.1=aU .cell/\((kA (s.heap.objs.size+1) scope.names []).lookup y.1).isSome=b_):=λ⟨n,v⟩hy=>by
  rcases S.par n (oo hy).1 with q|q;.exact .inl q
  .exact .inr ⟨q,PySem.W.cellsFrom_some _ _ _ (.inl q)⟩
 refine codeAny_call_function hr.depth (Y _ _ lk) rfl S.co S.gen rfl (PySem.W.codeRec_of Y B) (hb _ _ _ _ ?_);refine wpAny_newFunctionEnv_cells S.kind l λenv he s1 x=>?_;subst he;refine⟨lim.keeps x.toInCall.keep,codeAny_func ?_⟩;obtain⟨t,ht,hq⟩:=j A outer s H vs Q E (hr.deeper _) hsp;have I:Inv (zY CX P w K mg base N qual scope f cdv A outer s H E) [] (start N vs) H s1:=GD S hr.hd p hl r x;refine eu (ht [] s1 (start N vs) H _ I hq) (λfl C hs=>?_) λe C hs=>hs;have fin:∀{c:St}{g:Hp}{v:V}{u:bx},Inv (zY CX P w K mg base N qual scope f cdv A outer s H E) [] c g C->RelV v u->Q v g->CE outer P w H s Q u C:=λ{c g v u}J G q=>⟨v,g,J.os,J.bare,J.base,J.hok,G,q⟩;cases fl with|ret u=>obtain⟨v,c,g,J,G,q⟩:=hs;exact fin J G q|next=>obtain⟨c,g,J,q⟩:=hs;exact fin (v:=V.non) (u:=eP) J rfl q|brk=>obtain⟨_,_,_,q⟩:=hs;exact fh q|cont=>obtain⟨_,_,_,q⟩:=hs;exact fh q
section
variable{X:Cx}{x:Str}{p pos:Pos}{e:dy}{es:List dy}{t:TA}{id T:String}{r:List V->Hp->VK->Prop}
noncomputable def tCB(r:List V->Hp->VK->Prop)(t:TA):TE:=λσ H Q=>t σ H λvs a=>r vs a Q
theorem fM(hc:fj X (.builtin id) r)(b:Gl X x)(c:X.mg x=ci)(f:eH x=aU (.builtin id))(g:PA X (e::es) t)(j:x≠"__name__":=by decide)(a:(x==("__debug__":Str))=a_:=by decide)(he:cx (e::es) X.env=(a_,eA e X.env)::cx es X.env:=by rfl)(hpl:(i7 pos (cx es X.env)).any (·.1)=a_:=by rfl):PE X (.Call (.Name x p) (e::es) [] pos) (tCB r t):=by intro pins s σ H Q I h;refine mr (gM I b c f ?_ j a);exact PyProof.Rows.callWith_builtin1 (cA (g pos pins s σ H _ I h) λus s1⟨vs,H1,I1,r1,q1⟩=>hc pins s1 σ H1 vs us Q I1 r1 q1) he hpl
theorem nH(hc:fj X (.type T) r)(b:Gl X x)(c:X.mg x=ci)(f:eH x=aU (.type T))(g:PA X (e::es) t)(j:x≠"__name__":=by decide)(a:(x==("__debug__":Str))=a_:=by decide)(he:cx (e::es) X.env=(a_,eA e X.env)::cx es X.env:=by rfl)(hpl:(i7 pos (cx es X.env)).any (·.1)=a_:=by rfl):PE X (.Call (.Name x p) (e::es) [] pos) (tCB r t):=by intro pins s σ H Q I h;refine mr (gM I b c f ?_ j a);exact eg (cA (g pos pins s σ H _ I h) λus s1⟨vs,H1,I1,r1,q1⟩=>hc pins s1 σ H1 vs us Q I1 r1 q1) he hpl
end
end _L
namespace _U
open PySem PyProof.Rows
section
variable{prog:df}{w:er}{A:ew}{E:bx->cn->Prop}{s:cn}
theorem O2{t b:cq}{vs ws:List bx}{Q:bx->cn->Prop}(ht:qo s.heap t vs.toArray)(o:qo s.heap b ws.toArray)(j:vs≠[])(h1:ws=[]->Q (.ref t) s)(p:ws≠[]->Q (.ref s.heap.objs.size) {s with heap:=s.heap.push {cls:=.type "tuple",data:=.seq (vs++ws).toArray}})(hsz:vs.length+ws.length<=sizeLine):cE (cS prog w) A (fF .Add (.ref t) (.ref b)) Q E s:=by
 obtain⟨⟨cls,k,data,sl⟩,ho,hc,n,hd⟩:=id ht;obtain⟨⟨l,c,data2,f⟩,a,g,m,h⟩:=id o;simp only at hc hd g h;subst hc hd g h;have e:vs.toArray++ws.toArray=(vs++ws).toArray:=by simp
 by_cases i:ws=[];.exact m4 ⟨_,ho,rfl⟩ ⟨_,a,rfl⟩ nz p4 slot_tuple_add entry_tuple_add (args_tuple_add_2 _ _) (tuple_addW1 t b vs.toArray ws.toArray n m k c sl f (by simpa using j) (by simp[i])) ⟨ho,a,h1 i⟩
 .refine m4 ⟨_,ho,rfl⟩ ⟨_,a,rfl⟩ nz p4 slot_tuple_add entry_tuple_add (args_tuple_add_2 _ _) (tuple_addW2 t b vs.toArray ws.toArray n m k c sl f (by simpa using j) (by simpa using i) (by rw[cy,cy];exact hsz)) ⟨ho,a,?_⟩;rw[e];exact p i
noncomputable def dM(n d:Nat):Option Int->Nat|none=>d|some v=>if v<0 then(v+(n:Int)).toNat else min v.toNat n
theorem W8(n d:Nat)(hd:d<=n)(o:Option Int):dM n d o<=n:=by cases o with|none=>exact hd|some v=>
   show(if v<0 then(v+(n:Int)).toNat else min v.toNat n)<=n;by_cases a:v<0;.rw[if_pos a];lia
   .rw[if_neg a];exact Nat.min_le_right _ _
theorem Fg(v:Int)(n d:Nat):(if v<0 then max (v+(n:Int)) 0 else min v (n:Int))=((dM n d (aU v):Nat):Int):=by
 show(if v<0 then max (v+(n:Int)) 0 else min v (n:Int))=(((if v<0 then(v+(n:Int)).toNat else min v.toNat n):Nat):Int);by_cases a:v<0;.simp only[if_pos a];lia
 .simp only[if_neg a];lia
theorem zL(lo hi:Option Int)(n:Nat):rV lo hi 1 (n:Int)=(((dM n 0 lo:Nat):Int),((dM n n hi:Nat):Int)):=by
 have h1:¬((1:Int)<0):=by lia
 unfold rV;simp only[h1,if_false];refine Prod.ext ?_ ?_;.cases lo with|none=>rfl|some v=>exact Fg v n 0
 .cases hi with|none=>rfl|some v=>exact Fg v n n
theorem Ca(i j:Nat):nL (i:Int) (j:Int) 1=j-i:=by
 unfold nL;have h1:(1:Int)>0:=by lia
 simp only[h1,if_true,Int.ediv_one];split<;>lia
theorem qw{v:bx}{o:Option Int}{Q:Option Int->cn->Prop}(p:lS v o)(h:Q o s):cE (cS prog w) A (Builtin.Slice.slicePartIndex v) Q E s:=by cases p with|none=>exact slicePart_none h|int i t=>exact slicePart_int h
theorem iI{sl:cq}{c e:bx}{lo hi:Option Int}{n:Nat}{Q:Int×Int×Nat->cn->Prop}(hs:s.heap.IsSliceOf sl c e .none)(f:lS c lo)(g:lS e hi)(h:Q (((dM n 0 lo:Nat):Int),1,dM n n hi-dM n 0 lo) s):cE (cS prog w) A (sliceApplied (.ref sl) (fg (n:Int))) Q E s:=by obtain⟨os,a,i,b⟩:=id hs;unfold sliceApplied Builtin.Slice.sliceFields;refine bdq (bdq (fo a b (x:=c) rfl (bdq (fo a b (x:=e) rfl (bdq (fo a b (x:=.none) rfl (cv ?_)))))));refine bdq (slicePart_none ?_);show cE _ _ (if((1:Int)==0)=b_ then _ else _) _ _ s;rw[if_neg (by decide)];refine bdq (qw f (bdq (qw g (bdq (cv ?_)))));show cE _ _ (match rV lo hi 1 (n:Int)with|(lo,hi)=>fg (lo,(1:Int),nL lo hi 1)) _ _ s;rw[zL lo hi n];show cE _ _ (fg (((dM n 0 lo:Nat):Int),(1:Int),nL ((dM n 0 lo:Nat):Int) ((dM n n hi:Nat):Int) 1)) _ _ s;rw[Ca];exact cv h
theorem Kl(xs:Array bx)(i k:Nat):((dS k).filterMap λ(m:Nat)=>xs[((i:Int)+(m:Int)*1).toNat]?).toArray=((xs.toList.drop i).take k).toArray:=by
 have e:(λ(m:Nat)=>xs[((i:Int)+(m:Int)*1).toNat]?)=λm=>xs[i+m]?:=by
  funext m;have:((i:Int)+(m:Int)*1).toNat=i+m:=by lia
  rw[this]
 rw[e];have:=pick_run xs i k;rw[List.filterMap_map]at this;have a:((λx=>xs[x]?)∘ λx=>i+x)=λm=>xs[i+m]?:=rfl;rw[a]at this;rw[this]
theorem mz{t sl:cq}{items:Array bx}{g i:bx}{lo hi:Option Int}{Q:bx->cn->Prop}(ht:qo s.heap t items)(hs:s.heap.IsSliceOf sl g i .none)(j:lS g lo)(k:lS i hi)(l:¬(dM items.size 0 lo=0/\dM items.size items.size hi=items.size))(h:Q (.ref s.heap.objs.size) {s with heap:=s.heap.push {cls:=.type "tuple",data:=.seq ((items.toList.drop (dM items.size 0 lo)).take (dM items.size items.size hi-dM items.size 0 lo)).toArray}})(hsz:items.size<=sizeLine):cE (cS prog w) A (ku (.ref t) (.ref sl)) Q E s:=by
 have a:sizeOk (.seq ((items.toList.drop (dM items.size 0 lo)).take (dM items.size items.size hi-dM items.size 0 lo)).toArray):=by show((items.toList.drop (dM items.size 0 lo)).take (dM items.size items.size hi-dM items.size 0 lo)).toArray.size<=sizeLine;rw[cy,lw,List.length_drop,jR];lia
 have o:dM items.size items.size hi<=items.size:=W8 _ _ (cN) hi;obtain⟨os,b,c,n⟩:=id hs;have e:s.TypeIs (.ref sl) "slice":=⟨os,b,c⟩;unfold ku;try with_reducible refine im ?_
 first|refine bdq (cv ?_)|skip
 refine bdq (wpAny_sequenceKey ht.typeIs (by decide) ?_);refine bdq (fR (name:=iO "__getitem__") ht.typeIs iA (hQ iA ht.typeIs entry_tuple_getitem ?_ (args_tuple_getitem _ _)));show cE _ _ (tupleItemsOf (.ref t)>>=_) _ _ s;refine bdq (tupleItemsOf_ ht ?_);refine bdq (k7 e ?_);rw[if_pos (by decide)];refine bdq (iI hs j k ?_);have f:¬((((dM items.size 0 lo:Nat):Int)==0&&(1:Int)==1&&(dM items.size items.size hi-dM items.size 0 lo)==items.size)=b_):=by intro q;rw[eW,eW]at q;have p:((dM items.size 0 lo:Nat):Int)=0:=eq_of_beq q.1.1;have r:dM items.size items.size hi-dM items.size 0 lo=items.size:=eq_of_beq q.2;exact l ⟨by lia,by lia⟩
 show cE _ _ (if(((dM items.size 0 lo:Nat):Int)==0&&(1:Int)==1&&(dM items.size items.size hi-dM items.size 0 lo)==items.size)=b_ then _ else _) _ _ s;rw[if_neg f,Kl];first|exact bdq (m:=i_ _) (ey (cv ⟨_,rfl,cv h⟩) a)|exact bdq (m:=i_ _) (ey (bdq (cv (cv ⟨_,rfl,cv h⟩))) a)|exact bdq (bdq (m:=i_ _) (ey (cv (cv ⟨_,rfl,cv h⟩)) a))|exact bdq (bdq (m:=i_ _) (ey (cv ⟨_,rfl,cv h⟩) a))
end
end _U
namespace _L
open PySem Spec PyProof.Rows
variable{n:Nat}{s:cn}{x:V}
noncomputable abbrev TO:=St->Hp->(Option Int->Hp->Prop)->Prop
noncomputable def PO(X:Cx)(e:Option dy)(t:TO):Prop:=∀(a:List (cq × Obj))(s:cn)(σ:St)(H:Hp)(Q:Option Int->Hp->Prop),Inv X a σ H s->t σ H Q->cE (cS X.prog X.w) X.A (evalPart e X.env) (λu c=>∃o b,Inv X a σ b c/\lS u o/\Q o b) X.xe s
noncomputable def QT:TO:=λ_ H Q=>Q ci H
noncomputable def aaW(t:TE):TO:=λσ H Q=>t σ H λx a=>∃i,x=.int i/\Q (aU i) a
section
variable{X:Cx}{e:dy}{te:TE}{lo hi:Option dy}{tl th:TO}{pos p2:Pos}
theorem Qt:PO X ci QT:=by intro a s σ H Q I h;rw[evalPart_none];exact cv ⟨ci,H,I,.none,h⟩
theorem Pb(h:PE X e te):PO X (aU e) (aaW te):=by intro a s σ H Q I b;rw[evalPart_some];refine cA (h a s σ H _ I b) λu s1⟨x,H1,I1,r1,q1⟩=>?_;obtain⟨i,rfl,q⟩:=q1;obtain⟨t,rfl⟩:=r1;exact⟨aU i,H1,I1,.int i t,q⟩
noncomputable def SlR(X:Cx)(r:V->Option Int->Option Int->Hp->VK->Prop):Prop:=∀(a:List (cq × Obj))(s:cn)(σ:St)(H:Hp)(x:V)(v b c:bx)(lo hi:Option Int)(sl:cq)(Q:VK),Inv X a σ H s->RelV x v->s.heap.IsSliceOf sl b c .none->lS b lo->lS c hi->r x lo hi H Q->∃T id,oj (.type T) "__getitem__"=fg (aU (.builtin id))/\s.TypeIs v T/\cE (cS X.prog X.w) X.A (ku v (.ref sl)) (EP X a σ Q) X.xe s
noncomputable def tSl(r:V->Option Int->Option Int->Hp->VK->Prop)(te:TE)(tl th:TO):TE:=λσ H Q=>te σ H λx a=>tl σ a λl b=>th σ b λu c=>r x l u c Q
theorem yw{r:V->Option Int->Option Int->Hp->VK->Prop}(hr:SlR X r)(he:PE X e te)(g:PO X lo tl)(i:PO X hi th):PE X (.Subscript e (.Slice lo hi ci p2) pos) (tSl r te tl th):=by intro a s σ H Q I h;refine Subscript_ (cA (he a s σ H _ I h) λv s1⟨x,H1,I1,r1,q1⟩=>?_);refine wpAny_Slice (cA (g a s1 σ H1 _ I1 q1) λc s2⟨l,H2,I2,pl,q2⟩=>cA (i a s2 σ H2 _ I2 q2) λf s3⟨u,H3,I3,pu,q3⟩=>?_);rw[evalPart_none];refine cv ?_;have j:Inv X a σ H3 {s3 with heap:=s3.heap.push {cls:=.type "slice",data:=.fields #[c,f,.none]}}:=I3.kept (t':=s3.toks) λb o q=>dF q;obtain⟨T,id,k,ht,m⟩:=hr a {s3 with heap:=s3.heap.push {cls:=.type "slice",data:=.fields #[c,f,.none]}} σ H3 x v c f l u s3.heap.objs.size Q j r1 (Heap.IsSliceOf.new ..) pl pu q3;show cE (cS X.prog X.w) X.A (pV e (.Slice lo hi ci p2) v (.ref s3.heap.objs.size)) (EP X a σ Q) X.xe {s3 with heap:=s3.heap.push {cls:=.type "slice",data:=.fields #[c,f,.none]}};exact tail_any (ops:=[.ref s3.heap.objs.size,v]) ht k m (by with_unfolding_all rfl)
noncomputable def yx(xs:List V)(lo hi:Option Int):List V:=(xs.drop (_U.dM xs.length 0 lo)).take (_U.dM xs.length xs.length hi-_U.dM xs.length 0 lo)
theorem oU(xs:List V)(lo hi:Option Int):(yx xs lo hi).length<=xs.length:=by unfold yx;rw[lw,List.length_drop];lia
noncomputable def af2(K:PySem.W.Frag):V->Option Int->Option Int->Hp->VK->Prop:=λx lo hi H Q=>∃a xs,x=.ref a/\iQ K H a xs/\¬(_U.dM xs.length 0 lo=0/\_U.dM xs.length xs.length hi=xs.length)/\∀p,H p=ci->Q (.ref p) (upd H p (.tup (yx xs lo hi)))
theorem Vu:SlR X (af2 X.K):=by
 intro g s σ H x v p t lo hi sl Q I i hs j k h;obtain⟨a,xs,rfl,l,m,q⟩:=h;cases i;obtain⟨f,r,ht,hz⟩:=I.tuple l;have c:f.toArray.size=xs.length:=by rw[cy];exact r.length.symm
 refine⟨"tuple",_,iA.lookup,ht.typeIs,?_⟩;refine _U.mz ht hs j k (by rw[c];exact m) ?_ (by rw[c];exact hz);rw[c];refine⟨.ref s.heap.objs.size,_,I.laid (t':=s.toks) (o:=.tup (yx xs lo hi)) (λb u q=>dF q) (cN) ?_,rfl,q _ (I.hok.fresh (cN))⟩;exact⟨ic (oU xs lo hi) hz,_,(r.drop (_U.dM xs.length 0 lo)).take (_U.dM xs.length xs.length hi-_U.dM xs.length 0 lo),k5 _ _⟩
noncomputable def aae(K:PySem.W.Frag):R2:=λx y H Q=>∃a b xs ys,x=.ref a/\y=.ref b/\iQ K H a xs/\iQ K H b ys/\xs≠[]/\xs.length+ys.length<=sizeLine/\(ys=[]->Q (.ref a) H)/\(ys≠[]->∀p,H p=ci->Q (.ref p) (upd H p (.tup (xs++ys))))
theorem Vals.pR{xs:List V}{us:List bx}(r:Vals xs us):us=[]↔xs=[]:=by cases r with|nil=>simp|cons _ _=>simp
theorem Pz:fY X (fF .Add) (aae X.K):=by intro f s σ H x y v u Q I i j h;obtain⟨a,b,xs,ys,rfl,rfl,k,l,m,hz,p,r⟩:=h;cases i;cases j;obtain⟨t,r1,p1,_⟩:=I.tuple k;obtain⟨g,c,p2,_⟩:=I.tuple l;refine _U.O2 p1 p2 (λz=>m (r1.pR.mp z)) (λz=>⟨.ref a,H,I,rfl,p (c.pR.mp z)⟩) (λz=>?_) (by rw[<-r1.length,<-c.length];exact hz);refine⟨.ref s.heap.objs.size,_,I.laid (t':=s.toks) (o:=.tup (xs++ys)) (λb A q=>dF q) (cN) ?_,rfl,r (λw=>z (c.pR.mpr w)) _ (I.hok.fresh (cN))⟩;exact⟨by rw[ek];exact hz,_,r1.append c,k5 _ _⟩
end
noncomputable def ik(n:Nat)(i:Int):Option Nat:=if 0<=i then(if i<n then aU i.toNat else ci)else if-(n:Int)<=i then aU (i+n).toNat else ci
noncomputable def LC{a:Type}(xs:List a)(i:Int):Option a:=(ik xs.length i).bind λj=>xs[j]?
theorem Dd{i:Int}{j:Nat}(h:ik n i=aU j):seqIndex? i n=aU j/\j<n/\-(n:Int)<=i/\i<n:=by
 unfold ik at h;by_cases h0:0<=i
 . rw[if_pos h0]at h;by_cases h1:i<n;.rw[if_pos h1]at h;have e:i.toNat=j:=eJ h;exact⟨by rw[nN h0 h1,e],by lia,by lia,h1⟩
   .rw[if_neg h1]at h;cases h
 . rw[if_neg h0]at h;by_cases h1:-(n:Int)<=i;.rw[if_pos h1]at h;have e:(i+n).toNat=j:=eJ h;exact⟨by rw[mP (by lia) h1,e],by lia,h1,by lia⟩
   .rw[if_neg h1]at h;cases h
theorem v8{a:Type}{xs:List a}{i:Int}{v:a}(h:LC xs i=aU v):∃j,seqIndex? i xs.length=aU j/\xs[j]?=aU v/\j<xs.length/\-(xs.length:Int)<=i/\i<xs.length:=by unfold LC at h;cases e:ik xs.length i with|none=>rw[e]at h;cases h|some j=>rw[e]at h;obtain⟨h1,b,c,f⟩:=Dd e;exact⟨j,h1,h,b,c,f⟩
noncomputable def vB(b:dy):Prop:=∀o i,nK b a_ o i=operate [o,i] (ku o i)
noncomputable def IxR(X:Cx)(r:R2):Prop:=∀(b slice:dy)(a:List (cq × Obj))(s:cn)(σ:St)(H:Hp)(x y:V)(v u:bx)(Q:VK),Inv X a σ H s->RelV x v->RelV y u->r x y H Q->nK slice a_ v u=operate [v,u] (ku v u)->cE (cS X.prog X.w) X.A (pV b slice v u) (EP X a σ Q) X.xe s
noncomputable def MtR(X:Cx)(id:String)(r:V->List V->Hp->VK->Prop):Prop:=∀(a:List (cq × Obj))(s:cn)(σ:St)(H:Hp)(x:V)(xs:List V)(v:bx)(us:List bx)(Q:VK),Inv X a σ H s->RelV x v->Vals xs us->r x xs H Q->cE (cS X.prog X.w) X.A (call (.builtin id) (v::us)) (EP X a σ Q) X.xe s
section
variable{X:Cx}{a b:dy}{ta tb:TE}{pos:Pos}
theorem RJ{r:R2}(hr:IxR X r)(e:PE X a ta)(f:PE X b tb)(hs:vB b):PE X (.Subscript a b pos) (Wg r ta tb):=by intro c s σ H Q I h;exact Subscript_ (Xm e f I h λv u s2 x y g i j k q=>hr a b c s2 σ g x y v u Q i j k q (hs _ _))
noncomputable def aaj(K:PySem.W.Frag):R2:=λx y H Q=>∃p xs i v,x=.ref p/\y=.int i/\dO K H p xs/\LC xs i=aU v/\Q v H
noncomputable def aeG(K:PySem.W.Frag):R2:=λx y H Q=>∃p xs i v,x=.ref p/\y=.int i/\iQ K H p xs/\LC xs i=aU v/\Q v H
theorem FT:IxR X (aaj X.K):=by
 intro e slice c s σ H x y v u Q I m o h hs;obtain⟨p,xs,i,z,rfl,rfl,A,he,q⟩:=h;cases m;obtain⟨t,rfl⟩:=o;obtain⟨f,r,g,hz⟩:=I.list A;obtain⟨j,h1,B,M,C,E⟩:=v8 he;obtain⟨w,l,G⟩:=r.get B;have J:=r.length;have N:=sU;have fin:EP X c σ Q w s:=⟨z,H,I,G,q⟩;by_cases h0:0<=i
 . have k:i.toNat=j:=by rw[nN h0 E]at h1;exact eJ h1
   exact item_listR g.isList h0 (by lia) (by rw[k];simpa using l) fin hs
 . have k:(i+(f.toArray.size:Int)).toNat=j:=by rw[mP (by lia) C]at h1;rw[cy,<-J];exact eJ h1
   exact q_ (x:=w) g.isList.typeIs slot_list_getitem.lookup (qS (Q:=λr L=>r=w/\EP X c σ Q r L) g.isList (by lia) (by rw[cy]<;>lia) (by lia) (by rw[k];simpa using l) ⟨rfl,fin⟩) hs
theorem Ve:IxR X (aeG X.K):=by intro e slice c s σ H x y v u Q I g k h hs;obtain⟨p,xs,i,z,rfl,rfl,l,he,q⟩:=h;cases g;obtain⟨t,rfl⟩:=k;obtain⟨m,r,f,hz⟩:=I.tuple l;obtain⟨j,h1,o,G,J,L⟩:=v8 he;obtain⟨w,A,B⟩:=r.get o;have C:=r.length;have M:=sU;have fin:EP X c σ Q w s:=⟨z,H,I,B,q⟩;exact q_ (x:=w) f.typeIs slot_tuple_getitem.lookup (getItem_tuple (j:=j) (Q:=λr E=>r=w/\EP X c σ Q r E) f (by lia) (by lia) (by rw[cy,<-C];exact h1) (by simpa using A) ⟨rfl,fin⟩) hs
theorem Bx(c:List bx)(n j:Nat)(u:bx):fE (·.setIfInBounds j u) {cls:=.type "list",data:=.seq c.toArray n}={cls:=.type "list",data:=.seq (c.set j u).toArray n}:=by simp[fE]
theorem Inv.lst{f:List (cq×Obj)}{σ:St}{H:Hp}{s:cn}{p:cq}{xs:List V}(I:Inv X f σ H s)(h:H p=aU (.lst xs)):∃(c:List bx)(n:Nat),Vals xs c/\s.heap.get? p=aU {cls:=.type "list",data:=.seq c.toArray n}/\xs.length<=sizeLine:=by obtain⟨z,c,n,r,e⟩:=I.hok p _ h;exact⟨c,n,r,e,z⟩
theorem Inv.Wb{c:List (cq×Obj)}{σ:St}{H:Hp}{s:cn}{p:cq}{xs ys:List V}{g its':List bx}{n i:Nat}{f:Obj->Obj}(I:Inv X c σ H s)(h:H p=aU (.lst xs))(ho:s.heap.get? p=aU {cls:=.type "list",data:=.seq g.toArray n})(j:f {cls:=.type "list",data:=.seq g.toArray n}={cls:=.type "list",data:=.seq its'.toArray i})(r:Vals ys its')(hz:ys.length<=sizeLine)(t:Nat):Inv X c σ (upd H p (.lst ys)) {s with heap:=s.heap.update p f,toks:=t}:=by
 have e:(s.heap.update p f).get? p=aU {cls:=.type "list",data:=.seq its'.toArray i}:=by rw[jp f ho (by rw[j]<;>rfl),j]
 refine I.write (x:=p) (e:=p) (by rw[h];trivial) (.inl rfl) (λb u k q=>(gX _ _ (fx k)).trans q) ⟨_,e⟩ ?_;exact⟨hz,its',i,r,e⟩
noncomputable def ZZ:V->V->V->Hp->(Hp->Prop)->Prop:=λo i v H Q=>∃p xs k j,o=.ref p/\i=.int k/\H p=aU (.lst xs)/\ik xs.length k=aU j/\Q (upd H p (.lst (xs.set j v)))
theorem set_list:Xx X ZZ:=by
 intro c s σ H o i v E iv u Q I z A B h;obtain⟨p,xs,k,j,rfl,rfl,l,C,q⟩:=h;cases z;obtain⟨t,rfl⟩:=A;obtain⟨e,n,r,ho,hz⟩:=I.lst l;obtain⟨h1,G,m,w⟩:=Dd C;have f:=r.length;have J:=sU;have y:Inv X c σ (upd H p (.lst (xs.set j v))) {s with heap:=s.heap.update p (fE (·.setIfInBounds j u))}:=I.Wb l ho (Bx e n j u) (r.set B j) (by rw[ow];exact hz) s.toks;by_cases h0:0<=k
 . have g:k.toNat=j:=by rw[nN h0 w]at h1;exact eJ h1
   exact PySem.W.ki_setAt ho h0 (by lia) (by rw[cy,<-f];exact w) (by rw[g];exact⟨_,y,q⟩)
 . have g:(k+(e.toArray.size:Int)).toNat=j:=by rw[mP (by lia) m]at h1;rw[cy,<-f];exact eJ h1
   exact PySem.W.ki_setBack ho (by lia) (by rw[cy,<-f];exact m) (by lia) (by rw[g];exact⟨_,y,q⟩)
theorem vq(lo hi:Option Int)(n:Nat):(j_ lo hi ci n).1=((_U.dM n 0 lo:Nat):Int)/\(j_ lo hi ci n).2.1=((_U.dM n n hi:Nat):Int)/\(j_ lo hi ci n).2.2=1:=by
 refine⟨?_,?_,rfl⟩;.cases lo with|none=>simp[j_,_U.dM]|some i=>
     simp only[j_,_U.dM,getD_none,show(1:Int)>0 by decide,if_true];by_cases h:i<0;.simp only[h,if_true]<;>lia
     .simp only[h,if_false]<;>lia
 .cases hi with|none=>simp[j_,_U.dM]|some i=>
     simp only[j_,_U.dM,getD_none,show(1:Int)>0 by decide,if_true];by_cases h:i<0;.simp only[h,if_true]<;>lia
     .simp only[h,if_false]<;>lia
theorem tW(c:List bx)(lo hi:Option Int):slicePick c.toArray lo hi ci=((c.drop (_U.dM c.length 0 lo)).take (_U.dM c.length c.length hi-_U.dM c.length 0 lo)).toArray:=by obtain⟨h1,e,f⟩:=vq lo hi c.toArray.size;unfold slicePick;rw[h1,e,f];simp only[sliceRange_one,pick_run,cy]<;>rfl
noncomputable def agV(K:PySem.W.Frag):V->Option Int->Option Int->Hp->VK->Prop:=λx lo hi H Q=>∃a xs,x=.ref a/\dO K H a xs/\∀p,H p=ci->Q (.ref p) (upd H p (.lst (yx xs lo hi)))
theorem P0:SlR X (agV X.K):=by intro e s σ H x v l m lo hi sl Q I f hs g i h;obtain⟨a,xs,rfl,j,q⟩:=h;cases f;obtain⟨k,r,ht,hz⟩:=I.list j;have c:=r.length;refine⟨"list",_,slot_list_getitem.lookup,ht.isList.typeIs,?_⟩;refine wpAny_getItem_list_slice ht.isList hs g i .none (by simp) ?_ (by rw[cy]<;>lia);rw[tW,<-c];refine⟨.ref s.heap.objs.size,_,I.laid (t':=s.toks) (o:=.lst (yx xs lo hi)) (λb p q=>dF q) (cN) ?_,rfl,q _ (I.hok.fresh (cN))⟩;exact⟨ic (oU xs lo hi) hz,_,0,(r.drop (_U.dM xs.length 0 lo)).take (_U.dM xs.length xs.length hi-_U.dM xs.length 0 lo),cw _ rfl⟩
noncomputable def km:V->Bool|.non=>b_|.bl _=>b_|.int _=>b_|.str _=>b_|_=>a_
noncomputable def Qo:V->V->Bool|.non,.non=>b_|.bl a,.bl b=>a==b|.bl a,.int b=>(if a then 1 else 0)==b|.int a,.bl b=>a==(if b then 1 else 0)|.int a,.int b=>a==b|.str a,.str b=>a==b|_,_=>a_
theorem Vb{A:ew}{y:V}{u v:bx}(e:RelV y u)(c:RelV x v)(g:km y=b_)(f:km x=b_):g_ A s u v (Qo y x):=by cases y with
 |non=>cases e;cases x with|non=>cases c;exact li _|bl b=>cases c;exact none_bool b|int b=>obtain⟨t,rfl⟩:=c;exact none_int b t|str b=>obtain⟨t,rfl⟩:=c;exact none_str b t|_=>exact absurd (show a_=b_ from f) de
 |bl a=>cases e;cases x with|non=>cases c;exact bool_none a|bl b=>cases c;exact bool_bool a b|int b=>obtain⟨t,rfl⟩:=c;exact bool_int a b t|str b=>obtain⟨t,rfl⟩:=c;exact bool_str a b t|_=>exact absurd (show a_=b_ from f) de
 |int a=>obtain⟨t',rfl⟩:=e;cases x with|non=>cases c;exact int_none a t'|bl b=>cases c;exact int_bool a t' b|int b=>obtain⟨t,rfl⟩:=c;exact int_int a t' b t|str b=>obtain⟨t,rfl⟩:=c;exact int_str a t' b t|_=>exact absurd (show a_=b_ from f) de
 |str a=>obtain⟨t',rfl⟩:=e;cases x with|non=>cases c;exact str_none a t'|bl b=>cases c;exact str_bool a t' b|int b=>obtain⟨t,rfl⟩:=c;exact str_int a t' b t|str b=>obtain⟨t,rfl⟩:=c;exact str_str a t' b t|_=>exact absurd (show a_=b_ from f) de
 |_=>exact absurd (show a_=b_ from g) de
noncomputable def Rg(x:V)(u:bx):Bool:=match u with|.none=>Qo .non x|.bool b=>Qo (.bl b) x|.int i _=>Qo (.int i) x|.str z _=>Qo (.str z) x|_=>a_
theorem LR{y:V}{u:bx}(r:RelV y u)(f:km y=b_):Rg x u=Qo y x:=by cases y with|non=>cases r;rfl|bl b=>cases r;rfl|int i=>obtain⟨t,rfl⟩:=r;rfl|str z=>obtain⟨t,rfl⟩:=r;rfl|_=>exact absurd (show a_=b_ from f) de
theorem vQ{x:V}:∀{xs:List V}{us:List bx},Vals xs us->xs.all km=b_->us.any (Rg x)=xs.any λy=>Qo y x|_,_,.nil,_=>rfl|y::xs,u::us,.cons r t,f=>by rw[kS,eW]at f;rw[kc,kc,LR r f.1,vQ t f.2]
theorem sS{A:ew}{s:cn}{x:V}{v:bx}(c:RelV x v)(e:km x=b_):∀{xs:List V}{us:List bx},Vals xs us->xs.all km=b_->∀u∈us,g_ A s u v (Rg x u)
 |_,_,.nil,_=>λu hu=>by cases hu|y::xs,u::us,.cons r t,f=>λg hu=>by
   rw[kS,eW]at f;rcases cK.mp hu with rfl|hu;.rw[LR r f.1];exact Vb r c f.1 e
   .exact sS c e t f.2 g hu
noncomputable def inV(x:V)(xs:List V):Bool:=xs.any λy=>Qo y x
noncomputable def rIn(K:PySem.W.Frag)(neg:Bool):R2:=λx y H Q=>∃p xs,y=.ref p/\(dO K H p xs\/iQ K H p xs)/\km x=b_/\xs.all km=b_/\Q (.bl (if neg then !inV x xs else inV x xs)) H
theorem Gr:fY X (dY .In) (rIn X.K a_):=by
 intro g s σ H x y v u Q I i k h;obtain⟨p,xs,rfl,hq,j,fs,q⟩:=h;cases k;rcases hq with hq|hq;.obtain⟨c,r,e,hz⟩:=I.list hq;refine SeqAt.in_listAt (Rg x) e.isList (λw f=>sS i j r fs w (by simpa using f)) ⟨.bl _,H,I,rfl,?_⟩;rw[show c.toArray.any (Rg x)=c.any (Rg x)by simp,vQ r fs];exact q
 .obtain⟨c,r,e,hz⟩:=I.tuple hq;refine SeqAt.in_tupleAt (Rg x) e (λw f=>sS i j r fs w (by simpa using f)) ⟨.bl _,H,I,rfl,?_⟩;rw[show c.toArray.any (Rg x)=c.any (Rg x)by simp,vQ r fs];exact q
theorem vH:fj X (.builtin "len") (λxs H Q=>∃p ys,xs=[.ref p]/\(dO X.K H p ys\/iQ X.K H p ys)/\Q (.int ys.length) H):=by
 intro i s σ H xs us Q I r h;obtain⟨p,ys,rfl,hq,q⟩:=h;obtain⟨u,rfl,j⟩:=vals1 r;cases j;have k:=sU;rcases hq with hq|hq;.obtain⟨e,f,g,hz⟩:=I.list hq;have c:=f.length;exact Calls.call_len_list g.isList (by simp only[cy]<;>lia) ⟨.int ys.length,H,I.tok _,⟨s.toks+1,by rw[cy,c]⟩,q⟩
 .obtain⟨e,f,g,hz⟩:=I.tuple hq;have c:=f.length;exact len_tuple g (by simp only[cy]<;>lia) ⟨.int ys.length,H,I.tok _,⟨s.toks+1,by rw[cy,c]⟩,q⟩
theorem wF:fj X (.type "list") (λxs H Q=>∃p ys,xs=[.ref p]/\(dO X.K H p ys\/iQ X.K H p ys)/\∀l,H l=ci->Q (.ref l) (upd H l (.lst ys))):=by
 intro i s σ H xs us Q I r h;obtain⟨p,ys,rfl,hq,q⟩:=h;obtain⟨u,rfl,t⟩:=vals1 r;cases t;have fin:∀(c:List bx),Vals ys c->ys.length<=sizeLine->∀(h':eF)(f:Nat),(∀b m,s.heap.get? b=aU m->h'.get? b=aU m)->h'.get? s.heap.objs.size=aU {cls:=.type "list",dict:=ci,data:=.seq c.toArray f,slots:=#[]}->EP X i σ Q (.ref s.heap.objs.size) {s with heap:=h'}:=λc g hz h' f kp e=>⟨.ref s.heap.objs.size,_,I.laid (t':=s.toks) kp (cN) (show bQ X.prog X.w _ h' _ (.lst ys)from⟨hz,c,f,g,e⟩),rfl,q _ (I.hok.fresh (cN))⟩;rcases hq with hq|hq;.obtain⟨c,g,k,hz⟩:=I.list hq;have j:=g.length;obtain⟨o,ho,hc,n,hd⟩:=k.isList;exact call_list_seq p (.inl rfl) ho hc hd (λh' f kp e=>fin c g hz h' f kp e) (by simp only[cy]<;>lia)
 .obtain⟨c,g,k,hz⟩:=I.tuple hq;have j:=g.length;obtain⟨o,ho,hc,n,hd⟩:=k;exact call_list_seq p (.inr rfl) ho hc hd (λh' f kp e=>fin c g hz h' f kp e) (by simp only[cy]<;>lia)
theorem kY:fj X (.type "tuple") (λxs H Q=>∃p ys,xs=[.ref p]/\((dO X.K H p ys/\∀l,H l=ci->Q (.ref l) (upd H l (.tup ys)))\/(iQ X.K H p ys/\Q (.ref p) H))):=by
 intro c s σ H xs us Q I r h;obtain⟨p,ys,rfl,h⟩:=h;obtain⟨u,rfl,t⟩:=vals1 r;cases t;rcases h with⟨g,q⟩|⟨g,q⟩;.obtain⟨f,i,j,hz⟩:=I.list g;have k:=i.length;refine call_tuple_list j.isList (λh' kp=>?_) (by simp only[cy]<;>lia);have m:Inv X c σ H {s with heap:=h'}:=I.kept (t':=s.toks) kp;have v:Inv X c σ (upd H h'.objs.size (.tup ys)) {s with heap:=h'.push {cls:=.type "tuple",data:=.seq f.toArray}}:=m.laid (t':=s.toks) (λb o e=>dF e) (cN) (show bQ X.prog X.w _ _ _ (.tup ys)from⟨hz,f,i,k5 _ _⟩);exact⟨.ref h'.objs.size,_,v,rfl,q _ (m.hok.fresh (cN))⟩
 .obtain⟨f,i,j,hz⟩:=I.tuple g;exact call_tuple_same j ⟨.ref p,H,I,rfl,q⟩
noncomputable def tyV(K:PySem.W.Frag)(T:String)(x:V)(H:Hp):Prop:=match x with|.str _=>T="str"|.int _=>T="int"|.ref p=>(T="list"/\∃xs,dO K H p xs)\/(T="tuple"/\∃o,K.lookup p=aU o/\o.cls=.type "tuple"/\o.dict=ci)\/(T="dict"/\((∃kvs,H p=aU (.dK kvs))\/∃kvs,H p=aU (.dT kvs)))\/(T="set"/\∃S n,H p=aU (.set S n))|_=>False
theorem U7{g:List (cq×Obj)}{σ:St}{H:Hp}{T:String}{v:bx}(I:Inv X g σ H s)(r:RelV x v)(ty:tyV X.K T x H):
 s.TypeIs v T/\∀a,v=.ref a->∃j,s.heap.get? a=aU j/\j.dict=ci:=by cases x with|str z=>obtain⟨t,rfl⟩:=r;cases(show T="str"from ty);exact⟨typeIs_str s z t,λ_ e=>nomatch e⟩|int i=>obtain⟨t,rfl⟩:=r;cases(show T="int"from ty);exact⟨ms s i t,λ_ e=>nomatch e⟩|ref p=>
   cases r;rcases ty with⟨rfl,xs,l⟩|⟨rfl,o,f,hc,hd⟩|⟨rfl,f⟩|⟨rfl,S,n,f⟩;.obtain⟨m,_,k,_⟩:=I.list l;refine⟨k.isList.typeIs,λa e=>?_⟩;cases e;obtain⟨o,n,e,c,hd,_⟩:=k;exact⟨o,e,hd⟩
   .refine⟨⟨o,I.T4 p o f,hc⟩,λa e=>?_⟩;cases e;exact⟨o,I.T4 _ o f,hd⟩
   . have z:∃o,s.heap.get? p=aU o/\o.ExactDict:=by
      rcases f with⟨kvs,f⟩|⟨kvs,f⟩;.obtain⟨_,_,_,_,o,_,_,e,ex,_⟩:=I.hok p _ f;exact⟨o,e,ex⟩
      .obtain⟨_,_,_,_,o,_,_,e,ex,_⟩:=I.hok p _ f;exact⟨o,e,ex⟩
     obtain⟨o,e,ex⟩:=z;refine⟨⟨o,e,ex.1⟩,λa h=>?_⟩;cases h;exact⟨o,e,ex.2.1⟩
   .obtain⟨o,_,_,_,e,ex,_⟩:=I.hok p _ f;refine⟨⟨o,e,ex.1⟩,λa h=>?_⟩;cases h;exact⟨o,e,ex.2.1⟩|_=>exact fh ty
noncomputable def tBM(K:PySem.W.Frag)(T:String)(r:V->List V->Hp->VK->Prop)(to:TE)(t:TA):TE:=λσ H Q=>to σ H λx c=>tyV K T x c/\t σ c λxs e=>r x xs e Q
variable{o e:dy}{es:List dy}{to:TE}{t:TA}{name:Str}{apos cpos:Pos}{T id:String}{r:V->List V->Hp->VK->Prop}
theorem Th(m:PlainAttrs T)(slot:Slot T name id)(k:typeOf (.builtin id)=fg (.type "method_descriptor"))(p:MtR X id r)(ho:PE X o to)(q:PA X (e::es) t)(g:jS o name X.env (eA o X.env)=eA o X.env:=by rfl)(j:((i7 cpos (cx (e::es) X.env)).all (λx=>!x.1)&&(sh cpos (nS [] X.env)).all (λx=>x.1.isSome)&&decide ((e::es).length+([]:List l9).length+(if([]:List l9).isEmpty then 0 else 1)<30))=b_:=by rfl)(i:(apos.endLine==cpos.line)=b_:=by rfl)(hs:cx (e::es) X.env=(a_,eA e X.env)::cx es X.env:=by rfl)(f:(i7 cpos (cx es X.env)).any (·.1)=a_:=by rfl):PE X (.Call (.Attribute o name apos) (e::es) [] cpos) (tBM X.K T r to t):=by intro c s σ H Q I h;refine wpAny_Call_method_late g j i rfl (cA (ho c s σ H _ I h) λv s1⟨x,H1,I1,r1,ty,q1⟩=>?_);obtain⟨h1,u⟩:=U7 I1 r1 ty;refine⟨T,id,m,slot,k,h1,u,?_⟩;have l:=q cpos c s1 σ H1 _ I1 q1;rw[hs]at l ⊢;refine kK (by show(a_||(i7 cpos (cx es X.env)).any (·.1))=a_;rw[f]<;>rfl) (pc ?_);exact cA l λus s2⟨vs,H2,I2,r2,q2⟩=>p c s2 σ H2 x vs v us Q I2 r1 r2 q2
end
noncomputable def MtM(X:Cx)(id:String)(r:V->List V->Hp->VK->Prop):Prop:=∀(a:List (cq × Obj))(s:cn)(σ:St)(H:Hp)(x:V)(xs:List V)(v:bx)(us:List bx)(Q:VK),Inv X a σ H s->RelV x v->Vals xs us->r x xs H Q->cE (cS X.prog X.w) X.A (call (.builtin id) (v::us)) (EP X a σ Q) X.xe s
theorem Vals.one:∀{x:V}{us:List bx},Vals [x] us->∃u,us=[u]/\RelV x u|x,us,h=>by cases h with|cons r t=>cases t;exact⟨_,rfl,r⟩
theorem Vals.two:∀{x y:V}{us:List bx},Vals [x,y] us->∃u v,us=[u,v]/\RelV x u/\RelV y v|x,y,us,h=>by cases h with|cons r t=>cases t with|cons q z=>cases z;exact⟨_,_,rfl,r,q⟩
theorem Vals.zero:∀{us:List bx},Vals [] us->us=[]|_,.nil=>rfl
theorem Vals.reverse{xs:List V}{us:List bx}(h:Vals xs us):Vals xs.reverse us.reverse:=by induction h with|nil=>exact .nil|cons r t a=>rw[ko,ko];exact Vals.append a (.cons r .nil)
theorem Vals.rep{xs:List V}{us:List bx}(h:Vals xs us):∀k:Nat,Vals (cr k xs).flatten (cr k us).flatten|0=>.nil|k+1=>by rw[hV,hV,m3,m3];exact Vals.append h (Vals.rep h k)
theorem foldl_rep(a:List bx):∀(k:Nat)(b:List bx),r_ (λc f=>c++f) b.toArray (cr k a.toArray)=(b++(cr k a).flatten).toArray
 |0,b=>by simp|k+1,b=>by
   have e:b.toArray++a.toArray=(b++a).toArray:=by simp
   have g:(b++a)++(cr k a).flatten=b++(cr (k+1) a).flatten:=by rw[hV,m3,eM]
   rw[<-g,<-foldl_rep a k (b++a),<-e,hV,k8]
section
variable{X:Cx}{pins:List (cq×Obj)}{σ:St}{H:Hp}{s:cn}{l b:cq}{xs ys zs:List V}
theorem Inv.aex{a its':List bx}{f:Array bx->Array bx}{t':Nat}(I:Inv X pins σ H s)(c:H l=aU (.lst xs))(e:s.heap.get? l=aU {cls:=.type "list",data:=.seq a.toArray n})(g:f a.toArray=its'.toArray)(h:Vals ys its')(hz:ys.length<=sizeLine):Inv X pins σ (upd H l (.lst ys)) {s with heap:=s.heap.update l (fE f),toks:=t'}:=by have q:=PySem.IsL.update e f;rw[g]at q;refine I.write (x:=l) (e:=l) (by rw[c];exact trivial) (.inl rfl) (λk u i j=>(gX s.heap (fE f) (fx i)).trans j) ⟨_,q⟩ ?_;exact⟨hz,its',_,h,q⟩
theorem Inv.Ue{a:List bx}{t':Nat}(I:Inv X pins σ H s)(c:Vals ys a)(hz:ys.length<=sizeLine):Inv X pins σ (upd H s.heap.objs.size (.lst ys)) {s with heap:=s.heap.push {cls:=.type "list",data:=.seq a.toArray},toks:=t'}:=I.laid (λ_ _ q=>dF q) (cN) ⟨hz,a,0,c,cw _ rfl⟩
theorem Inv.fresh(I:Inv X pins σ H s):H s.heap.objs.size=ci:=I.hok.fresh (cN)
theorem Inv.aez(I:Inv X pins σ H s)(c:H l=aU (.lst xs)):xs.length<=sizeLine/\∃(a:List bx)(n:Nat),Vals xs a/\xs.length=a.length/\s.heap.get? l=aU {cls:=.type "list",data:=.seq a.toArray n}:=by obtain⟨z,a,n,r,e⟩:=I.hok l _ c;exact⟨z,a,n,r,r.length,e⟩
theorem Ir(h:n<=sizeLine):r9 n=a_:=by unfold r9;exact decide_eq_false (by lia)
end
section
variable{X:Cx}
noncomputable def QB:V->List V->Hp->VK->Prop:=λx vs H Q=>∃l xs y,x=.ref l/\vs=[y]/\H l=aU (.lst xs)/\xs.length<sizeLine/\Q .non (upd H l (.lst (xs++[y])))
theorem nQ:MtM X "list.append" QB:=by intro b s σ H x vs v us Q I f g h;obtain⟨l,xs,y,rfl,rfl,c,hz,q⟩:=h;cases f;obtain⟨u,rfl,i⟩:=g.one;obtain⟨z,a,n,r,j,e⟩:=I.aez c;refine mA F.slot_list_append ⟨_,e,rfl⟩ F.entry_list_append (F.args_list_append_2 _ _) (PySem.list_append l a.toArray n u (by rw[cy];lia)) ⟨e,?_⟩;refine⟨.non,_,I.aex (its':=a++[u]) c e (by simp) (r.append (.cons i .nil)) ?_,rfl,q⟩;rw[ek,iX];lia
theorem len_rep{a:Type}(xs:List a)(k:Nat):(cr k xs).flatten.length=k*xs.length:=by induction k with|zero=>simp|succ k b=>rw[hV,m3,ek,b,Nat.succ_mul,Nat.add_comm]
end
end _L
namespace _A
open PySem W Calls PyProof.Rows
theorem o8{P:Params}{h:eF}:∀(ns:List Int)(vs:List bx),WellAll P h vs (ns.map WData.int)->hJ vs ns:=by intro ns;induction ns with|nil=>intro vs w;rw[l6]at w;cases w;exact .nil|cons n ns c=>intro vs w;rw[c_]at w;cases w with|cons a b=>cases a;exact .cons _ _ (c _ b)
theorem Gp{l:OpenLaw}{n:Nat}(m:l.most=aU n){P:Params}{h:eF}{args:List WData}{b:List bx}(c:l.row.toRowW.claim.pre args=b_)(j:WellAll P h b args):∃a vs ns,b=[ec a]/\args=[WData.list (ns.map WData.int)]/\h.get? a=aU {cls:=.type "list",data:=.seq vs.toArray}/\hJ vs ns/\ns.length<=n:=by
 have k:WShape.hasAll [] args [.list .int]=b_:=(pre_splitW c).1;have hc:l.pre.holds [] {args:=args}=b_:=(pre_splitW c).2;obtain⟨d,r,rfl,h1,o⟩:=hasAllW_cons k;obtain rfl:=hasAllW_nil o;obtain⟨xs,rfl,p⟩:=hasW_list h1;obtain⟨ns,rfl⟩:=items_int p;have e:ns.length<=n:=by
  unfold OpenLaw.pre at hc;have g:(WTm.not (.lt (.lit (.int (n:Int))) (.len (.arg 0)))).holds [] {args:=[.list (ns.map .int)]}=b_:=by have g:=(holds_andW hc).1;rw[m]at g;exact g
  have i:=condW_of g (w_not (w_lt w_lit (w_len_list (w_arg rfl))));rw[dV]at i;refine mE λq=>?_;have s:(n:Int)<((ns.length:Nat):Int):=by lia
  first|(rw[decide_eq_true s]at i;exact absurd i (by decide))|(simp at i;lia)
 cases j with|cons t u=>cases u;cases t with|list ho f=>exact⟨_,_,ns,rfl,rfl,ho,o8 ns _ f,e⟩
theorem Hg(l:OpenLaw)(args:List WData):l.row.toRowW.claim.post args (.bool b_) args=b_:=postW_of (r:=l.row.toRowW) (X:=(b_==b_)) (show WShape.has [] (.bool b_) .bool=b_ by first|rfl|decide|simp[WShape.has,WShape.arms,WShape.armsAll]) (show(WTm.eq .res (.lit (.bool b_))).value [] {args:=args,res:=aU (.bool b_),after:=args}=aU (.bool (b_==b_))from w_eq_bool (w_res rfl) w_lit) rfl
theorem yU{l:OpenLaw}{n:Nat}{q:df}{c:List Str}{z:(Str->Option bx)->eF->Prop}{A:er->eF->Prop}{d:DefRec}(H:l.most=aU n)(s:d.params.defaults=[])(call:∀(w:er)(s₀ b:cn)(mg t:Str->Option bx)(h:cq)(o:Obj)(u m e:bx)(a:cq)(vs:List bx)(ns:List Int),Ground q c [] z w s₀ mg t b.heap->A w b.heap->b.heap.get? h=aU o->o.data=.func (docDef d.name d.params d.body d.scope u m e)->b.heap.CodeRec m d.name->mg d.name=aU (.ref h)->b.heap.get? a=aU {cls:=.type "list",data:=.seq vs.toArray}->hJ vs ns->ns.length<=n->b.gens=#[]->k_ (cS l.prog w) l7 (.call (.ref h) ⟨[.ref a],[]⟩) (λr p=>r=.ok (.ret (.bool b_))/\OldK b.heap p.heap/\p.os=b.os/\l_ p.gens) b):WalkO q c z A l.row.toRowW d [] (λf vs=>PySem.call f vs):=by intro w s₀ b mg t G Y h o u m e I kV ho hd v B x J args C as i E L y M;obtain rfl:I=.none:=Dflts.none B s;obtain rfl:kV=.none:=Dflts.noKw B;obtain⟨a,vs,ns,rfl,rfl,j,g,k⟩:=Gp H i y;refine enter_call (rh (call w s₀ b mg t h o u m e a vs ns G Y ho (fd_plain hd) v x j g k J) λr p N=>?_);obtain⟨rfl,O,Q,U⟩:=N;exact⟨.inl ⟨.bool b_,.bool b_,[],rfl,λ_=>rfl,.bool b_,Hg l _,λ_=>⟨List.Pairwise.nil,λ_ W=>(nomatch W)⟩⟩,O,Q,U⟩
end _A
namespace _L
open PySem Spec PyProof.Rows
theorem uh:∀{vs:List bx}{ns:List Int},hJ vs ns->Vals (ns.map V.int) vs|_,_,.nil=>.nil|_,_,.cons n t h=>.cons ⟨t,rfl⟩ (uh h)
noncomputable def Only(H:Hp):Prop:=∀b,H b=ci\/∃o xs,H b=aU (.dB o (.lst xs))
theorem Iz{P:df}{w:er}{K:PySem.W.Frag}{mg G:Str->Option bx}{CX:MP}{k:Nat}{I a:cq}{fd:ii}{x:Str}{sp:Sp}{c:cn}{vs:List bx}{ns:List Int}(O:K.In c.heap)(p:c.heap.Ns dL mg)(f:c.heap.Ns builtinsNs G)(J:∀x:Str,x≠"__name__"->G x=eH x)(t:c.heap.NoLimit)(hg:c.gens=#[])(E:c.heap.get? a=aU {cls:=.type "list",data:=.seq vs.toArray})(hi:hJ vs ns)(Q:ns.length<=sizeLine)(hr:jB k l7)(F:∀base:eF,K.In base->base.Ns dL mg->oF P w K mg base CX k I fd [x] sp)(l:∀(s:cn)(u:bx),oe s fd ⟨[u],[]⟩ [(x,u)])(hsp:∀H:Hp,Only H->dO K H a (ns.map V.int)->sp [.ref a] H (λv _=>v=.bl b_) λ_ _ _=>False)(L:∀H e g,CX [] H c (λ_ _ _=>False) e g->False):k_ (cS P w) l7 (.call (.ref I) ⟨[.ref a],[]⟩) (λr g=>r=.ok (.ret (.bool b_))/\OldK c.heap g.heap/\g.os=c.os/\l_ g.gens) c:=by
 have U:=uh hi;have y:=hi.length--from an abstract heap in which nothing but the script may be tracked
 have j:∀H:Hp,Only H->dO K H a (ns.map V.int)->m7 P w H c.heap->(∀b,H b≠ci->b=a)->(H a≠ci->K.lookup a=ci)->k_ (cS P w) l7 (.call (.ref I) ⟨[.ref a],[]⟩) (λr g=>r=.ok (.ret (.bool b_))/\OldK c.heap g.heap/\g.os=c.os/\l_ g.gens) c:=by
  intro H X hS hok Y hK;have Z:∀{b:cq}{o:Obj},c.heap.get? b=aU o->H b=ci->(wQ c.heap H).get? b=aU o:=λe n=>Jd e n;have M:∀{b:cq}{o:Obj}{es:Array DictEntry}{ep:Nat},c.heap.get? b=aU o->o.data=.dict es ep->H b=ci:=λ{b o es ep}e d=>by cases q:H b with|none=>rfl|some u=>have N:b=a:=Y b (by rw[q];simp);subst N;rw[E]at e;cases e;have d':Data.seq vs.toArray _=Data.dict es ep:=d;cases d'
  have i:∀{b:cq}{m:Str->Option bx},c.heap.Ns b m->(wQ c.heap H).Ns b m:=λ{b m}⟨o,es,ep,e,d,r⟩=>⟨o,es,ep,Z e (M e d),d,r⟩;have A:K.In (wQ c.heap H):=λb o e=>Z (O b o e) (by cases q:H b with|none=>rfl|some u=>have N:b=a:=Y b (by rw[q];simp);subst N;rw[hK (by rw[q];simp)]at e;cases e);have hM:Mod K mg (wQ c.heap H):=⟨A,i p,⟨G,i f,J⟩,let⟨mc,h1,h2⟩:=t;⟨mc,i h1,h2⟩⟩;have e0:Oo P w K mg (wQ c.heap H) l7 [] c H:=⟨rfl,hM,λb o e=>Qi e,Nat.le_of_eq (Gz _ _),trivial,λb f=>absurd (show b∈([]:List cq)from f) (by simp),hok,.of_eq hg⟩;refine rh ((F _ A (i p)).run l7 [] c H ⟨[.ref a],[]⟩ [.ref a] [.ref a] _ _ hr e0 (l c (.ref a)) (.cons rfl .nil) (hsp H X hS)) λr g h=>?_;cases r with|error e=>exact(L H e g h).elim|ok fl=>cases fl with|next=>exact fh h|brk=>exact fh h|cont=>exact fh h|ret u=>obtain⟨v,H',os,bare,un,B,r',q⟩:=h;have q':v=.bl b_:=q;subst q';obtain rfl:u=ke b_:=r';refine⟨rfl,OldK.of_keep λb o e=>?_,os,bare⟩;cases q:H b with|none=>exact un.keep b o e q (by intro z;exact absurd (show b∈([]:List cq)from z) (by simp)) (by simp)|some u=>
        rcases X b with z|⟨ob,xs,z⟩;.rw[q]at z;cases z
        .have z2:=un.wU b ob _ z;obtain⟨e1,_⟩:=hok b _ z;obtain⟨e2,_⟩:=B b _ z2;rw[e]at e1;cases e1;exact e2
 cases hk:K.lookup a with|some o=>--the script is one of the module's own objects
   have e:=O a o hk;rw[E]at e;cases e;refine j (λ_=>ci) (λ_=>.inl rfl) (.inr ⟨_,vs.toArray,_,hk,rfl,rfl,rfl,by rw[cy,y];exact Q,by simpa using U⟩) (λb u z=>by have C:(ci:Option HO)=aU u:=z;cases C) (λb z=>absurd rfl z) λz=>absurd rfl z|none=>
   refine j (λb=>if b=a then aU (.dB {cls:=.type "list",data:=.seq vs.toArray} (.lst (ns.map V.int)))else ci) (λb=>?_) (.inl (.inr ⟨{cls:=.type "list",data:=.seq vs.toArray},if_pos rfl⟩)) (λb u z=>?_) (λb z=>?_) λ_=>hk
   . by_cases f:b=a;.exact .inr ⟨_,_,if_pos f⟩
     .exact .inl (if_neg f)
   . by_cases f:b=a;.have C:=(if_pos f).symm.trans z;cases C;subst f;exact⟨E,by rw[dV];exact Q,vs,_,U,E⟩
     .have C:=(if_neg f).symm.trans z;cases C
   . by_cases f:b=a;.exact f
     .exact absurd (if_neg f) z
theorem O7{l:PySem.W.OpenLaw}{n k:Nat}{q:df}{i:List Str}{I:(Str->Option bx)->eF->Prop}{C:er->eF->Prop}{d:DefRec}{K:Params->PySem.W.Frag}{CX:er->MP}{sp:er->Sp}{x:Str}(J:l.most=aU n)(t:n<=sizeLine)(y:d.params.defaults=[])(hr:jB k l7)(L:∀(w:er)(h:eF),C w h->(K w.params).In h)(F:∀(w:er)(mg:Str->Option bx)(r:cq)(h:eF),(K w.params).In h->h.Ns dL mg->mg d.name=aU (.ref r)->∃ fd:ii,(∀(s:cn)(u:bx),oe s fd ⟨[u],[]⟩ [(x,u)])/\∀base:eF,(K w.params).In base->base.Ns dL mg->oF l.prog w (K w.params) mg base (CX w) k r fd [x] (sp w))(hsp:∀(w:er)(H:Hp)(a:cq)(ns:List Int),ns.length<=n->Only H->dO (K w.params) H a (ns.map V.int)->sp w [.ref a] H (λv _=>v=.bl b_) λ_ _ _=>False)(z:∀(w:er)(H:Hp)(s:cn)(e:bx)(A:cn),CX w [] H s (λ_ _ _=>False) e A->False):PySem.W.WalkO q i I C l.row.toRowW d [] (λf vs=>PySem.call f vs):=by refine _A.yU J y λw s₀ m mg mb r o pm cd M a vs ns G Y ho hd N B p j c O=>?_;have E:=L w _ Y;obtain⟨fd,Q,U⟩:=F w mg r _ E G.T.g B;exact Iz E G.T.g G.T.b G.T.builtins G.T.nolimit O p j (ic c t) hr U Q (λH X Z=>hsp w H a ns c X Z) λH e A=>z w H m e A
theorem J9{l:PySem.W.OpenLaw}{n k:Nat}{q:df}{b:List Str}{p:(Str->Option bx)->eF->Prop}{m:er->eF->Prop}{d:DefRec}{K:Params->PySem.W.Frag}{CX:MP}{sp:PySem.W.Frag->Sp}{x:Str}(r:l.most=aU n)(c:n<=sizeLine)(g:d.params.defaults=[])(hr:jB k l7)(t:∀(w:er)(h:eF),m w h->(K w.params).In h)(F:∀(w:er)(mg:Str->Option bx)(o:cq)(h:eF),(K w.params).In h->h.Ns dL mg->mg d.name=aU (.ref o)->∃ fd:ii,(∀(s:cn)(u:bx),oe s fd ⟨[u],[]⟩ [(x,u)])/\∀base:eF,(K w.params).In base->base.Ns dL mg->oF l.prog w (K w.params) mg base CX k o fd [x] (sp (K w.params)))(hsp:∀(K:PySem.W.Frag)(H:Hp)(a:cq)(ns:List Int),ns.length<=n->Only H->dO K H a (ns.map V.int)->sp K [.ref a] H (λv _=>v=.bl b_) λ_ _ _=>False)(i:∀(H:Hp)(s:cn)(e:bx)(j:cn),CX [] H s (λ_ _ _=>False) e j->False):PySem.W.WalkO q b p m l.row.toRowW d [] (λf vs=>PySem.call f vs):=O7 (K:=K) (CX:=λ_=>CX) (sp:=λw=>sp (K w.params)) r c g hr t F (λw H a ns h1 y z=>hsp (K w.params) H a ns h1 y z) λ_ H s e j=>i H s e j
end _L
namespace _L
open PySem Spec PyProof.Rows
noncomputable def iY(s:eL):Arguments:=match s with|.FunctionDef _ a _ _ _ _ _ _ _ _=>a|_=>{posonlyargs:=[],args:=[],vararg:=ci,kwonlyargs:=[],kw_defaults:=[],kwarg:=ci,defaults:=[]}
noncomputable def gC(s:eL):List eL:=match s with|.FunctionDef _ _ b _ _ _ _ _ _ _=>b|_=>[]
noncomputable def au(s:eL):kf:=match s with|.FunctionDef _ _ _ _ _ _ a _ _ _=>a|_=>{kind:=.function,names:=[],isGenerator:=a_,isCoroutine:=a_}
noncomputable abbrev JL:MP:=λ_ _ _ _ _ _=>False
noncomputable abbrev E0:XK:=λ_ _ _=>False
theorem aa7{X:Cx}:Passes JL X E0:=λ_ _ _ _ _ _ _ h=>h.elim
structure gn(K:PySem.W.Frag)(x qual:Str)(st:eL)(f:cq)(fd:ii):Prop where
 ex:∃(oc:bx)(od:Option cq)(kV doc pm:bx)(an:Option cq)(cdv ct:bx)(osl:Array (Option bx)),fd=PySem.W.fnOf x qual (iY st) (gC st) (au st) .none kV doc pm an cdv ct/\K.lookup f=aU ⟨oc,od,.func fd,osl⟩/\PySem.W.codeIn K cdv qual=b_
 kp:keepIn K (.ref f)=b_
section
variable{P:df}{w:er}{K:PySem.W.Frag}{mg:Str->Option bx}{base:eF}
theorem gn.ok{x qual:Str}{st:eL}{f:cq}{fd:ii}{N ps:List Str}{k:Nat}{sp:Sp}(F:gn K x qual st f fd)(S:aJ N ps (au st))(len:∀vs H Q E,sp vs H Q E->vs.length=ps.length)(a:∀(cdv:bx)(A:ew)(outer:List Env)(s:cn)(H:Hp)(vs:List V)(Q:VK)(E:XK),jB k (A.deeper (lL qual (au st) s.heap.objs.size f cdv))->sp vs H Q E->∃t,xJ (zY JL P w K mg base N qual (au st) f cdv A outer s H E).nox (gC st) t/\t {nx:=λ_ c=>Q .non c,rt:=Q} (start N vs) H):oF P w K mg base JL (k+1) f fd ps sp:=by obtain⟨oc,i,kV,e,j,l,cdv,ct,g,rfl,lk,b⟩:=F.ex;refine aaK lk b S len λA outer s H vs Q E hr hsp=>?_;obtain⟨t,h,q⟩:=a cdv A outer s H vs Q E hr hsp;exact⟨t,h.nox,q⟩
theorem gn.binds{x qual:Str}{st:eL}{f:cq}{fd:ii}{ps:List Str}(F:gn K x qual st f fd)(h:∀(kV a b:bx)(c:Option cq)(cdv ct:bx)(us:List bx),us.length=ps.length->sf (PySem.W.fnOf x qual (iY st) (gC st) (au st) .none kV a b c cdv ct) ⟨us,[]⟩=fg (ps.zip us)):Binds K fd ps []:=by obtain⟨oc,i,kV,a,b,c,cdv,ct,e,rfl,lk,g⟩:=F.ex;exact .all (h kV a b c cdv ct)
theorem VJ{x qual:Str}{st:eL}{f:cq}{oc:bx}{h e:Option cq}{b:Array (Option bx)}{kV a g cdv ct:bx}(l:K.lookup f=aU ⟨oc,h,.func (PySem.W.fnOf x qual (iY st) (gC st) (au st) .none kV a g e cdv ct),b⟩)(c:PySem.W.codeIn K cdv qual=b_)(k:keepIn K (.ref f)=b_):gn K x qual st f (PySem.W.fnOf x qual (iY st) (gC st) (au st) .none kV a g e cdv ct):=⟨⟨oc,h,kV,a,g,e,cdv,ct,b,rfl,l,c⟩,k⟩
end
noncomputable def aH(H a:Hp):Prop:=∀b o,H b=aU o->a b=aU o
theorem aH.refl(H:Hp):aH H H:=λ_ _ h=>h
theorem aH.trans{H e f:Hp}(a:aH H e)(b:aH e f):aH H f:=λc o h=>b c o (a c o h)
theorem aH.seq{K:PySem.W.Frag}{H b:Hp}{a:cq}{xs:List V}(e:aH H b)(h:dO K H a xs):dO K b a xs:=by
 rcases h with(h|⟨o,h⟩)|h;.exact .inl (.inl (e _ _ h))
 .exact .inl (.inr ⟨o,e _ _ h⟩)
 .exact .inr h
end _L
namespace _H
open PySem
set_option genInjectivity true in inductive Dc where|k(kvs:List (Int×Int))|t(kvs:List (List Int×Int))deriving DecidableEq
set_option genInjectivity true in inductive D where|non|bl(b:Bool)|int(i:Int)|str(s:Str)|tup(ds:List D)|lst(ds:List D)|dH(m:Dc)|dv(ks:List Int)(ds:List D)deriving Inhabited
mutual
noncomputable def jW:D->D->Bool|.non,.non=>b_|.bl a,.bl b=>a==b|.bl a,.int i=>(if a then(1:Int)else 0)==i|.int i,.bl a=>i==(if a then(1:Int)else 0)|.int i,.int j=>i==j|.str a,.str b=>a==b|.tup xs,.tup ys=>j9 xs ys|.lst xs,.lst ys=>j9 xs ys|.dH a,.dH b=>decide (a=b)|.dv a xs,.dv b ys=>decide (a=b)&&j9 xs ys|_,_=>a_
noncomputable def j9:List D->List D->Bool|[],[]=>b_|x::xs,y::ys=>jW x y&&j9 xs ys|_,_=>a_
end
theorem lE:j9 [] []=b_:=rfl
theorem jc{x y:D}{xs ys:List D}:j9 (x::xs) (y::ys)=(jW x y&&j9 xs ys):=rfl
theorem rN{y:D}{ys:List D}:j9 [] (y::ys)=a_:=rfl
theorem rG{x:D}{xs:List D}:j9 (x::xs) []=a_:=rfl
theorem pqi{i j}:jW (.int i) (.int j)=(i==j):=(rfl)
theorem pqt{x y}:jW (.tup x) (.tup y)=j9 x y:=(rfl)
theorem pql{x y}:jW (.lst x) (.lst y)=j9 x y:=(rfl)
noncomputable def jj:Nat->D->Bool|_,.non=>b_|_,.bl _=>b_|_,.int _=>b_|_,.str _=>b_|0,.tup _=>a_|0,.lst _=>a_|_,.dH _=>a_|_,.dv _ _=>a_|n+1,.tup a=>a.all (jj n)|n+1,.lst a=>a.all (jj n)
theorem bT{n:Nat}{a:List D}:jj (n+1) (.tup a)=a.all (jj n):=rfl
theorem bN{n:Nat}{a:List D}:jj (n+1) (.lst a)=a.all (jj n):=rfl
theorem bU{n:Nat}{m:Dc}:jj n (.dH m)=a_:=by cases n<;>rfl
theorem bW{n:Nat}{k:List Int}{a:List D}:jj n (.dv k a)=a_:=by cases n<;>rfl
theorem bV{a:List D}:jj 0 (.tup a)=a_:=rfl
theorem bR{a:List D}:jj 0 (.lst a)=a_:=rfl
set_option genInjectivity true in inductive Sl where|aO|val(b:Bool)(d:D)|own(b:Bool)(ds:List D)|lent(ds:List D)|gV(m:Dc)|hold(rows:List (List D))|cM(kvs:List (Int×D))deriving Inhabited
set_option genInjectivity true in inductive R where|val(d:D)|own(ds:List D)deriving Inhabited
noncomputable def R.d:R->D|.val d=>d|.own a=>.lst a
set_option genInjectivity true in inductive Res(α:Type)where|ok(a:α)(ρ:List Sl)|exc(k:Nat)(ρ:List Sl)|stuck deriving Inhabited
noncomputable def Res.bind{b c:Type}(f:b->List Sl->Res c):Res b->Res c|.ok a ρ=>f a ρ|.exc _ _=>.stuck|.stuck=>.stuck
noncomputable def lift{b:Type}(o:Option b)(ρ:List Sl):Res b:=match o with|some a=>.ok a ρ|none=>.stuck
inductive Op where|add|sub|mul|fdiv|mod|pow|shl|shr|band|Ci|din|ag7
inductive Cm where|eq|ne|lt|le|gt|ge|isN|Hv|inn|abM|isT|abN|leT
inductive Ty where|int|bool|str|tuple|list|none
inductive Blt where|len|list|tuple|min2|max2|Cj|sum|all|int|Ru|keys|ZF|rvT|M7
inductive P where|var(i:Nat)|con(d:D)|bin(o:Op)(a b:P)|neg(a:P)|not(a:P)|and(a b:P)|or(a b:P)|cmp(o:Cm)(a b:P)|chain(o o':Cm)(a b c:P)|Tu(c a b:P)|tup(as:List P)|lst(as:List P)|idx(a i:P)|slice(a lo hi:P)|call(f:Nat)(as:List P)|blt(b:Blt)(as:List P)|inst(ts:List Ty)(a:P)|comp(src:P)(n:Nat)(is:List Nat)(one:Bool)(test:Option P)(elt:P)|xn(a b:P)|ZG(a:P)|zip(a b:P)|ZJ(x:Nat)(k d:P)|vw(x:Nat)|Tv(x:Nat)(k:P)|Tw(x:Nat)(k:P)(neg:Bool)|Ck(k e:Int)|zg(i:Nat)(a:P)(n:Nat)(is:List Nat)(one:Bool)(test:Option P)(elt:P)deriving Inhabited
noncomputable abbrev lim:Nat:=16777216
noncomputable def qL:D->D->Option R|.int i,.int j=>aU (.val (.int (i+j)))|.lst xs,.lst ys=>if xs.length+ys.length<=lim then aU (.own (xs++ys))else ci|.tup xs,.tup ys=>if xs.length+ys.length<=lim then aU (.val (.tup (xs++ys)))else ci|.str x,.str y=>if x.length+y.length<=lim then aU (.val (.str (x++y)))else ci|_,_=>ci
noncomputable def mQ:D->D->Option R|.int i,.int j=>if((-18446744073709551616<i/\i<18446744073709551616)\/(-18446744073709551616<j/\j<18446744073709551616))then aU (.val (.int (i*j)))else ci|.lst xs,.int k=>if 0<=k/\0<xs.length/\xs.length*k.toNat<=lim then aU (.own (cr k.toNat xs).flatten)else ci|.tup xs,.int k=>if 0<=k/\0<xs.length/\xs.length*k.toNat<=lim then aU (.val (.tup (cr k.toNat xs).flatten))else ci|_,_=>ci
noncomputable def ye:D->D->Option R|.int i,.int j=>aU (.val (.int (i-j)))|_,_=>ci
noncomputable def sV:D->D->Option R|.int i,.int j=>if 0<j/\j<1606938044258990275541962092341162602522202993782792835301376 then aU (.val (.int (i/j)))else ci|_,_=>ci
noncomputable def yj:D->D->Option R|.int i,.int j=>if 0<j then aU (.val (.int (i%j)))else ci|_,_=>ci
noncomputable def xY:D->D->Option R|.int i,.int j=>if 0<=j/\j<=1000/\i.natAbs<18446744073709551616 then aU (.val (.int (i^j.toNat)))else ci|_,_=>ci
noncomputable def JZ:D->D->Option R|.int i,.int j=>if 0<=j/\j<=1000/\i.natAbs<18446744073709551616 then aU (.val (.int (i*2^j.toNat)))else ci|_,_=>ci
noncomputable def Ma:D->D->Option R|.int i,.int j=>if 0<=j then aU (.val (.int (i/2^j.toNat)))else ci|_,_=>ci
noncomputable def Ay:D->D->Option R|.int i,.int j=>aU (.val (.int (Builtin.bitAnd i j)))|_,_=>ci
noncomputable def flat:D->Bool|.tup _=>a_|.lst _=>a_|.dH _=>a_|.dv _ _=>a_|_=>b_
noncomputable def items:D->Option (List D)|.lst a=>aU a|.tup a=>aU a|_=>ci
noncomputable def UL:D->Option (List D)|.tup a=>aU a|_=>ci
noncomputable def Ks(x y:D):Option Bool:=if jj 8 x&&jj 8 y then aU (jW x y)else ci
noncomputable def Ie(x y:D):Option Bool:=if jj 8 x&&jj 8 y then aU (!jW x y)else ci
noncomputable def NP(f:Int->Int->Bool):D->D->Option Bool|.int i,.int j=>aU (f i j)|_,_=>ci
noncomputable def iD:D->Bool|.non=>b_|_=>a_
noncomputable def Zg(neg:Bool)(x:D):D->Option Bool|.non=>aU (if neg then !iD x else iD x)|_=>ci
noncomputable def Jx(neg:Bool)(x y:D):Option Bool:=(items y).bind λys=>if(flat x&&ys.all flat)=b_ then aU (if neg then !(ys.any λy=>jW y x)else ys.any λy=>jW y x)else ci
noncomputable def cmT(neg:Bool):D->D->Option Bool|.bl b,.bl b_=>aU (if neg then !b else b)|_,_=>ci
noncomputable def bK:List Int->List Int->Bool|[],_::_=>b_|i::is,j::js=>decide (i<j)||(decide (i=j)&&bK is js)|_,[]=>a_
noncomputable def tR:D->Int|.int i=>i|_=>0
noncomputable def dm:D->List Int|.int i=>[i]|.tup a=>a.map tR|_=>[]
noncomputable def fB:D->Bool|.int _=>b_|_=>a_
noncomputable def Dc.get:Dc->D->Option (Option Int)|.k kvs,.int i=>aU ((kvs.find? λa=>decide (a.1=i)).map (·.2))|_,_=>ci
noncomputable def putD{κ:Type}[DecidableEq κ](kvs:List (κ×Int))(k:κ)(v:Int):List (κ×Int):=if(kvs.any λa=>decide (a.1=k))=b_ then kvs.map (λa=>if a.1=k then(a.1,v)else a)else kvs++[(k,v)]
noncomputable def Dc.put:Dc->D->Int->Option Dc|.k kvs,.int i,v=>if kvs.length<lim then aU (.k (putD kvs i v))else ci|_,_,_=>ci
noncomputable def lA(kvs:List (Int×D))(k:Int):Option D:=(kvs.find? λp=>decide (p.1=k)).map (·.2)
noncomputable def gq(kvs:List (Int×D))(k:Int)(d:D):List (Int×D):=if(kvs.any λp=>decide (p.1=k))=b_ then kvs.map (λp=>if p.1=k then(p.1,d)else p)else kvs++[(k,d)]
noncomputable def yK(neg:Bool):D->D->Option R|.int k,.dv ks _=>aU (.val (.bl (if neg then !ks.contains k else ks.contains k)))|_,_=>ci
noncomputable def FJ:D->D->Option R|.dH m,k=>(m.get k).bind λo=>o.map λv=>.val (.int v)|.dv ks a,.int k=>(lA (ks.zip a) k).map .val|_,_=>ci
noncomputable def tQ:Op->D->D->Option R|.add=>qL|.mul=>mQ|.sub=>ye|.fdiv=>sV|.mod=>yj|.pow=>xY|.shl=>JZ|.shr=>Ma|.band=>Ay|.Ci=>FJ|.din=>yK a_|.ag7=>yK b_
noncomputable def aba:D->D->Option Bool|.int i,.int j=>aU (decide (i<j))|.tup xs,.tup ys=>if(xs.all fB&&ys.all fB)=b_ then aU (bK (xs.map tR) (ys.map tR))else ci|_,_=>ci
noncomputable def aeR:D->D->Option Bool|.int i,.int j=>aU (decide (i<=j))|.tup xs,.tup ys=>if(xs.all fB&&ys.all fB)=b_ then aU (!bK (ys.map tR) (xs.map tR))else ci|_,_=>ci
noncomputable def cm:Cm->D->D->Option Bool|.eq=>Ks|.ne=>Ie|.lt=>aba|.le=>NP λi j=>decide (i<=j)|.leT=>aeR|.gt=>NP λi j=>decide (j<i)|.ge=>NP λi j=>decide (j<=i)|.isN=>Zg a_|.Hv=>Zg b_|.inn=>Jx a_|.abM=>Jx b_|.isT=>cmT a_|.abN=>cmT b_
noncomputable def oV(o:Cm)(x y:D):Option R:=(cm o x y).map λk=>.val (.bl k)
noncomputable def ik(n:Nat)(i:Int):Option Nat:=if 0<=i then(if i<n then aU i.toNat else ci)else if-(n:Int)<=i then aU (i+n).toNat else ci
noncomputable def at'{a:Type}(xs:List a)(i:Int):Option a:=(ik xs.length i).bind λj=>xs[j]?
noncomputable def dM(n d:Nat):Option Int->Nat|none=>d|some i=>if 0<=i then min i.toNat n else(i+n).toNat
noncomputable def cut{a:Type}(xs:List a)(lo hi:Option Int):List a:=(xs.drop (dM xs.length 0 lo)).take (dM xs.length xs.length hi-dM xs.length 0 lo)
noncomputable def iw:D->Option Int|.int i=>aU i|_=>ci
noncomputable def zE:D->Option Bool|.bl b=>aU b|_=>ci
noncomputable def dl2(k e:Int)(x y:D):Option R:=(iw x).bind λi=>(iw y).bind λj=>if i=k then ci else aU (.val (.dv [k,i] [.int e,.int j]))
noncomputable def lixR:D->D->Option R|.lst a,.int i=>(a.mapM iw).bind λns=>if i∈ns/\ns.length<=1000 then aU (.val (.int (ns.idxOf i)))else ci|_,_=>ci
noncomputable def GC(x y:D):Option R:=(items x).bind λa=>(iw y).bind λi=>(at' a i).map .val
noncomputable def K8(x:D):Option R:=(iw x).map λi=>.val (.int (-i))
noncomputable def Jh:P->Bool|.con .non=>b_|_=>a_
noncomputable def part(p:P)(d:D):Option (Option Int):=if Jh p then aU ci else(iw d).map aU
noncomputable def Ob:D->Option (Option Int)->Option (Option Int)->Option R|.lst xs,aU lo,aU hi=>aU (.own (cut xs lo hi))|.tup xs,aU lo,aU hi=>aU (.val (.tup (cut xs lo hi)))|_,_,_=>ci
noncomputable def cW:Ty->D->Bool|.int,.int _=>b_|.int,.bl _=>b_|.bool,.bl _=>b_|.str,.str _=>b_|.tuple,.tup _=>b_|.list,.lst _=>b_|.none,.non=>b_|_,_=>a_
noncomputable def xN:D->Bool|.tup (x::xs)=>(x::xs).all fB|_=>a_
noncomputable def sortable(ds:List D):Bool:=decide (ds.length<=16777216)&&(ds.all fB||ds.all xN)
noncomputable def R6(c:List D):List D:=c.mergeSort λa b=>!bK (dm b) (dm a)
noncomputable def ordP:D->Bool|.tup [.int _,.tup ws]=>ws.all fB|_=>a_
noncomputable def flP:D->D|.tup [.int h,.tup ws]=>.tup (.int h::ws)|d=>d
noncomputable def ufP:D->D|.tup (.int h::ws)=>.tup [.int h,.tup ws]|d=>d
noncomputable def zJ:D->Option (List D)|.lst a=>aU a|_=>ci
noncomputable def jC(p:Int×Int):D:=.tup [.int p.1,.int p.2]
noncomputable def blt:Blt->List D->Option R|.len,[x]=>(items x).map λc=>.val (.int c.length)|.list,[x]=>(items x).map λc=>.own c|.tuple,[x]=>(items x).map λc=>.val (.tup c)|.min2,[.int i,.int j]=>aU (.val (.int (if j<i then j else i)))|.max2,[.int i,.int j]=>aU (.val (.int (if i<j then j else i)))|.Cj,[x]=>((items x).bind λc=>c.mapM iw).bind λns=>ns.min?.map λi=>.val (.int i)|.sum,[x]=>((items x).bind λc=>c.mapM iw).map λns=>.val (.int ns.sum)|.all,[x]=>((zJ x).bind λc=>c.mapM zE).map λbs=>.val (.bl (bs.all id))|.int,[.int i]=>aU (.val (.int i))|.int,[.bl b]=>aU (.val (.int (if b then 1 else 0)))|.Ru,[.lst c]=>aU (.own c.reverse)|.keys,[.dH (.k kvs)]=>aU (.val (.tup (kvs.map λp=>.int p.1)))|.keys,[.dv ks _]=>aU (.val (.tup (ks.map D.int)))|.ZF,[.dv ks _]=>if ks.length<=16777216 then aU (.own (ks.map D.int))else ci|.rvT,[.lst c]=>aU (.val (.tup c.reverse))|.M7,[.dH (.k kvs)]=>if kvs.length<=16777216/\kvs.Pairwise (λa b=>a.1<b.1)then aU (.own (kvs.map jC))else ci|_,_=>ci
noncomputable def pk(ρ:List Sl)(i:Nat):Option D:=match ρ[i]?with|some (.val _ d)=>aU d|some (.own _ a)=>aU (.lst a)|some (.lent a)=>aU (.lst a)|_=>ci
noncomputable def HX(ρ:List Sl)(i:Nat):Option (List D):=match pk ρ i with|some (.lst a)=>aU a|_=>ci
noncomputable abbrev Ev:=List Sl->Res R
noncomputable def isVar:P->Option Nat|.var i=>aU i|_=>ci
noncomputable def cJ(i:Option Nat)(e:Ev)(ρ:List Sl):Res D:=match i with|some i=>lift (pk ρ i) ρ|none=>(e ρ).bind λr ρ=>.ok r.d ρ
noncomputable def iG(i:Option Nat)(e:Ev)(j:Option Nat)(f:Ev)(ρ:List Sl):Res (D×D):=match i with|some i=>(lift (pk ρ i) ρ).bind λ_ ρ=>(cJ j f ρ).bind λy ρ=>(lift (pk ρ i) ρ).bind λx ρ=>.ok (x,y) ρ|none=>(cJ ci e ρ).bind λx ρ=>(cJ j f ρ).bind λy ρ=>.ok (x,y) ρ
noncomputable def iR(e:Ev)(ρ:List Sl):Res Bool:=(e ρ).bind λr ρ=>lift (zE r.d) ρ
set_option genInjectivity true in inductive Arg where|dat(d:D)|tmp(ds:List D)|fL(i:Nat)
noncomputable def uf:R->Arg|.val d=>.dat d|.own a=>.tmp a
noncomputable def cz(ρ:List Sl):List Arg->List Nat->Option (List Sl)|[],_=>aU []|.dat d::r,a=>(cz ρ r a).map λs=>.val a_ d::s|.tmp b::r,a=>(cz ρ r a).map λs=>.own a_ b::s|.fL i::r,a=>match ρ[i]?with|some (.val _ d)=>(cz ρ r a).map λs=>.val a_ d::s|some (.own _ b)=>if a.contains i then ci else(cz ρ r (i::a)).map λs=>.own b_ b::s|some (.lent b)=>if a.contains i then ci else(cz ρ r (i::a)).map λs=>.lent b::s|_=>ci
theorem Bd{ρ:List Sl}{u:List Nat}:cz ρ [] u=aU []:=rfl
theorem BZ{ρ:List Sl}{d:D}{r:List Arg}{u:List Nat}:cz ρ (.dat d::r) u=(cz ρ r u).map λs=>.val a_ d::s:=rfl
theorem zN{ρ:List Sl}{d:List D}{r:List Arg}{u:List Nat}:cz ρ (.tmp d::r) u=(cz ρ r u).map λs=>.own a_ d::s:=rfl
theorem qm{ρ:List Sl}{i:Nat}{r:List Arg}{u:List Nat}:cz ρ (.fL i::r) u=match ρ[i]?with|some (.val _ d)=>(cz ρ r u).map λs=>.val a_ d::s|some (.own _ a)=>if u.contains i then ci else(cz ρ r (i::u)).map λs=>.own b_ a::s|some (.lent a)=>if u.contains i then ci else(cz ρ r (i::u)).map λs=>.lent a::s|_=>ci:=rfl
noncomputable def aY(i:Nat):List Arg->List Sl->Option Sl|.fL k::as,s::ss=>if k=i then aU s else aY i as ss|.dat _::as,_::ss=>aY i as ss|.tmp _::as,_::ss=>aY i as ss|_,_=>ci
noncomputable def eG:Sl->Option Sl->Sl|.own b _,aU (.own _ a)=>.own b a|.own b _,aU (.val _ d)=>.val b d|s,_=>s
noncomputable def eZ(as:List Arg)(ss:List Sl):Nat->List Sl->List Sl|_,[]=>[]|i,s::ρ=>eG s (aY i as ss)::eZ as ss (i+1) ρ
theorem qY{as:List Arg}{ss:List Sl}{i:Nat}:eZ as ss i []=[]:=rfl
theorem lH{as:List Arg}{ss:List Sl}{i:Nat}{s:Sl}{ρ:List Sl}:eZ as ss i (s::ρ)=eG s (aY i as ss)::eZ as ss (i+1) ρ:=rfl
noncomputable abbrev Call:=Nat->List Sl->Res R
noncomputable def rB(c:Call)(f:Nat)(as:List Arg)(ρ:List Sl):Res R:=match cz ρ as []with|none=>.stuck|some args=>match c f args with|.ok r a=>.ok r (eZ as a 0 ρ)|.exc _ _=>.stuck|.stuck=>.stuck
noncomputable def put(ρ:List Sl)(i:Nat)(s:Sl):Option (List Sl):=match ρ[i]?with|some .aO=>aU (ρ.set i s)|some (.val a_ _)=>aU (ρ.set i s)|some (.own a_ _)=>aU (ρ.set i s)|_=>ci
noncomputable def putAll(ρ:List Sl):List Nat->List D->Option (List Sl)|[],[]=>aU ρ|i::is,d::a=>(put ρ i (.val a_ d)).bind λρ=>putAll ρ is a|_,_=>ci
theorem jE{ρ:List Sl}:putAll ρ [] []=aU ρ:=rfl
theorem iV{ρ:List Sl}{i:Nat}{is:List Nat}{d:D}{a:List D}:putAll ρ (i::is) (d::a)=(put ρ i (.val a_ d)).bind λρ=>putAll ρ is a:=rfl
theorem oG{ρ:List Sl}{i:Nat}{is:List Nat}:putAll ρ (i::is) []=ci:=rfl
theorem n6{ρ:List Sl}{d:D}{a:List D}:putAll ρ [] (d::a)=ci:=rfl
noncomputable def cL(ρ:List Sl)(is:List Nat)(one:Bool)(d:D):Option (List Sl):=match one,is,d with|true,[i],d=>put ρ i (.val a_ d)|false,is,.tup a=>putAll ρ is a|_,_,_=>ci
noncomputable def srcOf(i:Option Nat)(e:Ev)(ρ:List Sl):Res (List D):=match i with
 |some i=>match ρ[i]?with|some (.val _ d)=>lift (items d) ρ|some (.own _ a)=>.ok a (ρ.set i (.lent a))|some (.lent a)=>.ok a ρ|_=>.stuck
 |none=>(e ρ).bind λr ρ=>lift (items r.d) ρ
noncomputable def aW(a:List Sl)(i:Option Nat)(ρ:List Sl):List Sl:=match i with
 |some i=>match a[i]?with|some (.own b c)=>ρ.set i (.own b c)|_=>ρ
 |none=>ρ
noncomputable def JX(i:Nat)(f:Ev)(ρ:List Sl):Res (List D×List Sl):=(f ρ).bind λr a=>(lift (items r.d) a).bind λes a=>match a[i]?with|some (.val _ d)=>(lift (items d) a).bind λb a=>.ok ((es.zip b).map λp=>D.tup [p.1,p.2],a) a|some (.own _ b)=>.ok ((es.zip b).map λp=>D.tup [p.1,p.2],a) (a.set i (.lent b))|some (.lent b)=>.ok ((es.zip b).map λp=>D.tup [p.1,p.2],a) a|_=>.stuck
noncomputable def turns(is:List Nat)(one:Bool)(a:List Sl->Res Bool)(e:Ev):List D->List D->List Sl->Res (List D)|[],c,ρ=>.ok c ρ|d::r,c,ρ=>match cL ρ is one d with|none=>.stuck|some ρ=>(a ρ).bind λb ρ=>if b then(e ρ).bind λx ρ=>turns is one a e r (c++[x.d]) ρ else turns is one a e r c ρ
theorem Bs{is:List Nat}{o:Bool}{f:List Sl->Res Bool}{e:Ev}{a:List D}{ρ:List Sl}:turns is o f e [] a ρ=.ok a ρ:=rfl
theorem Aj{is:List Nat}{o:Bool}{f:List Sl->Res Bool}{e:Ev}{d:D}{r a:List D}{ρ:List Sl}:turns is o f e (d::r) a ρ=match cL ρ is o d with|none=>.stuck|some ρ=>(f ρ).bind λb ρ=>if b then(e ρ).bind λx ρ=>turns is o f e r (a++[x.d]) ρ else turns is o f e r a ρ:=rfl
mutual
noncomputable def ev(c:Call):P->List Sl->Res R
 |.var i,ρ=>match ρ[i]?with|some (.val _ d)=>.ok (.val d) ρ|some (.own b q)=>.ok (.val (.lst q)) (ρ.set i (.val b (.lst q)))|some (.gV (.k kvs))=>.ok (.val (.dH (.k kvs))) (ρ.set i (.val a_ (.dH (.k kvs))))|some (.cM kvs)=>.ok (.val (.dv (kvs.map (·.1)) (kvs.map (·.2)))) (ρ.set i (.val a_ (.dv (kvs.map (·.1)) (kvs.map (·.2)))))|_=>.stuck
 |.con d,ρ=>.ok (.val d) ρ|.bin o a b,ρ=>(iG (isVar a) (ev c a) (isVar b) (ev c b) ρ).bind λs ρ=>lift (tQ o s.1 s.2) ρ|.neg a,ρ=>(cJ (isVar a) (ev c a) ρ).bind λx ρ=>lift (K8 x) ρ|.not a,ρ=>(iR (ev c a) ρ).bind λb ρ=>.ok (.val (.bl (!b))) ρ|.and a b,ρ=>(iR (ev c a) ρ).bind λx ρ=>if x then(iR (ev c b) ρ).bind λy ρ=>.ok (.val (.bl y)) ρ else .ok (.val (.bl a_)) ρ|.or a b,ρ=>(iR (ev c a) ρ).bind λx ρ=>if x then .ok (.val (.bl b_)) ρ else(iR (ev c b) ρ).bind λy ρ=>.ok (.val (.bl y)) ρ|.cmp o a b,ρ=>(iG (isVar a) (ev c a) (isVar b) (ev c b) ρ).bind λs ρ=>lift (oV o s.1 s.2) ρ|.chain o E a b d,ρ=>(iG (isVar a) (ev c a) (isVar b) (ev c b) ρ).bind λs ρ=>(lift (if flat s.2=b_ then cm o s.1 s.2 else ci) ρ).bind λk ρ=>if k then(cJ (isVar d) (ev c d) ρ).bind λz ρ=>lift (oV E s.2 z) ρ else .ok (.val (.bl a_)) ρ|.Tu t a b,ρ=>(iR (ev c t) ρ).bind λk ρ=>if k then(ev c a ρ).bind λr ρ=>.ok (.val r.d) ρ else(ev c b ρ).bind λr ρ=>.ok (.val r.d) ρ|.tup as,ρ=>(evs c as ρ).bind λq ρ=>.ok (.val (.tup q)) ρ|.lst as,ρ=>(evs c as ρ).bind λq ρ=>.ok (.own q) ρ|.idx a i,ρ=>(iG (isVar a) (ev c a) (isVar i) (ev c i) ρ).bind λs ρ=>lift (GC s.1 s.2) ρ|.slice a l h,ρ=>match isVar a with|some i=>(lift (pk ρ i) ρ).bind λ_ ρ=>(cJ (isVar l) (ev c l) ρ).bind λy ρ=>(cJ (isVar h) (ev c h) ρ).bind λz ρ=>(lift (pk ρ i) ρ).bind λx ρ=>lift (Ob x (part l y) (part h z)) ρ|none=>(cJ ci (ev c a) ρ).bind λx ρ=>(cJ (isVar l) (ev c l) ρ).bind λy ρ=>(cJ (isVar h) (ev c h) ρ).bind λz ρ=>lift (Ob x (part l y) (part h z)) ρ
 |.call f as,ρ=>(Ce c as ρ).bind λxs ρ=>rB c f xs ρ|.blt b [a],ρ=>(cJ (isVar a) (ev c a) ρ).bind λx ρ=>lift (blt b [x]) ρ|.blt b as,ρ=>(evs c as ρ).bind λq ρ=>lift (blt b q) ρ|.inst G a,ρ=>(cJ (isVar a) (ev c a) ρ).bind λx ρ=>.ok (.val (.bl (G.any λt=>cW t x))) ρ|.comp src n is one w A,ρ=>(srcOf (isVar src) (ev c src) ρ).bind λq g=>if q.length<=lim then(turns is one (o6 c w) (ev c A) q [] (g++cr n .aO)).bind λxs u=>.ok (.own xs) (aW ρ (isVar src) (u.take g.length))else .stuck|.xn a b,ρ=>(iG (isVar a) (ev c a) (isVar b) (ev c b) ρ).bind λs ρ=>lift ((iw s.1).bind λi=>(iw s.2).bind λj=>if-1000000<=i/\i<=1000000000/\j<=1000000000/\-1000000000<=j then aU (.val (.lst ((dS (j-i).toNat).map λ(k:Nat)=>D.int (i+(k:Int)))))else ci) ρ|.ZG a,ρ=>(ev c a ρ).bind λr ρ=>lift ((items r.d).map λq=>.val (.lst (q.mapIdx λi d=>D.tup [.int (i:Int),d]))) ρ|.zip a b,ρ=>(ev c a ρ).bind λx ρ=>(ev c b ρ).bind λy ρ=>lift ((items x.d).bind λq=>(items y.d).map λes=>.val (.lst ((q.zip es).map λp=>D.tup [p.1,p.2]))) ρ|.ZJ x k d,ρ=>match ρ[x]?with
   |some (.gV _)=>(cJ (isVar k) (ev c k) ρ).bind λB ρ=>(cJ (isVar d) (ev c d) ρ).bind λH ρ=>match ρ[x]?with|some (.gV m)=>lift ((m.get B).bind λo=>(iw H).map λv=>.val (.int (o.getD v))) ρ|_=>.stuck
   |_=>.stuck
 |.vw x,ρ=>match ρ[x]?with|some (.gV m)=>.ok (.val (.dH m)) (ρ.set x (.val a_ (.dH m)))|some (.cM kvs)=>.ok (.val (.dv (kvs.map (·.1)) (kvs.map (·.2)))) (ρ.set x (.val a_ (.dv (kvs.map (·.1)) (kvs.map (·.2)))))|some (.own b q)=>.ok (.val (.lst q)) (ρ.set x (.val b (.lst q)))|some (.val _ d)=>.ok (.val d) ρ|_=>.stuck
 |.Tv x k,ρ=>match ρ[x]?with
   |some (.cM _)=>(cJ (isVar k) (ev c k) ρ).bind λB ρ=>match ρ[x]?with|some (.cM kvs)=>lift ((iw B).bind λk=>(lA kvs k).map .val) ρ|_=>.stuck
   |_=>.stuck
 |.Tw x k neg,ρ=>(cJ (isVar k) (ev c k) ρ).bind λB ρ=>match ρ[x]?with|some (.cM kvs)=>lift ((iw B).map λk=>.val (.bl (if neg then !(kvs.map (·.1)).contains k else(kvs.map (·.1)).contains k))) ρ|_=>.stuck
 |.Ck k e,ρ=>.ok (.val (.dv [k] [.int e])) ρ|.zg i a n is one w A,ρ=>(JX i (ev c a) ρ).bind λC g=>if C.1.length<=lim then(turns is one (o6 c w) (ev c A) C.1 [] (g++cr n .aO)).bind λxs u=>.ok (.own xs) (aW C.2 (aU i) (u.take g.length))else .stuck
noncomputable def evs(c:Call):List P->List Sl->Res (List D)|[],ρ=>.ok [] ρ|a::r,ρ=>(ev c a ρ).bind λx ρ=>(evs c r ρ).bind λxs ρ=>.ok (x.d::xs) ρ
noncomputable def Ce(c:Call):List P->List Sl->Res (List Arg)|[],ρ=>.ok [] ρ|a::r,ρ=>match isVar a with|some i=>(lift (pk ρ i) ρ).bind λ_ ρ=>(Ce c r ρ).bind λxs ρ=>.ok (.fL i::xs) ρ|none=>(ev c a ρ).bind λx ρ=>(Ce c r ρ).bind λxs ρ=>.ok (uf x::xs) ρ
noncomputable def o6(c:Call):Option P->List Sl->Res Bool|none,ρ=>.ok b_ ρ|some t,ρ=>iR (ev c t) ρ
end
theorem Ib{c:Call}{ρ:List Sl}:evs c [] ρ=.ok [] ρ:=rfl
theorem Ju{c:Call}{a:P}{r:List P}{ρ:List Sl}:evs c (a::r) ρ=(_H.ev c a ρ).bind λx ρ=>(evs c r ρ).bind λxs ρ=>.ok (x.d::xs) ρ:=rfl
theorem MN{c:Call}{ρ:List Sl}:Ce c [] ρ=.ok [] ρ:=rfl
theorem Ak{c:Call}{a:P}{r:List P}{ρ:List Sl}:Ce c (a::r) ρ=match isVar a with|some i=>(lift (pk ρ i) ρ).bind λ_ ρ=>(Ce c r ρ).bind λxs ρ=>.ok (.fL i::xs) ρ|none=>(_H.ev c a ρ).bind λx ρ=>(Ce c r ρ).bind λxs ρ=>.ok (uf x::xs) ρ:=rfl
theorem E1{c i ρ}:ev c (.var i) ρ=match ρ[i]?with|some (.val _ d)=>.ok (.val d) ρ|some (.own b a)=>.ok (.val (.lst a)) (ρ.set i (.val b (.lst a)))|some (.gV (.k kvs))=>.ok (.val (.dH (.k kvs))) (ρ.set i (.val a_ (.dH (.k kvs))))|some (.cM kvs)=>.ok (.val (.dv (kvs.map (·.1)) (kvs.map (·.2)))) (ρ.set i (.val a_ (.dv (kvs.map (·.1)) (kvs.map (·.2)))))|_=>.stuck:=(rfl)
theorem E2{c d ρ}:ev c (.con d) ρ=.ok (.val d) ρ:=(rfl)
theorem E3{c o a b ρ}:ev c (.bin o a b) ρ=(iG (isVar a) (ev c a) (isVar b) (ev c b) ρ).bind λe ρ=>lift (tQ o e.1 e.2) ρ:=(rfl)
theorem E4{c a ρ}:ev c (.neg a) ρ=(cJ (isVar a) (ev c a) ρ).bind λx ρ=>lift (K8 x) ρ:=(rfl)
theorem E5{c a ρ}:ev c (.not a) ρ=(iR (ev c a) ρ).bind λb ρ=>.ok (.val (.bl (!b))) ρ:=(rfl)
theorem E6{c a b ρ}:ev c (.and a b) ρ=(iR (ev c a) ρ).bind λx ρ=>if x then(iR (ev c b) ρ).bind λy ρ=>.ok (.val (.bl y)) ρ else .ok (.val (.bl a_)) ρ:=(rfl)
theorem E7{c a b ρ}:ev c (.or a b) ρ=(iR (ev c a) ρ).bind λx ρ=>if x then .ok (.val (.bl b_)) ρ else(iR (ev c b) ρ).bind λy ρ=>.ok (.val (.bl y)) ρ:=(rfl)
theorem E8{c o a b ρ}:ev c (.cmp o a b) ρ=(iG (isVar a) (ev c a) (isVar b) (ev c b) ρ).bind λe ρ=>lift (oV o e.1 e.2) ρ:=(rfl)
theorem E9{c o o' a b d ρ}:ev c (.chain o o' a b d) ρ=(iG (isVar a) (ev c a) (isVar b) (ev c b) ρ).bind λe ρ=>(lift (if flat e.2=b_ then cm o e.1 e.2 else ci) ρ).bind λk ρ=>if k then(cJ (isVar d) (ev c d) ρ).bind λz ρ=>lift (oV o' e.2 z) ρ else .ok (.val (.bl a_)) ρ:=(rfl)
theorem E10{c t a b ρ}:ev c (.Tu t a b) ρ=(iR (ev c t) ρ).bind λk ρ=>if k then(ev c a ρ).bind λr ρ=>.ok (.val r.d) ρ else(ev c b ρ).bind λr ρ=>.ok (.val r.d) ρ:=(rfl)
theorem E11{c as ρ}:ev c (.tup as) ρ=(evs c as ρ).bind λa ρ=>.ok (.val (.tup a)) ρ:=(rfl)
theorem E12{c as ρ}:ev c (.lst as) ρ=(evs c as ρ).bind λa ρ=>.ok (.own a) ρ:=(rfl)
theorem E13{c a i ρ}:ev c (.idx a i) ρ=(iG (isVar a) (ev c a) (isVar i) (ev c i) ρ).bind λb ρ=>lift (GC b.1 b.2) ρ:=(rfl)
theorem E14{c a l h ρ}:ev c (.slice a l h) ρ=match isVar a with|some i=>(lift (pk ρ i) ρ).bind λ_ ρ=>(cJ (isVar l) (ev c l) ρ).bind λy ρ=>(cJ (isVar h) (ev c h) ρ).bind λz ρ=>(lift (pk ρ i) ρ).bind λx ρ=>lift (Ob x (part l y) (part h z)) ρ|none=>(cJ ci (ev c a) ρ).bind λx ρ=>(cJ (isVar l) (ev c l) ρ).bind λy ρ=>(cJ (isVar h) (ev c h) ρ).bind λz ρ=>lift (Ob x (part l y) (part h z)) ρ:=(rfl)
theorem E15{c f as ρ}:ev c (.call f as) ρ=(Ce c as ρ).bind λxs ρ=>rB c f xs ρ:=(rfl)
theorem E16{c b a ρ}:ev c (.blt b [a]) ρ=(cJ (isVar a) (ev c a) ρ).bind λx ρ=>lift (blt b [x]) ρ:=(rfl)
theorem E17{c b x y r ρ}:ev c (.blt b (x::y::r)) ρ=(evs c (x::y::r) ρ).bind λa ρ=>lift (blt b a) ρ:=(rfl)
theorem aaI{c b ρ}:ev c (.blt b []) ρ=(evs c [] ρ).bind λa ρ=>lift (blt b a) ρ:=(rfl)
theorem E18{c ts a ρ}:ev c (.inst ts a) ρ=(cJ (isVar a) (ev c a) ρ).bind λx ρ=>.ok (.val (.bl (ts.any λt=>cW t x))) ρ:=(rfl)
theorem E19{c src n is one test elt ρ}:ev c (.comp src n is one test elt) ρ=(srcOf (isVar src) (ev c src) ρ).bind λe a=>if e.length<=lim then(turns is one (o6 c test) (ev c elt) e [] (a++cr n .aO)).bind λxs b=>.ok (.own xs) (aW ρ (isVar src) (b.take a.length))else .stuck:=(rfl)
theorem E20{c a b ρ}:ev c (.xn a b) ρ=(iG (isVar a) (ev c a) (isVar b) (ev c b) ρ).bind λe ρ=>lift ((iw e.1).bind λi=>(iw e.2).bind λj=>if-1000000<=i/\i<=1000000000/\j<=1000000000/\-1000000000<=j then aU (.val (.lst ((dS (j-i).toNat).map λ(k:Nat)=>D.int (i+(k:Int)))))else ci) ρ:=(rfl)
theorem E21{c a ρ}:ev c (.ZG a) ρ=(ev c a ρ).bind λr ρ=>lift ((items r.d).map λb=>.val (.lst (b.mapIdx λi d=>D.tup [.int (i:Int),d]))) ρ:=(rfl)
theorem E22{c a b ρ}:ev c (.zip a b) ρ=(ev c a ρ).bind λx ρ=>(ev c b ρ).bind λy ρ=>lift ((items x.d).bind λe=>(items y.d).map λes=>.val (.lst ((e.zip es).map λp=>D.tup [p.1,p.2]))) ρ:=(rfl)
theorem E23{c x k d ρ}:ev c (.ZJ x k d) ρ=match ρ[x]?with
 |some (.gV _)=>(cJ (isVar k) (ev c k) ρ).bind λa ρ=>(cJ (isVar d) (ev c d) ρ).bind λb ρ=>match ρ[x]?with|some (.gV m)=>lift ((m.get a).bind λo=>(iw b).map λv=>.val (.int (o.getD v))) ρ|_=>.stuck
 |_=>.stuck:=(rfl)
theorem E24{c x ρ}:ev c (.vw x) ρ=match ρ[x]?with|some (.gV m)=>.ok (.val (.dH m)) (ρ.set x (.val a_ (.dH m)))|some (.cM kvs)=>.ok (.val (.dv (kvs.map (·.1)) (kvs.map (·.2)))) (ρ.set x (.val a_ (.dv (kvs.map (·.1)) (kvs.map (·.2)))))|some (.own b a)=>.ok (.val (.lst a)) (ρ.set x (.val b (.lst a)))|some (.val _ d)=>.ok (.val d) ρ|_=>.stuck:=(rfl)
theorem E25{c x k ρ}:ev c (.Tv x k) ρ=match ρ[x]?with
 |some (.cM _)=>(cJ (isVar k) (ev c k) ρ).bind λa ρ=>match ρ[x]?with|some (.cM kvs)=>lift ((iw a).bind λk=>(lA kvs k).map .val) ρ|_=>.stuck
 |_=>.stuck:=(rfl)
theorem E26{c x k neg ρ}:ev c (.Tw x k neg) ρ=(cJ (isVar k) (ev c k) ρ).bind λa ρ=>match ρ[x]?with|some (.cM kvs)=>lift ((iw a).map λk=>.val (.bl (if neg then !(kvs.map (·.1)).contains k else(kvs.map (·.1)).contains k))) ρ|_=>.stuck:=(rfl)
theorem E27{c k e ρ}:ev c (.Ck k e) ρ=.ok (.val (.dv [k] [.int e])) ρ:=(rfl)
theorem E28{c i a n is one test elt ρ}:ev c (.zg i a n is one test elt) ρ=(JX i (ev c a) ρ).bind λf b=>if f.1.length<=lim then(turns is one (o6 c test) (ev c elt) f.1 [] (b++cr n .aO)).bind λxs e=>.ok (.own xs) (aW f.2 (aU i) (e.take b.length))else .stuck:=(rfl)
noncomputable def pckA(c:Call)(f p x t:Nat)(ρ:List Sl):Res R:=match pk ρ x with|some (.lst (_::_))=>ev c (.call f [.var p,.var x,.var t]) ρ|some (.lst [])=>ev c (.call f [.var p,.lst [.con (.int 0)],.var t]) ρ|_=>.stuck
inductive S where|pass|brk|cont|bad|expr(e:P)|asg(i:Nat)(e:P)|par(i j:Nat)(a b:P)|wW(x:Nat)(i e:P)|app(x:Nat)(e:P)|ret(e:P)|abO|ifs(c:P)(a b:List S)|fX(src:P)(i:List Nat)(one:Bool)(body:List S)|whl(c:P)(body:List S)|aug(x:Nat)(sub:Bool)(e:P)|Hw(x:Nat)(i:P)(sub:Bool)(e:P)|M8(x:Nat)(t:Bool)|dput(x:Nat)(k e:P)|M9(x:Nat)(src:P)(k:Nat)(is:List Nat)(one:Bool)(elt:P)|Nb(x:Nat)(i e:P)|Hx(src:P)(is:List Nat)(one:Bool)(body:List S)|dB(x:Nat)|Hy(x:Nat)|Nf(x:Nat)(k e:Int)|gq(x:Nat)(k e:P)deriving Inhabited
inductive Fl where|next|brk|cont|ret(r:R)deriving Inhabited
noncomputable def Yw:Nat->D->Bool|_,.non=>b_|_,.bl _=>b_|_,.int _=>b_|_,.str _=>b_|k+1,.tup a=>a.all (Yw k)|_,_=>a_
noncomputable def tldF(c:Call)(x y f g a:Nat)(ρ:List Sl):Res Fl:=match ρ[a]?with|some (.val _ d)=>if Yw 3 d=b_/\a≠x then(lift (put ρ x .aO) ρ).bind λb _=>match c f [.val a_ d]with|.ok (.val (.tup [.int z,.lst e,.tup es])) _=>if e.all fB=b_/\es.all fB=b_/\e.length<1000 then match c g [.val a_ d,.val a_ (.tup [.int z,.lst e,.tup es])]with|.ok (.val (.bl b_)) _=>(lift (put b y (.val a_ (.tup [.int z,.lst e,.tup es]))) b).bind λh _=>.ok .next h|.ok (.val (.bl a_)) _=>.ok (.ret (.val (.bl a_))) b|_=>.stuck else .stuck|_=>.stuck else .stuck|_=>.stuck
noncomputable def lfs:Sl->Bool|.aO=>b_|.val _ d=>Yw 9 d|_=>a_
noncomputable def scl:D->Bool|.bl _=>b_|.int _=>b_|.non=>b_|_=>a_
noncomputable def DY:Sl->Sl|.val b d=>if Yw 9 d=b_ then .val b d else .aO|_=>.aO
noncomputable def vlS:Sl->Bool|.aO=>b_|.val _ _=>b_|_=>a_
noncomputable def lckS:Sl->Sl|.val b d=>if Yw 9 d=b_ then .val b d else .val b_ d|s=>s
noncomputable def aaG:Sl->Sl->Sl|.val b d,t=>if Yw 9 d=b_ then DY t else .val b d|_,t=>DY t
noncomputable def Z0(a b:List Sl):List Sl:=List.zipWith aaG a b
noncomputable def aaX:D->Bool
 |.lst a=>decide (a.length<1000)&&a.all λr=>match r with|.lst is=>is.all fB&&decide (3<=is.length)|_=>a_
 |_=>a_
noncomputable def wrkT(b:List Sl)(x o v:Nat)(fl:Fl)(a:List Sl):Res Fl:=match fl with
 |.ret (.val d)=>if scl d=b_ then .ok (.ret (.val d)) (Z0 b a)else .stuck|.next=>match a[v]?,a[x]?with|some (.val _ (.int i)),aU (.val b_ d)=>if(i≠0\/aaX d=b_)/\o≠x/\o≠v then .ok .next (((Z0 b a).set o .aO).set x .aO)else .stuck|_,_=>.stuck
 |_=>.stuck
noncomputable def fshT(y a b:Nat)(fl:Fl)(ρ:List Sl):Res Fl:=match fl with
 |.ret (.val d)=>if scl d=b_ then .ok (.ret (.val d)) (ρ.map DY)else .stuck|.next=>match ρ[a]?,ρ[b]?with|some (.val a_ (.lst c)),aU (.val a_ (.lst es))=>if c.all fB=b_/\es.all fB=b_/\c.length<1000/\0<es.length/\a≠y/\b≠y then(lift (put (ρ.map DY) y (.val a_ (.tup [.lst c,.lst es]))) ρ).bind λe _=>.ok .next e else .stuck|_,_=>.stuck
 |_=>.stuck
noncomputable def zG:R->Sl|.val d=>.val a_ d|.own a=>.own a_ a
noncomputable def jf(is:List Nat)(one:Bool)(body:List Sl->Res Fl):List D->List Sl->Res Fl|[],ρ=>.ok .next ρ|d::r,ρ=>match cL ρ is one d with|none=>.stuck|some ρ=>(body ρ).bind λfl ρ=>match fl with|.next=>jf is one body r ρ|.cont=>jf is one body r ρ|.brk=>.ok .next ρ|.ret r=>.ok (.ret r) ρ
theorem Jv{is:List Nat}{o:Bool}{b:List Sl->Res Fl}{ρ:List Sl}:jf is o b [] ρ=.ok .next ρ:=rfl
theorem BV{is:List Nat}{o:Bool}{b:List Sl->Res Fl}{d:D}{r:List D}{ρ:List Sl}:jf is o b (d::r) ρ=match cL ρ is o d with|none=>.stuck|some ρ=>(b ρ).bind λfl ρ=>match fl with|.next=>jf is o b r ρ|.cont=>jf is o b r ρ|.brk=>.ok .next ρ|.ret r=>.ok (.ret r) ρ:=rfl
noncomputable def qd(a:List Sl->Res Bool)(body:List Sl->Res Fl):Nat->List Sl->Res Fl|0,_=>.stuck|n+1,ρ=>(a ρ).bind λb ρ=>if b then(body ρ).bind λfl ρ=>match fl with|.next=>qd a body n ρ|.cont=>qd a body n ρ|.brk=>.ok .next ρ|.ret r=>.ok (.ret r) ρ else .ok .next ρ
theorem Up{f:List Sl->Res Bool}{b:List Sl->Res Fl}{ρ:List Sl}:qd f b 0 ρ=.stuck:=rfl
theorem Mt{f:List Sl->Res Bool}{b:List Sl->Res Fl}{n:Nat}{ρ:List Sl}:qd f b (n+1) ρ=(f ρ).bind λx ρ=>if x then(b ρ).bind λfl ρ=>match fl with|.next=>qd f b n ρ|.cont=>qd f b n ρ|.brk=>.ok .next ρ|.ret r=>.ok (.ret r) ρ else .ok .next ρ:=rfl
noncomputable def gO(is:List Nat)(one:Bool)(b:Ev):List D->List (List D)->List Sl->Res (List (List D))|[],a,ρ=>.ok a ρ|d::r,a,ρ=>match cL ρ is one d with|none=>.stuck|some ρ=>(b ρ).bind λx ρ=>match x with|.own c=>gO is one b r (a++[c]) ρ|.val _=>.stuck
theorem Mr{is:List Nat}{o:Bool}{e:Ev}{a:List (List D)}{ρ:List Sl}:gO is o e [] a ρ=.ok a ρ:=rfl
theorem Ly{is:List Nat}{o:Bool}{e:Ev}{d:D}{r:List D}{a:List (List D)}{ρ:List Sl}:gO is o e (d::r) a ρ=match cL ρ is o d with|none=>.stuck|some ρ=>(e ρ).bind λx ρ=>match x with|.own b=>gO is o e r (a++[b]) ρ|.val _=>.stuck:=rfl
noncomputable def rowAt(a:List (List D))(k:Int):Option (List D):=(ik a.length k).bind λr=>a[r]?
noncomputable def jP(a:List (List D))(k:Int)(f:List D->Option (List D)):Option (List (List D)):=(ik a.length k).bind λr=>(a[r]?).bind λrow=>(f row).map λb=>a.set r b
noncomputable def setAt(l:Int)(d:D)(row:List D):Option (List D):=(ik row.length l).map λm=>row.set m d
noncomputable def jh(ρ:List Sl)(x:Nat):Option (List (List D)):=match ρ[x]?with|some (.hold a)=>aU a|_=>ci
noncomputable def wz(ρ:List Sl)(x:Nat)(k:D):Option (List D):=(jh ρ x).bind λa=>(iw k).bind λk=>rowAt a k
noncomputable def vz(ρ:List Sl)(x:Nat)(o:Option (List (List D))):Res Fl:=match o with|some a=>.ok .next (ρ.set x (.hold a))|none=>.stuck
noncomputable def rowOne(x r:Nat)(b c e:List Sl->Res D)(ρ:List Sl):Res Fl:=(c ρ).bind λk ρ=>(lift ((jh ρ x).bind λa=>(a[r]?).bind λrow=>(iw k).bind λk=>(at' row k).bind iw) ρ).bind λu ρ=>(e ρ).bind λl ρ=>(lift ((jh ρ x).bind λa=>(a[r]?).bind λrow=>(iw l).bind λl=>(at' row l).bind iw) ρ).bind λv ρ=>(b ρ).bind λj ρ=>vz ρ x ((jh ρ x).bind λa=>(a[r]?).bind λrow=>(iw j).bind λj=>(setAt j (.int (u+v)) row).map λf=>a.set r f)
noncomputable def WQ(x y:Nat)(a b c:List Sl->Res D):Nat->Nat->List Sl->Res Fl|0,_,ρ=>.ok .next ρ|m+1,r,ρ=>(lift (put ρ y .aO) ρ).bind λρ _=>(rowOne x r a b c ρ).bind λ_ ρ=>WQ x y a b c m (r+1) ρ
noncomputable def Vt(is:List Nat)(one:Bool)(body:List Sl->Res Fl)(b:List Sl->Option (Nat×List Sl)):List D->List Sl->Option (Nat×List Sl)|[],_=>ci|d::r,ρ=>match cL ρ is one d with|none=>ci|some ρ=>match b ρ with|some x=>aU x|none=>match body ρ with|.ok .next a=>Vt is one body b r a|.ok .cont a=>Vt is one body b r a|_=>ci
noncomputable def UG(a:List Sl->Res Bool)(body:List Sl->Res Fl)(e:List Sl->Option (Nat×List Sl)):Nat->List Sl->Option (Nat×List Sl)|0,_=>ci|n+1,ρ=>match a ρ with
   |.ok b_ c=>match e c with|some x=>aU x|none=>match body c with|.ok .next b=>UG a body e n b|.ok .cont b=>UG a body e n b|_=>ci
   |_=>ci
noncomputable def V5:P->P|.idx a _=>a|.blt .sum [.comp s _ _ _ _ _]=>s|e=>e
noncomputable def arg0:P->P|.call _ (a::_)=>a|e=>e
noncomputable def Ed(c:Call)(e:P)(ρ:List Sl):Option (Nat×List Sl):=match V5 e with
 |.call f as=>match Ce c as ρ with
   |.ok xs b=>match cz b xs []with
     |some args=>match c f args with|.exc k a=>aU (k,eZ xs a 0 b)|_=>ci
     |none=>ci
   |_=>ci
 |_=>ci
mutual
noncomputable def ex(c:Call)(n:Nat):S->List Sl->Res Fl
 |.pass,ρ=>.ok .next ρ|.brk,ρ=>.ok .brk ρ|.cont,ρ=>.ok .cont ρ|.bad,_=>.stuck|.expr e,ρ=>(ev c e ρ).bind λ_ ρ=>.ok .next ρ|.asg i e,ρ=>(ev c e ρ).bind λr ρ=>(lift (put ρ i (zG r)) ρ).bind λo _=>.ok .next o|.par i j a b,ρ=>(ev c a ρ).bind λx ρ=>(ev c b ρ).bind λy ρ=>(lift ((put ρ i (.val a_ x.d)).bind λρ=>put ρ j (.val a_ y.d)) ρ).bind λo _=>.ok .next o|.wW x i e,ρ=>(ev c e ρ).bind λr ρ=>(lift (pk ρ x) ρ).bind λ_ ρ=>(cJ (isVar i) (ev c i) ρ).bind λk ρ=>match ρ[x]?,k with
   |some (.own b g),.int k=>match ik g.length k with|some j=>.ok .next (ρ.set x (.own b (g.set j r.d)))|none=>.stuck
   |_,_=>.stuck
 |.app x e,ρ=>(lift (HX ρ x) ρ).bind λ_ ρ=>(ev c e ρ).bind λr ρ=>match ρ[x]?with|some (.own b g)=>if g.length<lim then .ok .next (ρ.set x (.own b (g++[r.d])))else .stuck|_=>.stuck
 |.ret e,ρ=>match isVar e with
   |some i=>match ρ[i]?with|some (.own a_ g)=>.ok (.ret (.own g)) (ρ.set i .aO)|_=>(ev c e ρ).bind λr ρ=>.ok (.ret r) ρ
   |none=>(ev c e ρ).bind λr ρ=>.ok (.ret r) ρ
 |.abO,ρ=>.ok (.ret (.val .non)) ρ|.ifs t a b,ρ=>(iR (ev c t) ρ).bind λk ρ=>if k then iM c n a ρ else iM c n b ρ|.fX src is one body,ρ=>(srcOf (isVar src) (ev c src) ρ).bind λg f=>(jf is one (iM c n body) g f).bind λfl p=>.ok fl (aW ρ (isVar src) p)|.whl t body,ρ=>qd (iR (ev c t)) (iM c n body) n ρ|.aug x sub e,ρ=>(lift (pk ρ x) ρ).bind λa ρ=>(cJ (isVar e) (ev c e) ρ).bind λb ρ=>match a,b with|.int i,.int j=>(lift (put ρ x (.val a_ (.int (if sub then i-j else i+j)))) ρ).bind λo _=>.ok .next o|_,_=>.stuck
 |.Hw x i sub e,ρ=>(lift (HX ρ x) ρ).bind λ_ ρ=>(cJ (isVar i) (ev c i) ρ).bind λk ρ=>(lift (HX ρ x) ρ).bind λl ρ=>(lift ((iw k).bind λi=>at' l i) ρ).bind λa ρ=>(cJ (isVar e) (ev c e) ρ).bind λb ρ=>match a,b,ρ[x]?,k with
   |.int u,.int v,aU (.own w g),.int k=>match ik g.length k with|some j=>.ok .next (ρ.set x (.own w (g.set j (.int (if sub then u-v else u+v)))))|none=>.stuck
   |_,_,_,_=>.stuck
 |.M8 x t,ρ=>match ρ[x]?with|some .aO=>.ok .next (ρ.set x (.gV (if t then .t []else .k [])))|_=>.stuck
 |.dput x k e,ρ=>(ev c e ρ).bind λr ρ=>match ρ[x]?with
   |some (.gV _)=>(cJ (isVar k) (ev c k) ρ).bind λq ρ=>match ρ[x]?,r with
     |some (.gV m),.val (.int v)=>match m.put q v with|some z=>.ok .next (ρ.set x (.gV z))|none=>.stuck
     |_,_=>.stuck
   |_=>.stuck
 |.M9 x src k is one s,ρ=>(srcOf (isVar src) (ev c src) ρ).bind λg f=>if g.length<=lim then(gO is one (ev c s) g [] (f++cr k .aO)).bind λh p=>(lift (put (aW ρ (isVar src) (p.take f.length)) x (.hold h)) ρ).bind λo _=>.ok .next o else .stuck|.Nb x i e,ρ=>(cJ (isVar i) (ev c i) ρ).bind λk ρ=>(lift (wz ρ x k) ρ).bind λ_ ρ=>(ev c e ρ).bind λr ρ=>vz ρ x ((jh ρ x).bind λh=>(iw k).bind λk=>jP h k λrow=>if row.length<lim then aU (row++[r.d])else ci)|.Hx src is one body,ρ=>(ev c src ρ).bind λr f=>(lift (items r.d) f).bind λg f=>jf is one (iM c n body) g f|.dB x,ρ=>match ρ[x]?with|some (.hold h)=>.ok .next (ρ.set x (.val a_ (.lst (h.map D.lst))))|_=>.stuck
 |.Hy x,ρ=>match ρ[x]?with|some .aO=>.ok .next (ρ.set x (.cM []))|some (.cM _)=>.ok .next (ρ.set x (.cM []))|some (.val a_ _)=>.ok .next (ρ.set x (.cM []))|_=>.stuck
 |.Nf x k e,ρ=>match ρ[x]?with|some .aO=>.ok .next (ρ.set x (.cM [(k,.int e)]))|some (.cM _)=>.ok .next (ρ.set x (.cM [(k,.int e)]))|some (.val a_ _)=>.ok .next (ρ.set x (.cM [(k,.int e)]))|_=>.stuck
 |.gq x k e,ρ=>(ev c e ρ).bind λr ρ=>match ρ[x]?with
   |some (.cM _)=>(cJ (isVar k) (ev c k) ρ).bind λq ρ=>match ρ[x]?,q with|some (.cM kvs),.int k=>if kvs.length<lim then .ok .next (ρ.set x (.cM (gq kvs k r.d)))else .stuck|_,_=>.stuck
   |_=>.stuck
noncomputable def iM(c:Call)(n:Nat):List S->List Sl->Res Fl|[],ρ=>.ok .next ρ|s::r,ρ=>(ex c n s ρ).bind λfl ρ=>match fl with|.next=>iM c n r ρ|fl=>.ok fl ρ
noncomputable def exX(c:Call)(n:Nat):S->List Sl->Option (Nat×List Sl)
 |.ifs t a b,ρ=>match iR (ev c t) ρ with|.ok x f=>if x then Gj c n a f else Gj c n b f|_=>ci
 |.fX src is one body,ρ=>match Ed c src ρ with|some x=>aU x|none=>match srcOf (isVar src) (ev c src) ρ with|.ok g f=>(Vt is one (iM c n body) (Gj c n body) g f).map λx=>(x.1,aW ρ (isVar src) x.2)|_=>ci
 |.ret e,ρ=>Ed c e ρ|.asg _ e,ρ=>Ed c e ρ|.expr e,ρ=>Ed c e ρ|.whl t body,ρ=>UG (iR (ev c t)) (iM c n body) (Gj c n body) n ρ|_,_=>ci
noncomputable def Gj(c:Call)(n:Nat):List S->List Sl->Option (Nat×List Sl)|[],_=>ci|s::r,ρ=>match exX c n s ρ with|some x=>aU x|none=>match ex c n s ρ with|.ok .next a=>Gj c n r a|_=>ci
end
theorem X1{c n ρ}:ex c n (.pass) ρ=.ok .next ρ:=(rfl)
theorem X2{c n ρ}:ex c n (.brk) ρ=.ok .brk ρ:=(rfl)
theorem X3{c n ρ}:ex c n (.cont) ρ=.ok .cont ρ:=(rfl)
theorem X4{c n ρ}:ex c n (.bad) ρ=.stuck:=(rfl)
theorem X5{c n e ρ}:ex c n (.expr e) ρ=(ev c e ρ).bind λ_ ρ=>.ok .next ρ:=(rfl)
theorem X6{c n i e ρ}:ex c n (.asg i e) ρ=(ev c e ρ).bind λr ρ=>(lift (put ρ i (zG r)) ρ).bind λa _=>.ok .next a:=(rfl)
theorem X7{c n i j a b ρ}:ex c n (.par i j a b) ρ=(ev c a ρ).bind λx ρ=>(ev c b ρ).bind λy ρ=>(lift ((put ρ i (.val a_ x.d)).bind λρ=>put ρ j (.val a_ y.d)) ρ).bind λe _=>.ok .next e:=(rfl)
theorem X8{c n x i e ρ}:ex c n (.wW x i e) ρ=(ev c e ρ).bind λr ρ=>(lift (pk ρ x) ρ).bind λ_ ρ=>(cJ (isVar i) (ev c i) ρ).bind λk ρ=>match ρ[x]?,k with
 |some (.own b a),.int k=>match ik a.length k with|some j=>.ok .next (ρ.set x (.own b (a.set j r.d)))|none=>.stuck
 |_,_=>.stuck:=(rfl)
theorem X9{c n x e ρ}:ex c n (.app x e) ρ=(lift (HX ρ x) ρ).bind λ_ ρ=>(ev c e ρ).bind λr ρ=>match ρ[x]?with|some (.own b a)=>if a.length<lim then .ok .next (ρ.set x (.own b (a++[r.d])))else .stuck|_=>.stuck:=(rfl)
theorem X10{c n e ρ}:ex c n (.ret e) ρ=match isVar e with
 |some i=>match ρ[i]?with|some (.own a_ a)=>.ok (.ret (.own a)) (ρ.set i .aO)|_=>(ev c e ρ).bind λr ρ=>.ok (.ret r) ρ
 |none=>(ev c e ρ).bind λr ρ=>.ok (.ret r) ρ:=(rfl)
theorem X11{c n ρ}:ex c n (.abO) ρ=.ok (.ret (.val .non)) ρ:=(rfl)
theorem X12{c n t a b ρ}:ex c n (.ifs t a b) ρ=(iR (ev c t) ρ).bind λk ρ=>if k then iM c n a ρ else iM c n b ρ:=(rfl)
theorem X13{c n src is one body ρ}:ex c n (.fX src is one body) ρ=(srcOf (isVar src) (ev c src) ρ).bind λe a=>(jf is one (iM c n body) e a).bind λfl b=>.ok fl (aW ρ (isVar src) b):=(rfl)
theorem X14{c n t body ρ}:ex c n (.whl t body) ρ=qd (iR (ev c t)) (iM c n body) n ρ:=(rfl)
theorem X15{c n x sub e ρ}:ex c n (.aug x sub e) ρ=(lift (pk ρ x) ρ).bind λa ρ=>(cJ (isVar e) (ev c e) ρ).bind λb ρ=>match a,b with|.int i,.int j=>(lift (put ρ x (.val a_ (.int (if sub then i-j else i+j)))) ρ).bind λf _=>.ok .next f|_,_=>.stuck:=(rfl)
theorem X16{c n x i sub e ρ}:ex c n (.Hw x i sub e) ρ=(lift (HX ρ x) ρ).bind λ_ ρ=>(cJ (isVar i) (ev c i) ρ).bind λk ρ=>(lift (HX ρ x) ρ).bind λl ρ=>(lift ((iw k).bind λi=>at' l i) ρ).bind λa ρ=>(cJ (isVar e) (ev c e) ρ).bind λb ρ=>match a,b,ρ[x]?,k with
 |.int u,.int v,aU (.own g f),.int k=>match ik f.length k with|some j=>.ok .next (ρ.set x (.own g (f.set j (.int (if sub then u-v else u+v)))))|none=>.stuck
 |_,_,_,_=>.stuck:=(rfl)
theorem X17{c n x t ρ}:ex c n (.M8 x t) ρ=match ρ[x]?with|some .aO=>.ok .next (ρ.set x (.gV (if t then .t []else .k [])))|_=>.stuck:=(rfl)
theorem X18{c n x k e ρ}:ex c n (.dput x k e) ρ=(ev c e ρ).bind λr ρ=>match ρ[x]?with
 |some (.gV _)=>(cJ (isVar k) (ev c k) ρ).bind λa ρ=>match ρ[x]?,r with
   |some (.gV m),.val (.int v)=>match m.put a v with|some b=>.ok .next (ρ.set x (.gV b))|none=>.stuck
   |_,_=>.stuck
 |_=>.stuck:=(rfl)
theorem X19{c n x src k is one elt ρ}:ex c n (.M9 x src k is one elt) ρ=(srcOf (isVar src) (ev c src) ρ).bind λg a=>if g.length<=lim then(gO is one (ev c elt) g [] (a++cr k .aO)).bind λe b=>(lift (put (aW ρ (isVar src) (b.take a.length)) x (.hold e)) ρ).bind λf _=>.ok .next f else .stuck:=(rfl)
theorem X20{c n x i e ρ}:ex c n (.Nb x i e) ρ=(cJ (isVar i) (ev c i) ρ).bind λk ρ=>(lift (wz ρ x k) ρ).bind λ_ ρ=>(ev c e ρ).bind λr ρ=>vz ρ x ((jh ρ x).bind λa=>(iw k).bind λk=>jP a k λrow=>if row.length<lim then aU (row++[r.d])else ci):=(rfl)
theorem X21{c n src is one body ρ}:ex c n (.Hx src is one body) ρ=(ev c src ρ).bind λr a=>(lift (items r.d) a).bind λb a=>jf is one (iM c n body) b a:=(rfl)
theorem X22{c n x ρ}:ex c n (.dB x) ρ=match ρ[x]?with|some (.hold a)=>.ok .next (ρ.set x (.val a_ (.lst (a.map D.lst))))|_=>.stuck:=(rfl)
theorem X23{c n x ρ}:ex c n (.Hy x) ρ=match ρ[x]?with|some .aO=>.ok .next (ρ.set x (.cM []))|some (.cM _)=>.ok .next (ρ.set x (.cM []))|some (.val a_ _)=>.ok .next (ρ.set x (.cM []))|_=>.stuck:=(rfl)
theorem X24{c n x k e ρ}:ex c n (.Nf x k e) ρ=match ρ[x]?with|some .aO=>.ok .next (ρ.set x (.cM [(k,.int e)]))|some (.cM _)=>.ok .next (ρ.set x (.cM [(k,.int e)]))|some (.val a_ _)=>.ok .next (ρ.set x (.cM [(k,.int e)]))|_=>.stuck:=(rfl)
theorem X25{c n x k e ρ}:ex c n (.gq x k e) ρ=(ev c e ρ).bind λr ρ=>match ρ[x]?with
 |some (.cM _)=>(cJ (isVar k) (ev c k) ρ).bind λa ρ=>match ρ[x]?,a with|some (.cM kvs),.int k=>if kvs.length<lim then .ok .next (ρ.set x (.cM (gq kvs k r.d)))else .stuck|_,_=>.stuck
 |_=>.stuck:=(rfl)
structure Fd where
 np:Nat
 nn:Nat
 body:List S deriving Inhabited
noncomputable abbrev Tab:=Nat->Option Fd
noncomputable def enter(c:Call)(n:Nat)(d:Fd)(args:List Sl):Res R:=if args.length=d.np/\d.np<=d.nn then match iM c n d.body (args++cr (d.nn-d.np) .aO)with|.ok .next ρ=>.ok (.val .non) (ρ.take d.np)|.ok (.ret r) ρ=>.ok r (ρ.take d.np)|_=>match Gj c n d.body (args++cr (d.nn-d.np) .aO)with|some (k,ρ)=>.exc k (ρ.take d.np)|none=>.stuck else .stuck
noncomputable def run(Γ:Tab)(w:Nat):Nat->Call|0,_,_=>.stuck|n+1,f,args=>match Γ f with|some d=>enter (run Γ w n) w d args|none=>.stuck
end _H
section
namespace _H
open PySem _L
variable{ρ:List Sl}{σ:St}{v:V}
noncomputable def Dc.ho:Dc->HO|.k kvs=>.dK (kvs.map λp=>(dQ p.1,V.int p.2))|.t kvs=>.dT (kvs.map λp=>(p.1.map dQ,V.int p.2))
noncomputable def Eo(ks:List Int)(vs:List V):HO:=.dK ((ks.zip vs).map λp=>(dQ p.1,p.2))
section
variable(K:PySem.W.Frag)
mutual
noncomputable def Rep(F:Hp):V->D->Prop|v,.non=>v=.non|v,.bl b=>v=.bl b|v,.int i=>v=.int i|v,.str x=>v=.str x|v,.tup c=>∃a xs,v=.ref a/\iQ K F a xs/\aG F xs c|v,.lst c=>∃a xs,v=.ref a/\dO K F a xs/\aG F xs c|v,.dH m=>∃a o,v=.ref a/\F a=aU (.dB o m.ho)|v,.dv ks c=>∃a o vs,v=.ref a/\F a=aU (.dB o (Eo ks vs))/\aG F vs c/\ks.length=c.length
noncomputable def aG(F:Hp):List V->List D->Prop|vs,[]=>vs=[]|vs,d::a=>∃v r,vs=v::r/\Rep F v d/\aG F r a
end
end
section
variable{K:PySem.W.Frag}{F F' H H':Hp}
theorem aH.gJ{a:cq}{xs:List V}(e:aH H H')(h:iQ K H a xs):iQ K H' a xs:=by
 rcases h with(h|⟨o,h⟩)|h;.exact .inl (.inl (e _ _ h))
 .exact .inl (.inr ⟨o,e _ _ h⟩)
 .exact .inr h
mutual
theorem Rep.mono(e:aH F F'):∀{d:D}{v:V},Rep K F v d->Rep K F' v d|.non,_,h=>by rw[Rep]at h ⊢;exact h|.bl _,_,h=>by rw[Rep]at h ⊢;exact h|.int _,_,h=>by rw[Rep]at h ⊢;exact h|.str _,_,h=>by rw[Rep]at h ⊢;exact h|.tup b,_,h=>by rw[Rep]at h ⊢;obtain⟨a,xs,rfl,hs,r⟩:=h;exact⟨a,xs,rfl,aH.gJ e hs,aG.mono e r⟩|.lst b,_,h=>by rw[Rep]at h ⊢;obtain⟨a,xs,rfl,hs,r⟩:=h;exact⟨a,xs,rfl,e.seq hs,aG.mono e r⟩|.dH m,_,h=>by rw[Rep]at h ⊢;obtain⟨a,o,rfl,hs⟩:=h;exact⟨a,o,rfl,e _ _ hs⟩|.dv ks b,_,h=>by rw[Rep]at h ⊢;obtain⟨a,o,vs,rfl,hs,r,c⟩:=h;exact⟨a,o,vs,rfl,e _ _ hs,aG.mono e r,c⟩theorem aG.mono(e:aH F F'):∀{a:List D}{vs:List V},aG K F vs a->aG K F' vs a|[],_,h=>by rw[aG]at h ⊢;exact h|d::a,_,h=>by rw[aG]at h ⊢;obtain⟨v,r,rfl,h1,b⟩:=h;exact⟨v,r,rfl,Rep.mono e h1,aG.mono e b⟩end
theorem aG.nil:aG K F [] []:=by rw[aG]
theorem aG.cons{v:V}{d:D}{vs:List V}{a:List D}(h:Rep K F v d)(t:aG K F vs a):aG K F (v::vs) (d::a):=by rw[aG];exact⟨v,vs,rfl,h,t⟩
theorem aG.cR{vs:List V}{d:D}{a:List D}(h:aG K F vs (d::a)):∃v r,vs=v::r/\Rep K F v d/\aG K F r a:=by rw[aG]at h;exact h
theorem aG.gk{vs:List V}(h:aG K F vs []):vs=[]:=by rw[aG]at h;exact h
theorem aG.length:∀{a:List D}{vs:List V},aG K F vs a->vs.length=a.length|[],_,h=>by rw[h.gk];rfl|d::a,_,h=>by obtain⟨v,r,rfl,_,t⟩:=h.cR;simp[aG.length t]
theorem aG.get:∀{a:List D}{vs:List V}{i:Nat}{d:D},aG K F vs a->a[i]?=aU d->∃v,vs[i]?=aU v/\Rep K F v d|[],_,_,_,h,e=>by simp at e|d::a,_,0,_,h,e=>by obtain⟨v,r,rfl,h1,t⟩:=h.cR;simp at e;subst e;exact⟨v,rfl,h1⟩|d::a,_,i+1,_,h,e=>by obtain⟨v,r,rfl,_,t⟩:=h.cR;simp at e;obtain⟨w,b,c⟩:=t.get e;exact⟨w,by simpa using b,c⟩
theorem aG.append:∀{a es:List D}{vs us:List V},aG K F vs a->aG K F us es->aG K F (vs++us) (a++es)|[],_,_,_,h,h'=>by rw[h.gk];exact h'|d::a,_,_,_,h,h'=>by obtain⟨v,r,rfl,h1,t⟩:=h.cR;exact .cons h1 (t.append h')
theorem aG.set{v:V}{d:D}(hr:Rep K F v d):∀{a:List D}{vs:List V}(i:Nat),aG K F vs a->aG K F (vs.set i v) (a.set i d)|[],_,_,h=>by rw[h.gk];exact .nil|_::_,_,0,h=>by obtain⟨w,r,rfl,h1,t⟩:=h.cR;exact .cons hr t|_::_,_,i+1,h=>by obtain⟨w,r,rfl,h1,t⟩:=h.cR;exact .cons h1 (aG.set hr i t)
theorem aG.take:∀{a:List D}{vs:List V}(n:Nat),aG K F vs a->aG K F (vs.take n) (a.take n)|[],_,n,h=>by rw[h.gk];simpa using aG.nil|_::_,_,0,h=>.nil|_::_,_,n+1,h=>by obtain⟨w,r,rfl,h1,t⟩:=h.cR;exact .cons h1 (t.take n)
theorem aG.drop:∀{a:List D}{vs:List V}(n:Nat),aG K F vs a->aG K F (vs.drop n) (a.drop n)|[],_,n,h=>by rw[h.gk];simpa using aG.nil|_::_,_,0,h=>h|_::_,_,n+1,h=>by obtain⟨w,r,rfl,h1,t⟩:=h.cR;exact t.drop n
theorem aG.rep{a:List D}{vs:List V}(h:aG K F vs a):∀n,aG K F (cr n vs).flatten (cr n a).flatten|0=>by simpa using aG.nil|n+1=>by simpa[hV]using h.append (aG.rep h n)
inductive Oc where|l(ds:List D)|d(m:Dc)|v(kvs:List (Int×D))
noncomputable def lst?:Sl->Option Oc|.own _ a=>aU (.l a)|.lent a=>aU (.l a)|.gV m=>aU (.d m)|.cM kvs=>aU (.v kvs)|_=>ci
noncomputable def kO(K:PySem.W.Frag)(F:Hp)(o:HO):Oc->Prop|.l a=>∃xs,o=.lst xs/\aG K F xs a|.d m=>o=m.ho|.v kvs=>∃vs,o=Eo (kvs.map (·.1)) vs/\aG K F vs (kvs.map (·.2))
theorem kO.mono{o:HO}{x:Oc}(e:aH F F')(h:kO K F o x):kO K F' o x:=by cases x with|l b=>obtain⟨xs,a,h⟩:=h;exact⟨xs,a,h.mono e⟩|d m=>exact h|v kvs=>obtain⟨xs,a,h⟩:=h;exact⟨xs,a,h.mono e⟩
noncomputable def aX(ρ:List Sl)(σ:St)(i:Nat)(a:cq):Prop:=(∃s b,ρ[i]?=aU s/\lst? s=aU b)/\σ[i]?=aU (aU (V.ref a))
noncomputable def Own(ρ:List Sl)(σ:St)(a:cq):Prop:=∃i,aX ρ σ i a
structure GS(K:PySem.W.Frag)(F:Hp)(ρ:List Sl)(σ:St)(H:Hp):Prop where
 sub:aH F H
 len:ρ.length=σ.length
 val:∀(i:Nat)(b:Bool)(d:D),ρ[i]?=aU (Sl.val b d)->∃v:V,σ[i]?=aU (aU v)/\Rep K F v d
 own:∀(i:Nat)(s:Sl)(ds:Oc),ρ[i]?=aU s->lst? s=aU ds->∃(a:cq)(xs:HO),σ[i]?=aU (aU (V.ref a))/\H a=aU xs/\F a=ci/\kO K F xs ds
 dis:∀(i j:Nat)(a:cq),aX ρ σ i a->aX ρ σ j a->i=j
theorem GS.mW(g:GS K F ρ σ H)(i:Nat)(s:Sl)(b:List D)(e:ρ[i]?=aU s)(c:lst? s=aU (.l b)):∃(a:cq)(xs:List V),σ[i]?=aU (aU (V.ref a))/\H a=aU (.lst xs)/\F a=ci/\aG K F xs b:=by obtain⟨a,o,h1,f,h,xs,rfl,j⟩:=g.own i s (.l b) e c;exact⟨a,xs,h1,f,h,j⟩
noncomputable def uA:Sl->Bool|.val b _=>b|.own b _=>b|.lent _=>b_|.aO=>a_|.gV _=>a_|.cM _=>a_|.hold _=>b_
noncomputable def mG:Sl->Sl->Prop|.val b_ d,s=>s=.val b_ d|.own b_ _,s=>(∃a,s=.own b_ a)\/∃d,s=.val b_ d|.lent a,s=>s=.lent a|.hold a,s=>s=.hold a|_,_=>True
theorem mG.refl(s:Sl):mG s s:=by unfold mG;split<;>first|rfl|exact .inl ⟨_,rfl⟩|trivial
theorem mG.uA{s a:Sl}(h:mG s a)(l:uA s=b_):_H.uA a=b_:=by cases s with
 |aO=>cases l|gV _=>cases l|cM _=>cases l|val b d=>cases b with|true=>cases h;rfl|false=>cases l
 |own b d=>cases b with|true=>rcases h with⟨_,rfl⟩|⟨_,rfl⟩<;>rfl|false=>cases l
 |lent d=>cases h;rfl|hold d=>cases h;rfl
theorem mG.trans{s c a:Sl}(l:_H.uA s=b_)(h:mG s c)(h':mG c a):mG s a:=by cases s with
 |aO=>cases l|gV _=>cases l|cM _=>cases l|val b d=>cases b with|true=>cases h;exact h'|false=>cases l
 |own b d=>cases b with
   | true => rcases h with⟨_,rfl⟩|⟨d,rfl⟩;.exact h'
             .exact .inr ⟨d,h'⟩|false=>cases l
 |lent d=>cases h;exact h'|hold d=>cases h;exact h'
noncomputable def nt:Option HO->Option HO|some (.tup _)=>ci|o=>o
theorem jY{o:Option HO}(h:o=ci):nt o=ci:=by rw[h];rfl
theorem Mg{H:Hp}{b:cq}{xs:List V}(h:H b=aU (.lst xs))(z:nt (H b)=ci):False:=by rw[h]at z;cases z
theorem JD{o:HO}{x:Oc}(h:kO K F o x)(z:nt (aU o)=ci):False:=by cases x with|l a=>obtain⟨xs,rfl,_⟩:=h;cases z|d m=>cases m<;>(cases(show o=_ from h);cases z)|v kvs=>obtain⟨xs,rfl,_⟩:=h;cases z
structure az(K:PySem.W.Frag)(F:Hp)(ρ:List Sl)(σ:St)(H:Hp)(F':Hp)(ρ':List Sl)(σ':St)(H':Hp):Prop where
 gs:GS K F' ρ' σ' H'
 cB:aH F F'
 zj:∀b,F b=ci->F' b≠ci->Own ρ σ b\/nt (H b)=ci
 keep:∀b o,H b=aU o->¬ Own ρ σ b->H' b=aU o
 xq:∀b,Own ρ' σ' b->Own ρ σ b\/H b=ci
 len:ρ'.length=ρ.length
 lk:∀(i:Nat)(s:Sl),ρ[i]?=aU s->uA s=b_->σ'[i]?=σ[i]?/\∃s',ρ'[i]?=aU s'/\mG s s'
theorem az.refl{ρ:List Sl}{σ:St}(g:GS K F ρ σ H):az K F ρ σ H F ρ σ H:=⟨g,aH.refl _,λb h h'=>absurd h h',λ_ _ h _=>h,λ_ h=>.inl h,rfl,λi s h _=>⟨rfl,s,h,.refl s⟩⟩
theorem az.trans{F1 F2 m p:Hp}{ρ f j:List Sl}{σ g k:St}(a:az K F ρ σ H F1 f g m)(b:az K F1 f g m F2 j k p):az K F ρ σ H F2 j k p:=by
 have back:∀c,Own f g c\/m c=ci->Own ρ σ c\/H c=ci:=λc h=>by
  rcases h with h|h;.exact a.xq c h
  . by_cases ho:Own ρ σ c;.exact .inl ho
    .right;cases e:H c with|none=>rfl|some o=>rw[a.keep c o e ho]at h;cases h
 refine⟨b.gs,a.cB.trans b.cB,λc h h'=>?_,λc o h n=>?_,λc h=>back c (b.xq c h),b.len.trans a.len,λi s h l=>?_⟩
 . by_cases e:F1 c=ci
   . by_cases ho:Own ρ σ c;.exact .inl ho
     . rcases b.zj c e h' with z|z;.exact(back c (.inl z)).imp id jY
       .right;cases q:H c with|none=>rfl|some o=>rw[a.keep c o q ho]at z;exact z
   .exact a.zj c h e
 . refine b.keep c o (a.keep c o h n) λh'=>?_;rcases a.xq c h' with h'|h';.exact n h'
   .rw[h]at h';cases h'
 .obtain⟨t,s1,h1,r⟩:=a.lk i s h l;obtain⟨u,s2,w,x⟩:=b.lk i s1 h1 (r.uA l);exact⟨u.trans t,s2,w,.trans l r x⟩
noncomputable def dG(K:PySem.W.Frag)(F H:Hp)(v:V)(d:D):Prop:=Rep K F v d\/∃a xs b,v=.ref a/\H a=aU (.lst xs)/\aG K F xs b/\d=.lst b
noncomputable def cZ(K:PySem.W.Frag)(F':Hp)(b:List Sl)(c:St)(H':Hp)(ρ:List Sl)(σ:St)(H:Hp)(v:V):R->Prop|.val d=>Rep K F' v d|.own e=>∃a xs,v=.ref a/\H' a=aU (.lst xs)/\F' a=ci/\aG K F' xs e/\¬ Own b c a/\(Own ρ σ a\/H a=ci)
theorem aH.cV{F:Hp}{a:cq}{o:HO}(h:F a=ci):aH F (upd F a o):=λb u e=>by
 have:b≠a:=by rintro rfl;rw[h]at e;cases e
 rw[aB this];exact e
theorem az.dB{c:List Sl}{f:St}{r:R}(s:az K F ρ σ H F' c f H')(h:cZ K F' c f H' ρ σ H v r):∃g,az K F ρ σ H g c f H'/\aH F' g/\Rep K g v r.d:=by cases r with|val d=>exact⟨F',s,.refl _,h⟩|own t=>
   obtain⟨a,xs,rfl,h1,u,w,x,y⟩:=h;have sm:aH F' (upd F' a (.lst xs)):=aH.cV u;refine⟨upd F' a (.lst xs),⟨⟨λb o e=>?_,s.gs.len,λi b d e=>?_,λi sl k e p=>?_,s.gs.dis⟩,s.cB.trans sm,λb n q=>?_,s.keep,s.xq,s.len,s.lk⟩,sm,?_⟩
   . by_cases j:b=a;.subst j;rw[aP]at e;cases e;exact h1
     .rw[aB j]at e;exact s.gs.sub b o e
   .obtain⟨v,l,m⟩:=s.gs.val i b d e;exact⟨v,l,m.mono sm⟩
   . obtain⟨b,ys,l,m,z,A⟩:=s.gs.own i sl k e p;have j:b≠a:=by rintro rfl;exact x ⟨i,⟨sl,k,e,p⟩,l⟩
     exact⟨b,ys,l,m,by rw[aB j];exact z,A.mono sm⟩
   . by_cases j:b=a;.subst j;exact y.imp id jY
     .rw[aB j]at q;exact s.zj b n q
   .show Rep K _ _ (.lst t);rw[Rep];exact⟨a,xs,rfl,dO.of aP,w.mono sm⟩
theorem GS.pk{ρ:List Sl}{σ:St}{i:Nat}{d:D}(g:GS K F ρ σ H)(e:_H.pk ρ i=aU d):∃v:V,σ[i]?=aU (aU v)/\dG K F H v d:=by
 unfold _H.pk at e;split at e;.rename_i b d' h;cases e;obtain⟨v,h1,c⟩:=g.val i b d h;exact⟨v,h1,.inl c⟩
 .rename_i b f h;cases e;obtain⟨a,xs,h1,c,k,j⟩:=g.mW i _ f h rfl;exact⟨.ref a,h1,.inr ⟨a,xs,f,rfl,c,j,rfl⟩⟩
 .rename_i f h;cases e;obtain⟨a,xs,h1,c,k,j⟩:=g.mW i _ f h rfl;exact⟨.ref a,h1,.inr ⟨a,xs,f,rfl,c,j,rfl⟩⟩
 .cases e
structure Ext(F H F' H':Hp):Prop where
 hs:aH H H'
 fs:aH F F'
 sub:aH F' H'
 gr:∀b,F b=ci->F' b≠ci->nt (H b)=ci
theorem Ext.refl(h:aH F H):Ext F H F H:=⟨.refl _,.refl _,h,λ_ a b=>absurd a b⟩
theorem Ext.stp(g:GS K F ρ σ H)(e:Ext F H F' H'):az K F ρ σ H F' ρ σ H':=by
 refine⟨⟨e.sub,g.len,λi b d h=>?_,λi s j h h'=>?_,g.dis⟩,e.fs,λb n k=>.inr (e.gr b n k),λb o h _=>e.hs b o h,λ_ h=>.inl h,rfl,λi s h _=>⟨rfl,s,h,.refl s⟩⟩;.obtain⟨v,h1,c⟩:=g.val i b d h;exact⟨v,h1,c.mono e.fs⟩
 .obtain⟨a,xs,h1,c,l,f⟩:=g.own i s j h h';refine⟨a,xs,h1,e.hs _ _ c,?_,f.mono e.fs⟩;cases q:F' a with|none=>rfl|some o=>have:=e.gr a l (by rw[q];simp);rw[c]at this;exact(JD f this).elim
noncomputable def cH(K:PySem.W.Frag)(F' H' H:Hp)(v:V):R->Prop|.val d=>Rep K F' v d|.own b=>∃a xs,v=.ref a/\H' a=aU (.lst xs)/\F' a=ci/\aG K F' xs b/\H a=ci
theorem cH.nu{r:R}(g:GS K F ρ σ H)(h:cH K F' H' H v r):cZ K F' ρ σ H' ρ σ H v r:=by cases r with|val d=>exact h|own p=>obtain⟨a,xs,rfl,h1,l,m,f⟩:=h;refine⟨a,xs,rfl,h1,l,m,?_,.inr f⟩;rintro⟨i,⟨s,c,e,n⟩,o⟩;obtain⟨b,ys,j,k,_⟩:=g.own i s c e n;rw[o]at j;cases j;rw[f]at k;cases k
theorem cZ.later{F1 j F2 k:Hp}{c f:List Sl}{g i:St}{r:R}(a:az K F ρ σ H F1 c g j)(h:cZ K F2 f i k c g j v r):cZ K F2 f i k ρ σ H v r:=by cases r with|val d=>exact h|own p=>
   obtain⟨b,xs,rfl,h1,l,m,n,h5⟩:=h;refine⟨b,xs,rfl,h1,l,m,n,?_⟩;rcases h5 with h5|h5;.exact a.xq b h5
   . by_cases ho:Own ρ σ b;.exact .inl ho
     .right;cases e:H b with|none=>rfl|some o=>rw[a.keep b o e ho]at h5;cases h5
end
end _H
end
namespace _H
open PySem _L Spec PyProof.Rows
variable{ρ' ρ ρ₀:List Sl}{es:List dy}{K:PySem.W.Frag}{F H H₀:Hp}{σ:_L.St}{i n:Nat}{ds:List D}{x:Str}{v:V}{vs:List V}{op:nV}{p':Pos}{as:List Arg}
theorem ak{c e:Type}{x:Res c}{f:c->List Sl->Res e}{b:e}(h:x.bind f=.ok b ρ'):∃a ρ,x=.ok a ρ/\f a ρ=.ok b ρ':=by cases x with|ok a ρ=>exact⟨a,ρ,rfl,h⟩|exc _ _=>cases h|stuck=>cases h
theorem aC{c:Type}{o:Option c}{a:c}(h:lift o ρ=.ok a ρ'):o=aU a/\ρ=ρ':=by cases o with|none=>cases h|some b=>cases h;exact⟨rfl,rfl⟩
theorem map_some{c e:Type}{o:Option c}{f:c->e}{b:e}(h:o.map f=aU b):∃a,o=aU a/\f a=b:=by cases o with|none=>cases h|some a=>cases h;exact⟨a,rfl,rfl⟩
theorem cG{c e:Type}{o:Option c}{f:c->Option e}{b:e}(h:o.bind f=aU b):∃a,o=aU a/\f a=aU b:=by cases o with|none=>cases h|some a=>exact⟨a,rfl,h⟩
theorem bI{e:Type}{c:Prop}[Decidable c]{a b:e}(h:(if c then aU a else ci)=aU b):c/\a=b:=by
 split at h;.rename_i hc;cases h;exact⟨hc,rfl⟩
 .cases h
section
variable{X:Cx}{c:Call}{e a b:dy}{p pa pb:P}{pos:Pos}
theorem eU{t t':TE}(h:PE X e t)(i:∀σ H Q,t' σ H Q->t σ H Q):PE X e t':=λf s σ H Q I q=>h f s σ H Q I (i σ H Q q)
theorem uQ{t t':TT}(h:PT X e t)(i:∀σ H Q,t' σ H Q->t σ H Q):PT X e t':=λf s σ H Q I q=>h f s σ H Q I (i σ H Q q)
theorem Tc{t t':TT}(h:PW X e t)(i:∀σ H Q,t' σ H Q->t σ H Q):PW X e t':=λwh f s σ H Q I q=>h wh f s σ H Q I (i σ H Q q)
theorem yI{t t':TA}(h:PA X es t)(i:∀σ H Q,t' σ H Q->t σ H Q):PA X es t':=λpos f s σ H Q I q=>h pos f s σ H Q I (i σ H Q q)
inductive xm(K:PySem.W.Frag)(f:Ev)(σ:_L.St)(H:Hp)(Q:VK):Prop where|mk(F:Hp)(ρ:List Sl)(r:R)(ρ':List Sl)(g:GS K F ρ σ H)(e:f ρ=.ok r ρ')(k:∀v F' H',az K F ρ σ H F' ρ' σ H'->cZ K F' ρ' σ H' ρ σ H v r->Q v H')
inductive HS(K:PySem.W.Frag)(f:List Sl->Res Bool)(σ:_L.St)(H:Hp)(Q:Bool->Hp->Prop):Prop where|mk(F:Hp)(ρ:List Sl)(b:Bool)(ρ':List Sl)(g:GS K F ρ σ H)(e:f ρ=.ok b ρ')(k:∀F' H',az K F ρ σ H F' ρ' σ H'->Q b H')
inductive aeC(K:PySem.W.Frag)(f:List Sl->Res (List D))(σ:_L.St)(H:Hp)(Q:List V->Hp->Prop):Prop where|mk(F:Hp)(ρ:List Sl)(ds:List D)(ρ':List Sl)(g:GS K F ρ σ H)(e:f ρ=.ok ds ρ')(k:∀vs F' H',az K F ρ σ H F' ρ' σ H'->aG K F' vs ds->Q vs H')
structure SX(X:Cx)(c:Call)(e:dy)(p:P):Prop where ev:PE X e (xm X.K (_H.ev c p))var:∀i,isVar p=aU i->PE X e (Vg i)
noncomputable def SA(X:Cx)(c:Call)(es:List dy)(ps:List P):Prop:=PA X es (aeC X.K (evs c ps))/\ps.length=es.length
theorem SX.cJ(h:SX X c e p):∃t,PE X e t/\∀{σ:_L.St}{H F:Hp}{ρ ρ':List Sl}{d:D}{Q:VK},GS X.K F ρ σ H->cJ (isVar p) (_H.ev c p) ρ=.ok d ρ'->(∀v j f,az X.K F ρ σ H j ρ' σ f->dG X.K j f v d->Q v f)->t σ H Q:=by cases hv:isVar p with|none=>refine⟨_,h.ev,λ{σ H F ρ ρ' d Q}g e k=>?_⟩;obtain⟨r,q,l,m⟩:=ak e;cases m;refine⟨F,ρ,r,_,g,l,λv j f s u=>?_⟩;obtain⟨o,w,_,y⟩:=s.dB u;exact k v o f w (.inl y)|some i=>refine⟨_,h.var i hv,λ{σ H F ρ ρ' d Q}g e k=>?_⟩;obtain⟨l,m⟩:=aC e;subst m;obtain⟨v,h1,z⟩:=g.pk l;exact⟨v,h1,k v F H (.refl g) z⟩
theorem SX.iG(J:SX X c a pa)(N:SX X c b pb):∃L h,PE X a L/\PE X b h/\∀{σ:_L.St}{H F:Hp}{ρ ρ':List Sl}{j:D×D}{R:V->V->Hp->Prop},GS X.K F ρ σ H->iG (isVar pa) (_H.ev c pa) (isVar pb) (_H.ev c pb) ρ=.ok j ρ'->(∀v u w l,az X.K F ρ σ H w ρ' σ l->dG X.K w l v j.1->dG X.K w l u j.2->R v u l)->L σ H λx z=>h σ z λy A=>R x y A:=by obtain⟨h,m,o⟩:=N.cJ;cases hv:isVar pa with|none=>refine⟨_,h,J.ev,m,λ{σ H F ρ ρ' j R}g e k=>?_⟩;obtain⟨x,B,q,e⟩:=ak e;obtain⟨y,C,f,e⟩:=ak e;cases e;obtain⟨r,M,q,E⟩:=ak q;cases E;refine⟨F,ρ,r,_,g,q,λv w l s O=>?_⟩;obtain⟨F1,s1,_,Q⟩:=s.dB O;refine o s1.gs f λu F2 A s2 G=>?_;exact k v u F2 A (s1.trans s2) (.inl (Q.mono s2.cB)) G|some i=>refine⟨_,h,J.var i hv,m,λ{σ H F ρ ρ' j R}g e k=>?_⟩;obtain⟨x0,U,E,e⟩:=ak e;obtain⟨I,W⟩:=aC E;subst W;obtain⟨y,B,q,e⟩:=ak e;obtain⟨x,C,f,e⟩:=ak e;cases e;have Y:=aC f;clear f;obtain⟨f,Z⟩:=Y;subst Z;obtain⟨v,h1,_⟩:=g.pk I;refine⟨v,h1,o g q λu F1 z s1 G=>?_⟩;obtain⟨v',t,pv⟩:=s1.gs.pk f;rw[h1]at t;cases t;exact k v u F1 z s1 pv G
inductive rD(K:PySem.W.Frag)(f:D->D->Option R)(x y:V)(H:Hp)(Q:VK):Prop where|mk(F:Hp)(d e:D)(r:R)(sm:aH F H)(px:dG K F H x d)(py:dG K F H y e)(he:f d e=aU r)(k:∀v F' H',Ext F H F' H'->cH K F' H' H v r->Q v H')
inductive rD1(K:PySem.W.Frag)(f:D->Option R)(x:V)(H:Hp)(Q:VK):Prop where|mk(F:Hp)(d:D)(r:R)(sm:aH F H)(px:dG K F H x d)(he:f d=aU r)(k:∀v F' H',Ext F H F' H'->cH K F' H' H v r->Q v H')
theorem vN{E:dy}{f:D->D->Option R}{q:P}(t:∀{m o},PE X a m->PE X b o->PE X E (Wg (rD X.K f) m o))(y:SX X c a pa)(z:SX X c b pb)(A:∀ρ,_H.ev c q ρ=(_H.iG (isVar pa) (_H.ev c pa) (isVar pb) (_H.ev c pb) ρ).bind λj ρ=>lift (f j.1 j.2) ρ)(B:isVar q=ci):SX X c E q:=by obtain⟨m,o,h1,C,G⟩:=y.iG z;refine⟨eU (t h1 C) ?_,λi h=>by rw[B]at h;cases h⟩;rintro σ H Q⟨F,ρ,r,ρ',g,e,k⟩;rw[A]at e;obtain⟨j,I,J,l⟩:=ak e;have L:=aC l;clear l;obtain⟨l,M⟩:=L;subst M;refine G g J λv u N Z s O U=>⟨N,j.1,j.2,r,s.gs.sub,O,U,l,λw F2 W x Y=>?_⟩;exact k w F2 W (s.trans (x.stp s.gs)) (.later s (Y.nu s.gs))
theorem VR{E:dy}{f:D->Option R}{q:P}(m:∀{l},PE X a l->PE X E (tUn (rD1 X.K f) l))(o:SX X c a pa)(t:∀ρ,_H.ev c q ρ=(_H.cJ (isVar pa) (_H.ev c pa) ρ).bind λx ρ=>lift (f x) ρ)(u:isVar q=ci):SX X c E q:=by obtain⟨l,h1,y⟩:=o.cJ;refine⟨eU (m h1) ?_,λi h=>by rw[u]at h;cases h⟩;rintro σ H Q⟨F,ρ,r,ρ',g,e,k⟩;rw[t]at e;obtain⟨x,z,A,j⟩:=ak e;have B:=aC j;clear j;obtain⟨j,C⟩:=B;subst C;refine y g A λv G M s I=>⟨G,x,r,s.gs.sub,I,j,λw F2 J x L=>?_⟩;exact k w F2 J (s.trans (x.stp s.gs)) (.later s (L.nu s.gs))
theorem GS.freeze{b:Bool}(g:GS K F ρ σ H)(e:ρ[i]?=aU (.own b ds)):∃v z,σ[i]?=aU (aU v)/\az K F ρ σ H z (ρ.set i (.val b (.lst ds))) σ H/\Rep K z v (.lst ds):=by
 obtain⟨a,xs,h1,C,E,G⟩:=g.mW i _ ds e rfl;have hi:i<ρ.length:=(dD e).1;have sm:aH F (upd F a (.lst xs)):=aH.cV E;have A:Rep K (upd F a (.lst xs)) (.ref a) (.lst ds):=by rw[Rep];exact⟨a,xs,rfl,dO.of aP,G.mono sm⟩
 have I:Own ρ σ a:=⟨i,⟨_,_,e,rfl⟩,h1⟩;have r:∀j x,aX (ρ.set i (.val b (.lst ds))) σ j x->aX ρ σ j x/\j≠i:=λj x⟨⟨s,h,m,u⟩,y⟩=>by
  by_cases f:j=i;.subst f;rw[cp hi]at m;cases m;cases u
  .rw[fC f]at m;exact⟨⟨⟨s,h,m,u⟩,y⟩,f⟩
 refine⟨.ref a,upd F a (.lst xs),h1,⟨⟨λx o q=>?_,by simpa using g.len,λj J d q=>?_,λj s h q w=>?_,λj k x q w=>g.dis j k x (r j x q).1 (r k x w).1⟩,sm,λx n B=>?_,λ_ _ q _=>q,λx⟨j,q⟩=>.inl ⟨j,(r j x q).1⟩,by simp,λj s q l=>⟨rfl,?_⟩⟩,A⟩
 . by_cases t:x=a;.subst t;rw[aP]at q;cases q;exact C
   .rw[aB t]at q;exact g.sub x o q
 . by_cases f:j=i;.subst f;rw[cp hi]at q;cases q;exact⟨_,h1,A⟩
   .rw[fC f]at q;obtain⟨v,m,u⟩:=g.val j J d q;exact⟨v,m,u.mono sm⟩
 . by_cases f:j=i;.subst f;rw[cp hi]at q;cases q;cases w
   . rw[fC f]at q;obtain⟨x,ys,m,u,y,L⟩:=g.own j s h q w;have t:x≠a:=by rintro rfl;exact f (g.dis j i x ⟨⟨s,h,q,w⟩,m⟩ ⟨⟨_,_,e,rfl⟩,h1⟩)
     exact⟨x,ys,m,u,by rw[aB t];exact y,L.mono sm⟩
 . by_cases t:x=a;.subst t;exact .inl I
   .rw[aB t]at B;exact absurd n B
 . by_cases f:j=i;.subst f;rw[e]at q;cases q;refine⟨_,cp hi,?_⟩;cases b with|true=>exact .inr ⟨_,rfl⟩|false=>cases l
   .exact⟨s,by rw[fC f];exact q,.refl s⟩
theorem GS.Fq{m:Dc}(g:GS K F ρ σ H)(e:ρ[i]?=aU (.gV m)):∃a,σ[i]?=aU (aU (.ref a))/\H a=aU m.ho/\∀u,az K F ρ σ H (upd F a (.dB u m.ho)) (ρ.set i (.val a_ (.dH m))) σ (upd H a (.dB u m.ho))/\Rep K (upd F a (.dB u m.ho)) (.ref a) (.dH m):=by
 obtain⟨a,G,h1,I,J,L⟩:=g.own i _ _ e rfl;cases(show G=m.ho from L);have hi:i<ρ.length:=(dD e).1;refine⟨a,h1,I,λu=>?_⟩;have sm:aH F (upd F a (.dB u m.ho)):=aH.cV J;have B:Rep K (upd F a (.dB u m.ho)) (.ref a) (.dH m):=by rw[Rep];exact⟨a,u,rfl,aP⟩
 have C:Own ρ σ a:=⟨i,⟨_,_,e,rfl⟩,h1⟩;have w:∀j x,aX (ρ.set i (.val a_ (.dH m))) σ j x->aX ρ σ j x/\j≠i:=λj x⟨⟨s,r,t,y⟩,A⟩=>by
  by_cases f:j=i;.subst f;rw[cp hi]at t;cases t;cases y
  .rw[fC f]at t;exact⟨⟨⟨s,r,t,y⟩,A⟩,f⟩
 refine⟨⟨⟨λx o q=>?_,by simpa using g.len,λj M d q=>?_,λj s r q z=>?_,λj k x q z=>g.dis j k x (w j x q).1 (w k x z).1⟩,sm,λx n E=>?_,λx o q n=>?_,λx⟨j,q⟩=>.inl ⟨j,(w j x q).1⟩,by simp,λj s q l=>⟨rfl,?_⟩⟩,B⟩
 . by_cases h:x=a;.subst h;rw[aP]at q ⊢;exact q
   .rw[aB h]at q ⊢;exact g.sub x o q
 . by_cases f:j=i;.subst f;rw[cp hi]at q;cases q;exact⟨_,h1,B⟩
   .rw[fC f]at q;obtain⟨v,t,y⟩:=g.val j M d q;exact⟨v,t,y.mono sm⟩
 . by_cases f:j=i;.subst f;rw[cp hi]at q;cases q;cases z
   . rw[fC f]at q;obtain⟨x,ys,t,y,A,N⟩:=g.own j s r q z;have h:x≠a:=by rintro rfl;exact f (g.dis j i x ⟨⟨s,r,q,z⟩,t⟩ ⟨⟨_,_,e,rfl⟩,h1⟩)
     exact⟨x,ys,t,by rw[aB h];exact y,by rw[aB h];exact A,N.mono sm⟩
 . by_cases h:x=a;.subst h;exact .inl C
   .rw[aB h]at E;exact absurd n E
 . have h:x≠a:=by rintro rfl;exact n C
   rw[aB h];exact q
 . by_cases f:j=i;.subst f;rw[e]at q;cases q;cases l
   .exact⟨s,by rw[fC f];exact q,.refl s⟩
theorem GS.Ff{kvs:List (Int×D)}(g:GS K F ρ σ H)(e:ρ[i]?=aU (.cM kvs)):∃a vs,σ[i]?=aU (aU (.ref a))/\H a=aU (Eo (kvs.map (·.1)) vs)/\∀t,az K F ρ σ H (upd F a (.dB t (Eo (kvs.map (·.1)) vs))) (ρ.set i (.val a_ (.dv (kvs.map (·.1)) (kvs.map (·.2))))) σ (upd H a (.dB t (Eo (kvs.map (·.1)) vs)))/\Rep K (upd F a (.dB t (Eo (kvs.map (·.1)) vs))) (.ref a) (.dv (kvs.map (·.1)) (kvs.map (·.2))):=by
 obtain⟨a,N,h1,E,G,I⟩:=g.own i _ _ e rfl;obtain⟨vs,rfl,J⟩:=I;have hi:i<ρ.length:=(dD e).1;refine⟨a,vs,h1,E,λt=>?_⟩;have sm:aH F (upd F a (.dB t (Eo (kvs.map (·.1)) vs))):=aH.cV G;have A:Rep K (upd F a (.dB t (Eo (kvs.map (·.1)) vs))) (.ref a) (.dv (kvs.map (·.1)) (kvs.map (·.2))):=by rw[Rep];exact⟨a,t,vs,rfl,aP,J.mono sm,by simp⟩
 have B:Own ρ σ a:=⟨i,⟨_,_,e,rfl⟩,h1⟩;have u:∀j x,aX (ρ.set i (.val a_ (.dv (kvs.map (·.1)) (kvs.map (·.2))))) σ j x->aX ρ σ j x/\j≠i:=λj x⟨⟨s,m,r,w⟩,z⟩=>by
  by_cases f:j=i;.subst f;rw[cp hi]at r;cases r;cases w
  .rw[fC f]at r;exact⟨⟨⟨s,m,r,w⟩,z⟩,f⟩
 refine⟨⟨⟨λx o q=>?_,by simpa using g.len,λj L d q=>?_,λj s m q y=>?_,λj k x q y=>g.dis j k x (u j x q).1 (u k x y).1⟩,sm,λx n C=>?_,λx o q n=>?_,λx⟨j,q⟩=>.inl ⟨j,(u j x q).1⟩,by simp,λj s q l=>⟨rfl,?_⟩⟩,A⟩
 . by_cases h:x=a;.subst h;rw[aP]at q ⊢;exact q
   .rw[aB h]at q ⊢;exact g.sub x o q
 . by_cases f:j=i;.subst f;rw[cp hi]at q;cases q;exact⟨_,h1,A⟩
   .rw[fC f]at q;obtain⟨v,r,w⟩:=g.val j L d q;exact⟨v,r,w.mono sm⟩
 . by_cases f:j=i;.subst f;rw[cp hi]at q;cases q;cases y
   . rw[fC f]at q;obtain⟨x,ys,r,w,z,M⟩:=g.own j s m q y;have h:x≠a:=by rintro rfl;exact f (g.dis j i x ⟨⟨s,m,q,y⟩,r⟩ ⟨⟨_,_,e,rfl⟩,h1⟩)
     exact⟨x,ys,r,by rw[aB h];exact w,by rw[aB h];exact z,M.mono sm⟩
 . by_cases h:x=a;.subst h;exact .inl B
   .rw[aB h]at C;exact absurd n C
 . have h:x≠a:=by rintro rfl;exact n B
   rw[aB h];exact q
 . by_cases f:j=i;.subst f;rw[e]at q;cases q;cases l
   .exact⟨s,by rw[fC f];exact q,.refl s⟩
theorem Inv.Jo{X:Cx}{f:List (cq×Obj)}{s:cn}{a:cq}{kvs:List (Key×V)}(I:_L.Inv X f σ H s)(h:H a=aU (.dK kvs)):∃o,_L.Inv X f σ (upd H a (.dB o (.dK kvs))) s:=by obtain⟨hz,j,vs,r,g⟩:=(show bQ X.prog X.w H s.heap a (.dK kvs)from I.hok a _ h);obtain⟨o,ho,_⟩:=g.typeIs;exact⟨o,I.write (h':=s.heap) (t':=s.toks) (by rw[h];exact trivial) (.inl rfl) (λb u _ e=>e) ⟨o,ho⟩ ⟨ho,hz,j,vs,r,g⟩⟩
theorem WD(z:X.N[i]?=aU x)(A:yZ X.env.scope x)(hd:(x==("__debug__":Str))=a_:=by decide)(t:(x==("__classdict__":Str))=a_:=by decide):SX X c (.Name x pos) (.var i):=by
 have h:=gh (X:=X) (pos:=pos) z A hd t;refine⟨?_,λj B=>by cases B;exact h⟩;rintro f s σ H Q I⟨F,ρ,r,ρ',g,e,k⟩;rw[_H.E1]at e;split at e;.rename_i b d q;cases e;obtain⟨v,h1,l⟩:=g.val i b d q;exact h f s σ H Q I ⟨v,h1,k v F H (.refl g) l⟩
 .rename_i b ds q;cases e;obtain⟨v,C,h1,l,m⟩:=g.freeze q;exact h f s σ H Q I ⟨v,h1,k v C H l m⟩
 .rename_i kvs q;cases e;obtain⟨a,h1,l,m⟩:=g.Fq q;refine cA (h f s σ H (λv w=>v=.ref a/\w=H) I ⟨.ref a,h1,rfl,rfl⟩) λu s1⟨v,H1,I1,r1,e1,e2⟩=>?_;subst e1 e2;obtain⟨o,y⟩:=Inv.Jo I1 l;exact⟨.ref a,_,y,r1,k _ _ _ (m o).1 (m o).2⟩
 .rename_i kvs q;cases e;obtain⟨a,vs,h1,l,m⟩:=g.Ff q;refine cA (h f s σ H (λv w=>v=.ref a/\w=H) I ⟨.ref a,h1,rfl,rfl⟩) λu s1⟨v,H1,I1,r1,e1,e2⟩=>?_;subst e1 e2;obtain⟨o,y⟩:=Inv.Jo I1 l;exact⟨.ref a,_,y,r1,k _ _ _ (m o).1 (m o).2⟩
 .cases e
theorem Ax{d:D}(h:PE X e (tC v))(hr:∀F,Rep X.K F v d):SX X c e (.con d):=⟨eU h λσ H Q⟨F,ρ,r,ρ',g,e,k⟩=>by rw[_H.E2]at e;cases e;exact k v F H (.refl g) (hr F),λi h=>by cases h⟩
theorem aa{i j}:SX X c (.Constant (.int i) j pos) (.con (.int i)):=Ax qX λF=>by rw[Rep]
theorem fW{i j}:SX X c (.Constant (.bool i) j pos) (.con (.bl i)):=Ax aaA λF=>by rw[Rep]
theorem lC{j}:SX X c (.Constant .none j pos) (.con .non):=Ax W3 λF=>by rw[Rep]
theorem dG.int{K:PySem.W.Frag}{F H:Hp}{v:V}{i:Int}(h:dG K F H v (.int i)):v=.int i:=by
 rcases h with h|⟨_,_,_,_,_,_,h⟩;.rw[Rep]at h;exact h
 .cases h
theorem dG.bl{K:PySem.W.Frag}{F H:Hp}{v:V}{i:Bool}(h:dG K F H v (.bl i)):v=.bl i:=by
 rcases h with h|⟨_,_,_,_,_,_,h⟩;.rw[Rep]at h;exact h
 .cases h
theorem dG.str{K:PySem.W.Frag}{F H:Hp}{v:V}{i:Str}(h:dG K F H v (.str i)):v=.str i:=by
 rcases h with h|⟨_,_,_,_,_,_,h⟩;.rw[Rep]at h;exact h
 .cases h
theorem dG.non{K:PySem.W.Frag}{F H:Hp}{v:V}(h:dG K F H v .non):v=.non:=by
 rcases h with h|⟨_,_,_,_,_,_,h⟩;.rw[Rep]at h;exact h
 .cases h
theorem dG.tup{K:PySem.W.Frag}{F H:Hp}{v:V}{ds:List D}(s:aH F H)(h:dG K F H v (.tup ds)):∃a xs,v=.ref a/\iQ K H a xs/\aG K F xs ds/\Rep K F v (.tup ds):=by
 rcases h with h|⟨_,_,_,_,_,_,h⟩;.have h':=h;rw[Rep]at h;obtain⟨a,xs,rfl,h1,f⟩:=h;exact⟨a,xs,rfl,aH.gJ s h1,f,h'⟩
 .cases h
theorem dG.lst{K:PySem.W.Frag}{F H:Hp}{v:V}{ds:List D}(s:aH F H)(h:dG K F H v (.lst ds)):∃a xs,v=.ref a/\dO K H a xs/\aG K F xs ds:=by
 rcases h with h|⟨a,xs,es,h1,f,g,h⟩;.rw[Rep]at h;obtain⟨a,xs,rfl,h1,f⟩:=h;exact⟨a,xs,rfl,s.seq h1,f⟩
 .cases h;exact⟨a,xs,h1,dO.of f,g⟩
theorem dG.dH{m:Dc}(s:aH F H)(h:dG K F H v (.dH m)):∃a o,v=.ref a/\H a=aU (.dB o m.ho):=by
 rcases h with h|⟨_,_,_,_,_,_,h⟩;.rw[Rep]at h;obtain⟨a,o,rfl,h⟩:=h;exact⟨a,o,rfl,s _ _ h⟩
 .cases h
theorem Kf{X:Cx}{f:List (cq×Obj)}{s:cn}{a:cq}{g:Obj}{m:Dc}(I:_L.Inv X f σ H s)(h:H a=aU (.dB g m.ho)):∃o,s.heap.get? a=aU o/\o.cls=.type "dict":=by have z:=(show bQ X.prog X.w H s.heap a (.dB g m.ho)from I.hok a _ h).2;cases m with|k kvs=>obtain⟨_,_,vs,_,d2⟩:=(show bQ X.prog X.w H s.heap a (.dK _)from z);exact d2.typeIs|t kvs=>obtain⟨_,_,xs,_,o,es,ep,h1,j,_⟩:=(show bQ X.prog X.w H s.heap a (.dT _)from z);exact⟨o,h1,j.1⟩
theorem dG.dv{ks:List Int}(s:aH F H)(h:dG K F H v (.dv ks ds)):∃a o vs,v=.ref a/\H a=aU (.dB o (Eo ks vs))/\aG K F vs ds/\ks.length=ds.length:=by
 rcases h with h|⟨_,_,_,_,_,_,h⟩;.rw[Rep]at h;obtain⟨a,o,vs,rfl,h,h1,f⟩:=h;exact⟨a,o,vs,rfl,s _ _ h,h1,f⟩
 .cases h
theorem J6{X:Cx}{f:List (cq×Obj)}{s:cn}{a:cq}{g:Obj}{ks:List Int}(I:_L.Inv X f σ H s)(h:H a=aU (.dB g (Eo ks vs))):∃o,s.heap.get? a=aU o/\o.cls=.type "dict":=by have z:=(show bQ X.prog X.w H s.heap a (.dB g (Eo ks vs))from I.hok a _ h).2;obtain⟨_,_,vs,_,d2⟩:=(show bQ X.prog X.w H s.heap a (.dK _)from z);exact d2.typeIs
theorem dG.items{d:D}(s:aH F H)(h:dG K F H v d)(e:items d=aU ds):∃a xs,v=.ref a/\(dO K H a xs\/iQ K H a xs)/\aG K F xs ds:=by cases d with|tup es=>cases e;obtain⟨a,xs,h1,f,g,_⟩:=h.tup s;exact⟨a,xs,h1,.inr f,g⟩|lst es=>cases e;obtain⟨a,xs,h1,f,g⟩:=h.lst s;exact⟨a,xs,h1,.inl f,g⟩|_=>cases e
theorem cH.dg{Q:VK}{d:D}(s:aH F H)(r:Rep K F v d)(k:∀v g f,Ext F H g f->cH K g f H v (.val d)->Q v f):Q v H:=k v F H (.refl s) r
theorem cj(i:Int):Rep K F (.int i) (.int i):=by rw[Rep]
theorem gK(i:Bool):Rep K F (.bl i) (.bl i):=by rw[Rep]
theorem Va(i:Str):Rep K F (.str i) (.str i):=by rw[Rep]
theorem Wf:Rep K F .non .non:=by rw[Rep]
theorem xH{Q:VK}{xs:List V}{p:cq}(s:aH F H)(r:aG K F xs ds)(f:H p=ci)(k:∀v h g,Ext F H h g->cH K h g H v (.own ds)->Q v g):Q (.ref p) (upd H p (.lst xs)):=by
 have j:F p=ci:=by cases q:F p with|none=>rfl|some o=>rw[s p o q]at f;cases f
 exact k _ F _ ⟨aH.cV f,.refl _,s.trans (aH.cV f),λ_ a b=>absurd a b⟩ ⟨p,xs,rfl,aP,j,r,f⟩
theorem BJ{Q:VK}{xs:List V}{p:cq}(s:aH F H)(r:aG K F xs ds)(g:H p=ci)(k:∀v j h,Ext F H j h->cH K j h H v (.val (.tup ds))->Q v h):Q (.ref p) (upd H p (.tup xs)):=by
 have m:F p=ci:=by cases q:F p with|none=>rfl|some o=>rw[s p o q]at g;cases g
 have sm:aH F (upd F p (.tup xs)):=aH.cV m;refine k _ (upd F p (.tup xs)) _ ⟨aH.cV g,sm,λb o e=>?_,λb n l=>?_⟩ ?_
 . by_cases f:b=p;.subst f;rw[aP]at e ⊢;exact e
   .rw[aB f]at e ⊢;exact s b o e
 . by_cases f:b=p;.subst f;exact jY g
   .rw[aB f]at l;exact absurd n l
 .show Rep K _ _ (.tup ds);rw[Rep];exact⟨p,xs,rfl,iQ.of aP,r.mono sm⟩
end
theorem tV(k:Int)(t:Tok)(l:cq)(a:Array bx)(n:Nat)(b:Option cq)(sl:Array (Option bx)):m5 (iE.«int.__rmul__» ⟨[.int k t,.ref l],[]⟩) (λ_ R s=>s.heap.get? l=aU ⟨.type "list",b,.seq a n,sl⟩/\R (.ok (.ret kT)) s):=.of_wp λprog w A R s h=>by obtain⟨c,g,d,e,os⟩:=s;obtain⟨f,h⟩:=h;wp_walk;exact⟨_,rfl,h⟩
theorem G9(l:cq)(a:Array bx)(n:Nat)(b:Option cq)(sl:Array (Option bx))(k:Int)(t:Tok)(h0:¬(!Builtin.List.listFitsIndex k)=b_)(h1:¬a.size*k.toNat>(2^63-1)/8)(c:¬r9 (a.size*k.toNat)=b_):m5 (iE.«list.__mul__» ⟨[.ref l,.int k t],[]⟩) (λ_ R s=>s.heap.get? l=aU ⟨.type "list",b,.seq a n,sl⟩/\R (.ok (.ret (ec s.heap.objs.size))) {s with heap:=s.heap.push {cls:=.type "list",data:=.seq (r_ (·++·) #[] (cr (if a.isEmpty=b_ then 0 else k.toNat) a))}}):=.of_wp λprog w A R s h=>by obtain⟨f,g,d,j,os⟩:=s;obtain⟨e,h⟩:=h;have hz:=AutoListH.joined_fits c;wp_walk using fS e;refine wpAny_ite_false (decide_eq_false (Nat.not_lt.mpr hz)) ?_;wp_walk;exact⟨_,rfl,h⟩
section
variable{X:Cx}{c:Call}{e a b d:dy}{p pa pb pd:P}{pos:Pos}
theorem Pu:fY X (fF .Add) (λx y H Q=>∃l b xs o,x=.ref l/\y=.ref b/\dO X.K H l xs/\dO X.K H b o/\xs.length+o.length<=sizeLine/\∀p,H p=ci->Q (.ref p) (upd H p (.lst (xs++o)))):=by
 intro z s σ H x y v u Q I C E h;obtain⟨l,b,xs,o,rfl,rfl,G,J,hz,q⟩:=h;cases C;cases E;obtain⟨g,r,L,_⟩:=I.list G;obtain⟨f,A,M,_⟩:=I.list J;obtain⟨⟨cls,N,data,sl⟩,ho,hc,n,hd⟩:=id L.isList;obtain⟨⟨B,t,data2,w⟩,j,k,O,m⟩:=id M.isList;simp only at hc hd k m;subst hc hd k m;have e:g.toArray++f.toArray=(g++f).toArray:=by simp
 refine m4 ⟨_,ho,rfl⟩ ⟨_,j,rfl⟩ noFill_list_add seq_list_add PySem.F.slot_list_add PySem.F.entry_list_add (PySem.F.args_list_add_2 _ _) (list_addW l b g.toArray f.toArray n O N t sl w (by simp only[cy];rw[<-r.length,<-A.length];exact hz)) ⟨ho,j,?_⟩;rw[e];exact⟨.ref _,_,I.Ue (t':=s.toks) (r.append A) (by rw[ek];exact hz),rfl,q _ I.fresh⟩
theorem K6:fY X (fF .Add) (λx y H Q=>∃a b ys,x=.ref a/\y=.ref b/\iQ X.K H a []/\iQ X.K H b ys/\Q (.ref b) H):=by intro r s σ H x y v u Q I w z h;obtain⟨a,b,ys,rfl,rfl,A,B,q⟩:=h;cases w;cases z;obtain⟨l,r1,p1,_⟩:=I.tuple A;obtain⟨f,J,p2,_⟩:=I.tuple B;obtain⟨⟨cls,C,data,sl⟩,ho,hc,n,hd⟩:=id p1;obtain⟨⟨t,m,data2,o⟩,g,j,E,k⟩:=id p2;simp only at hc hd j k;subst hc hd j k;have G:l=[]:=r1.pR.mpr rfl;subst G;exact m4 ⟨_,ho,rfl⟩ ⟨_,g,rfl⟩ nz p4 slot_tuple_add entry_tuple_add (args_tuple_add_2 _ _) (tuple_addW0 a b _ f.toArray n E C m sl o (by simp)) ⟨ho,g,⟨.ref b,H,I,rfl,q⟩⟩
theorem aZ:fY X (fF .Add) (rD X.K (tQ .add)):=by
 rintro f s σ H x y v u Q I g h⟨F,d,e,r,sm,o,q,he,k⟩;replace he:qL d e=aU r:=he;unfold qL at he;split at he;.cases he;rw[o.int]at g;rw[q.int]at h;exact W2 f s σ H _ _ v u Q I g h ⟨_,_,rfl,rfl,cH.dg sm (cj _) k⟩
 .rename_i xs ys;obtain⟨m,he⟩:=bI he;subst he;obtain⟨a,vs,rfl,t,j⟩:=o.lst sm;obtain⟨b,us,rfl,w,l⟩:=q.lst sm;exact Pu f s σ H _ _ v u Q I g h ⟨a,b,vs,us,rfl,rfl,t,w,by rw[j.length,l.length];exact m,λp z=>xH sm (j.append l) z k⟩
 . rename_i xs ys;obtain⟨m,he⟩:=bI he;subst he;obtain⟨a,vs,rfl,t,j,B⟩:=o.tup sm;obtain⟨b,us,rfl,w,l,C⟩:=q.tup sm;by_cases h0:vs=[]
   . subst h0;have A:xs=[]:=by have:=j.length;exact hB this.symm
     subst A;exact K6 f s σ H _ _ v u Q I g h ⟨a,b,us,rfl,rfl,t,w,cH.dg sm C k⟩
   . refine Pz f s σ H _ _ v u Q I g h ⟨a,b,vs,us,rfl,rfl,t,w,h0,by rw[j.length,l.length];exact m,λe=>?_,λ_ p z=>BJ sm (j.append l) z k⟩;subst e;have A:ys=[]:=by have:=l.length;exact hB this.symm
     subst A;rw[e_]at k;exact cH.dg sm B k
 .rename_i E G;obtain⟨m,he⟩:=bI he;subst he;rw[o.str]at g;rw[q.str]at h;exact zT f s σ H _ _ v u Q I g h ⟨_,_,rfl,rfl,m,cH.dg sm (Va _) k⟩
 .cases he
theorem dz:fY X (fF .Sub) (rD X.K (tQ .sub)):=by
 rintro f s σ H x y v u Q I g h⟨F,d,e,r,sm,j,l,he,k⟩;replace he:ye d e=aU r:=he;unfold ye at he;split at he;.cases he;rw[j.int]at g;rw[l.int]at h;exact Vi f s σ H _ _ v u Q I g h ⟨_,_,rfl,rfl,cH.dg sm (cj _) k⟩
 .cases he
theorem Q3:fY X (fF .Mult) (λx y H Q=>∃l k xs,x=.ref l/\y=.int k/\dO X.K H l xs/\-(2^63)<=k/\k<2^63/\xs.length*k.toNat<=sizeLine/\∀p,H p=ci->Q (.ref p) (upd H p (.lst (cr k.toNat xs).flatten))):=by
 intro w s σ H x y v u Q I A B h;obtain⟨l,k,xs,rfl,rfl,C,h1,E,hz,q⟩:=h;cases A;obtain⟨t,rfl⟩:=B;obtain⟨f,r,G,_⟩:=I.list C;obtain⟨⟨cls,z,data,sl⟩,ho,hc,n,hd⟩:=id G.isList;simp only at hc hd;subst hc hd;have g:f.toArray.size*k.toNat<=sizeLine:=by rw[cy,<-r.length];exact hz
 have o:¬ f.toArray.size*k.toNat>(2^63-1)/8:=by
  have:(sizeLine:Nat)<=(2^63-1)/8:=by decide
  lia
 have j:r_ (·++·) #[] (cr (if f.toArray.isEmpty=b_ then 0 else k.toNat) f.toArray)=(cr k.toNat f).flatten.toArray:=by
  have f0:∀m:Nat,r_ (·++·) #[] (cr m f.toArray)=(cr m f).flatten.toArray:=λm=>by have:=foldl_rep f m [];rw[mw]at this;exact this
  rw[f0];cases f with|nil=>simp|cons a L=>rw[if_neg (by simp)]
 refine pf (T:="list") (U:="int") (by decide) ⟨_,ho,rfl⟩ (λJ=>ms J k t) noFill_list_mul F.fills_int_mul F.slot_int_rmul repeat_list F.slot_int_index.lookup ?_;refine mA F.slot_int_rmul (ms s k t) F.entry_int_rmul (F.args_int_rmul_2 _ _) (tV k t l f.toArray n z sl) ⟨ho,rfl,⟨_,ho,rfl⟩,?_⟩;refine mA F.slot_list_mul ⟨_,ho,rfl⟩ F.entry_list_mul (F.args_list_mul_2 _ _) (G9 l f.toArray n z sl k t (by rw[fitsIndex_both h1 E];exact de) o (by rw[Ir g];exact de)) ⟨ho,?_⟩;rw[j];exact⟨.ref _,_,I.Ue (t':=s.toks) (r.rep k.toNat) (by rw[len_rep,oy];exact hz),rfl,q _ I.fresh⟩
theorem nF:fillsNumberSlot (.type "tuple") "mul"=fg a_:=PySem.fillsNumberSlot_seq (id:="tuple.__mul__") (r:=aU (.builtin "tuple.__rmul__")) slot_tuple_mul.lookup (by decide+kernel) PySem.F.slot_tuple_rmul.lookup (by decide+kernel)
theorem vJ:seqRepeat? (.type "tuple")=fg (aU (.builtin "tuple.__mul__")):=by unfold seqRepeat?;rw[PySem.seqSlot_of (T:="tuple") (name:="__mul__") (id:="tuple.__mul__") slot_tuple_mul.lookup (by decide+kernel),PySem.seqSlot_of (T:="tuple") (name:="__rmul__") (id:="tuple.__rmul__") PySem.F.slot_tuple_rmul.lookup (by decide+kernel)];rfl
theorem qM(k:Int)(t:Tok)(l:cq)(f:Array bx)(n:Nat)(j:Option cq)(sl:Array (Option bx)):m5 (iE.«int.__rmul__» ⟨[.int k t,.ref l],[]⟩) (λ_ R s=>s.heap.get? l=aU ⟨.type "tuple",j,.seq f n,sl⟩/\R (.ok (.ret kT)) s):=.of_wp λprog w A R s h=>by obtain⟨m,g,d,o,os⟩:=s;obtain⟨q,h⟩:=h;wp_walk;exact⟨_,rfl,h⟩
theorem zU(l:cq)(f:Array bx)(n:Nat)(r:Option cq)(sl:Array (Option bx))(k:Int)(t:Tok)(h0:0<=k)(h1:k<2^63)(hz:f.size*k.toNat<=sizeLine)(u:0<f.size):m5 (iE.«tuple.__mul__» ⟨[.ref l,.int k t],[]⟩) (λ_ R s=>s.heap.get? l=aU ⟨.type "tuple",r,.seq f n,sl⟩/\(k=1->R (.ok (.ret (ec l))) s)/\(k≠1->R (.ok (.ret (ec s.heap.objs.size))) {s with heap:=s.heap.push {cls:=.type "tuple",data:=.seq (r_ (·++·) #[] (cr k.toNat f))}})):=.of_wp λprog w A R s h=>by
  obtain⟨y,g,d,I,os⟩:=s;obtain⟨o,z,B⟩:=h;have j:f.isEmpty=a_:=by cases e:f.isEmpty with|false=>rfl|true=>rw[Array.isEmpty_iff_size_eq_zero]at e;lia
  show cE _ _ (asIndex (.int k t)>>=_) _ _ _;wp_walk using fS o;have C:qo y l f:=⟨_,o,rfl,n,rfl⟩;rw[if_neg (by simp;lia)];refine bdq (PyProof.Rows.tupleItemsOf_ C ?_);try dsimp only
  by_cases m:k=1;.rw[if_pos (by simp[m])];wp_walk using fS o;exact⟨_,rfl,z m⟩
  . have q:=B m;rw[if_neg (by simp[j,m])];by_cases E:k=0;.subst E;rw[if_pos (by simp)];unfold i_;refine bdq (ey ?_);exact cv ⟨_,rfl,q⟩
    . have J:(f.size:Int)*k<=sizeLine:=by
       have:((f.size*k.toNat:Nat):Int)<=(sizeLine:Nat):=by exact_mod_cast hz
       rw[Int.natCast_mul,show((k.toNat:Nat):Int)=k by lia]at this;exact this
      have G:(sizeLine:Int)<=(2^63-1)/8:=by decide
      rw[if_neg (by simp[j];lia),if_neg (by lia),if_neg (by simp[Builtin.Tuple.tupleTooMany];lia)];unfold i_;refine bdq (ey ?_ ?_);.exact cv ⟨_,rfl,q⟩
      .have:=foldl_rep f.toList k.toNat [];rw[mw,show f.toList.toArray=f by simp]at this;show(r_ (·++·) #[] (cr k.toNat f)).size<=sizeLine;rw[show(#[]:Array bx)=([]:List bx).toArray from rfl,this,cy,len_rep,jR,oy];exact hz
theorem PB:fY X (fF .Mult) (λx y H Q=>∃l k xs,x=.ref l/\y=.int k/\iQ X.K H l xs/\0<xs.length/\0<=k/\k<2^63/\xs.length*k.toNat<=sizeLine/\(k=1->Q (.ref l) H)/\(k≠1->∀p,H p=ci->Q (.ref p) (upd H p (.tup (cr k.toNat xs).flatten)))):=by
 intro w s σ H x y v u Q I A B h;obtain⟨l,k,xs,rfl,rfl,C,m,h1,E,hz,G,J⟩:=h;cases A;obtain⟨t,rfl⟩:=B;obtain⟨f,r,L,_⟩:=I.tuple C;obtain⟨⟨cls,z,data,sl⟩,ho,hc,n,hd⟩:=id L;simp only at hc hd;subst hc hd;have g:f.toArray.size*k.toNat<=sizeLine:=by rw[cy,<-r.length];exact hz
 have j:r_ (·++·) #[] (cr k.toNat f.toArray)=(cr k.toNat f).flatten.toArray:=by have:=foldl_rep f k.toNat [];rw[mw]at this;exact this
 refine pf (T:="tuple") (U:="int") (by decide) ⟨_,ho,rfl⟩ (λM=>ms M k t) nF F.fills_int_mul F.slot_int_rmul vJ F.slot_int_index.lookup ?_;refine mA F.slot_int_rmul (ms s k t) F.entry_int_rmul (F.args_int_rmul_2 _ _) (qM k t l f.toArray n z sl) ⟨ho,rfl,⟨_,ho,rfl⟩,?_⟩;refine mA slot_tuple_mul ⟨_,ho,rfl⟩ PySem.F.entry_tuple_mul (PySem.F.args_tuple_mul_2 _ _) (zU l f.toArray n z sl k t h1 E g (by rw[cy,<-r.length];exact m)) ⟨ho,λe=>⟨.ref l,H,I,rfl,G e⟩,λe=>?_⟩;rw[j];refine⟨.ref s.heap.objs.size,_,I.laid (t':=s.toks) (o:=.tup (cr k.toNat xs).flatten) (λb N q=>dF q) (cN) ?_,rfl,J e _ (I.hok.fresh (cN))⟩;exact⟨by rw[len_rep,oy];exact hz,_,r.rep k.toNat,k5 _ _⟩
theorem dW:fY X (fF .Mult) (rD X.K (tQ .mul)):=by
 rintro f s σ H x y v u Q I l g⟨F,d,e,r,sm,o,q,he,k⟩;replace he:mQ d e=aU r:=he;unfold mQ at he;split at he;.obtain⟨hc,he⟩:=bI he;subst he;rw[o.int]at l;rw[q.int]at g;exact VN f s σ H _ _ v u Q I l g ⟨_,_,rfl,rfl,hc,cH.dg sm (cj _) k⟩
 . rename_i xs i;obtain⟨⟨h1,m,j⟩,he⟩:=bI he;subst he;obtain⟨a,vs,rfl,t,h⟩:=o.lst sm;rw[q.int]at g;have w:i<2^63:=by have z:=oB i.toNat m;have B:i.toNat<=16777216:=ic z j;lia
   exact Q3 f s σ H _ _ v u Q I l g ⟨a,i,vs,rfl,rfl,t,by lia,w,by rw[h.length];exact j,λp A=>xH sm (h.rep i.toNat) A k⟩
 . rename_i xs i;obtain⟨⟨h1,m,j⟩,he⟩:=bI he;subst he;obtain⟨a,vs,rfl,t,h,C⟩:=o.tup sm;rw[q.int]at g;have w:i<2^63:=by have z:=oB i.toNat m;have B:i.toNat<=16777216:=ic z j;lia
   refine PB f s σ H _ _ v u Q I l g ⟨a,i,vs,rfl,rfl,t,by rw[h.length];exact m,h1,w,by rw[h.length];exact j,λe=>?_,λe p A=>BJ sm (h.rep i.toNat) A k⟩;subst e;refine cH.dg sm ?_ k;have E:(cr (1:Int).toNat xs).flatten=xs:=by simp
   rw[E];exact C
 .cases he
theorem yE:fY X (fF .FloorDiv) (rD X.K (tQ .fdiv)):=by
 rintro f s σ H x y v u Q I g h⟨F,d,e,r,sm,l,m,he,k⟩;replace he:sV d e=aU r:=he;unfold sV at he;split at he
 . rename_i i j;obtain⟨⟨h1,q⟩,he⟩:=bI he;subst he;rw[l.int]at g;rw[m.int]at h;obtain⟨t,rfl⟩:=g;obtain⟨t',rfl⟩:=h;have o:j.natAbs.log2<9000:=by
    have:j.natAbs<2^200:=by
     have:(2:Nat)^200=1606938044258990275541962092341162602522202993782792835301376:=by decide
     lia
    have w:=(Nat.log2_lt (by lia)).mpr this;lia
   exact floordiv_int (by lia) (by rw[Int.fdiv_eq_ediv_of_nonneg i (by lia)];exact⟨.int _,H,I.tok _,⟨_,rfl⟩,cH.dg sm (cj _) k⟩) (.inl (PyProof.noPylong_of_log2 o))
 .cases he
theorem gw:fY X (fF .Mod) (rD X.K (tQ .mod)):=by
 rintro f s σ H x y v u Q I g h⟨F,d,e,r,sm,j,l,he,k⟩;replace he:yj d e=aU r:=he;unfold yj at he;split at he;.obtain⟨h1,he⟩:=bI he;subst he;rw[j.int]at g;rw[l.int]at h;exact WT f s σ H _ _ v u Q I g h ⟨_,_,rfl,rfl,h1,cH.dg sm (cj _) k⟩
 .cases he
theorem lO:fY X (fF .Pow) (rD X.K (tQ .pow)):=by
 rintro f s σ H x y v u Q I g h⟨F,d,e,r,sm,j,l,he,k⟩;replace he:xY d e=aU r:=he;unfold xY at he;split at he;.obtain⟨⟨h1,o,m⟩,he⟩:=bI he;subst he;rw[j.int]at g;rw[l.int]at h;exact Vn f s σ H _ _ v u Q I g h ⟨_,_,rfl,rfl,⟨h1,by lia,m⟩,cH.dg sm (cj _) k⟩
 .cases he
theorem aA{o:Op}{op:lP}(ho:fY X (fF op) (rD X.K (tQ o)))(f:SX X c a pa)(g:SX X c b pb):SX X c (.BinOp a op b pos) (.bin o pa pb):=vN (λh1 h=>abp ho h1 h) f g (λρ=>rfl) rfl
theorem qH(j:SX X c a pa):SX X c (.UnaryOp .USub a pos) (.neg pa):=by refine VR (f:=K8) (λh1=>ZW ?_ h1) j (λρ=>rfl) rfl;rintro g s σ H x v Q I h⟨F,d,r,sm,l,he,k⟩;unfold K8 at he;obtain⟨i,m,o⟩:=map_some he;subst o;cases d<;>cases m;rw[l.int]at h;exact Vv g s σ H _ v Q I h ⟨_,rfl,cH.dg sm (cj _) k⟩
theorem EY{f:Int->Int->Bool}(ho:fY X (dY op) (Nz λi j=>.bl (f i j))):fY X (dY op) (rD X.K λx y=>(NP f x y).map λk=>.val (.bl k)):=by
 rintro g s σ H x y v u Q I l m⟨F,d,e,r,sm,o,q,he,k⟩;obtain⟨t,h,w⟩:=map_some (show(NP f d e).map _=aU r from he);subst w;unfold NP at h;split at h;.cases h;rw[o.int]at l;rw[q.int]at m;exact ho g s σ H _ _ v u Q I l m ⟨_,_,rfl,rfl,cH.dg sm (gK _) k⟩
 .cases h
theorem zR{f:Int->Int->Bool}(ho:fY X (dY op) (Nz λi j=>.bl (f i j))){o:Cm}(hc:cm o=NP f):fY X (dY op) (rD X.K (oV o)):=by
 have e:oV o=λx y=>(NP f x y).map λk=>.val (.bl k):=by funext x y;unfold oV;rw[hc]
 rw[e];exact EY ho
theorem Vx:fY X (dY .Lt) (rD X.K λx y=>(NP (λi j=>decide (i<j)) x y).map λk=>.val (.bl k)):=EY aa0
theorem vX:fY X (dY .LtE) (rD X.K (oV .le)):=zR aaS rfl
theorem gf:fY X (dY .Gt) (rD X.K (oV .gt)):=zR aaH rfl
theorem Xa:fY X (dY .GtE) (rD X.K (oV .ge)):=zR Z6 rfl
theorem uJ{d:D}(h:dG K F H v d):decide (v=.non)=iD d:=by cases d with
 |non=>rw[h.non];rfl|bl _=>rw[h.bl];rfl|int _=>rw[h.int];rfl|str _=>rw[h.str];rfl|tup _=>
   rcases h with h|⟨a,_,_,rfl,_⟩;.rw[Rep]at h;obtain⟨a,_,rfl,_⟩:=h;rfl
   .rfl|lst _=>
   rcases h with h|⟨a,_,_,rfl,_⟩;.rw[Rep]at h;obtain⟨a,_,rfl,_⟩:=h;rfl
   .rfl|dH _=>
   rcases h with h|⟨a,_,_,rfl,_⟩;.rw[Rep]at h;obtain⟨a,_,rfl,_⟩:=h;rfl
   .rfl|dv _ _=>
   rcases h with h|⟨a,_,_,rfl,_⟩;.rw[Rep]at h;obtain⟨a,_,_,rfl,_⟩:=h;rfl
   .rfl
theorem JM:fY X (dY .Is) (rD X.K (oV .isN)):=by
 rintro f s σ H x y v u Q I h j⟨F,d,e,r,sm,l,m,he,k⟩;obtain⟨t,g,o⟩:=map_some (show(Zg a_ d e).map _=aU r from he);subst o;unfold Zg at g;split at g;.cases g;exact VD f s σ H x y v u Q I h j ⟨m.non,by rw[uJ l];exact cH.dg sm (gK _) k⟩
 .cases g
theorem wN:fY X (dY .IsNot) (rD X.K (oV .Hv)):=by
 rintro f s σ H x y v u Q I h j⟨F,d,e,r,sm,l,m,he,k⟩;obtain⟨t,g,o⟩:=map_some (show(Zg b_ d e).map _=aU r from he);subst o;unfold Zg at g;split at g;.cases g;exact O1 f s σ H x y v u Q I h j ⟨m.non,by rw[uJ l];exact cH.dg sm (gK _) k⟩
 .cases g
theorem qe{o:Cm}(ho:fY X (dY op) (rD X.K (oV o)))(f:SX X c a pa)(g:SX X c b pb)(h:ga op b=a_):SX X c (.Compare a [op] [b] pos) (.cmp o pa pb):=vN (λh1 j=>PK ho h1 j h) f g (λρ=>rfl) rfl
end
section
variable{X:Cx}{c:Call}{e a b d:dy}{p pa pb pd:P}{pos:Pos}{rest:List dy}
theorem qJ{x:D}{k:Bool}(h:zE x=aU k):x=.bl k:=by cases x<;>cases h;rfl
theorem dj{x:D}{k:Int}(h:iw x=aU k):x=.int k:=by cases x<;>cases h;rfl
theorem cZ.bool{g j:Hp}{f:_L.St}{r:R}{k:Bool}(h:cZ K g ρ' f j ρ σ H v r)(e:r.d=.bl k):v=.bl k:=by cases r with|val d=>cases(show d=.bl k from e);have h:Rep K g v (.bl k):=h;rw[Rep]at h;exact h|own ds=>cases e
noncomputable def ST(X:Cx)(c:Call)(e:dy)(p:P):Prop:=PT X e (HS X.K (iR (_H.ev c p)))
noncomputable def SW(X:Cx)(c:Call)(e:dy)(p:P):Prop:=PW X e (HS X.K (iR (_H.ev c p)))
theorem SW.st(h:SW X c e p):ST X c e p:=PW.pt h
theorem nP{t:TE}{Q:Bool->Hp->Prop}(hi:∀Q,xm X.K (_H.ev c p) σ H Q->t σ H Q)(h:HS X.K (iR (_H.ev c p)) σ H Q):t σ H λx l=>∃k,x=.bl k/\Q k l:=by obtain⟨F,ρ,k,ρ',g,e,q⟩:=h;obtain⟨r,j,m,f⟩:=ak e;have o:=aC f;clear f;obtain⟨f,u⟩:=o;subst u;exact hi _ ⟨F,ρ,r,j,g,m,λv w y s z=>⟨k,z.bool (qJ f),q w y s⟩⟩
theorem eY(h:SX X c e p)(he:∀f,isTrue e X.env f=(do let v<-f;standAt e.pos;kL [v] (truthy v)):=by intro _;rfl):ST X c e p:=uQ (V6 h.ev he) λσ H Q q=>nP (λ_ z=>z) q
theorem bF{o:Cm}(ho:fY X (dY op) (rD X.K (oV o)))(j:SX X c a pa)(l:SX X c b pb)(m:ga op b=a_):ST X c (.Compare a [op] [b] pos) (.cmp o pa pb):=by obtain⟨y,A,h1,B,C⟩:=j.iG l;refine uQ (DN ho h1 B m) λσ H Q q=>nP (t:=Wg (rD X.K (oV o)) y A) (λQ z=>?_) q;obtain⟨F,ρ,r,ρ',g,e,k⟩:=z;rw[_H.E8]at e;obtain⟨h,E,G,f⟩:=ak e;have I:=aC f;clear f;obtain⟨f,J⟩:=I;subst J;refine C g G λv u L W s M N=>⟨L,h.1,h.2,r,s.gs.sub,M,N,f,λw F2 O x U=>?_⟩;exact k w F2 O (s.trans (x.stp s.gs)) (.later s (U.nu s.gs))
theorem jN(l:ST X c a pa):ST X c (.UnaryOp .Not a pos) (.not pa):=by
 refine uQ (V3 l) ?_;rintro σ H Q⟨F,ρ,k,ρ',g,e,q⟩;unfold iR at e;rw[_H.E5]at e;obtain⟨r,m,o,f⟩:=ak e;obtain⟨h,t,u,w⟩:=ak o;cases w;have y:=aC f;clear f;obtain⟨f,z⟩:=y;subst z;have f:(!h)=k:=by cases f;rfl
 exact⟨F,ρ,h,_,g,u,λA j s=>by show Q (!h) j;rw[f];exact q A j s⟩
theorem OD(ρ:List Sl):iR (_H.ev c (.and pa pb)) ρ=(iR (_H.ev c pa) ρ).bind λx ρ=>if x then iR (_H.ev c pb) ρ else .ok a_ ρ:=by unfold iR;rw[_H.E6];unfold iR;cases _H.ev c pa ρ with|exc _ _=>rfl|stuck=>rfl|ok r f=>simp only[Res.bind];cases h:zE r.d with|none=>rfl|some k=>cases k with|false=>rfl|true=>simp only[lift,if_true];cases _H.ev c pb f with|exc _ _=>rfl|stuck=>rfl|ok g j=>simp only[Res.bind];cases h2:zE g.d with|none=>rfl|some l=>rfl
theorem Wn(ρ:List Sl):iR (_H.ev c (.or pa pb)) ρ=(iR (_H.ev c pa) ρ).bind λx ρ=>if x then .ok b_ ρ else iR (_H.ev c pb) ρ:=by unfold iR;rw[_H.E7];unfold iR;cases _H.ev c pa ρ with|exc _ _=>rfl|stuck=>rfl|ok r f=>simp only[Res.bind];cases h:zE r.d with|none=>rfl|some k=>cases k with|true=>rfl|false=>simp only[lift,iL,if_false];cases _H.ev c pb f with|exc _ _=>rfl|stuck=>rfl|ok g j=>simp only[Res.bind];cases h2:zE g.d with|none=>rfl|some l=>rfl
theorem wy(f:ST X c a pa):SW X c (.BoolOp .And [a] pos) pa:=Q6 f
theorem jM(f:ST X c a pa):SW X c (.BoolOp .Or [a] pos) pa:=Ub f
theorem Ag(h:ST X c a pa)(j:SW X c (.BoolOp .And (b::rest) pos) pb):SW X c (.BoolOp .And (a::b::rest) pos) (.and pa pb):=by refine Tc (Uu h j) ?_;rintro σ H Q⟨F,ρ,k,ρ',g,e,q⟩;rw[OD]at e;obtain⟨x,f,l,e⟩:=ak e;refine⟨F,ρ,x,f,g,l,λF1 m s1=>?_⟩;cases x with|true=>rw[if_pos rfl]at e ⊢;exact⟨F1,f,k,ρ',s1.gs,e,λF2 o s2=>q F2 o (s1.trans s2)⟩|false=>rw[if_neg de]at e ⊢;cases e;exact q F1 m s1
theorem kW(h:ST X c a pa)(j:SW X c (.BoolOp .Or (b::rest) pos) pb):SW X c (.BoolOp .Or (a::b::rest) pos) (.or pa pb):=by refine Tc (aay h j) ?_;rintro σ H Q⟨F,ρ,k,ρ',g,e,q⟩;rw[Wn]at e;obtain⟨x,f,l,e⟩:=ak e;refine⟨F,ρ,x,f,g,l,λF1 m s1=>?_⟩;cases x with|true=>rw[if_pos rfl]at e ⊢;cases e;exact q F1 m s1|false=>rw[if_neg de]at e ⊢;exact⟨F1,f,k,ρ',s1.gs,e,λF2 o s2=>q F2 o (s1.trans s2)⟩
theorem Qc{op}(f:SX X c a pa):PE X (.BoolOp op [a] pos) (xm X.K (_H.ev c pa)):=Uy f.ev
theorem JF(m:SX X c a pa)(o:PE X (.BoolOp .And (b::rest) pos) (xm X.K (_H.ev c pb))):SX X c (.BoolOp .And (a::b::rest) pos) (.and pa pb):=by refine⟨eU (V2 m.ev o) ?_,λi h=>by cases h⟩;rintro σ H Q⟨F,ρ,r,ρ',g,e,k⟩;rw[_H.E6]at e;obtain⟨x,f,q,e⟩:=ak e;refine nP (c:=c) (λ_ z=>z) (Q:=λx j=>if x=b_ then xm X.K (_H.ev c pb) σ j Q else Q (.bl a_) j) ⟨F,ρ,x,f,g,q,λF1 j s1=>?_⟩;cases x with|true=>rw[if_pos rfl]at e ⊢;obtain⟨y,s,t,u⟩:=ak e;cases u;obtain⟨w,A,B,l⟩:=ak t;have C:=aC l;clear l;obtain⟨l,E⟩:=C;subst E;refine⟨F1,f,w,_,s1.gs,B,λv F2 G s2 I=>?_⟩;rw[I.bool (qJ l)];exact k _ F2 G (s1.trans s2) (show Rep X.K F2 _ _ from gK _)|false=>rw[if_neg de]at e ⊢;cases e;exact k _ F1 j s1 (show Rep X.K F1 _ _ from gK _)
theorem vV(hc:ST X c e p)(w:SX X c a pa)(y:SX X c b pb):SX X c (.IfExp e a b pos) (.Tu p pa pb):=by refine⟨eU (Ke hc w.ev y.ev) ?_,λi h=>by cases h⟩;rintro σ H Q⟨F,ρ,r,ρ',g,e,k⟩;rw[_H.E10]at e;obtain⟨x,f,z,e⟩:=ak e;refine⟨F,ρ,x,f,g,z,λF1 A s1=>?_⟩;cases x with|true=>rw[if_pos rfl]at e ⊢;obtain⟨j,l,m,o⟩:=ak e;cases o;refine⟨F1,f,j,_,s1.gs,m,λv F2 q s2 s=>?_⟩;obtain⟨t,s3,_,u⟩:=s2.dB s;exact k v t q (s1.trans s3) u|false=>rw[if_neg de]at e ⊢;obtain⟨j,l,m,o⟩:=ak e;cases o;refine⟨F1,f,j,_,s1.gs,m,λv F2 q s2 s=>?_⟩;obtain⟨t,s3,_,u⟩:=s2.dB s;exact k v t q (s1.trans s3) u
theorem wM:∀{ps:List P}{ρ ρ':List Sl}{ds:List D},evs c ps ρ=.ok ds ρ'->ds.length=ps.length|[],_,_,_,h=>by rw[Ib]at h;cases h;rfl|p::ps,_,_,_,h=>by rw[Ju]at h;obtain⟨r,f,_,h⟩:=ak h;obtain⟨xs,g,j,h⟩:=ak h;cases h;simp[wM j]
theorem aR:SA X c [] []:=⟨yI dZ λσ H Q⟨F,ρ,ds,ρ',g,e,k⟩=>by rw[Ib]at e;cases e;exact k [] F H (.refl g) .nil,rfl⟩
theorem Ew{ps:List P}(h:SX X c a pa)(hr:SA X c es ps)(hs:cx (a::es) X.env=(a_,eA a X.env)::cx es X.env:=by rfl):SA X c (a::es) (pa::ps):=by refine⟨yI (bZ h.ev hr.1 hs) ?_,by simp[hr.2]⟩;rintro σ H Q⟨F,ρ,ds,ρ',g,e,k⟩;rw[Ju]at e;obtain⟨r,f,j,e⟩:=ak e;obtain⟨xs,l,m,e⟩:=ak e;cases e;refine⟨F,ρ,r,f,g,j,λv w y s o=>?_⟩;obtain⟨F1,s1,_,q⟩:=s.dB o;refine⟨F1,f,xs,_,s1.gs,m,λvs F2 t s2 u=>?_⟩;exact k _ F2 t (s1.trans s2) (.cons (q.mono s2.cB) u)
theorem Ext.QD{h j:Hp}{Q:VK}{xs:List V}(s:az K j ρ σ h F ρ' σ H)(r:aG K F xs ds)(k:∀v g f,az K j ρ σ h g ρ' σ f->cZ K g ρ' σ f ρ σ h v (.val (.tup ds))->Q v f)(p:cq)(l:H p=ci):Q (.ref p) (upd H p (.tup xs)):=BJ s.gs.sub r l λv g f x m=>k v g f (s.trans (x.stp s.gs)) m
theorem cF{ps:List P}{x1}(h:SA X c es ps)(hz:ps.length<=sizeLine:=by decide):SX X c (.Tuple es x1 pos) (.tup ps):=by refine⟨eU (Um h.1) ?_,λi h=>by cases h⟩;rintro σ H Q⟨F,ρ,r,ρ',g,e,k⟩;rw[_H.E11]at e;obtain⟨ds,l,f,e⟩:=ak e;cases e;exact⟨F,ρ,ds,_,g,f,λvs o q s j=>⟨by rw[j.length,wM f];exact hz,λp m=>Ext.QD s j k p m⟩⟩
theorem cT{ps:List P}(h:SA X c es ps)(hz:ps.length<=sizeLine:=by decide):SX X c (.List es pos) (.lst ps):=by refine⟨eU (T9 h.1) ?_,λi h=>by cases h⟩;rintro σ H Q⟨F,ρ,r,ρ',g,e,k⟩;rw[_H.E12]at e;obtain⟨ds,l,f,e⟩:=ak e;cases e;exact⟨F,ρ,ds,_,g,f,λvs t u s j=>⟨by rw[j.length,wM f];exact hz,λp m=>xH s.gs.sub j m λv F2 o x q=>k v F2 o (s.trans (x.stp s.gs)) (.later s (q.nu s.gs))⟩⟩
theorem Kw{i:Int}{d:D}(h:at' ds i=aU d):∃j,_L.ik ds.length i=aU j/\ds[j]?=aU d:=cG h
theorem af1:IxR X (rD X.K GC):=by
 rintro f slice g s σ H x y v u Q I m l⟨F,d,e,r,sm,t,A,he,k⟩hs;unfold GC at he;obtain⟨ds,B,he⟩:=cG he;obtain⟨i,C,he⟩:=cG he;obtain⟨z,E,he⟩:=map_some he;subst he;cases dj C;rw[A.int]at l;obtain⟨p,xs,rfl,hq,o⟩:=t.items sm B;obtain⟨j,h1,G⟩:=Kw E;obtain⟨w,J,q⟩:=o.get G;have h:LC xs i=aU w:=by unfold LC;rw[o.length,h1];exact J
 rcases hq with hq|hq;.exact FT f slice g s σ H _ _ v u Q I m l ⟨p,xs,i,w,rfl,rfl,hq,h,cH.dg sm q k⟩ hs
 .exact Ve f slice g s σ H _ _ v u Q I m l ⟨p,xs,i,w,rfl,rfl,hq,h,cH.dg sm q k⟩ hs
theorem ao(g:SX X c a pa)(h:SX X c b pb)(hs:vB b:=by intro _ _;rfl):SX X c (.Subscript a b pos) (.idx pa pb):=vN (f:=GC) (λh1 j=>RJ af1 h1 j hs) g h (λρ=>rfl) rfl
noncomputable def S8(K:PySem.W.Frag)(f:D->Option R):List V->Hp->VK->Prop:=λxs H Q=>∃x,xs=[x]/\rD1 K f x H Q
theorem rZ{E:dy}{f:D->Option R}{q:P}(l:∀{t},PA X [a] t->PE X E (tCB (S8 X.K f) t))(m:SX X c a pa)(o:∀ρ,_H.ev c q ρ=(_H.cJ (isVar pa) (_H.ev c pa) ρ).bind λx ρ=>lift (f x) ρ)(u:isVar q=ci)(hs:cx [a] X.env=(a_,eA a X.env)::cx [] X.env:=by rfl):SX X c E q:=by obtain⟨M,h1,y⟩:=m.cJ;refine⟨eU (l (bZ h1 dZ hs)) ?_,λi h=>by rw[u]at h;cases h⟩;rintro σ H Q⟨F,ρ,r,ρ',g,e,k⟩;rw[o]at e;obtain⟨x,z,A,j⟩:=ak e;have B:=aC j;clear j;obtain⟨j,C⟩:=B;subst C;refine y g A λv G N s I=>⟨v,rfl,G,x,r,s.gs.sub,I,j,λw F2 J x L=>?_⟩;exact k w F2 J (s.trans (x.stp s.gs)) (.later s (L.nu s.gs))
theorem aaR:fj X (.builtin "len") (S8 X.K λx=>blt .len [x]):=by rintro f s σ H xs us Q I r⟨x,g,F,d,h,sm,j,he,k⟩;obtain⟨ds,l,he⟩:=map_some (show(items d).map _=aU h from he);subst he;obtain⟨p,ys,rfl,m,o⟩:=j.items sm l;exact vH f s σ H xs us Q I r ⟨p,ys,g,m,by rw[o.length];exact cH.dg sm (cj _) k⟩
theorem Uj:fj X (.type "list") (S8 X.K λx=>blt .list [x]):=by rintro f s σ H xs us Q I r⟨x,g,F,d,h,sm,j,he,k⟩;obtain⟨ds,m,he⟩:=map_some (show(items d).map _=aU h from he);subst he;obtain⟨p,ys,rfl,o,q⟩:=j.items sm m;exact wF f s σ H xs us Q I r ⟨p,ys,g,o,λl t=>xH sm q t k⟩
theorem QW:fj X (.type "tuple") (S8 X.K λx=>blt .tuple [x]):=by rintro f s σ H xs us Q I r⟨x,j,F,d,q,sm,m,he,k⟩;obtain⟨ds,g,he⟩:=map_some (show(items d).map _=aU q from he);subst he;cases d with|tup es=>cases g;obtain⟨a,ys,rfl,h,o,rt⟩:=m.tup sm;exact kY f s σ H xs us Q I r ⟨a,ys,j,.inr ⟨h,cH.dg sm rt k⟩⟩|lst es=>cases g;obtain⟨a,ys,rfl,h,o⟩:=m.lst sm;exact kY f s σ H xs us Q I r ⟨a,ys,j,.inl ⟨h,λl t=>BJ sm o t k⟩⟩|_=>cases g
theorem je(f:x="len")(g:Gl X x)(j:X.mg x=ci)(k:SX X c a pa)(hs:cx [a] X.env=(a_,eA a X.env)::cx [] X.env:=by rfl):SX X c (.Call (.Name x p') [a] [] pos) (.blt .len [pa]):=by subst f;exact rZ (λh=>fM aaR g j PySem.boot_len h (he:=hs)) k (λρ=>rfl) rfl hs
theorem vg(f:x="list")(g:Gl X x)(j:X.mg x=ci)(k:SX X c a pa)(hs:cx [a] X.env=(a_,eA a X.env)::cx [] X.env:=by rfl):SX X c (.Call (.Name x p') [a] [] pos) (.blt .list [pa]):=by subst f;exact rZ (λh=>nH Uj g j (by decide+kernel) h (he:=hs)) k (λρ=>rfl) rfl hs
theorem jA(f:x="tuple")(g:Gl X x)(j:X.mg x=ci)(k:SX X c a pa)(hs:cx [a] X.env=(a_,eA a X.env)::cx [] X.env:=by rfl):SX X c (.Call (.Name x p') [a] [] pos) (.blt .tuple [pa]):=by subst f;exact rZ (λh=>nH QW g j (by decide+kernel) h (he:=hs)) k (λρ=>rfl) rfl hs
end
noncomputable def Rm(K:PySem.W.Frag)(np:Nat)(f:List Sl->Res R):Sp:=λvs H Q _=>vs.length=np/\∃F args r a,GS K F args (vs.map aU) H/\f args=.ok r a/\∀v e b c,az K F args (vs.map aU) H e a b c->cZ K e a b c args (vs.map aU) H v r->Q v c
section
variable{K:PySem.W.Frag}
noncomputable def zX(K:PySem.W.Frag)(F:Hp)(ρ:List Sl)(σ:_L.St)(H:Hp)(ρ₀:List Sl)(H₀:Hp)(v:V):Arg->Prop|.dat d=>Rep K F v d|.tmp ds=>∃x xs,v=.ref x/\H x=aU (.lst xs)/\F x=ci/\aG K F xs ds/\¬ Own ρ σ x/\(Own ρ₀ σ x\/H₀ x=ci)|.fL i=>σ[i]?=aU (aU v)
structure yV(K:PySem.W.Frag)(F:Hp)(ρ:List Sl)(σ:_L.St)(H:Hp)(ρ₀:List Sl)(H₀:Hp)(as:List Arg)(vs:List V):Prop where
 len:as.length=vs.length
 one:∀(j:Nat)(a:Arg)(v:V),as[j]?=aU a->vs[j]?=aU v->zX K F ρ σ H ρ₀ H₀ v a
 dis:∀(j k:Nat)(ds es:List D)(x:cq),as[j]?=aU (.tmp ds)->as[k]?=aU (.tmp es)->vs[j]?=aU (.ref x)->vs[k]?=aU (.ref x)->j=k
theorem zX.later{b f:Hp}{a:Arg}(s:az K F ρ σ H b ρ' σ f)(h:zX K F ρ σ H ρ₀ H₀ v a):zX K b ρ' σ f ρ₀ H₀ v a:=by cases a with|dat d=>exact Rep.mono s.cB h|fL i=>exact h|tmp ds=>
   obtain⟨x,xs,h1,c,g,j,e,k⟩:=h;refine⟨x,xs,h1,s.keep x _ c e,?_,j.mono s.cB,λo=>?_,k⟩;.cases q:b x with|none=>rfl|some o=>
       rcases s.zj x g (by rw[q];simp)with z|z;.exact absurd z e
       .exact(Mg c z).elim
   . rcases s.xq x o with z|z;.exact e z
     .rw[c]at z;cases z
theorem yV.nil:yV K F ρ σ H ρ₀ H₀ [] []:=⟨rfl,λj a v h=>by simp at h,λj k ds es x h=>by simp at h⟩
theorem yV.cons{F H H₀:Hp}{ρ ρ₀:List Sl}{σ:_L.St}{a:Arg}{v:V}{as:List Arg}{vs:List V}(h:zX K F ρ σ H ρ₀ H₀ v a)(t:yV K F ρ σ H ρ₀ H₀ as vs)(hd:∀ds x,a=.tmp ds->v=.ref x->∀(k:Nat)es,as[k]?=aU (.tmp es)->vs[k]?≠aU (.ref x)):yV K F ρ σ H ρ₀ H₀ (a::as) (v::vs):=by
 refine⟨by simp[t.len],λj b u h1 c=>?_,λj k ds es x h1 c e f=>?_⟩;.cases j with|zero=>simp at h1 c;subst h1;subst c;exact h|succ j=>exact t.one j b u (by simpa using h1) (by simpa using c)
 .cases j with
   |zero=>cases k with|zero=>rfl|succ k=>simp at h1 e;exact absurd (by simpa using f) (hd ds x h1 e k es (by simpa using c))
   |succ j=>cases k with|zero=>simp at c f;exact absurd (by simpa using e) (hd es x c f j ds (by simpa using h1))|succ k=>rw[t.dis j k ds es x (by simpa using h1) (by simpa using c) (by simpa using e) (by simpa using f)]
noncomputable def Lz(ρ:List Sl):Arg->Sl->Prop|.dat d,s=>s=.val a_ d|.tmp ds,s=>s=.own a_ ds|.fL i,s=>(∃b d,ρ[i]?=aU (.val b d)/\s=.val a_ d)\/(∃b ds,ρ[i]?=aU (.own b ds)/\s=.own b_ ds)\/∃ds,ρ[i]?=aU (.lent ds)/\s=.lent ds
theorem rY{ρ:List Sl}:∀{as:List Arg}{c:List Nat}{args:List Sl},cz ρ as c=aU args->args.length=as.length/\(∀(j:Nat)(a:Arg)(s:Sl),as[j]?=aU a->args[j]?=aU s->Lz ρ a s)/\(∀(j:Nat)(i:Nat)(s:Sl)ds,as[j]?=aU (.fL i)->args[j]?=aU s->lst? s=aU ds->i∉c)/\(∀(j k:Nat)(i:Nat)(s t:Sl)ds es,as[j]?=aU (.fL i)->as[k]?=aU (.fL i)->args[j]?=aU s->args[k]?=aU t->lst? s=aU ds->lst? t=aU es->j=k)
 |[],c,args,h=>by rw[Bd]at h;cases h;exact⟨rfl,λj a s h=>by simp at h,λj i s ds h=>by simp at h,λj k i s t ds es h=>by simp at h⟩|a::as,c,args,h=>by--the aha slot,the ahb
   have key:∃s0 r u,args=s0::r/\cz ρ as u=aU r/\Lz ρ a s0/\((∃i ds,a=.fL i/\lst? s0=aU ds/\u=i::c/\i∉c)\/((∀i ds,a=.fL i->lst? s0≠aU ds)/\u=c)):=by cases a with|dat d=>rw[BZ]at h;obtain⟨r,g,l⟩:=map_some h;exact⟨_,r,c,l.symm,g,rfl,.inr ⟨λi ds z=>(by cases z),rfl⟩⟩|tmp d=>rw[zN]at h;obtain⟨r,g,l⟩:=map_some h;exact⟨_,r,c,l.symm,g,rfl,.inr ⟨λi ds z=>(by cases z),rfl⟩⟩|fL i=>
      rw[qm]at h;split at h;.rename_i b d q;obtain⟨r,g,l⟩:=map_some h;exact⟨_,r,c,l.symm,g,.inl ⟨b,d,q,rfl⟩,.inr ⟨λ_ _ _ z=>(by cases z),rfl⟩⟩
      . rename_i b ds q;split at h;.cases h
        .rename_i o;obtain⟨r,g,l⟩:=map_some h;exact⟨_,r,_,l.symm,g,.inr (.inl ⟨b,ds,q,rfl⟩),.inl ⟨i,_,rfl,rfl,rfl,by simpa using o⟩⟩
      . rename_i ds q;split at h;.cases h
        .rename_i o;obtain⟨r,g,l⟩:=map_some h;exact⟨_,r,_,l.symm,g,.inr (.inr ⟨ds,q,rfl⟩),.inl ⟨i,_,rfl,rfl,rfl,by simpa using o⟩⟩
      .cases h
   obtain⟨s0,r,u,rfl,hr,A,o⟩:=key;obtain⟨M,l2,B,N⟩:=rY hr;have sub:∀i,i∉u->i∉c:=λi hi J=>by
    rcases o with⟨_,_,_,_,rfl,_⟩|⟨_,rfl⟩;.exact hi (dr _ J)
    .exact hi J
   refine⟨by simp[M],λj b s h1 f=>?_,λj i s ds h1 f p=>?_,λj k i s t ds es h1 f p y C E=>?_⟩;.cases j with|zero=>simp at h1 f;subst h1;subst f;exact A|succ j=>exact l2 j b s (by simpa using h1) (by simpa using f)
   .cases j with|zero=>
       simp at h1 f;subst h1;subst f;rcases o with⟨L,_,e,_,_,m⟩|⟨m,_⟩;.cases e;exact m
       .exact absurd p (m i ds rfl)|succ j=>exact sub i (B j i s ds (by simpa using h1) (by simpa using f) p)
   . have O:∀(k:Nat)(t:Sl)es,a=.fL i->lst? s0=aU ds->(as[k]?=aU (.fL i))->r[k]?=aU t->lst? t=aU es->False:=λk t es w G I ht he=>by
      rcases o with⟨L,_,e,_,rfl,m⟩|⟨m,_⟩;.rw[w]at e;cases e;exact B k i t es I ht he io
      .exact m i ds w G
     have Q:∀(k:Nat)(t:Sl)es,a=.fL i->lst? s0=aU es->(as[k]?=aU (.fL i))->r[k]?=aU t->lst? t=aU ds->False:=λk t es w G I ht he=>by
      rcases o with⟨L,_,e,_,rfl,m⟩|⟨m,_⟩;.rw[w]at e;cases e;exact B k i t ds I ht he io
      .exact m i es w G
     cases j with
     |zero=>cases k with|zero=>rfl|succ k=>simp at h1 p;subst p;exact(O k t es h1 C (by simpa using f) (by simpa using y) E).elim
     |succ j=>cases k with|zero=>simp at f y;subst y;exact(Q j s es f E (by simpa using h1) (by simpa using p) C).elim|succ k=>rw[N j k i s t ds es (by simpa using h1) (by simpa using f) (by simpa using p) (by simpa using y) C E]
theorem yV.get(A:yV K F ρ σ H ρ₀ H₀ as vs){args:List Sl}{j:Nat}{s:Sl}(c:args.length=as.length)(h:args[j]?=aU s):∃a v,as[j]?=aU a/\vs[j]?=aU v/\zX K F ρ σ H ρ₀ H₀ v a:=by
 have e:j<args.length:=(dD h).1;have h1:j<as.length:=by lia
 have b:j<vs.length:=by rw[<-A.len];exact h1
 exact⟨as[j],vs[j],by simp[h1],by simp[b],A.one j _ _ (by simp[h1]) (by simp[b])⟩
theorem args_gs{args:List Sl}(g:GS K F ρ σ H)(A:yV K F ρ σ H ρ₀ H₀ as vs)(h:cz ρ as []=aU args):GS K F args (vs.map aU) H:=by
 obtain⟨I,l2,l3,Z⟩:=rY h;have M:∀{j:Nat}{v:V},vs[j]?=aU v->(vs.map aU)[j]?=aU (aU v):=λe=>by rw[fk,e];rfl
 have dn:∀{j:Nat}{v:V},(vs.map aU)[j]?=aU (aU v)->vs[j]?=aU v:=λ{j v}e=>by rw[fk]at e;cases q:vs[j]?with|none=>rw[q]at e;cases e|some w=>rw[q]at e;cases e;rfl
 refine⟨g.sub,by rw[I,A.len,dV],λj b d e=>?_,λj s ds e J=>?_,λj k x⟨⟨s,ds,e1,e2⟩,N⟩⟨⟨t,es,f1,f2⟩,f3⟩=>?_⟩;.obtain⟨a,v,h1,u,m⟩:=A.get I e;have B:=l2 j a _ h1 e;refine⟨v,M u,?_⟩;cases a with|dat d'=>cases B;exact m|tmp ds=>cases B|fL i=>
     rcases B with⟨O,d',r,c⟩|⟨_,_,_,c⟩|⟨_,_,c⟩;.cases c;obtain⟨w,f,p⟩:=g.val i O d r;have m:σ[i]?=aU (aU v):=m;rw[m]at f;cases f;exact p
     .cases c
     .cases c
 .obtain⟨a,v,h1,u,m⟩:=A.get I e;have B:=l2 j a _ h1 e;cases a with|dat d'=>cases B;cases J|tmp es=>cases B;cases J;obtain⟨x,xs,rfl,c,f,p,_⟩:=m;exact⟨x,_,M u,c,f,xs,rfl,p⟩|fL i=>
     have m:σ[i]?=aU (aU v):=m;rcases B with⟨O,d',r,c⟩|⟨O,es,r,c⟩|⟨es,r,c⟩;.cases c;cases J
     .cases c;cases J;obtain⟨x,xs,f,p⟩:=g.own i _ _ r rfl;rw[m]at f;cases f;exact⟨x,xs,M u,p⟩
     .cases c;cases J;obtain⟨x,xs,f,p⟩:=g.own i _ _ r rfl;rw[m]at f;cases f;exact⟨x,xs,M u,p⟩
 . obtain⟨a,v,h1,u,m⟩:=A.get I e1;obtain⟨Q,v',C,L,E⟩:=A.get I f1;have N:=dn N;have f3:=dn f3;rw[u]at N;cases N;rw[L]at f3;cases f3;have s1:=l2 j a _ h1 e1;have s2:=l2 k Q _ C f1;have U:∀{i:Nat}{s:Sl}{ds:Oc},lst? s=aU ds->Lz ρ (.fL i) s->∃G o,ρ[i]?=aU G/\lst? G=aU o:=λ{i s ds}l z=>by
    rcases z with⟨_,_,_,z⟩|⟨b,es,q,_⟩|⟨es,q,_⟩;.subst z;cases l
    .exact⟨_,_,q,rfl⟩
    .exact⟨_,_,q,rfl⟩
   cases a with
   |dat d=>cases s1;cases e2|tmp XF=>cases Q with|dat d=>cases s2;cases f2|tmp Y=>exact A.dis j k XF Y x h1 C u L|fL i=>obtain⟨y,_,r,_,_,_,c,_⟩:=m;cases r;obtain⟨G,o,f,p⟩:=U f2 s2;exact absurd ⟨i,⟨G,o,f,p⟩,E⟩ c
   |fL i=>obtain⟨G,o,f,p⟩:=U e2 s1;cases Q with|dat d=>cases s2;cases f2|tmp Y=>obtain⟨y,_,r,_,_,_,c,_⟩:=E;cases r;exact absurd ⟨i,⟨G,o,f,p⟩,m⟩ c|fL i'=>obtain⟨W,X,q5,q6⟩:=U f2 s2;have:=g.dis i i' x ⟨⟨G,o,f,p⟩,m⟩ ⟨⟨W,X,q5,q6⟩,E⟩;subst this;exact Z j k i s t ds es h1 C e1 f1 e2 f2
theorem oh{as:List Arg}{ss:List Sl}:∀(ρ:List Sl)(n i:Nat),(eZ as ss n ρ)[i]?=(ρ[i]?).map λs=>eG s (aY (n+i) as ss)
 |[],n,i=>by simp[qY,lH]|s::ρ,n,0=>by simp[qY,lH]|s::ρ,n,i+1=>by
   rw[lH];simp only[gE];rw[oh ρ (n+1) i];have:n+1+i=n+(i+1):=by lia
   rw[this]
theorem nU{as:List Arg}{ss:List Sl}:∀(ρ:List Sl)(n:Nat),(eZ as ss n ρ).length=ρ.length|[],n=>rfl|s::ρ,n=>by rw[lH];simp[nU ρ]
theorem jd{i:Nat}:∀{as:List Arg}{ss:List Sl}{t:Sl},aY i as ss=aU t->∃j:Nat,as[j]?=aU (.fL i)/\ss[j]?=aU t
 |[],_,_,h=>by simp[aY]at h|a::as,[],_,h=>by cases a<;>simp[aY]at h|a::as,s::ss,t,h=>by
   have b:aY i as ss=aU t->∃j:Nat,(a::as)[j]?=aU (.fL i)/\(s::ss)[j]?=aU t:=λh=>by obtain⟨j,h1,c⟩:=jd h;exact⟨j+1,by simpa using h1,by simpa using c⟩
   cases a with|dat d=>exact b (by simpa[aY]using h)|tmp d=>exact b (by simpa[aY]using h)|fL k=>
     rw[aY]at h;split at h;.rename_i e;cases h;subst e;exact⟨0,rfl,rfl⟩
     .exact b h
theorem lz{i:Nat}:∀{as:List Arg}{ss:List Sl},as.length=ss.length->aY i as ss=ci->∀j:Nat,as[j]?≠aU (.fL i)
 |[],_,_,_=>λj h=>by simp at h|a::as,[],b,_=>by simp at b|a::as,s::ss,b,h=>λj c=>by
   have f:as.length=ss.length:=by simpa using b
   have g:aY i as ss=ci/\a≠.fL i:=by cases a with|dat d=>exact⟨by simpa[aY]using h,by simp⟩|tmp d=>exact⟨by simpa[aY]using h,by simp⟩|fL k=>
      rw[aY]at h;split at h;.cases h
      .rename_i l;exact⟨h,λe=>l (by cases e;rfl)⟩
   cases j with|zero=>simp at c;exact g.2 c|succ j=>exact lz f g.1 j (by simpa using c)
theorem Ls{Q X H':Hp}{args c:List Sl}{Y:_L.St}(s0:az K Q ρ₀ σ H₀ F ρ σ H)(A:yV K F ρ σ H ρ₀ H₀ as vs)(hb:cz ρ as []=aU args)(s:az K F args (vs.map aU) H X c Y H'):az K Q ρ₀ σ H₀ X (eZ as c 0 ρ) σ H'/\∀v r,cZ K X c Y H' args (vs.map aU) H v r->cZ K X (eZ as c 0 ρ) σ H' ρ₀ σ H₀ v r:=by
 have g:=s0.gs;obtain⟨M,l2,l3,l4⟩:=rY hb;have up:∀{j:Nat}{v:V},vs[j]?=aU v->(vs.map aU)[j]?=aU (aU v):=λe=>by rw[fk,e];rfl
 have dn:∀{j:Nat}{v:V},(vs.map aU)[j]?=aU (aU v)->vs[j]?=aU v:=λ{j v}e=>by rw[fk]at e;cases q:vs[j]?with|none=>rw[q]at e;cases e|some w=>rw[q]at e;cases e;rfl
 have la:as.length=c.length:=by rw[s.len,M]--whose are the lists that the callee holds
 have own:∀b,Own args (vs.map aU) b->(∃(j:Nat)(ds:List D),as[j]?=aU (Arg.tmp ds)/\vs[j]?=aU (V.ref b)/\¬ Own ρ σ b/\(Own ρ₀ σ b\/H₀ b=ci))\/Own ρ σ b:=λb⟨j,⟨sl,ds,E,U⟩,e3⟩=>by obtain⟨a,v,h1,C,J⟩:=A.get M E;have s1:=l2 j a _ h1 E;have e3:=dn e3;rw[C]at e3;cases e3;cases a with|dat d=>cases s1;cases U|tmp es=>obtain⟨x,_,k,_,_,_,f,N⟩:=J;cases k;exact .inl ⟨j,es,h1,C,f,N⟩|fL i=>
    right;rcases s1 with⟨_,_,_,z⟩|⟨b',es,q,_⟩|⟨es,q,_⟩;.subst z;cases U
    .exact⟨i,⟨_,_,q,rfl⟩,J⟩
    .exact⟨i,⟨_,_,q,rfl⟩,J⟩
 have back:∀b,Own ρ σ b\/H b=ci->Own ρ₀ σ b\/H₀ b=ci:=λb h=>by
  rcases h with h|h;.exact s0.xq b h
  . by_cases ho:Own ρ₀ σ b;.exact .inl ho
    .right;cases e:H₀ b with|none=>rfl|some o=>rw[s0.keep b o e ho]at h;cases h
 have L:∀b,Own args (vs.map aU) b->Own ρ₀ σ b\/H₀ b=ci:=λb h=>by
  rcases own b h with⟨_,_,_,_,_,z⟩|z;.exact z
  .exact back b (.inl z)--a name's slot behind the call
 have slot:∀{i:Nat}{t:Sl},(eZ as c 0 ρ)[i]?=aU t->∃s1,ρ[i]?=aU s1/\t=eG s1 (aY i as c):=λ{i t}h=>by rw[oh]at h;obtain⟨s1,E,U⟩:=map_some h;exact⟨s1,E,by rw[<-U,rq]⟩
 have ae:∀{i:Nat}{s1:Sl},ρ[i]?=aU s1->(eZ as c 0 ρ)[i]?=aU (eG s1 (aY i as c)):=λ{i s1}h=>by rw[oh,h,rq];rfl--what the callee left of a list that was lent to it
 have lent:∀{i j:Nat}{s1 t:Sl}{ds:List D},ρ[i]?=aU s1->lst? s1=aU (.l ds)->as[j]?=aU (.fL i)->c[j]?=aU t->∃v s2,σ[i]?=aU (aU v)/\Y[j]?=aU (aU v)/\args[j]?=aU s2/\mG s2 t/\((∃b,s1=.own b ds/\s2=.own b_ ds)\/(s1=.lent ds/\s2=.lent ds)):=λ{i j s1 t ds}h1 C J h4=>by
  have Z:j<args.length:=by rw[M];exact(dD J).1
  have E:args[j]?=aU args[j]:=by simp[Z]
  obtain⟨a,v,k,f,N⟩:=A.get M E;rw[J]at k;cases k;have q4:=l2 j _ _ J E;have kind:(∃b,s1=.own b ds/\args[j]=.own b_ ds)\/(s1=.lent ds/\args[j]=.lent ds):=by
   rcases q4 with⟨_,_,z,_⟩|⟨b,es,z,z'⟩|⟨es,z,z'⟩;.rw[h1]at z;cases z;cases C
   .rw[h1]at z;cases z;cases C;exact .inl ⟨b,rfl,z'⟩
   .rw[h1]at z;cases z;cases C;exact .inr ⟨rfl,z'⟩
  have lk:uA args[j]=b_:=by rcases kind with⟨_,_,z⟩|⟨_,z⟩<;>rw[z]<;>rfl
  obtain⟨u,s',y,z3⟩:=s.lk j _ E lk;rw[h4]at y;cases y;exact⟨v,_,N,by rw[u];exact up f,E,z3,kind⟩
 have Rw:∀{i:Nat}{x:cq},aX (eZ as c 0 ρ) σ i x->aX ρ σ i x:=λ{i x}⟨⟨t,ds,E,U⟩,e3⟩=>by obtain⟨s1,k,f⟩:=slot E;refine⟨?_,e3⟩;cases s1 with|aO=>subst f;cases U|val b d=>subst f;cases U|own b es=>exact⟨_,_,k,rfl⟩|lent es=>exact⟨_,_,k,rfl⟩|gV m=>exact⟨_,_,k,rfl⟩|cM m=>exact⟨_,_,k,rfl⟩|hold _=>subst f;cases U
 refine⟨?_,λv r h=>?_⟩;rotate_left;.cases r with|val d=>exact h|own ds=>
     obtain⟨x,xs,h1,C,J,h4,h5,h6⟩:=h;refine⟨x,xs,h1,C,J,h4,λ⟨i,h⟩=>?_,?_⟩
     . have hO:=Rw h;obtain⟨⟨s1,XF,k,f⟩,N⟩:=hO;obtain⟨x',ai,w1,w2,_⟩:=g.own i s1 XF k f;rw[N]at w1;cases w1;rcases h6 with h6|h6
       . rcases own x h6 with⟨_,_,_,_,z,_⟩|_;.exact z ⟨i,⟨s1,XF,k,f⟩,N⟩
         .--a name was lent
           obtain⟨j,⟨sl,es,w3,w4⟩,w5⟩:=h6;obtain⟨a',v',G,O,y3⟩:=A.get M w3;have sa:=l2 j a' _ G w3;have w5:=dn w5;rw[O]at w5;cases w5;cases a' with|dat d=>cases sa;cases w4|tmp al=>obtain⟨_,_,u1,_,_,_,u2,_⟩:=y3;cases u1;exact u2 ⟨i,⟨s1,XF,k,f⟩,N⟩|fL i'=>
             have ex:∃s' ac,ρ[i']?=aU s'/\lst? s'=aU ac:=by
              rcases sa with⟨_,_,_,z⟩|⟨b,es,q,_⟩|⟨es,q,_⟩;.subst z;cases w4
              .exact⟨_,_,q,rfl⟩
              .exact⟨_,_,q,rfl⟩
             have:=g.dis i i' x ⟨⟨s1,XF,k,f⟩,N⟩ ⟨ex,y3⟩;subst this;have hk:∃Rv,XF=.l Rv:=by
              rcases sa with⟨_,_,_,z⟩|⟨b,es,q,_⟩|⟨es,q,_⟩;.subst z;cases w4
              .rw[k]at q;cases q;cases f;exact⟨_,rfl⟩
              .rw[k]at q;cases q;cases f;exact⟨_,rfl⟩
             obtain⟨Rv,rfl⟩:=hk;have Z:j<c.length:=by rw[<-la];exact(dD G).1
             have B:c[j]?=aU c[j]:=by simp[Z]
             obtain⟨v2,s2,u1,u2,u3,u4,u5⟩:=lent k f G B;rw[N]at u1;cases u1--the slot behind the call is a list's
             obtain⟨⟨t,dt,t1,t2⟩,_⟩:=h;obtain⟨s3,t3,t4⟩:=slot t1;rw[k]at t3;cases t3;have lo:∃t5,aY i as c=aU t5:=by cases I:aY i as c with|none=>exact absurd G (lz la I j)|some t5=>exact⟨t5,rfl⟩
             obtain⟨t5,I⟩:=lo;obtain⟨j2,t6,t7⟩:=jd I;have am:j2<args.length:=by rw[M];exact(dD t6).1
             obtain⟨_,s6,_,ap,af,ar,ag⟩:=lent k f t6 t7;have ah:j2=j:=by
              have a1:lst? s6=aU (.l Rv):=by rcases ag with⟨_,_,z⟩|⟨_,z⟩<;>rw[z]<;>rfl
              have a2:lst? s2=aU (.l Rv):=by rcases u5 with⟨_,_,z⟩|⟨_,z⟩<;>rw[z]<;>rfl
              exact l4 j2 j i s6 s2 _ _ t6 G af u3 a1 a2
             subst ah;rw[B]at t7;cases t7;rw[I]at t4;refine h5 ⟨j2,?_,u2⟩;rcases u5 with⟨b,u,y⟩|⟨u,y⟩
             . subst u;subst y;rcases u4 with⟨d2,z⟩|⟨d2,z⟩;.exact⟨_,.l d2,B,by rw[z];rfl⟩
               .rw[z]at t4;subst t4;cases t2
             .subst u;subst y;exact⟨_,.l Rv,B,by rw[show c[j2]=.lent Rv from u4];rfl⟩
       .rw[w2]at h6;cases h6
     . rcases h6 with h6|h6;.exact L x h6
       .exact back x (.inr h6)
 refine⟨⟨s.gs.sub,by rw[nU];exact g.len,λi b d e=>?_,λi t ds e B=>?_,λi j x h1 C=>g.dis i j x (Rw h1) (Rw C)⟩,s0.cB.trans s.cB,λb n n'=>?_,λb o h n=>?_,λb⟨i,h⟩=>back b (.inl ⟨i,Rw h⟩),by rw[nU];exact s0.len,λi s1 h l=>?_⟩;.--data
   obtain⟨s1,k,f⟩:=slot e;cases s1 with|aO=>cases f|lent es=>cases f|gV _=>cases f|cM _=>cases f|hold _=>cases f|val b' d'=>cases f;obtain⟨v,u,y⟩:=g.val i b d k;exact⟨v,u,y.mono s.cB⟩|own b' es=>cases I:aY i as c with|none=>rw[I]at f;cases f|some t=>rw[I]at f;obtain⟨j,u,y⟩:=jd I;obtain⟨v,s2,G,O,y3,y4,p⟩:=lent k rfl u y;cases t with|aO=>cases f|own _ _=>cases f|lent _=>cases f|gV _=>cases f|cM _=>cases f|hold _=>cases f|val b2 d2=>cases f;obtain⟨w,W,x2⟩:=s.gs.val j b2 d y;rw[O]at W;cases W;exact⟨v,G,x2⟩
 .--lists
   obtain⟨s1,k,f⟩:=slot e--a list that was not lent
   have stay:∀es,lst? s1=aU es->(∀j:Nat,as[j]?≠aU (.fL i))->t=s1->∃(a:cq)(xs:HO),σ[i]?=aU (aU (V.ref a))/\H' a=aU xs/\X a=ci/\kO K X xs ds:=λes he hn ht=>by
    subst ht;rw[he]at B;cases B;obtain⟨a,xs,u,y,z3,z4⟩:=g.own i _ ds k he;have no:¬ Own args (vs.map aU) a:=λh=>by obtain⟨j,⟨sl,es,w1,w2⟩,w3⟩:=h;obtain⟨a',v,h1,C,J⟩:=A.get M w1;have sa:=l2 j a' _ h1 w1;have w3:=dn w3;rw[C]at w3;cases w3;cases a' with|dat d=>cases sa;cases w2|tmp es=>obtain⟨x,_,G,_,_,_,O,_⟩:=J;cases G;exact O ⟨i,⟨_,ds,k,he⟩,u⟩|fL i'=>
       have:∃s' ac,ρ[i']?=aU s'/\lst? s'=aU ac:=by
        rcases sa with⟨_,_,_,z⟩|⟨b,es,q,_⟩|⟨es,q,_⟩;.subst z;cases w2
        .exact⟨_,_,q,rfl⟩
        .exact⟨_,_,q,rfl⟩
       have:=g.dis i i' a ⟨⟨_,ds,k,he⟩,u⟩ ⟨this,J⟩;subst this;exact hn j h1
    refine⟨a,xs,u,s.keep a _ y no,?_,z4.mono s.cB⟩;cases q:X a with|none=>rfl|some o=>
      rcases s.zj a z3 (by rw[q];simp)with z|z;.exact absurd z no
      .rw[y]at z;exact(JD z4 z).elim
   cases I:aY i as c with
   |none=>have hn:=lz la I;rw[I]at f;cases s1 with|aO=>subst f;cases B|val b' d'=>subst f;cases B|own b' es=>exact stay _ rfl hn f|lent es=>exact stay _ rfl hn f|gV m=>exact stay _ rfl hn f|cM m=>exact stay _ rfl hn f|hold _=>subst f;cases B
   |some t2=>rw[I]at f;obtain⟨j,u,y⟩:=jd I;cases s1 with
     |aO=>subst f;cases B|val b' d'=>subst f;cases B|hold _=>subst f;cases B|gV m=>
       have Z:j<args.length:=by rw[M];exact(dD u).1
       rcases l2 j _ _ u (show args[j]?=aU args[j]by simp[Z])with⟨_,_,z,_⟩|⟨_,_,z,_⟩|⟨_,z,_⟩<;>(rw[k]at z;cases z)|cM m=>
       have Z:j<args.length:=by rw[M];exact(dD u).1
       rcases l2 j _ _ u (show args[j]?=aU args[j]by simp[Z])with⟨_,_,z,_⟩|⟨_,_,z,_⟩|⟨_,z,_⟩<;>(rw[k]at z;cases z)|own b' es=>
       obtain⟨v,s2,G,O,y3,y4,p⟩:=lent k rfl u y;have:t2≠.aO/\∀x,t2≠.lent x:=by
        rcases p with⟨_,_,p⟩|⟨p,_⟩;.subst p;rcases y4 with⟨_,rfl⟩|⟨_,rfl⟩<;>simp
        .cases p
       cases t2 with
       |aO=>exact absurd rfl this.1|hold x=>
         rcases p with⟨_,_,p⟩|⟨p,_⟩;.subst p;rcases y4 with⟨_,h⟩|⟨_,h⟩<;>cases h
         .cases p|gV x=>
         rcases p with⟨_,_,p⟩|⟨p,_⟩;.subst p;rcases y4 with⟨_,h⟩|⟨_,h⟩<;>cases h
         .cases p|cM x=>
         rcases p with⟨_,_,p⟩|⟨p,_⟩;.subst p;rcases y4 with⟨_,h⟩|⟨_,h⟩<;>cases h
         .cases p|lent x=>exact absurd rfl (this.2 x)|val b2 d2=>subst f;cases B|own b2 av=>subst f;cases B;obtain⟨a,xs,W,x2⟩:=s.gs.own j _ _ y rfl;rw[O]at W;cases W;exact⟨a,xs,G,x2⟩
     |lent es=>
       obtain⟨v,s2,G,O,y3,y4,p⟩:=lent k rfl u y;have ht:t=.lent es:=by rw[f];cases t2<;>rfl
       subst ht;cases B;rcases p with⟨_,p,_⟩|⟨_,p⟩;.cases p
       .subst p;cases(show t2=.lent es from y4);obtain⟨a,xs,W,x2⟩:=s.gs.own j _ _ y rfl;rw[O]at W;cases W;exact⟨a,xs,G,x2⟩
 . by_cases q:F b=ci
   . rcases s.zj b q n' with z|z;.exact(L b z).imp id jY
     . by_cases ho:Own ρ₀ σ b;.exact .inl ho
       .right;cases f:H₀ b with|none=>rfl|some o=>rw[s0.keep b o f ho]at z;exact z
   .exact s0.zj b n q
 . refine s.keep b o (s0.keep b o h n) λz=>?_;rcases L b z with z|z;.exact n z
   .rw[h]at z;cases z
 .obtain⟨E,s2,C,k2⟩:=s0.lk i s1 h l;refine⟨E,_,ae C,?_⟩;have ZK:=k2.uA l;refine mG.trans l k2 ?_;cases s2 with
   |aO=>cases ZK|gV _=>cases ZK|cM _=>cases ZK|hold _=>exact mG.refl _|val b d=>exact mG.refl _|lent es=>cases aY i as c with|none=>rfl|some t=>cases t<;>rfl
   |own b es=>cases b with|false=>cases ZK|true=>cases aY i as c with|none=>exact .inl ⟨_,rfl⟩|some t=>cases t with|aO=>exact .inl ⟨_,rfl⟩|lent _=>exact .inl ⟨_,rfl⟩|gV _=>exact .inl ⟨_,rfl⟩|cM _=>exact .inl ⟨_,rfl⟩|hold _=>exact .inl ⟨_,rfl⟩|own _ ds=>exact .inl ⟨_,rfl⟩|val _ d=>exact .inr ⟨_,rfl⟩
theorem yV.rebase{F1 g F2 k:Hp}{c f:List Sl}(a:az K F ρ σ H F1 c σ g)(A:yV K F2 f σ k c g as vs):yV K F2 f σ k ρ H as vs:=by refine⟨A.len,λj b v h1 l=>?_,A.dis⟩;have h:=A.one j b v h1 l;cases b with|dat d=>exact h|fL i=>exact h|tmp ds=>
   obtain⟨x,xs,m,p,q,r,s,q6⟩:=h;refine⟨x,xs,m,p,q,r,s,?_⟩;rcases q6 with q6|q6;.exact a.xq x q6
   . by_cases ho:Own ρ σ x;.exact .inl ho
     .right;cases e:H x with|none=>rfl|some o=>rw[a.keep x o e ho]at q6;cases q6
theorem yV.aaz{F1 c F2 e:Hp}{a b:List Sl}{r:R}(s1:az K F ρ σ H F1 a σ c)(f:cZ K F1 a σ c ρ σ H v r)(s2:az K F1 a σ c F2 b σ e)(A:yV K F2 b σ e a c as vs):yV K F2 b σ e ρ H (uf r::as) (v::vs):=by
 have h1:zX K F1 a σ c ρ H v (uf r):=by cases r with|val d=>exact f|own ds=>exact f
 refine .cons (h1.later s2) (A.rebase s1) λds x l ev k es m g=>?_;cases r with|val d=>cases l|own o=>
   obtain⟨y,xs,j,p,t,u,q,w⟩:=f;rw[ev]at j;cases j;have h:=A.one k _ _ m g;obtain⟨z,B,s,_,_,_,_,w6⟩:=h;cases s;rcases w6 with w6|w6;.exact q w6
   .rw[p]at w6;cases w6
end
section
variable{K:PySem.W.Frag}{F F1 H H1:Hp}{ρ ρ1 ρ2:List Sl}{σ σ1:_L.St}
theorem wG{s:Sl}(h:put ρ i s=aU ρ1):∃s0,ρ[i]?=aU s0/\uA s0=a_/\ρ1=ρ.set i s:=by
 unfold put at h;split at h;.rename_i q;cases h;exact⟨_,q,rfl,rfl⟩
 .rename_i q;cases h;exact⟨_,q,rfl,rfl⟩
 .rename_i q;cases h;exact⟨_,q,rfl,rfl⟩
 .cases h
theorem az.put{r:R}(s:az K F ρ σ H F1 ρ1 σ1 H1)(y:cZ K F1 ρ1 σ1 H1 ρ σ H v r)(h:_H.put ρ1 i (zG r)=aU ρ2):az K F ρ σ H F1 ρ2 (σ1.set i (aU v)) H1:=by
 obtain⟨s0,h0,B,rfl⟩:=wG h;have hi:i<ρ1.length:=(dD h0).1;have m:i<σ1.length:=by rw[<-s.gs.len];exact hi
 have f:∀{j:Nat}{a:cq},j≠i->aX (ρ1.set i (zG r)) (σ1.set i (aU v)) j a->aX ρ1 σ1 j a:=λ{j a}c⟨⟨t,ds,o,p⟩,g⟩=>by rw[fC c]at o g;exact⟨⟨t,ds,o,p⟩,g⟩
 have q:∀{a:cq},aX (ρ1.set i (zG r)) (σ1.set i (aU v)) i a->¬ Own ρ1 σ1 a/\(Own ρ σ a\/H a=ci):=λ{a}⟨⟨t,ds,o,p⟩,g⟩=>by rw[cp hi]at o;rw[cp m]at g;cases o;cases g;cases r with|val d=>cases p|own es=>obtain⟨x,xs,I,C,E,G,J,L⟩:=y;cases I;exact⟨J,L⟩
 refine⟨⟨s.gs.sub,by simp[s.gs.len],λj b d e=>?_,λj t ds e z=>?_,λj k a h1 A=>?_⟩,s.cB,s.zj,s.keep,λa⟨j,c⟩=>?_,by simp[s.len],λj t e l=>?_⟩
 . by_cases c:j=i;.subst c;rw[cp hi]at e;cases r with|own es=>cases e|val d'=>cases e;exact⟨v,cp m,y⟩
   .rw[fC c]at e ⊢;exact s.gs.val j b d e
 . by_cases c:j=i;.subst c;rw[cp hi]at e;cases r with|val d'=>cases e;cases z|own es=>cases e;cases z;obtain⟨x,xs,rfl,C,E,G,_⟩:=y;exact⟨x,_,cp m,C,E,xs,rfl,G⟩
   .rw[fC c]at e ⊢;exact s.gs.own j t ds e z
 . by_cases c:j=i
   . by_cases u:k=i;.rw[c,u]
     .subst c;exact absurd ⟨k,f u A⟩ (q h1).1
   . by_cases u:k=i;.subst u;exact absurd ⟨j,f c h1⟩ (q A).1
     .exact s.gs.dis j k a (f c h1) (f u A)
 . by_cases w:j=i;.subst w;exact(q c).2
   .exact s.xq a ⟨j,f w c⟩
 . obtain⟨o,t1,p,g⟩:=s.lk j t e l;have c:j≠i:=by rintro rfl;rw[h0]at p;cases p;rw[g.uA l]at B;cases B
   exact⟨by rw[fC c];exact o,t1,by rw[fC c];exact p,g⟩
theorem GS.mut{x:Nat}{b:Bool}{es:List D}{a:cq}{ys:List V}(g:GS K F ρ σ H)(e:ρ[x]?=aU (.own b ds))(p:σ[x]?=aU (aU (.ref a)))(r:aG K F ys es):az K F ρ σ H F (ρ.set x (.own b es)) σ (upd H a (.lst ys)):=by
 have hi:x<ρ.length:=(dD e).1;have w:aX ρ σ x a:=⟨⟨_,_,e,rfl⟩,p⟩;obtain⟨J,xs,h1,L,y,M⟩:=g.mW x _ ds e rfl;rw[p]at h1;cases h1;have h:∀{j:Nat}{c:cq},aX (ρ.set x (.own b es)) σ j c->aX ρ σ j c:=λ{j c}⟨⟨t,dt,m,s⟩,q3⟩=>by
  by_cases f:j=x;.subst f;exact⟨⟨_,_,e,rfl⟩,q3⟩
  .rw[fC f]at m;exact⟨⟨t,dt,m,s⟩,q3⟩
 refine⟨⟨λc o q=>?_,by simp[g.len],λj A d q=>?_,λj t dt q u=>?_,λj k c m s=>g.dis j k c (h m) (h s)⟩,.refl _,λc n B=>absurd n B,λc o q n=>?_,λc⟨j,q⟩=>.inl ⟨j,h q⟩,by simp,λj t q l=>⟨rfl,?_⟩⟩
 . have:c≠a:=by rintro rfl;rw[y]at q;cases q
   rw[aB this];exact g.sub c o q
 . by_cases f:j=x;.subst f;rw[cp hi]at q;cases q
   .rw[fC f]at q;exact g.val j A d q
 . by_cases f:j=x;.subst f;rw[cp hi]at q;cases q;cases u;exact⟨a,_,p,aP,y,ys,rfl,r⟩
   . rw[fC f]at q;obtain⟨c,C,z,E,G,I⟩:=g.own j t dt q u;have:c≠a:=by rintro rfl;exact f (g.dis j x c ⟨⟨t,dt,q,u⟩,z⟩ w)
     exact⟨c,C,z,by rw[aB this];exact E,G,I⟩
 . have:c≠a:=by rintro rfl;exact n ⟨x,w⟩
   rw[aB this];exact q
 . by_cases f:j=x;.subst f;rw[e]at q;cases q;refine⟨_,cp hi,?_⟩;cases b with|true=>exact .inl ⟨_,rfl⟩|false=>cases l
   .exact⟨t,by rw[fC f];exact q,.refl t⟩
theorem GS.lend{b:Bool}(g:GS K F ρ σ H)(e:ρ[i]?=aU (.own b ds)):GS K F (ρ.set i (.lent ds)) σ H:=by
 have hi:i<ρ.length:=(dD e).1;have f:∀{j:Nat}{c:cq},aX (ρ.set i (.lent ds)) σ j c->aX ρ σ j c:=λ{j c}⟨⟨t,dt,h,l⟩,q3⟩=>by
  by_cases a:j=i;.subst a;exact⟨⟨_,_,e,rfl⟩,q3⟩
  .rw[fC a]at h;exact⟨⟨t,dt,h,l⟩,q3⟩
 refine⟨g.sub,by simp[g.len],λj o d q=>?_,λj t dt q m=>?_,λj k c h l=>g.dis j k c (f h) (f l)⟩
 . by_cases a:j=i;.subst a;rw[cp hi]at q;cases q
   .rw[fC a]at q;exact g.val j o d q
 . by_cases a:j=i;.subst a;rw[cp hi]at q;cases q;cases m;exact g.own j _ _ e rfl
   .rw[fC a]at q;exact g.own j t dt q m
theorem az.aW{b:Bool}(g:GS K F ρ σ H)(e:ρ[i]?=aU (.own b ds))(s:az K F (ρ.set i (.lent ds)) σ H F1 ρ1 σ1 H1):az K F ρ σ H F1 (ρ1.set i (.own b ds)) σ1 H1/\∀v r,cZ K F1 ρ1 σ1 H1 (ρ.set i (.lent ds)) σ H v r->cZ K F1 (ρ1.set i (.own b ds)) σ1 H1 ρ σ H v r:=by
 have hi:i<ρ.length:=(dD e).1;have h1:(ρ.set i (.lent ds))[i]?=aU (.lent ds):=cp hi;obtain⟨C,E,z,G⟩:=s.lk i _ h1 rfl;cases(show E=.lent ds from G);have u:i<ρ1.length:=(dD z).1;have A:∀{j:Nat}{c:cq},aX (ρ.set i (.lent ds)) σ j c->aX ρ σ j c:=λ{j c}⟨⟨t,dt,f,p⟩,m⟩=>by
  by_cases a:j=i;.subst a;exact⟨⟨_,_,e,rfl⟩,m⟩
  .rw[fC a]at f;exact⟨⟨t,dt,f,p⟩,m⟩
 have I:∀{c:cq},Own ρ σ c->Own (ρ.set i (.lent ds)) σ c:=λ{c}⟨j,⟨t,dt,f,p⟩,m⟩=>by
  by_cases a:j=i;.subst a;exact⟨j,⟨_,_,h1,rfl⟩,m⟩
  .exact⟨j,⟨t,dt,by rw[fC a];exact f,p⟩,m⟩
 have y:∀{j:Nat}{c:cq},aX (ρ1.set i (.own b ds)) σ1 j c->aX ρ1 σ1 j c:=λ{j c}⟨⟨t,dt,f,p⟩,m⟩=>by
  by_cases a:j=i;.subst a;exact⟨⟨_,_,z,rfl⟩,m⟩
  .rw[fC a]at f;exact⟨⟨t,dt,f,p⟩,m⟩
 have w:∀{c:cq}{h:Hp},Own (ρ.set i (.lent ds)) σ c\/h c=ci->Own ρ σ c\/h c=ci:=λ{c h}q=>q.imp (λ⟨j,q⟩=>⟨j,A q⟩) id;have J:∀{c:cq}{h:Hp},Own (ρ.set i (.lent ds)) σ c\/nt (h c)=ci->Own ρ σ c\/nt (h c)=ci:=λ{c h}q=>q.imp (λ⟨j,q⟩=>⟨j,A q⟩) id;refine⟨⟨⟨s.gs.sub,by simp[s.gs.len],λj L d q=>?_,λj t dt q B=>?_,λj k c f p=>s.gs.dis j k c (y f) (y p)⟩,s.cB,λc n M=>J (s.zj c n M),λc o q n=>s.keep c o q λ⟨j,x⟩=>n ⟨j,A x⟩,λc⟨j,q⟩=>w (s.xq c ⟨j,y q⟩),by simpa using s.len,λj t q l=>?_⟩,λv r h=>?_⟩
 . by_cases a:j=i;.subst a;rw[cp u]at q;cases q
   .rw[fC a]at q;exact s.gs.val j L d q
 . by_cases a:j=i;.subst a;rw[cp u]at q;cases q;cases B;exact s.gs.own j _ _ z rfl
   .rw[fC a]at q;exact s.gs.own j t dt q B
 . by_cases a:j=i;.subst a;rw[e]at q;cases q;refine⟨C,_,cp u,?_⟩;cases b with|true=>exact .inl ⟨_,rfl⟩|false=>cases l
   .obtain⟨N,t',O,Q⟩:=s.lk j t (by rw[fC a];exact q) l;exact⟨N,t',by rw[fC a];exact O,Q⟩
 .cases r with|val d=>exact h|own es=>obtain⟨x,xs,f,p,m,U,W,X⟩:=h;exact⟨x,xs,f,p,m,U,λ⟨j,q⟩=>W ⟨j,y q⟩,w X⟩
theorem GS.give(g:GS K F ρ σ H)(e:ρ[i]?=aU (.own a_ ds)):∃v,σ[i]?=aU (aU v)/\az K F ρ σ H F (ρ.set i .aO) σ H/\cZ K F (ρ.set i .aO) σ H ρ σ H v (.own ds):=by
 have hi:i<ρ.length:=(dD e).1;obtain⟨a,xs,h1,r,s,u⟩:=g.mW i _ ds e rfl;have f:∀{j:Nat}{c:cq},aX (ρ.set i .aO) σ j c->aX ρ σ j c/\j≠i:=λ{j c}⟨⟨t,dt,h,m⟩,q3⟩=>by
  by_cases b:j=i;.subst b;rw[cp hi]at h;cases h;cases m
  .rw[fC b]at h;exact⟨⟨⟨t,dt,h,m⟩,q3⟩,b⟩
 have o:aX ρ σ i a:=⟨⟨_,_,e,rfl⟩,h1⟩;refine⟨.ref a,h1,⟨⟨g.sub,by simp[g.len],λj w d q=>?_,λj t dt q p=>?_,λj k c h m=>g.dis j k c (f h).1 (f m).1⟩,.refl _,λc n y=>absurd n y,λ_ _ q _=>q,λc⟨j,q⟩=>.inl ⟨j,(f q).1⟩,by simp,λj t q l=>⟨rfl,?_⟩⟩,a,xs,rfl,r,s,u,λ⟨j,q⟩=>?_,.inl ⟨i,o⟩⟩
 . by_cases b:j=i;.subst b;rw[cp hi]at q;cases q
   .rw[fC b]at q;exact g.val j w d q
 . by_cases b:j=i;.subst b;rw[cp hi]at q;cases q;cases p
   .rw[fC b]at q;exact g.own j t dt q p
 . by_cases b:j=i;.subst b;rw[e]at q;cases q;cases l
   .exact⟨t,by rw[fC b];exact q,.refl t⟩
 .exact(f q).2 (g.dis j i a (f q).1 o)
theorem GS.more{τ:List (Option V)}(g:GS K F ρ σ H)(u:τ.length=n):GS K F (ρ++cr n .aO) (σ++τ) H:=by
 have get:∀{j:Nat}{t:Sl},(ρ++cr n Sl.aO)[j]?=aU t->t≠.aO->ρ[j]?=aU t/\j<ρ.length:=λ{j t}q ne=>by
  by_cases h:j<ρ.length;.rw[du h]at q;exact⟨q,h⟩
  . rw[gN (by lia),h9]at q;split at q;.cases q;exact absurd rfl ne
    .cases q
 have m:∀{j:Nat}{v:Option V},j<ρ.length->(σ[j]?=aU v↔(σ++τ)[j]?=aU v):=λ{j v}h=>by rw[du (by rw[<-g.len];exact h)]
 have e:∀{j:Nat}{c:cq},aX (ρ++cr n .aO) (σ++τ) j c->aX ρ σ j c:=λ{j c}⟨⟨t,dt,o,l⟩,q3⟩=>by obtain⟨h1,f⟩:=get o (by rintro rfl;cases l);exact⟨⟨t,dt,h1,l⟩,(m f).mpr q3⟩
 refine⟨g.sub,by simp[g.len,u],λj b d q=>?_,λj t dt q s=>?_,λj k c o l=>g.dis j k c (e o) (e l)⟩;.obtain⟨h1,f⟩:=get q (by simp);obtain⟨v,p,r⟩:=g.val j b d h1;exact⟨v,(m f).mp p,r⟩
 .obtain⟨h1,f⟩:=get q (by rintro rfl;cases s);obtain⟨a,xs,p,r⟩:=g.own j t dt h1 s;exact⟨a,xs,(m f).mp p,r⟩
theorem az.less{τ:List (Option V)}{m:Nat}(L:m=ρ.length)(g:GS K F ρ σ H)(hn:τ.length=n)(s:az K F (ρ++cr n .aO) (σ++τ) H F1 ρ1 σ1 H1):az K F ρ σ H F1 (ρ1.take m) (σ1.take m) H1/\∀v r,cZ K F1 ρ1 σ1 H1 (ρ++cr n .aO) (σ++τ) H v r->cZ K F1 (ρ1.take m) (σ1.take m) H1 ρ σ H v r:=by
 subst L;have M:ρ.length<=ρ1.length:=by rw[s.len];simp
 have l2:ρ.length<=σ1.length:=by rw[<-s.gs.len];exact M
 have z:∀{y:Type}{l:List y}{j:Nat}{x:y},(l.take ρ.length)[j]?=aU x->l[j]?=aU x/\j<ρ.length:=λ{y l j x}q=>by
  rw[ll]at q;split at q;.exact⟨q,by assumption⟩
  .cases q
 have B:∀{y:Type}{l:List y}{j:Nat}{x:y},j<ρ.length->l[j]?=aU x->(l.take ρ.length)[j]?=aU x:=λ{y l j x}f q=>by rw[ll,if_pos f];exact q
 have C:∀{c:cq},Own (ρ++cr n .aO) (σ++τ) c->Own ρ σ c:=λ{c}⟨j,⟨t,dt,e,p⟩,u⟩=>by
  by_cases f:j<ρ.length;.rw[du f]at e;rw[du (by rw[<-g.len];exact f)]at u;exact⟨j,⟨t,dt,e,p⟩,u⟩
  . rw[gN (by lia),h9]at e;split at e;.cases e;cases p
    .cases e
 have N:∀{c:cq},Own ρ σ c->Own (ρ++cr n .aO) (σ++τ) c:=λ{c}⟨j,⟨t,dt,e,p⟩,u⟩=>by have f:j<ρ.length:=(dD e).1;exact⟨j,⟨t,dt,by rw[du f];exact e,p⟩,by rw[du (by rw[<-g.len];exact f)];exact u⟩
 have A:∀{j:Nat}{c:cq},aX (ρ1.take ρ.length) (σ1.take ρ.length) j c->aX ρ1 σ1 j c:=λ{j c}⟨⟨t,dt,e,p⟩,u⟩=>⟨⟨t,dt,(z e).1,p⟩,(z u).1⟩;have w:∀{c:cq}{h:Hp},Own (ρ++cr n .aO) (σ++τ) c\/h c=ci->Own ρ σ c\/h c=ci:=λ{c h}q=>q.imp C id;have O:∀{c:cq}{h:Hp},Own (ρ++cr n .aO) (σ++τ) c\/nt (h c)=ci->Own ρ σ c\/nt (h c)=ci:=λ{c h}q=>q.imp C id;refine⟨⟨⟨s.gs.sub,by simp only[lw];lia,λj b d q=>?_,λj t dt q Q=>?_,λj k c e p=>s.gs.dis j k c (A e) (A p)⟩,s.cB,λc a b=>O (s.zj c a b),λc o q n=>s.keep c o q λx=>n (C x),λc⟨j,q⟩=>w (s.xq c ⟨j,A q⟩),by simp only[lw];lia,λj t q l=>?_⟩,λv r h=>?_⟩;.obtain⟨h1,E⟩:=z q;obtain⟨v,G,I⟩:=s.gs.val j b d h1;exact⟨v,B E G,I⟩
 .obtain⟨h1,E⟩:=z q;obtain⟨a,xs,G,I⟩:=s.gs.own j t dt h1 Q;exact⟨a,xs,B E G,I⟩
 .have f:j<ρ.length:=(dD q).1;obtain⟨J,t',U,W⟩:=s.lk j t (by rw[du f];exact q) l;rw[du (by rw[<-g.len];exact f)]at J;refine⟨?_,t',B f U,W⟩;rw[ll,if_pos f];exact J
 .cases r with|val d=>exact h|own es=>obtain⟨x,xs,e,p,u,X,Y,Z⟩:=h;exact⟨x,xs,e,p,u,X,λ⟨j,q⟩=>Y ⟨j,A q⟩,w Z⟩
end
section
variable{X:Cx}{c:Call}{n:Nat}{e a b d:dy}{p pa pb pd:P}{pos:Pos}{es:List dy}{ps:List P}
inductive agL(K:PySem.W.Frag)(f:List Sl->Res (List Arg))(σ:_L.St)(H:Hp)(Q:List V->Hp->Prop):Prop where|mk(F:Hp)(ρ:List Sl)(as:List Arg)(ρ':List Sl)(g:GS K F ρ σ H)(e:f ρ=.ok as ρ')(k:∀vs F' H',az K F ρ σ H F' ρ' σ H'->yV K F' ρ' σ H' ρ H as vs->Q vs H')
noncomputable def SG(X:Cx)(c:Call)(es:List dy)(ps:List P):Prop:=PA X es (agL X.K (Ce c ps))
theorem aD:SG X c [] []:=yI dZ λσ H Q⟨F,ρ,as,ρ',g,e,k⟩=>by rw[MN]at e;cases e;exact k [] F H (.refl g) .nil
theorem Rf(o:SX X c a pa)(hr:SG X c es ps)(hs:cx (a::es) X.env=(a_,eA a X.env)::cx es X.env:=by rfl):SG X c (a::es) (pa::ps):=by cases hv:isVar pa with|none=>refine yI (bZ o.ev hr hs) ?_;rintro σ H Q⟨F,ρ,as,ρ',g,e,k⟩;rw[Ak,hv]at e;obtain⟨r,f,q,e⟩:=ak e;obtain⟨xs,h,j,e⟩:=ak e;cases e;refine⟨F,ρ,r,f,g,q,λv F1 y s1 s=>⟨F1,f,xs,_,s1.gs,j,λvs F2 l s2 A=>k _ F2 l (s1.trans s2) (yV.aaz s1 s s2 A)⟩⟩|some i=>refine yI (bZ (o.var i hv) hr hs) ?_;rintro σ H Q⟨F,ρ,as,ρ',g,e,k⟩;rw[Ak,hv]at e;obtain⟨x0,t,u,e⟩:=ak e;obtain⟨m,w⟩:=aC u;subst w;obtain⟨xs,h,j,e⟩:=ak e;cases e;obtain⟨v,h1,_⟩:=g.pk m;exact⟨v,h1,F,ρ,xs,_,g,j,λvs F2 l s2 A=>k _ F2 l s2 (.cons h1 A λds x z=>by cases z)⟩
theorem O3{k f:Nat}{t:cq}{fd:ii}{j:List Str}(J:oF X.prog X.w X.K X.mg X.base JL k t fd j (Rm X.K j.length (c f)))(hr:jB k X.A)(L:Gl X x)(M:X.mg x=aU (.ref t))(N:keepIn X.K (.ref t)=b_)(O:Binds X.K fd j [])(U:SG X c (e::es) ps)(W:(e::es).length=j.length)(u:(x==("__debug__":Str))=a_:=by decide)(he:cx (e::es) X.env=(a_,eA e X.env)::cx es X.env:=by rfl)(hpl:(i7 pos (cx es X.env)).any (·.1)=a_:=by rfl)(y:ps.length=(e::es).length:=by rfl):SX X c (.Call (.Name x p') (e::es) [] pos) (.call f ps):=by
 refine⟨eU (Oq (E:=E0) J hr L M N O .nil aa7 U u he hpl) ?_,λi h=>by cases h⟩;rintro σ H Q⟨F,ρ,r,ρ',g,e,k⟩;rw[_H.E15]at e;obtain⟨as,z,G,e⟩:=ak e;unfold rB at e;split at e;.cases e
 . rename_i args m;split at e
   . rename_i r' l hc;cases e;refine⟨F,ρ,as,z,g,G,λvs F1 Y s1 A=>?_⟩;have o:vs.length=j.length:=by
      have:∀{ps:List P}{ρ ρ':List Sl}{as:List Arg},Ce c ps ρ=.ok as ρ'->as.length=ps.length:=by intro ps;induction ps with|nil=>intro ρ ρ' as h;rw[MN]at h;cases h;rfl|cons q j I=>
         intro ρ ρ' as h;rw[Ak]at h;split at h;.obtain⟨_,_,_,h⟩:=ak h;obtain⟨xs,B,C,h⟩:=ak h;cases h;simp[I C]
         .obtain⟨_,_,_,h⟩:=ak h;obtain⟨xs,B,C,h⟩:=ak h;cases h;simp[I C]
      rw[<-A.len,this G,y,W]
     show Rm X.K j.length (c f) (vs++[]) Y Q E0;rw[e_];refine⟨o,F1,args,r,l,args_gs s1.gs A m,hc,λv Z ac H' s rr=>?_⟩;obtain⟨z1,z2⟩:=Ls s1 A m s;exact k v Z H' z1 (z2 v r rr)
   .cases e
   .cases e
noncomputable def JQ(K:PySem.W.Frag)(D:Ends)(h:Hp)(ρ':List Sl)(f:_L.St)(g:Hp)(ρ:List Sl)(σ:_L.St)(H:Hp)(fl:Fl):Prop:=match fl with|.next=>D.nx f g|.brk=>D.bk f g|.cont=>D.ct f g|.ret r=>∀v,cZ K h ρ' f g ρ σ H v r->D.rt v g
inductive tEx(K:PySem.W.Frag)(f:List Sl->Res Fl)(D:Ends)(σ:_L.St)(H:Hp):Prop where|mk(F:Hp)(ρ:List Sl)(fl:Fl)(ρ':List Sl)(g:GS K F ρ σ H)(e:f ρ=.ok fl ρ')(k:∀F' σ' H',az K F ρ σ H F' ρ' σ' H'->JQ K D F' ρ' σ' H' ρ σ H fl)
noncomputable def SS(X:Cx)(c:Call)(n:Nat)(st:eL)(s:S):Prop:=PS X st (tEx X.K (ex c n s))
noncomputable def SB(X:Cx)(c:Call)(n:Nat)(st:List eL)(s:List S):Prop:=xJ X st (tEx X.K (iM c n s))
theorem eN{st:eL}{t t':TS}(h:PS X st t)(i:∀D σ H,t' D σ H->t D σ H):PS X st t':=λf s σ H D I q=>h f s σ H D I (i D σ H q)
theorem nJ{st:List eL}{t t':TS}(h:xJ X st t)(i:∀D σ H,t' D σ H->t D σ H):xJ X st t':=λf s σ H D I q=>h f s σ H D I (i D σ H q)
theorem xs0{c:Call}:iM c n [] ρ=.ok .next ρ:=rfl
theorem Xj{c:Call}{s:S}{r:List S}:iM c n (s::r) ρ=(ex c n s ρ).bind λfl ρ=>match fl with|.next=>iM c n r ρ|fl=>.ok fl ρ:=rfl
theorem aq:SB X c n [] []:=nJ CP λD σ H⟨F,ρ,fl,ρ',g,e,k⟩=>by rw[xs0]at e;cases e;exact k F σ H (.refl g)
theorem aN{st:eL}{s:S}{f:List eL}{ss:List S}(h1:SS X c n st s)(m:SB X c n f ss):SB X c n (st::f) (s::ss):=by refine nJ (lR h1 m) ?_;rintro D σ H⟨F,ρ,fl,ρ',g,e,k⟩;rw[Xj]at e;obtain⟨f1,h,j,e⟩:=ak e;cases f1 with
 |next=>refine⟨F,ρ,.next,h,g,j,λF1 o w s1=>⟨F1,h,fl,ρ',s1.gs,e,λF2 l t s2=>?_⟩⟩;have q:=k F2 l t (s1.trans s2);cases fl with|next=>exact q|brk=>exact q|cont=>exact q|ret r=>exact λv u=>q v (u.later s1)
 |brk=>cases e;exact⟨F,ρ,.brk,_,g,j,k⟩|cont=>cases e;exact⟨F,ρ,.cont,_,g,j,k⟩|ret r=>cases e;exact⟨F,ρ,.ret r,_,g,j,k⟩
theorem Ah{st:eL}:SS X c n st .bad:=eN KC λD σ H⟨F,ρ,fl,ρ',g,e,k⟩=>by rw[_H.X4]at e;cases e
theorem aau{t1 t2:TE}(h1:PE X e t1)(g:PE X e t2):PE X e (λσ H Q=>t1 σ H Q\/t2 σ H Q):=λf s σ H Q I h=>h.elim (h1 f s σ H Q I) (g f s σ H Q I)
theorem Xi(he:SX X c e p):SS X c n (.Return (aU e) pos) (.ret p):=by
 have plain:∀(D:Ends)(σ:_L.St)(H:Hp),(∃F ρ fl ρ',GS X.K F ρ σ H/\((_H.ev c p ρ).bind λr ρ=>.ok (Fl.ret r) ρ)=.ok fl ρ'/\∀j f h,az X.K F ρ σ H j ρ' f h->(match fl with|.next=>D.nx f h|.brk=>D.bk f h|.cont=>D.ct f h|.ret r=>∀v,cZ X.K j ρ' f h ρ σ H v r->D.rt v h))->xm X.K (_H.ev c p) σ H D.rt:=λD σ H⟨F,ρ,fl,ρ',g,e,k⟩=>by obtain⟨r,l,m,e⟩:=ak e;cases e;exact⟨F,ρ,r,_,g,m,λv F1 o s1 s=>k F1 σ o s1 v s⟩
 cases hv:isVar p with|none=>refine eN (Jy he.ev) λD σ H⟨F,ρ,fl,ρ',g,e,k⟩=>plain D σ H ⟨F,ρ,fl,ρ',g,?_,k⟩;rw[_H.X10,hv]at e;exact e|some i=>--by the name itself:its own list is handed back,else its data
   have t:p=.var i:=by cases p<;>cases hv;rfl
   subst t;refine eN (Jy (aau (he.var i hv) he.ev)) ?_;rintro D σ H⟨F,ρ,fl,ρ',g,e,k⟩;rw[_H.X10,hv]at e;dsimp only at e;split at e;.rename_i ds q;cases e;obtain⟨v,h1,u,w⟩:=g.give q;exact .inl ⟨v,h1,k F σ H u v w⟩
   .exact .inr (plain D σ H ⟨F,ρ,fl,ρ',g,e,k⟩)
theorem fc{m o:List eL}{s t:List S}(hc:ST X c e p)(u:SB X c n m s)(w:SB X c n o t):SS X c n (.If e m o pos) (.ifs p s t):=by refine eN (Te hc u w) ?_;rintro D σ H⟨F,ρ,fl,ρ',g,e,k⟩;rw[_H.X12]at e;obtain⟨x,j,y,e⟩:=ak e;refine⟨F,ρ,x,j,g,y,λF1 z s1=>?_⟩;have go:∀{f:List Sl->Res Fl},f j=.ok fl ρ'->tEx X.K f D σ z:=λ{f}h=>⟨F1,j,fl,ρ',s1.gs,h,λF2 l A s2=>by have q:=k F2 l A (s1.trans s2);cases fl with|next=>exact q|brk=>exact q|cont=>exact q|ret r=>exact λv B=>q v (B.later s1)⟩;cases x with|true=>rw[if_pos rfl]at e;exact go e|false=>rw[if_neg de]at e;exact go e
theorem iT{f:Pos}(l:X.N.Nodup)(hi:X.N[i]?=aU x)(m:Loc X.env.scope x)(he:SX X c e p)(hs:gi e (aU (.Name x f)) pos.line X.env=fg a_:=by rfl)(o:X.fn x=b_\/X.env.scope.names.lookup x=aU .local:=by first|(left;rfl)|(right;rfl)|assumption):SS X c n (.Assign [.Name x f] e pos) (.asg i p):=by refine eN (vR l hi m he.ev hs o) ?_;rintro D σ H⟨F,ρ,fl,ρ',g,e,k⟩;rw[_H.X6]at e;obtain⟨r,j,q,e⟩:=ak e;obtain⟨s,t,h,e⟩:=ak e;cases e;have u:=aC h;clear h;obtain⟨h,z⟩:=u;exact⟨F,ρ,r,j,g,q,λv F1 w s1 y=>k F1 _ w (s1.put y h)⟩
end
end _H
namespace _L
open PySem Spec PyProof.Rows
variable{env:Env}{scope:kf}{X:Cx}
noncomputable def rC(X:Cx)(scope:kf)(N':List Str)(cl:List (Str×cq))(C:cq)(s₀:cn)(H₀:Hp)(ex:List cq):Cx:={X with N:=N',s₀:=s₀,H₀:=H₀,env:=compEnvC scope cl C X.env,outer:=X.stack,stack:=X.stack,ex:=ex,fn:=λx=>scope.names.lookup x==aU .cell,pn:=[],xe:=λ_ _=>False}
theorem Ar(l:List (Str×kF)):∀(cs:List (Str×cq)),(∀n,(n,eK)∈l->∃c,env.cells.lookup n=aU c)->(∀n c,cs.lookup n=aU c->env.cells.lookup n=aU c)->∃ cl,(forIn l cs (λ(x:Str × kF)(r:List (Str × cq))=>(if(x.2==eK)=b_ then(do let a<-cellOf env x.1;fg (ix ((x.1,a)::r)))else fg (ix r):Sem (ForInStep (List (Str × cq))))):Sem (List (Str × cq)))=fg cl/\(∀n c,cl.lookup n=aU c->env.cells.lookup n=aU c)/\(∀n,((n,eK)∈l\/(cs.lookup n).isSome)->(cl.lookup n).isSome):=by induction l with|nil=>intro cs _ h;exact⟨cs,rfl,h,λn hn=>by rcases hn with hn|hn;cases hn;exact hn⟩|cons y l i=>
   obtain⟨n,k⟩:=y;intro cs b hc;rw[forIn_cons];by_cases f:k=.free
   . subst f;obtain⟨a,j⟩:=b n io;obtain⟨cl,e,h1,g⟩:=i ((n,a)::cs) (λm hm=>b m (dr _ hm)) λm c hm=>by
      rw[fI]at hm;split at hm;.rename_i q;have q:=eq_of_beq q;subst q;cases hm;exact j
      .exact hc m c hm
     refine⟨cl,?_,h1,λm hm=>g m ?_⟩
     . rw[<-e];have:cellOf env n=fg a:=by unfold cellOf;rw[j]
       simp only[beq_self_eq_true,if_true,this];rfl
     . rcases hm with hm|hm
       . rcases cK.mp hm with hm|hm;.cases hm;right;simp[fI]
         .exact .inl hm
       . right;rw[fI];split;.rfl
         .exact hm
   . obtain⟨cl,e,h1,g⟩:=i cs (λm hm=>b m (dr _ hm)) hc;refine⟨cl,?_,h1,λm hm=>g m ?_⟩
     . rw[<-e];have:(k==eK)=a_:=by simpa using f
       simp only[this,iL,if_false];rfl
     . rcases hm with hm|hm
       . rcases cK.mp hm with hm|hm;.cases hm;exact absurd rfl f
         .exact .inl hm
       .exact .inr hm
theorem Ab(a:∀n,(n,eK)∈scope.names->∃c,env.cells.lookup n=aU c):∃cl,closureFor scope env=fg cl/\(∀n c,cl.lookup n=aU c->env.cells.lookup n=aU c)/\∀n,(n,eK)∈scope.names->(cl.lookup n).isSome:=by obtain⟨cl,e,h1,b⟩:=Ar (env:=env) scope.names [] a (by simp);refine⟨cl,?_,h1,λn f=>b n (.inl f)⟩;unfold closureFor;exact(congrArg (λt=>t>>=λr=>fg r) e).trans rfl
theorem eX{env:Env}:∀(names:List (Str×kF))(x:Str),(names.map λ(n,k)=>if(k==eK&&env.scope.kind==.function&&env.kindOf n==aU .cell)then(n,gj)else(n,k)).lookup x=(names.lookup x).map λk=>if(k==eK&&env.scope.kind==.function&&env.kindOf x==aU .cell)=b_ then gj else k
 |[],x=>rfl|(n,k)::r,x=>by
   have a:=eX (env:=env) r x;show List.lookup x ((if(k==eK&&env.scope.kind==.function&&env.kindOf n==aU .cell)=b_ then(n,gj)else(n,k))::_)=_;by_cases hc:(k==eK&&env.scope.kind==.function&&env.kindOf n==aU .cell)=b_;.rw[if_pos hc,fI,fI];cases hx:x==n with|true=>have:=eq_of_beq hx;subst this;show aU gj=aU (if _ then _ else _);rw[if_pos hc]|false=>exact a
   .rw[if_neg hc,fI,fI];cases hx:x==n with|true=>have:=eq_of_beq hx;subst this;show aU k=aU (if _ then _ else _);rw[if_neg hc]|false=>exact a
noncomputable def aaa(N N':List Str)(a:kf):Bool:=(N.zip N').all λp=>(p.1==p.2&&a.names.lookup p.2==aU .free)||(a.names.lookup p.2!=aU .local&&a.names.lookup p.2!=aU .cell&&a.names.lookup p.2!=aU .free)
structure fH(X:Cx)(scope:kf)(N':List Str)(n:Nat):Prop where
 kind:scope.kind=.function
 cons:∀y∈scope.names,scope.names.lookup y.1=aU y.2
 names:∀y∈scope.names,y.2=.local->scope.names.lookup y.1=aU .local
 cap:∀y∈scope.names,y.2=.free->X.env.scope.names.lookup y.1=aU .cell\/X.env.scope.names.lookup y.1=aU .free
 len:N'.length=X.N.length+n
 same:aaa X.N N' scope=b_
theorem fH.get{N':List Str}{n:Nat}(c:fH X scope N' n){i:Nat}{x:Str}(hi:i<X.N.length)(h:N'[i]?=aU x)(a:yZ (jI scope X.env) x):X.N[i]?=aU x/\scope.names.lookup x=aU .free:=by
 have hz:(X.N.zip N')[i]?=aU (X.N[i],x):=by rw[nB];exact⟨by simp[hi],h⟩
 have:=(gc.mp c.same) _ (dl hz);simp only[mv,eW]at this;rcases this with⟨h1,b⟩|⟨⟨h1,b⟩,f⟩;.have h1:=eq_of_beq h1;have b:=eq_of_beq b;exact⟨by simp[hi,h1],b⟩
 . exfalso;have h1:scope.names.lookup x≠aU .local:=by simpa using h1
   have b:scope.names.lookup x≠aU .cell:=by simpa using b
   have f:scope.names.lookup x≠aU .free:=by simpa using f
   have e:=eX (env:=X.env) scope.names x;have a:(jI scope X.env).names.lookup x=aU .local\/(jI scope X.env).names.lookup x=aU .cell\/(jI scope X.env).names.lookup x=aU .free:=a;rw[show(jI scope X.env).names.lookup x=_ from e]at a;cases q:scope.names.lookup x with|none=>rw[q]at a;simp at a|some k=>
     rw[q]at a h1 b f;have g:(k==eK)=a_:=by cases k<;>first|rfl|exact absurd rfl f
     simp only[kH,g,nm,iL,if_false,Option.some.injEq]at a;rcases a with rfl|rfl|rfl;.exact h1 rfl
     .exact b rfl
     .exact f rfl
structure CI(cl:List (Str×cq))(z:Nat)(h:eF)(acc:List (Str×cq)):Prop where from':∀n c,acc.lookup n=aU c->cl.lookup n=aU c\/(z<=c/\h.IsCell c ci)inj:∀n n' c,acc.lookup n=aU c->acc.lookup n'=aU c->n=n'
theorem Ji{cl:List (Str×cq)}{z:Nat}(i:∀n c,cl.lookup n=aU c->c<z):∀(names:List (Str×kF))(h:eF)(f:List (Str×cq)),z<=h.objs.size->CI cl z h f->CI cl z (pushCells h names) (kA h.objs.size names f)/\(∀n,(f.lookup n).isSome->((kA h.objs.size names f).lookup n).isSome)/\(∀n,((∃c,f.lookup n=aU c/\z<=c)\/(n,gj)∈names)->∃c,(kA h.objs.size names f).lookup n=aU c/\z<=c)/\(∀n c,(n,gj)∉names->(kA h.objs.size names f).lookup n=aU c->f.lookup n=aU c)
 |[],h,f,hz,x=>by
   refine⟨x,λ_ q=>q,λn q=>?_,λ_ _ _ q=>q⟩;rcases q with q|q;.exact q
   .cases q|(name,kind)::r,h,f,hz,x=>by
   unfold pushCells kA;by_cases l:kind=.cell
   . subst l;rw[if_pos (by rfl),if_pos (by rfl)];have p:CI cl z (h.push {cls:=.type "cell",data:=.cell ci}) ((name,h.objs.size)::f):=by
      have lt:∀n c,f.lookup n=aU c->c<h.objs.size:=λn c e=>by
       rcases x.from' n c e with q|q;.exact ef (i n c q) hz
       .exact q.2.lt
      refine⟨λn c e=>?_,λn m c e j=>?_⟩
      . rw[fI]at e;split at e;.cases e;exact .inr ⟨hz,_,cw _ rfl,rfl⟩
        . rcases x.from' n c e with q|q;.exact .inl q
          .exact .inr ⟨q.1,q.2.keeps λb o e=>dF e⟩
      . rw[fI]at e j;split at e<;>split at j;.rename_i _ a _ b;rw[eq_of_beq a,eq_of_beq b]
        .cases e;exact absurd (lt m _ j) (ip _)
        .cases j;exact absurd (lt n _ e) (ip _)
        .exact x.inj n m c e j
     have g:=Ji i r (h.push {cls:=.type "cell",data:=.cell ci}) ((name,h.objs.size)::f) (by rw[ej];lia) p;rw[ej]at g;refine⟨g.1,λn q=>g.2.1 n ?_,λn q=>g.2.2.1 n ?_,λn c q e=>?_⟩
     . rw[fI];split;.rfl
       .exact q
     . rcases q with⟨c,e,hc⟩|q
       . left;rw[fI];split;.exact⟨_,rfl,hz⟩
         .exact⟨c,e,hc⟩
       . rcases cK.mp q with q|q;.cases q;left;exact⟨_,by simp[fI],hz⟩
         .exact .inr q
     . have:=g.2.2.2 n c (λz=>q (dr _ z)) e;rw[fI]at this;split at this;.rename_i a;exact absurd (by rw[eq_of_beq a];exact io) q
       .exact this
   . have k:(kind==gj)=a_:=by simpa using l
     rw[if_neg (by rw[k];decide),if_neg (by rw[k];decide)];have g:=Ji i r h f hz x;refine⟨g.1,g.2.1,λn q=>g.2.2.1 n ?_,λn c q e=>g.2.2.2 n c (λz=>q (dr _ z)) e⟩;rcases q with q|q;.exact .inl q
     . rcases cK.mp q with q|q;.cases q;exact absurd rfl l
       .exact .inr q
structure MF(X:Cx)(scope:kf)(z:Nat)(h:eF)(cs:List (Str×cq)):Prop where
 from':∀n c,cs.lookup n=aU c->X.env.cells.lookup n=aU c\/(z<c/\h.IsCell c ci)inj:∀n n' c,cs.lookup n=aU c->cs.lookup n'=aU c->n=n'
 has:∀n,(scope.names.lookup n=aU .free\/scope.names.lookup n=aU .cell)->∃c,cs.lookup n=aU c
 fre:∀n c,scope.names.lookup n=aU .free->cs.lookup n=aU c->X.env.cells.lookup n=aU c
 own:∀n c,scope.names.lookup n=aU .cell->cs.lookup n=aU c->z<c
theorem Gq{M:sk}{A:ew}{E:bx->cn->Prop}{s:cn}{N':List Str}{n:Nat}{cl:List (Str×cq)}{Q:Env->cn->Prop}(ok:fH X scope N' n)(h:∀n c,X.env.cells.lookup n=aU c->c<s.heap.objs.size)(f:∀x y c,X.env.cells.lookup x=aU c->X.env.cells.lookup y=aU c->x=y)(a:∀n c,cl.lookup n=aU c->X.env.cells.lookup n=aU c)(l:∀n,(n,eK)∈scope.names->(cl.lookup n).isSome)(m:∀ cs h',h'.Ns s.heap.objs.size (λ_=>ci)->(∀ b o,s.heap.get? b=aU o->h'.get? b=aU o)->MF X scope s.heap.objs.size h' cs->Q {scope:=scope,locals:=s.heap.objs.size,globals:=X.env.globals,cells:=cs,qual:=X.env.qual,func:=ci,code:=X.env.code,frame:=X.env.frame,builtins:=X.env.builtins} {s with heap:=h'}):cE M A (oq scope X.env.globals cl [] X.env.qual ci .none (aU X.env)) Q E s:=by
 simp only[oq,Option.isSome_some,if_true];refine bdq (wpAny_alloc ?_);refine bdq (wpAny_layCells _ (λname kind cells=>by cases i:kind==gj<;>simp[i]) _ _ _ _ ?_);have ck:=Ji (cl:=cl) (z:=s.heap.objs.size+1) (λn c e=>Nat.lt_succ_of_lt (h n c (a n c e))) scope.names (s.heap.push {cls:=.type "dict",data:=.dict #[]}) cl (by rw[ej];exact cN) ⟨λn c e=>.inl e,λn k c e g=>f n k c (a n c e) (a k c g)⟩;obtain⟨c1,c2,c3,c4⟩:=ck;rw[show({s with heap:=s.heap.push {cls:=.type "dict",data:=.dict #[]}}:cn).heap.objs.size=(s.heap.push {cls:=.type "dict",data:=.dict #[]}).objs.size from rfl];refine bdq ?_;rw[forIn_nil];refine cv (cv (m _ _ ((Heap.Ns.new s.heap (.type "dict")).keeps (pushCells_keeps _ _)) (λb o e=>pushCells_keeps _ _ b o (dF e)) ⟨λn c e=>?_,c1.inj,λn q=>?_,λn c q e=>?_,λn c q e=>?_⟩))
 . rcases c1.from' n c e with z|z;.exact .inl (a n c z)
   .exact .inr ⟨z.1,z.2⟩
 . rcases q with q|q;.exact nl.mp (c2 n (l n (PySem.mem_of_lookup q)))
   .obtain⟨c,e,_⟩:=c3 n (.inr (PySem.mem_of_lookup q));exact⟨c,e⟩
 .refine a n c (c4 n c (λz=>?_) e);have:=ok.cons _ z;rw[q]at this;cases this
 .obtain⟨p,g,j⟩:=c3 n (.inr (PySem.mem_of_lookup q));rw[e]at g;cases g;exact j
section
variable{X:Cx}{pins:List (cq×Obj)}{σ:_L.St}{H:Hp}{s:cn}{scope:kf}{N':List Str}{n:Nat}{fp:List cq}{cl:List (Str×cq)}
theorem Kr{h1:eF}{m:Str->Option bx}{t:Nat}{cs:List (Str×cq)}(ok:fH X scope N' n)(I:Inv X pins σ H s)(G:∀b∈fp,m9 X pins H b/\b<s.heap.objs.size)(w:MF X scope s.heap.objs.size h1 cs)(U:h1.Ns s.heap.objs.size m)(j:∀b u,s.heap.get? b=aU u->h1.get? b=aU u):Inv (rC X scope N' cs s.heap.objs.size s H fp) [] (σ++cr n ci) H {s with heap:=h1,toks:=t}:=by
 have J:∀x,scope.names.lookup x=aU .free->(jI scope X.env).names.lookup x=aU .cell\/(jI scope X.env).names.lookup x=aU .free:=λx h=>by
  have e:=eX (env:=X.env) scope.names x;rw[h]at e;have L:(jI scope X.env).names.lookup x=_:=e;rw[L];simp only[kH];split;.exact .inl rfl
  .exact .inr rfl
 refine⟨⟨I.ok.mod,ok.kind,I.ok.glob,I.ok.blt,cN,λx y c h1 W=>w.inj x y c h1 W,λx z=>?_,λx c h e=>lx (w.own x c (eq_of_beq (show(scope.names.lookup x==aU gj)=b_ from h)) e),I.ok.hd,I.ok.frames,.inl rfl,λb B=>?_,I.bs,ic I.ok.Tq I.sz,λb u e B=>?_,λb B M=>?_,I.stack,I.El⟩,rfl,I.bare,Un.kept j,⟨m,U,λi x v Y C Z=>?_⟩,λx c e=>?_,I.hok.fresh (cN),λx c e=>?_,λp hp=>(by cases hp),I.hok.kept j,?_⟩;.--a abR name has its cell
   have z:(jI scope X.env).names.lookup x=aU .cell\/(jI scope X.env).names.lookup x=aU .free:=z;have e:=eX (env:=X.env) scope.names x;have L:(jI scope X.env).names.lookup x=_:=e;rw[L]at z;refine w.has x ?_;cases q:scope.names.lookup x with|none=>rw[q]at z;simp at z|some k=>
     rw[q]at z;by_cases hk:k=.free;.rw[hk];exact .inl rfl
     . have g:(k==eK)=a_:=by simpa using hk
       simp only[kH,g,nm,iL,if_false,Option.some.injEq]at z;rcases z with rfl|rfl;.exact .inr rfl
       .exact absurd rfl hk
 . obtain⟨f,lt⟩:=G b B;refine⟨dE lt,λx c e=>?_⟩;rcases w.from' x c e with e|e;.exact f.2.2.2.2.1 x c e
   .rintro rfl;exact absurd (oz e.1 lt) (ip _)
 . obtain⟨f,lt⟩:=G b B;rcases f.2.2.2.1 with h|h;.exact I.ok.M4 b u e h
   .have this:b<X.base.objs.size:=dc e;exact absurd (ef this (ic I.ok.Tq h)) (ip _)
 . obtain⟨f,lt⟩:=G b B;rcases cK.mp (I.wg b M)with h|h;.exact f.2.1 h
   .exact f.2.2.1 h
 .--the names
   have hi:i<σ.length:=by
    by_cases hi:i<σ.length;.exact hi
    .rw[gN (by lia),h9]at C;split at C<;>cases C
   rw[du hi]at C;obtain⟨N,o⟩:=ok.get (by rw[<-I.len];exact hi) Y Z;have hk:=ok.cap (x,.free) (PySem.mem_of_lookup o) rfl;obtain⟨m0,ac,hl⟩:=I.loc;obtain⟨u,r,l⟩:=hl i x v N C (.inr hk);refine⟨u,r,.inr ⟨J x o,?_⟩⟩;rcases l with⟨g,_⟩|⟨_,c,hc,A⟩;.have g:X.env.scope.names.lookup x=aU .local:=g;rcases hk with hk|hk<;>(rw[g]at hk;cases hk)
   .obtain⟨c',E⟩:=w.has x (.inl o);have:=w.fre x c' o E;rw[hc]at this;cases this;refine⟨c,E,?_⟩;obtain⟨oc,O,Q⟩:=A;exact⟨oc,j c oc O,Q⟩
 . rcases w.from' x c e with e|e;.obtain⟨v,oc,O,Q⟩:=I.cell x c e;exact⟨v,oc,j c oc O,Q⟩
   .exact⟨_,e.2⟩
 . rcases w.from' x c e with e|e;.exact I.kZ x c e
   .exact I.hok.fresh (lx e.1)
 .show(σ++cr n ci).length=N'.length;rw[ek,ja,I.len,ok.len]
theorem v5{prog:df}{w:er}{A:ew}{R:Result->cn->Prop}{p a iter:dy}{ifs:List dy}{pos:Pos}{it q:bx}(I:Nat->cn->Prop)(turn:∀ n s,I n s->cE (cS prog w) A (om it) (λr b=>match r with|none=>R (.ok .next) b|some v=>cE (cS prog w) A (lc a it v) (λ_ b=>cE (cS prog w) A (lb a env v) (λ_ j=>cE (cS prog w) A (forIn ifs b_ λc r=>if r=b_ then do let ok<-isTrue c env (eA c env);fg (ix ok)else fg (ix r)) (λok g=>if ok=b_ then cE (cS prog w) A (eA p env) (λx k=>cE (cS prog w) A (call (.builtin "list.append") [q,x]) (λ_ l=>∃m,m<n/\I m l) (n7 (cS prog w) A env λe i=>R (.error e) i) k) (n7 (cS prog w) A env λe i=>R (.error e) i) g else ∃m,m<n/\I m g) (n7 (cS prog w) A env λe i=>R (.error e) i) j) (n7 (cS prog w) A env λe i=>R (.error e) i) b) (n7 (cS prog w) A env λe i=>R (.error e) i) b) (n7 (cS prog w) A env λe i=>R (.error e) i) s)(n:Nat){s:cn}(h:I n s):k_ (cS prog w) A (.compLoop (.ListComp p [⟨a,iter,ifs,0⟩] scope pos) 0 it q env) R s:=by refine codeAny_loop rfl I (λn s z=>?_) n h;show cE _ A ((compTurn (.ListComp p [⟨a,iter,ifs,0⟩] scope pos) 0 it q env).onRaise (λx=>do noteFrame x env;theTreesLotGoes x)) _ _ s;refine wpAny_noted ?_;rw[compTurn_list];refine bdq (me (bdq (eu (turn n s z) (λr b f=>?_) λ_ _ h'=>h')));cases r with|none=>exact cv f|some v=>refine bdq (eu f (λ_ b f=>?_) λ_ _ h'=>h');refine bdq (eu f (λ_ j t=>bdq (eu t (λok g o=>?_) λ_ _ h'=>h')) λ_ _ h'=>h');cases ok with|false=>exact cv ⟨rfl,o⟩|true=>exact bdq (bdq (eu o (λx k u=>bdq (eu u (λ_ l y=>cv (cv ⟨rfl,y⟩)) λ_ _ h'=>h')) λ_ _ h'=>h'))
noncomputable def Ux(X:Cx)(ifs:List dy)(t:TT):Prop:=∀(pins:List (cq × Obj))(s:cn)(σ:_L.St)(H:Hp)(Q:Bool->Hp->Prop),Inv X pins σ H s->t σ H Q->cE (cS X.prog X.w) X.A (forIn ifs b_ λc r=>if r=b_ then do let ok<-isTrue c X.env (eA c X.env);fg (ix ok)else fg (ix r)) (TP X pins σ Q) X.xe s
theorem Rb:Ux X [] (λ_ H Q=>Q b_ H):=λpins s σ H Q I h=>wpAny_tests_nil ⟨H,I,h⟩
theorem Py{c:dy}{t:TT}(h:PT X c t):Ux X [c] t:=λpins s σ H Q I q=>wpAny_tests_one (h pins s σ H Q I q)
noncomputable def RK(J:It)(g:TG)(tt:TT)(te:TE)(D:cq)(Q:Hp->Prop)(W:Nat->Nat->List V->_L.St->Hp->Prop):Prop:=∀ i m ys σ H,W i m ys σ H->H D=aU (.lst ys)/\((J.stop i H/\Q H)\/(J.go i H/\∀ x e,J.M6 i H x e->g x σ e λa j=>tt a j λb f=>if b=b_ then te a f λy h=>h D=aU (.lst ys)/\ys.length<sizeLine/\∃c,c<m/\W (i+1) c (ys++[y]) a (upd h D (.lst (ys++[y])))else ∃c,c<m/\W (i+1) c ys a f))
theorem uv{E:bx->cn->Prop}{af a iter:dy}{ifs:List dy}{pos:Pos}{it:cq}{tn:Nat->eF->Prop}{J:It}{g:TG}{tt:TT}{te:TE}{Q:cq->Hp->Prop}{RR:bx->cq->Result->cn->Prop}(hc:X.calm=b_)(ok:fH X scope N' n)(I:Inv X pins σ H s)(bi:∀n c,cl.lookup n=aU c->X.env.cells.lookup n=aU c)(Cp:∀n,(n,eK)∈scope.names->(cl.lookup n).isSome)(T:Turn X.prog X.w X.K a J fp it tn)(h0:tn 0 s.heap)(hf:∀b∈fp,m9 X pins H b)(hg:∀cl C s₀ H₀ ex,PG (rC X scope N' cl C s₀ H₀ ex) a g)(ht:∀cl C s₀ H₀ ex,Ux (rC X scope N' cl C s₀ H₀ ex) ifs tt)(he:∀cl C s₀ H₀ ex,PE (rC X scope N' cl C s₀ H₀ ex) af te)(hw:∀D,H D=ci->∃W,(∃m,W 0 m [] (σ++cr n ci) (upd H D (.lst [])))/\RK J g tt te D (Q D) W)(bm:∀D C B l,Q D l->(∃m,B.heap.Ns C m)->m9 X pins l C->Inv X pins σ l B->RR (.ref D) C (.ok .next) B):cE (cS X.prog X.w) X.A (newList []) (λav aw=>cE (cS X.prog X.w) X.A (oq scope X.env.globals cl [] X.env.qual ci .none (aU X.env)) (λal ax=>k_ (cS X.prog X.w) X.A (.compStart (.ListComp af [⟨a,iter,ifs,0⟩] scope pos) 0 (.ref it) av {al with scope:=jI scope X.env}) (RR av al.locals) ax) E aw) E s:=by
 refine ey (Gq ok (λx c e=>?lt) I.ok.inj bi Cp (λcs M am hold bc=>?_));case lt=>obtain⟨v,z⟩:=I.cell x c e;exact ef z.lt (by show _<=(s.heap.push _).objs.size;rw[ej];exact rg _)
 dsimp only at am hold bc ⊢--the new list,tracked
 have I3:Inv X pins σ (upd H s.heap.objs.size (.lst [])) {s with heap:=s.heap.push {cls:=.type "list",data:=.seq ([]:List bx).toArray}}:=I.Ue (t':=s.toks) .nil (tU);generalize ap:({s with heap:=s.heap.push {cls:=.type "list",data:=.seq ([]:List bx).toArray}}:cn)=s3 at I3;have hsz:s3.heap.objs.size=s.heap.objs.size+1:=by rw[<-ap];exact ej _ _
 have TF:s3.heap=s.heap.push {cls:=.type "list",data:=.seq ([]:List bx).toArray}:=by rw[<-ap]
 obtain⟨W,⟨m0,w0⟩,turn⟩:=hw s.heap.objs.size I.fresh;have ay:∀{h':eF},(∀b o,s.heap.get? b=aU o->h'.get? b=aU o)->tn 0 h':=λk=>T.keep _ _ _ h0 λb j o e=>k b o e;have ag:∀b∈fp,m9 X pins (upd H s.heap.objs.size (.lst [])) b/\b<s3.heap.objs.size:=λb j=>by obtain⟨o,e,_⟩:=T.obj 0 _ h0 b j;have lt:=dc e;obtain⟨f1,f2⟩:=hf b j;exact⟨⟨by rw[aB (dE lt)];exact f1,f2⟩,by rw[hsz];exact Nat.lt_succ_of_lt lt⟩
 rw[<-TF]at am hold bc ⊢;have I4:=Kr (t:=s3.toks) ok I3 ag bc am hold;have aE:∀b o,s.heap.get? b=aU o->M.get? b=aU o:=λb o e=>hold b o (by rw[TF];exact dF e);generalize U:rC X scope N' cs s3.heap.objs.size s3 (upd H s.heap.objs.size (.lst [])) fp=G at I4;have hA:G.A=X.A:=by rw[<-U];rfl
 have N:G.prog=X.prog:=by rw[<-U];rfl
 have O:G.w=X.w:=by rw[<-U];rfl
 have aI:G.K=X.K:=by rw[<-U];rfl
 have Y:G.calm=b_:=by rw[<-U];exact hc
 have bn:G.xe=λ_ _=>False:=by rw[<-U];rfl
 have aS:G.env=compEnvC scope cs s3.heap.objs.size X.env:=by rw[<-U];rfl
 have bo:PG G a g:=by rw[<-U];exact hg _ _ _ _ _
 have bp:Ux G ifs tt:=by rw[<-U];exact ht _ _ _ _ _
 have bq:PE G af te:=by rw[<-U];exact he _ _ _ _ _
 have ff:∀{l:Hp}{b:cq},b∈fp->l b=ci->m9 G [] l b:=λ{l b}j hn=>by
  obtain⟨f,lt⟩:=ag b j;rw[<-U];refine⟨hn,dE lt,λbr=>?_,.inl j,λx c e=>?_,λp hp=>by cases hp⟩
  . rcases cK.mp (I3.wg b br)with h|h;.exact f.2.1 h
    .exact f.2.2.1 h
  . rcases bc.from' x c e with e|e;.exact f.2.2.2.2.1 x c e
    .rintro rfl;exact absurd (oz e.1 lt) (ip _)--behind the block
 have fin:∀{L:_L.St}{l:Hp}{B:cn},Inv G [] L l B->Q s.heap.objs.size l->RR (.ref s.heap.objs.size) s3.heap.objs.size (.ok .next) B:=λ{L l B}J' q=>by
  rw[<-U]at J';have hC:l s3.heap.objs.size=ci:=J'.free;obtain⟨hh,gg,dd,bt,bv⟩:=B;have bP:bv=s3.os:=J'.os;subst bP;refine bm _ _ _ l q (let⟨m,hm,_⟩:=J'.loc;⟨m,hm⟩) ?_ (I3.call (h':=hh) (g':=gg) (d':=dd) (t':=bt) (ch:=fp) J'.base J'.hok J'.bare λb j=>?_);.exact I3.zH (cN) hC
  .obtain⟨f,lt⟩:=ag b j;exact⟨f.2.2.2.1,f.2.1,f.2.2.2.2.1,f.2.2.2.2.2⟩
 have ac:k_ (cS X.prog X.w) X.A (.compLoop (.ListComp af [⟨a,iter,ifs,0⟩] scope pos) 0 (.ref it) (.ref s.heap.objs.size) G.env) (RR (.ref s.heap.objs.size) s3.heap.objs.size) {s3 with heap:=M,toks:=s3.toks}:=by
  refine v5 (λk B=>∃i ys L l,Inv G [] L l B/\tn i B.heap/\(∀b∈fp,l b=ci)/\W i k ys L l) (λk s5 hI=>?_) m0 ⟨0,[],_,_,I4,ay aE,λb j=>(ag b j).1.1,w0⟩;obtain⟨i,ys,ah,H5,I5,t5,f5,w5⟩:=hI;obtain⟨hD,ar⟩:=turn i k ys ah H5 w5;have ai:∀{Z:bx->cn->Prop},∀(e:bx)(B:cn),G.xe e B->Z e B:=λe B z=>by rw[bn]at z;exact fh z
  rcases ar with⟨stop,q⟩|⟨go,step⟩;.have z:=T.done G N O aI Y i [] s5 ah H5 (λ_ _=>False) I5 (λb j=>ff j (f5 b j)) t5 stop;rw[hA]at z;refine eu z (?_) λ_ _ z=>fh z;rintro r s6⟨hr,I6⟩;subst hr;exact fin I6 q
  . have z:=T.item G N O aI Y i [] s5 ah H5 (λ_ _=>False) I5 (λb j=>ff j (f5 b j)) t5 go;rw[hA]at z;refine eu z (?_) λ_ _ z=>fh z;rintro r s6⟨u,hr,z6⟩;subst hr;refine eu z6 (?_) λ_ _ z=>fh z;rintro _ s7⟨x,H7,I7,r7,y7,t7,f7⟩;have bS:=I7.pinned (λb j=>ff j (f7 b j)) (T.obj _ _ t7)--what the pins keep
    have back:∀{L:_L.St}{l:Hp}{B:cn},Inv G ([]++sJ fp s7.heap) L l B->Inv G [] L l B/\tn (i+1) B.heap/\∀b∈fp,l b=ci:=λ{L l B}J'=>by refine⟨J'.lZ,T.keep _ _ _ t7 λb j o e=>(J'.pin (b,o) (fq _ (fq _ (jb j e)))).1,λb j=>?_⟩;obtain⟨o,e,_⟩:=T.obj _ _ t7 b j;exact(J'.pin (b,o) (fq _ (fq _ (jb j e)))).2.1
    have z7:=bo _ s7 ah H7 x u _ bS r7 (step x H7 y7);rw[hA,N,O]at z7;refine eu z7 (?_) ai;rintro _ s8⟨ae,H8,I8,q8⟩;have z8:=bp _ s8 ae H8 _ I8 q8;rw[hA,N,O]at z8;refine eu z8 (?_) ai;rintro b s9⟨H9,I9,q9⟩;cases b with|false=>rw[if_neg de]at q9 ⊢;obtain⟨m',hm,w'⟩:=q9;obtain⟨b1,b2,b3⟩:=back I9;exact⟨m',hm,i+1,ys,ae,H9,b1,b2,b3,w'⟩|true=>rw[if_pos rfl]at q9 ⊢;have z9:=bq _ s9 ae H9 _ I9 q9;rw[hA,N,O]at z9;refine eu z9 (?_) ai;rintro y gA⟨yv,aT,bX,ca,cb,a8,m',hm,w'⟩;have a9:=nQ _ gA ae aT (.ref s.heap.objs.size) [yv] (.ref s.heap.objs.size) [y] (λv ba=>ba=upd aT s.heap.objs.size (.lst (ys++[yv]))) bX rfl (.cons ca .nil) ⟨_,ys,yv,rfl,rfl,cb,a8,rfl⟩;rw[hA,N,O]at a9;refine eu a9 (?_) ai;rintro _ s11⟨_,ba,ce,_,cf⟩;subst cf;obtain⟨b1,b2,b3⟩:=back ce;exact⟨m',hm,i+1,ys++[yv],ae,_,b1,b2,b3,w'⟩
 have e3:({s3 with heap:=M,toks:=s3.toks}:cn)={s with heap:=M}:=by rw[<-ap]
 rw[aS,e3]at ac;exact codeAny_compStart_list ac (T.self _ 0 _ _ _ (ay aE) ac)
end
section
variable{X:Cx}{elt target iter:dy}{ifs:List dy}{scope:kf}{pos:Pos}{N':List Str}{n:Nat}{wi:TI}{g:TG}{tt:TT}{te:TE}
noncomputable def u9(n:Nat)(wi:TI)(g:TG)(tt:TT)(te:TE):TE:=λσ H Q=>wi σ H λJ a=>∀D,a D=ci->∃W,(∃m,W 0 m [] (σ++cr n ci) (upd a D (.lst [])))/\RK J g tt te D (λb=>Q (.ref D) b) W
theorem lY{a:List (cq×Obj)}{σ:_L.St}{H:Hp}{s:cn}(I:Inv X a σ H s)(ok:fH X scope N' n):∃cl,closureFor scope X.env=fg cl/\(∀n c,cl.lookup n=aU c->X.env.cells.lookup n=aU c)/\∀n,(n,eK)∈scope.names->(cl.lookup n).isSome:=Ab λm b=>I.ok.has m (ok.cap (m,.free) b rfl)
theorem O5(hc:X.calm=b_)(ok:fH X scope N' n)(hi:PI X target iter wi)(r:∀cl C s₀ H₀ ex,PG (rC X scope N' cl C s₀ H₀ ex) target g)(ht:∀cl C s₀ H₀ ex,Ux (rC X scope N' cl C s₀ H₀ ex) ifs tt)(he:∀cl C s₀ H₀ ex,PE (rC X scope N' cl C s₀ H₀ ex) elt te)(hs:∀x,fe iter X.env x=fg x:=by intro _;rfl):PE X (.ListComp elt [⟨target,iter,ifs,0⟩] scope pos) (u9 n wi g tt te):=by intro a s σ H Q I h;obtain⟨cl,c,i,t⟩:=lY I ok;rw[eval_ListComp];refine pK (use:=ci) rfl hs c ok.kind ok.names (cA (hi a s σ H _ I h) λv s1 h1=>cA h1 λu s2 y=>?_);obtain⟨it,M,N,J,O,rfl,z,T,t0,f2,B⟩:=y;refine uv (Q:=λD j=>Q (.ref D) j) (RR:=λk C=>compPost (cS X.prog X.w) X.A X.xe ci (EP X a σ Q) k C) hc ok z i t T t0 f2 r ht he B λD C E j q l f G=>?_;obtain⟨m,l⟩:=l;refine⟨m,l,λh' p=>⟨.ref D,j,?_,rfl,q⟩⟩;exact G.turned (t':=E.toks) (λb o L e=>p.extBut b o L e) f.1 f.2.1 f.2.2.2.1 f.2.2.2.2.1 f.2.2.2.2.2
theorem vm{i:Nat}{x:Str}{c j:Pos}(hc:X.calm=b_)(U:X.N.Nodup)(r:X.N[i]?=aU x)(W:Loc X.env.scope x)(ok:fH X scope N' n)(hi:PI X target iter wi)(Y:∀cl C s₀ H₀ ex,PG (rC X scope N' cl C s₀ H₀ ex) target g)(ht:∀cl C s₀ H₀ ex,Ux (rC X scope N' cl C s₀ H₀ ex) ifs tt)(he:∀cl C s₀ H₀ ex,PE (rC X scope N' cl C s₀ H₀ ex) elt te)(t:gi (.ListComp elt [⟨target,iter,ifs,0⟩] scope pos) (aU (.Name x c)) j.line X.env=fg b_)(hs:∀x,fe iter X.env x=fg x:=by intro _;rfl)(Z:X.fn x=b_\/X.env.scope.names.lookup x=aU .local:=by first|(left;rfl)|(right;rfl)|assumption):PS X (.Assign [.Name x c] (.ListComp elt [⟨target,iter,ifs,0⟩] scope pos) j) (WM (u9 n wi g tt te) (jq i)):=by
 intro f s σ H D I h;obtain⟨cl,k,u,Cp⟩:=lY I ok;rw[exec_Assign_Name_used _ _ _ _ t];refine bdq (me (bdq ?_));show cE _ X.A (do let _<-comprehension (.ListComp elt [⟨target,iter,ifs,0⟩] scope pos) scope X.env _ (newList []) a_ (eA iter X.env) (aU (lb (.Name x c) X.env))) _ _ s;refine bdq (eu (pK (use:=aU (lb (.Name x c) X.env)) (Q:=λ_ p=>SP X f D .next p) rfl hs k ok.kind ok.names (cA (hi f s σ H _ I h) λv s1 h1=>cA h1 λac s2 h2=>?_)) (λ_ p hq=>cv (cv hq)) λ_ _ e=>e);obtain⟨it,fp,tn,J,H2,rfl,I2,T,t0,f2,hw⟩:=h2;refine uv (Q:=λDa y=>D.nx (σ.set i (aU (.ref Da))) y) (RR:=λB C=>compPost (cS X.prog X.w) X.A X.xe (aU (lb (.Name x c) X.env)) (λ_ p=>SP X f D .next p) B C) hc ok I2 u Cp T t0 f2 Y ht he hw λDa C p y q E l I'=>?_;obtain⟨m,E⟩:=E;show cE _ X.A (lb (.Name x c) X.env (.ref Da)) _ _ _;refine wpAny_assign_Name (uX I' U r W (show RelV (.ref Da) (.ref Da)from rfl) (?_) Z);rintro G L⟨a,sb,ha⟩;have M:C≠a:=by
  rcases ha with rfl|ha;.exact l.2.1
  .exact λz=>l.2.2.2.2.1 x a ha z.symm
 refine⟨m,E.sameBut sb M,λh' O=>⟨_,y,?_,q⟩⟩;exact L.turned (t':=G.toks) (λb o hb e=>O.extBut b o hb e) l.1 l.2.1 l.2.2.2.1 l.2.2.2.2.1 l.2.2.2.2.2
noncomputable def afT(K:PySem.W.Frag)(c:TE):TI:=λσ H R=>c σ H λx b=>∃a,x=.ref a/\(((∃xs,dO K b a xs)/\R (Uq K a) b)\/((∃xs,iQ K b a xs)/\R (Yr K a) b))
theorem zB{u l:dy}{r:TE}(w:PE X l r):PI X u l (afT X.K r):=by
 intro f s σ H R I h;refine cA (w f s σ H _ I h) ?_;rintro v s1⟨x,t,c,r1,j⟩;obtain⟨a,e,j⟩:=j;subst e;cases r1;rcases j with⟨⟨xs,k⟩,q⟩|⟨⟨xs,k⟩,q⟩
 . obtain⟨i,y,p,hz⟩:=c.list k;refine gT p.isList ?_;refine⟨s1.heap.objs.size,[s1.heap.objs.size],_,_,t,rfl,c.kept (t':=s1.toks) λb o e=>dF e,GZ a _,⟨_,cw _ rfl,rfl,rfl⟩,λb m=>?_,q⟩;have e:b=s1.heap.objs.size:=by simpa using m
   subst e;exact c.zH (cN) (c.hok.fresh (cN))
 . obtain⟨i,y,p,hz⟩:=c.tuple k;refine fm (show s1.heap.IsTuple a i.toArray from p) ?_;refine⟨s1.heap.objs.size,[s1.heap.objs.size],_,_,t,rfl,c.kept (t':=s1.toks) λb o e=>dF e,By a _,⟨_,cw _ rfl,rfl,rfl⟩,λb m=>?_,q⟩;have e:b=s1.heap.objs.size:=by simpa using m
   subst e;exact c.zH (cN) (c.hok.fresh (cN))
end
end _L
namespace _H
open PySem _L Spec PyProof.Rows
variable{v:V}{i m:Nat}{K:PySem.W.Frag}{F H:Hp}{ρ:List Sl}{σ:_L.St}{x:Str}{p':Pos}{is:List Nat}{ds:List D}{s:cn}{A:ew}{u':bx}
structure Walk(K:PySem.W.Frag)(F:Hp)(ρ:List Sl)(σ:_L.St)(H:Hp)(ul:List Sl->List Sl)(J:It)(ds:List D)(F1:Hp)(ρ1:List Sl)(H1:Hp):Prop where
 gs:GS K F1 ρ1 σ H1
 src:∀(n k:Nat)(F':Hp)(ρ':List Sl)(σ':_L.St)(H':Hp),az K F1 (ρ1++cr n .aO) (σ++cr n ci) H1 F' ρ' σ' H'->(∀d,ds[k]?=aU d->J.go k H'/\∀x j8,J.M6 k H' x j8->∃F'',Ext F' H' F'' j8/\Rep K F'' x d)/\(ds.length<=k->J.stop k H')fin:∀F2 ρ2 σ2 H2,az K F1 ρ1 σ H1 F2 ρ2 σ2 H2->az K F ρ σ H F2 (ul ρ2) σ2 H2/\∀v r,cZ K F2 ρ2 σ2 H2 ρ1 σ H1 v r->cZ K F2 (ul ρ2) σ2 H2 ρ σ H v r
inductive tIt(K:PySem.W.Frag)(iv:Option Nat)(f:Ev)(σ:_L.St)(H:Hp)(R:It->Hp->Prop):Prop where|mk(F:Hp)(ρ:List Sl)(ds:List D)(ρ1:List Sl)(g:GS K F ρ σ H)(e:srcOf iv f ρ=.ok ds ρ1)(k:∀J F1 H1,Walk K F ρ σ H (aW ρ iv) J ds F1 ρ1 H1->R J H1)
section
variable{K:PySem.W.Frag}{F F1 H H1:Hp}{ρ ρ1:List Sl}{σ:_L.St}{ds:List D}{a:cq}
theorem CQ{xs:List V}{f b:Hp}(g:iQ K b a xs)(r:aG K f xs ds)(s:aH f b)(k:Nat):(∀d,ds[k]?=aU d->(Yr K a).go k b/\∀x j,(Yr K a).M6 k b x j->∃c,Ext f b c j/\Rep K c x d)/\(ds.length<=k->(Yr K a).stop k b):=by refine⟨λd hd=>?_,λh=>⟨xs,g,by rw[r.length];exact h⟩⟩;obtain⟨w,h1,l⟩:=r.get hd;refine⟨⟨xs,w,g,h1⟩,?_⟩;rintro x j⟨e,y⟩;subst e;have:=y xs g;rw[h1]at this;cases this;exact⟨f,.refl s,l⟩
theorem qj{xs:List V}{f b:Hp}(g:dO K b a xs)(r:aG K f xs ds)(s:aH f b)(k:Nat):(∀d,ds[k]?=aU d->(Uq K a).go k b/\∀x j,(Uq K a).M6 k b x j->∃c,Ext f b c j/\Rep K c x d)/\(ds.length<=k->(Uq K a).stop k b):=by refine⟨λd hd=>?_,λh=>⟨xs,g,by rw[r.length];exact h⟩⟩;obtain⟨w,h1,l⟩:=r.get hd;refine⟨⟨xs,w,g,h1⟩,?_⟩;rintro x j⟨e,y⟩;subst e;have:=y xs g;rw[h1]at this;cases this;exact⟨f,.refl s,l⟩
theorem xP{ul:List Sl->List Sl}{d:D}(s:az K F ρ σ H F1 ρ1 σ H1)(r:Rep K F1 v d)(hi:items d=aU ds)(fin:∀F2 b c f,az K F1 ρ1 σ H1 F2 b c f->az K F ρ σ H F2 (ul b) c f/\∀v r,cZ K F2 b c f ρ1 σ H1 v r->cZ K F2 (ul b) c f ρ σ H v r):∃a,v=.ref a/\(((∃xs,dO K H1 a xs)/\Walk K F ρ σ H ul (Uq K a) ds F1 ρ1 H1)\/((∃xs,iQ K H1 a xs)/\Walk K F ρ σ H ul (Yr K a) ds F1 ρ1 H1)):=by cases d with|tup es=>cases hi;rw[Rep]at r;obtain⟨a,xs,rfl,h1,g⟩:=r;exact⟨a,rfl,.inr ⟨⟨xs,aH.gJ s.gs.sub h1⟩,s.gs,λn k l h j o e=>CQ (aH.gJ e.gs.sub (aH.gJ e.cB h1)) (g.mono e.cB) e.gs.sub k,fin⟩⟩|lst es=>cases hi;rw[Rep]at r;obtain⟨a,xs,rfl,h1,g⟩:=r;exact⟨a,rfl,.inl ⟨⟨xs,s.gs.sub.seq h1⟩,s.gs,λn k l h j o e=>qj (e.gs.sub.seq (e.cB.seq h1)) (g.mono e.cB) e.gs.sub k,fin⟩⟩|_=>cases hi
theorem uE{ul:List Sl->List Sl}(g:GS K F ρ1 σ H)(e:ρ1[i]?=aU (.lent ds))(fin:∀F2 b c f,az K F ρ1 σ H F2 b c f->az K F ρ σ H F2 (ul b) c f/\∀v r,cZ K F2 b c f ρ1 σ H v r->cZ K F2 (ul b) c f ρ σ H v r):∃a,σ[i]?=aU (aU (.ref a))/\(∃xs,dO K H a xs)/\Walk K F ρ σ H ul (Uq K a) ds F ρ1 H:=by obtain⟨a,xs,h1,o,B,C⟩:=g.mW i _ ds e rfl;have hi:i<ρ1.length:=(dD e).1;refine⟨a,h1,⟨xs,dO.of o⟩,g,λn k E p q G h=>?_,fin⟩;obtain⟨j,t,u,w⟩:=h.lk i _ (by rw[du hi];exact e) rfl;cases(show t=.lent ds from w);rw[du (by rw[<-g.len];exact hi),h1]at j;obtain⟨I,ys,l,y,J,z⟩:=h.gs.mW i _ ds u rfl;rw[j]at l;cases l;exact qj (dO.of y) z h.gs.sub k
end
section
variable{X:Cx}{c:Call}{n:Nat}{e a b d tg:dy}{p pa pb pd:P}{pos:Pos}
theorem mD{t t':TI}(h:PI X tg e t)(i:∀σ H R,t' σ H R->t σ H R):PI X tg e t':=λf s σ H R I q=>h f s σ H R I (i σ H R q)
noncomputable def SI(X:Cx)(c:Call)(tg e:dy)(p:P):Prop:=PI X tg e (tIt X.K (isVar p) (_H.ev c p))
theorem bL(h:SX X c e p):SI X c tg e p:=by unfold SI;cases hv:isVar p with|none=>refine mD (zB h.ev) ?_;rintro σ H R⟨F,ρ,ds,t,g,e,k⟩;obtain⟨r,f,J,o⟩:=ak e;have u:=aC o;clear o;obtain⟨o,y⟩:=u;subst y;refine⟨F,ρ,r,_,g,J,λv Q U s B=>?_⟩;obtain⟨F2,s2,_,L⟩:=s.dB B;obtain⟨a,C,E⟩:=xP (ul:=aW ρ ci) s2 L o λW M N Y s3=>⟨s2.trans s3,λv r B=>B.later s2⟩;exact⟨a,C,E.imp (λ⟨z,w⟩=>⟨z,k _ _ _ w⟩) (λ⟨z,w⟩=>⟨z,k _ _ _ w⟩)⟩|some i=>
   refine mD (zB (h.var i hv)) ?_;rintro σ H R⟨F,ρ,ds,t,g,e,k⟩;unfold srcOf at e;dsimp only at e;split at e
   . rename_i b d q;have u:=aC e;clear e;obtain⟨o,y⟩:=u;subst y;obtain⟨v,h1,O⟩:=g.val i b d q;have fin:∀F2 f j l,az X.K F ρ σ H F2 f j l->az X.K F ρ σ H F2 (aW ρ (aU i) f) j l/\∀v r,cZ X.K F2 f j l ρ σ H v r->cZ X.K F2 (aW ρ (aU i) f) j l ρ σ H v r:=λF2 f j l s=>by unfold aW;dsimp only;rw[q];exact⟨s,λ_ _ z=>z⟩
     obtain⟨a,C,E⟩:=xP (ul:=aW ρ (aU i)) (.refl g) O o fin;exact⟨v,h1,a,C,E.imp (λ⟨z,w⟩=>⟨z,k _ _ _ w⟩) (λ⟨z,w⟩=>⟨z,k _ _ _ w⟩)⟩
   . rename_i b G q;cases e;have hi:i<ρ.length:=(dD q).1;have fin:∀F2 f j l,az X.K F (ρ.set i (.lent ds)) σ H F2 f j l->az X.K F ρ σ H F2 (aW ρ (aU i) f) j l/\∀v r,cZ X.K F2 f j l (ρ.set i (.lent ds)) σ H v r->cZ X.K F2 (aW ρ (aU i) f) j l ρ σ H v r:=λF2 f j l s=>by unfold aW;dsimp only;rw[q];exact az.aW g q s
     obtain⟨a,h1,I,w⟩:=uE (ul:=aW ρ (aU i)) (g.lend q) (cp hi) fin;exact⟨_,h1,a,rfl,.inl ⟨I,k _ _ _ w⟩⟩
   . rename_i G q;cases e;have fin:∀F2 f j l,az X.K F ρ σ H F2 f j l->az X.K F ρ σ H F2 (aW ρ (aU i) f) j l/\∀v r,cZ X.K F2 f j l ρ σ H v r->cZ X.K F2 (aW ρ (aU i) f) j l ρ σ H v r:=λF2 f j l s=>by unfold aW;dsimp only;rw[q];exact⟨s,λ_ _ z=>z⟩
     obtain⟨a,h1,I,w⟩:=uE (ul:=aW ρ (aU i)) g q fin;exact⟨_,h1,a,rfl,.inl ⟨I,k _ _ _ w⟩⟩
   .cases e
theorem yd{F1 g:Hp}{f:List Sl}(s:az K F ρ σ H F1 f σ g)(i j:Int):Walk K F ρ σ H (aW ρ ci) (Yk i (j-i).toNat) ((dS (j-i).toNat).map λ(k:Nat)=>D.int (i+(k:Int))) F1 f g:=by
 refine⟨s.gs,λn k o q t I u=>⟨λd hd=>?_,λh=>?_⟩,λJ w y L s3=>⟨s.trans s3,λv r z=>z.later s⟩⟩;.rw[fk]at hd;obtain⟨m,B,C⟩:=map_some hd;obtain⟨h1,l⟩:=dD B;rw[List.getElem_range]at l;subst l;subst C;rw[kq]at h1;refine⟨h1,?_⟩;rintro x M⟨E,G⟩;subst E;subst G;exact⟨o,.refl u.gs.sub,cj _⟩
 .rw[dV,kq]at h;exact h
theorem my(t:x="range")(u:Gl X x)(w:X.mg x=ci)(y:SX X c a pa)(hs:cx [a] X.env=[(a_,eA a X.env)]:=by rfl):SI X c tg (.Call (.Name x p') [a] [] pos) (.xn (.con (.int 0)) pa):=by
 subst t;obtain⟨U,h1,z⟩:=y.cJ;refine mD (uB u w (bZ h1 dZ hs) hs) ?_;rintro σ H R⟨F,ρ,ds,B,g,e,k⟩;obtain⟨r,C,q,h⟩:=ak e;have l:=aC h;clear h;obtain⟨h,E⟩:=l;subst E;rw[_H.E20]at q;obtain⟨W,G,I,f⟩:=ak q;have l:=aC f;clear f;obtain⟨f,J⟩:=l;subst J;obtain⟨Y,L,M,o⟩:=ak I;cases o;obtain⟨i,f1,f⟩:=cG f;obtain⟨j,f2,f⟩:=cG f;obtain⟨⟨b1,b2,b3,b4⟩,f⟩:=bI f;have f1:i=0:=by cases f1;rfl
 subst f1;subst f;cases h;cases dj f2;refine z g M λv N O s Q=>⟨j,by rw[Q.int],by lia,by lia,?_⟩;have:=yd s 0 j;rw[rS]at this;refine k _ N O ?_;rw[rS];exact this
theorem Er(y:x="range")(z:Gl X x)(B:X.mg x=ci)(C:SX X c a pa)(E:SX X c b pb)(hs:cx [a,b] X.env=[(a_,eA a X.env),(a_,eA b X.env)]:=by rfl)(h:cx [b] X.env=[(a_,eA b X.env)]:=by rfl):SI X c tg (.Call (.Name x p') [a,b] [] pos) (.xn pa pb):=by subst y;obtain⟨Y,Z,h1,G,I⟩:=C.iG E;refine mD (Hf z B (bZ h1 (bZ G dZ h) (by rw[hs,h])) hs h) ?_;rintro σ H R⟨F,ρ,ds,J,g,e,k⟩;obtain⟨r,L,o,l⟩:=ak e;have q:=aC l;clear l;obtain⟨l,M⟩:=q;subst M;rw[_H.E20]at o;obtain⟨xy,N,O,f⟩:=ak o;have q:=aC f;clear f;obtain⟨f,Q⟩:=q;subst Q;obtain⟨i,f1,f⟩:=cG f;obtain⟨j,f2,f⟩:=cG f;obtain⟨⟨b1,b2,b3,b4⟩,f⟩:=bI f;subst f;cases l;refine I g O λv u U W s t w=>⟨i,j,?_,by lia,k _ U W (yd s i j)⟩;have o:=dj f1;have l:=dj f2;rw[o]at t;rw[l]at w;rw[t.int,w.int]
end
section
variable{X:Cx}{c:Call}{n:Nat}{e a b d tg iter:dy}{p pa pb pd:P}{pos:Pos}{body:List eL}{ss:List S}
noncomputable def Od(K:PySem.W.Frag)(j:List Sl->D->Option (List Sl))(g:TG):Prop:=∀(x:V)(d:D)(F:Hp)(ρ f:List Sl)(σ:_L.St)(H:Hp)(Q:_L.St->Hp->Prop),GS K F ρ σ H->Rep K F x d->j ρ d=aU f->(∀h,az K F ρ σ H F f h H->Q h H)->g x σ H Q
theorem wC(i:Nat):Od K (λρ d=>put ρ i (.val a_ d)) (jq i):=λx d F ρ f σ H Q g r h k=>k _ (az.put (r:=.val d) (.refl g) r h)
theorem cO:∀(is:List Nat)(gs:HY),(∀(xs:List V)(ds:List D)(F:Hp)(ρ f:List Sl)(σ:_L.St)(H:Hp)(Q:_L.St->Hp->Prop),GS K F ρ σ H->aG K F xs ds->putAll ρ is ds=aU f->(∀j,az K F ρ σ H F f j H->Q j H)->gs xs σ H Q)->∀i,∀(xs:List V)(ds:List D)(F:Hp)(ρ f:List Sl)(σ:_L.St)(H:Hp)(Q:_L.St->Hp->Prop),GS K F ρ σ H->aG K F xs ds->putAll ρ (i::is) ds=aU f->(∀j,az K F ρ σ H F f j H->Q j H)->Io (jq i) gs xs σ H Q:=by intro is gs o i xs ds F ρ f σ H Q g r h k;cases ds with|nil=>simp[jE,iV,oG,n6]at h|cons d ds=>obtain⟨v,vs,rfl,h1,q⟩:=r.cR;rw[iV]at h;obtain⟨l,t,u⟩:=cG h;have s1:=az.put (r:=.val d) (.refl g) h1 t;refine⟨v,vs,rfl,o vs ds F l f _ H _ s1.gs q u λj s2=>k j (s1.trans s2)⟩
theorem iW:∀(xs:List V)(ds:List D)(F:Hp)(ρ f:List Sl)(σ:_L.St)(H:Hp)(Q:_L.St->Hp->Prop),GS K F ρ σ H->aG K F xs ds->putAll ρ [] ds=aU f->(∀j,az K F ρ σ H F f j H->Q j H)->Wz xs σ H Q:=by intro xs ds F ρ f σ H Q g r h k;cases ds with|nil=>rw[jE]at h;cases h;exact⟨r.gk,k σ (.refl g)⟩|cons d ds=>simp[jE,iV,oG,n6]at h
theorem lJ:∀{is:List Nat}{ds:List D}{ρ f:List Sl},putAll ρ is ds=aU f->ds.length=is.length|[],[],_,_,_=>rfl|[],_::_,_,_,h=>by simp[jE,iV,oG,n6]at h|_::_,[],_,_,h=>by simp[jE,iV,oG,n6]at h|i::is,d::ds,ρ,f,h=>by rw[iV]at h;obtain⟨g,k,j⟩:=cG h;simp[lJ j]
theorem lF{gs:HY}(q:m=is.length)(h:∀(xs:List V)(ds:List D)(F:Hp)(ρ f:List Sl)(σ:_L.St)(H:Hp)(Q:_L.St->Hp->Prop),GS K F ρ σ H->aG K F xs ds->putAll ρ is ds=aU f->(∀l,az K F ρ σ H F f l H->Q l H)->gs xs σ H Q):Od K (λρ d=>cL ρ is a_ d) (Wa K m gs):=by intro x d F ρ f σ H Q g r j k;replace j:cL ρ is a_ d=aU f:=j;cases d with|tup ds=>replace j:putAll ρ is ds=aU f:=j;rw[Rep]at r;obtain⟨a,xs,rfl,h1,o⟩:=r;exact⟨a,xs,rfl,aH.gJ g.sub h1,by rw[o.length,lJ j,q],h xs _ F ρ f σ H Q g o j k⟩|_=>cases j
theorem jO{g:TG}{one:Bool}(hp:l8 (cS X.prog X.w) X.A X.env X.xe)(hc:X.calm=b_)(hi:SI X c tg iter p)(hg:PG X tg g)(Z:Od X.K (λρ d=>cL ρ is one d) g)(hb:SB X c n body ss)(hs:∀x,fe iter X.env x=fg x:=by intro _;rfl):SS X c n (.For tg iter body [] pos) (.fX p is one ss):=by
 refine eN (Iv hp hc hi hg hb hs) ?_;rintro D σ H⟨F,ρ,fl,t,g0,e,k⟩;rw[_H.X13]at e;obtain⟨ds,o,e1,e⟩:=ak e;obtain⟨ae,I,e2,e⟩:=ak e;cases e;refine⟨F,ρ,ds,o,g0,e1,λJ F1 H1 w=>?_⟩;have src:∀(i:Nat)(U:Hp)(t:List Sl)(h:_L.St)(j:Hp),az X.K F1 o σ H1 U t h j->(∀d,ds[i]?=aU d->J.go i j/\∀x j8,J.M6 i j x j8->∃L,Ext U j L j8/\Rep X.K L x d)/\(ds.length<=i->J.stop i j):=λi U t h j s=>w.src 0 i U t h j (by simpa using s);refine⟨λi m q W=>∃G f,az X.K F1 o σ H1 G f q W/\m=ds.length-i/\i<=ds.length/\jf is one (iM c n ss) (ds.drop i) f=.ok fl I,⟨_,F1,o,.refl w.gs,rfl,tU,e2⟩,?_⟩;rintro i m q W⟨G,f,Y,rfl,af,l⟩;obtain⟨s1,s2⟩:=src i G f q W Y;by_cases u:i<ds.length
 . right;have hd:ds[i]?=aU ds[i]:=by simp[u]
   obtain⟨go,step⟩:=s1 _ hd;refine⟨go,λh j=>∃m',m'<ds.length-i/\∃G f,az X.K F1 o σ H1 G f h j/\m'=ds.length-(i+1)/\i+1<=ds.length/\jf is one (iM c n ss) (ds.drop (i+1)) f=.ok fl I,λh j z=>z,λx j y=>?_⟩;obtain⟨F2,ext,rx⟩:=step x j y;have M:=Y.trans (ext.stp Y.gs);rw[fN u,BV]at l;cases hbd:cL f is one ds[i]with|none=>rw[hbd]at l;cases l|some N=>rw[hbd]at l;obtain⟨O,C,eb,l⟩:=ak l;refine Z x _ F2 f N q j _ M.gs rx hbd λag sb=>?_;have E:=M.trans sb;refine⟨F2,N,O,C,E.gs,eb,λF4 Q H4 s4=>?_⟩;have B:=E.trans s4;cases O with|next=>exact⟨_,by lia,F4,C,B,rfl,u,l⟩|cont=>exact⟨_,by lia,F4,C,B,rfl,u,l⟩|brk=>cases l;exact k F4 Q H4 (w.fin _ _ _ _ B).1|ret r=>cases l;intro v rr;obtain⟨z1,z2⟩:=w.fin _ _ _ _ B;exact k F4 Q H4 z1 v (z2 v r (rr.later E))
 . left;have ac:ds.drop i=[]:=by rw[lf];lia
   rw[ac,Jv]at l;cases l;exact⟨s2 (by lia),k G q W (w.fin _ _ _ _ Y).1⟩
theorem nW(i:Nat):(λ(ρ:List Sl)(d:D)=>cL ρ [i] b_ d)=λρ d=>put ρ i (.val a_ d):=by funext ρ d;rfl
theorem Ql{f:Pos}(h:l8 (cS X.prog X.w) X.A X.env X.xe)(hc:X.calm=b_)(j:X.N.Nodup)(g:X.N[i]?=aU x)(k:Loc X.env.scope x)(hi:SI X c (.Name x f) iter p)(l:SB X c n body ss)(hs:∀x,fe iter X.env x=fg x:=by intro _;rfl)(o:X.fn x=b_\/X.env.scope.names.lookup x=aU .local:=by first|(left;rfl)|(right;rfl)|assumption):SS X c n (.For (.Name x f) iter body [] pos) (.fX p [i] b_ ss):=jO h hc hi (aM j g k o) (by rw[nW];exact wC i) l hs
theorem nC(L:l8 (cS X.prog X.w) X.A X.env X.xe)(ht:ST X c e p)(M:SB X c n body ss):SS X c n (.While e body [] pos) (.whl p ss):=by refine eN (Jl L ht M) ?_;rintro D σ H⟨F,ρ,fl,o,g,e,k⟩;rw[_H.X14]at e;refine⟨λm j C=>∃q f,az X.K F ρ σ H q f j C/\qd (iR (_H.ev c p)) (iM c n ss) m f=.ok fl o,⟨n,F,ρ,.refl g,e⟩,?_⟩;rintro m j C⟨q,f,E,h⟩;cases m with|zero=>rw[Up]at h;cases h|succ m=>rw[Mt]at h;obtain⟨b,t,O,h⟩:=ak h;refine⟨q,f,b,t,E.gs,O,λF1 Q s1=>?_⟩;have s2:=E.trans s1;cases b with|false=>rw[if_neg de]at h;cases h;exact k F1 j Q s2|true=>rw[if_pos rfl]at h;obtain⟨u,l,U,h⟩:=ak h;refine(show ∃N:_L.St->Hp->Prop,_/\_ from⟨λy G=>∃I,I<m+1/\∃q f,az X.K F ρ σ H q f y G/\qd (iR (_H.ev c p)) (iM c n ss) I f=.ok fl o,λy G z=>z,F1,t,u,l,s2.gs,U,λF4 B J s4=>?_⟩);have s5:=s2.trans s4;cases u with|next=>exact⟨m,by lia,F4,l,s5,h⟩|cont=>exact⟨m,by lia,F4,l,s5,h⟩|brk=>cases h;exact k F4 B J s5|ret r=>cases h;exact λv W=>k F4 B J s5 v (W.later s2)
end
section
variable{X:Cx}{c:Call}{n:Nat}{e elt tg iter:dy}{p ps pe:P}{pos:Pos}{scope:kf}{N':List Str}{ifs:List dy}
theorem WW{t t':TE}(h:PE X e t)(i:∀σ H Q,σ.length=X.N.length->t' σ H Q->t σ H Q):PE X e t':=λa s σ H Q I q=>h a s σ H Q I (i σ H Q I.len q)
theorem Mj{st:eL}{t t':TS}(h:PS X st t)(i:∀D σ H,σ.length=X.N.length->t' D σ H->t D σ H):PS X st t':=λa s σ H D I q=>h a s σ H D I (i D σ H I.len q)
noncomputable def lQ(K:PySem.W.Frag)(m:Nat)(is:List Nat)(one:Bool)(g:TG):Prop:=∀(x:V)(d:D)(F:Hp)(ρ b:List Sl)(σ:_L.St)(H:Hp)(Q:_L.St->Hp->Prop),GS K F ρ σ H->Rep K F x d->cL ρ is one d=aU b->(∀a,az K F ρ σ H F b a H->a.take m=σ.take m->Q a H)->g x σ H Q
theorem take_set{b:Type}{l:List b}{a:b}(h:m<=i):(l.set i a).take m=l.take m:=by rw[List.take_set_of_le h]
theorem cI(h:m<=i):lQ K m [i] b_ (jq i):=λx d F ρ a σ H Q g r b k=>k _ (az.put (r:=.val d) (.refl g) r b) (take_set h)
noncomputable def PL(K:PySem.W.Frag)(m:Nat)(is:List Nat)(gs:HY):Prop:=∀(xs:List V)(ds:List D)(F:Hp)(ρ b:List Sl)(σ:_L.St)(H:Hp)(Q:_L.St->Hp->Prop),GS K F ρ σ H->aG K F xs ds->putAll ρ is ds=aU b->(∀a,az K F ρ σ H F b a H->a.take m=σ.take m->Q a H)->gs xs σ H Q
theorem dN{gs:HY}(hi:m<=i)(j:PL K m is gs):PL K m (i::is) (Io (jq i) gs):=by intro xs ds F ρ a σ H Q g r h k;cases ds with|nil=>simp[jE,iV,oG,n6]at h|cons d ds=>obtain⟨v,vs,rfl,h1,l⟩:=r.cR;rw[iV]at h;obtain⟨b,o,q⟩:=cG h;have s1:=az.put (r:=.val d) (.refl g) h1 o;exact⟨v,vs,rfl,j vs ds F b a _ H _ s1.gs l q λf s2 z=>k f (s1.trans s2) (z.trans (take_set hi))⟩
theorem mV:PL K m [] Wz:=by intro xs ds F ρ a σ H Q g r h k;cases ds with|nil=>rw[jE]at h;cases h;exact⟨r.gk,k σ (.refl g) rfl⟩|cons d ds=>simp[jE,iV,oG,n6]at h
theorem mX{gs:HY}{l:Nat}(o:l=is.length)(h:PL K m is gs):lQ K m is a_ (Wa K l gs):=by intro x d F ρ b σ H Q g r f k;cases d with|tup ds=>replace f:putAll ρ is ds=aU b:=f;rw[Rep]at r;obtain⟨a,xs,rfl,h1,j⟩:=r;exact⟨a,xs,rfl,aH.gJ g.sub h1,by rw[j.length,lJ f,o],h xs _ F ρ b σ H Q g j f k⟩|_=>cases f
noncomputable def SQ(X:Cx)(c:Call)(ifs:List dy)(t:Option P):Prop:=Ux X ifs (HS X.K (o6 c t))
theorem dw:SQ X c [] ci:=λa s σ H Q I⟨F,ρ,k,ρ',g,e,q⟩=>by rw[o6]at e;cases e;exact Rb a s σ H Q I (q F H (.refl g))
theorem mY(h:ST X c e p):SQ X c [e] (aU p):=λa s σ H Q I⟨F,ρ,k,ρ',g,e,q⟩=>by rw[o6]at e;exact Py h a s σ H Q I ⟨F,ρ,k,ρ',g,e,q⟩
theorem az.IW{F1 j:Hp}{f:List Sl}{g:_L.St}{Da:cq}{o:HO}(s:az K F ρ σ H F1 f g j)(h:H Da=ci)(q:F1 Da=ci)(ho:¬ Own f g Da):az K F ρ σ H F1 f g (upd j Da o):=by
 refine⟨⟨λb u e=>?_,s.gs.len,s.gs.val,λi t ds e k=>?_,s.gs.dis⟩,s.cB,s.zj,λb u e n=>?_,s.xq,s.len,s.lk⟩
 . have:b≠Da:=by rintro rfl;rw[q]at e;cases e
   rw[aB this];exact s.gs.sub b u e
 . obtain⟨a,xs,l,r,w,y⟩:=s.gs.own i t ds e k;have:a≠Da:=by rintro rfl;exact ho ⟨i,⟨t,ds,e,k⟩,l⟩
   exact⟨a,xs,l,by rw[aB this];exact r,w,y⟩
 . have:b≠Da:=by rintro rfl;rw[h]at e;cases e
   rw[aB this];exact s.keep b u e n
theorem zc{b r:List Sl}{ul:List Sl->List Sl}{ti:TI}{one:Bool}{u:List Sl->Res Bool}{el:Ev}{g:TG}{Q:VK}{xs:List D}(hm:σ.length=m)(ag:lQ K m is one g)(ah:∀R:It->Hp->Prop,(∀J F1 U,Walk K F ρ σ H ul J ds F1 b U->R J U)->ti σ H R)(am:ds.length<=lim)(e2:turns is one u el ds [] (b++cr n .aO)=.ok xs r)(k:∀v F' H',az K F ρ σ H F' (ul (r.take b.length)) σ H'->cZ K F' (ul (r.take b.length)) σ H' ρ σ H v (.own xs)->Q v H'):u9 n ti g (HS K u) (xm K el) σ H Q:=by
 refine ah _ λJ F1 U w Da N=>?_;have ai:b.length=σ.length:=w.gs.len;have gm:=w.gs.more (n:=n) (τ:=cr n ci) (by simp);have fD:F1 Da=ci:=by cases q:F1 Da with|none=>rfl|some o=>rw[w.gs.sub Da o q]at N;cases N
 have nO:¬ Own (b++cr n .aO) (σ++cr n ci) Da:=λ⟨i,⟨t,dt,q1,q2⟩,q3⟩=>by obtain⟨a,ys,z1,z2,_⟩:=gm.own i t dt q1 q2;rw[q3]at z1;cases z1;rw[N]at z2;cases z2
 refine⟨λi mm ys f G=>∃E h l,az K F1 (b++cr n .aO) (σ++cr n ci) U E h f G/\f.take m=σ/\G Da=aU (.lst ys)/\E Da=ci/\¬ Own h f Da/\aG K E ys l/\l.length<=i/\mm=ds.length-i/\i<=ds.length/\turns is one u el (ds.drop i) l h=.ok xs r,⟨_,F1,_,[],(az.refl gm).IW N fD nO,by rw[mI (by lia),n9 (by lia)],aP,fD,nO,.nil,tU,rfl,tU,e2⟩,?_⟩;rintro i mm ys f G⟨E,h,l,W,I,Y,hF,hO,rs,ap,rfl,ar,j⟩;refine⟨Y,?_⟩--what stays of the new list through a step
 have stay:∀{F2 O:Hp}{L:List Sl}{B:_L.St},az K E h f G F2 L B O->O Da=aU (.lst ys)/\F2 Da=ci/\¬ Own L B Da:=λ{F2 O L B}s=>by
  refine⟨s.keep Da _ Y hO,?_,λo=>?_⟩;.cases q:F2 Da with|none=>rfl|some o=>
      rcases s.zj Da hF (by rw[q];simp)with z|z;.exact absurd z hO
      .exact(Mg Y z).elim
  . rcases s.xq Da o with z|z;.exact hO z
    .rw[Y]at z;cases z
 obtain⟨s1,s2⟩:=w.src n i E h f G W;by_cases C:i<ds.length
 . right;have hd:ds[i]?=aU ds[i]:=by simp[C]
   obtain⟨go,step⟩:=s1 _ hd;refine⟨go,λx O y=>?_⟩;obtain⟨F2,ext,rx⟩:=step x O y;have t2:=ext.stp W.gs;rw[fN C,Aj]at j;cases hbd:cL h is one ds[i]with|none=>rw[hbd]at j;cases j|some Z=>rw[hbd]at j;obtain⟨bb,M,eb,j⟩:=ak j;refine ag x _ F2 h Z f O _ t2.gs rx hbd λB sb ac=>?_;have t3:=t2.trans sb;refine⟨F2,Z,bb,M,t3.gs,eb,λF4 H4 s4=>?_⟩;have t4:=t3.trans s4;cases bb with|false=>rw[if_neg de]at j;obtain⟨y1,y2,y3⟩:=stay t4;exact⟨_,by lia,F4,M,l,W.trans t4,ac.trans I,y1,y2,y3,rs.mono t4.cB,by lia,rfl,C,j⟩|true=>
       rw[if_pos rfl]at j;obtain⟨re,ae,ee,j⟩:=ak j;refine(show xm K el B H4 _ from⟨F4,M,re,ae,t4.gs,ee,λv F5 H5 s5 rr=>?_⟩);obtain⟨F6,s6,_,rp⟩:=s5.dB rr;have t6:=t4.trans s6;obtain⟨y1,y2,y3⟩:=stay t6;have af:ys.length<sizeLine:=by have h1:=rs.length;have h2:lim=sizeLine:=rfl;lia
       exact⟨y1,af,_,by lia,F6,ae,l++[re.d],(W.trans t6).IW N y2 y3,ac.trans I,aP,y2,y3,(rs.mono t6.cB).append (.cons rp .nil),by simp;lia,rfl,C,j⟩
 . left;have al:ds.drop i=[]:=by rw[lf];lia
   rw[al,Bs]at j;cases j;refine⟨s2 (by lia),?_⟩;obtain⟨l1,l2⟩:=az.less (m:=b.length) rfl w.gs (by simp) W;have hst:f.take b.length=σ:=by rw[ai,hm];exact I
   rw[hst]at l1;have rr:cZ K E r f G (b++cr n .aO) (σ++cr n ci) U (.ref Da) (.own xs):=⟨Da,ys,rfl,Y,hF,rs,hO,.inr N⟩;have TJ:=l2 _ _ rr;rw[hst]at TJ;obtain⟨z1,z2⟩:=w.fin _ _ _ _ l1;exact k _ E G z1 (z2 _ _ TJ)
theorem Ek{iv:Option Nat}{f:Ev}{one:Bool}{b:List Sl->Res Bool}{w:Ev}{g:TG}{Q:VK}{r:R}{j:List Sl}(z:σ.length=m)(q:lQ K m is one g)(B:GS K F ρ σ H)(e:((srcOf iv f ρ).bind λds a=>if ds.length<=lim then(turns is one b w ds [] (a++cr n .aO)).bind λxs l=>Res.ok (R.own xs) (aW ρ iv (l.take a.length))else .stuck)=.ok r j)(k:∀v y t,az K F ρ σ H y j σ t->cZ K y j σ t ρ σ H v r->Q v t):u9 n (tIt K iv f) g (HS K b) (xm K w) σ H Q:=by
 obtain⟨ds,u,C,e⟩:=ak e;split at e;.rename_i o;obtain⟨xs,E,G,e⟩:=ak e;cases e;exact zc z q (λR h=>⟨F,ρ,ds,u,B,C,h⟩) o G k
 .cases e
theorem cP{g:TG}{one:Bool}{t:Option P}(hc:X.calm=b_)(ok:fH X scope N' n)(hi:SI X c tg iter ps)(b:∀cl C s₀ H₀ ex,PG (rC X scope N' cl C s₀ H₀ ex) tg g)(a:lQ X.K X.N.length is one g)(ht:∀cl C s₀ H₀ ex,SQ (rC X scope N' cl C s₀ H₀ ex) c ifs t)(he:∀cl C s₀ H₀ ex,SX (rC X scope N' cl C s₀ H₀ ex) c elt pe)(hs:∀x,fe iter X.env x=fg x:=by intro _;rfl):SX X c (.ListComp elt [⟨tg,iter,ifs,0⟩] scope pos) (.comp ps n is one t pe):=by refine⟨WW (O5 (tt:=HS X.K (o6 c t)) (te:=xm X.K (_H.ev c pe)) hc ok hi b ht (λcl C s₀ H₀ ex=>(he cl C s₀ H₀ ex).ev) hs) ?_,λi h=>by cases h⟩;rintro σ H Q f⟨F,ρ,r,j,l,e,k⟩;rw[_H.E19]at e;exact Ek f a l e k
theorem Qx{a b:Pos}{nn:Nat}{g:TG}{one:Bool}{t:Option P}(hc:X.calm=b_)(q:X.N.Nodup)(h:X.N[i]?=aU x)(u:Loc X.env.scope x)(ok:fH X scope N' n)(hi:SI X c tg iter ps)(w:∀cl C s₀ H₀ ex,PG (rC X scope N' cl C s₀ H₀ ex) tg g)(j:lQ X.K X.N.length is one g)(ht:∀cl C s₀ H₀ ex,SQ (rC X scope N' cl C s₀ H₀ ex) c ifs t)(he:∀cl C s₀ H₀ ex,SX (rC X scope N' cl C s₀ H₀ ex) c elt pe)(l:gi (.ListComp elt [⟨tg,iter,ifs,0⟩] scope pos) (aU (.Name x a)) b.line X.env=fg b_:=by rfl)(hs:∀x,fe iter X.env x=fg x:=by intro _;rfl)(y:X.fn x=b_\/X.env.scope.names.lookup x=aU .local:=by first|(left;rfl)|(right;rfl)|assumption):SS X c nn (.Assign [.Name x a] (.ListComp elt [⟨tg,iter,ifs,0⟩] scope pos) b) (.asg i (.comp ps n is one t pe)):=by refine Mj (vm (tt:=HS X.K (o6 c t)) (te:=xm X.K (_H.ev c pe)) hc q h u ok hi w ht (λcl C s₀ H₀ ex=>(he cl C s₀ H₀ ex).ev) l hs y) ?_;rintro D σ H z⟨F,ρ,fl,B,E,e,k⟩;rw[_H.X6]at e;obtain⟨r,G,o,e⟩:=ak e;obtain⟨I,J,f,e⟩:=ak e;cases e;have L:=aC f;clear f;obtain⟨f,Q⟩:=L;rw[_H.E19]at o;exact Ek z j E o λv F1 M s1 O=>k F1 _ M (s1.put O f)
end
section
variable{X:Cx}{c:Call}{n:Nat}{e a b d:dy}{p pa pb pd:P}{pos:Pos}{es:List dy}{ps:List P}
noncomputable def tyN:D->String|.non=>"NoneType"|.bl _=>"bool"|.int _=>"int"|.str _=>"str"|.tup _=>"tuple"|.lst _=>"list"|.dH _=>"dict"|.dv _ _=>"dict"
noncomputable def tyS:Ty->String|.none=>"NoneType"|.bool=>"bool"|.int=>"int"|.str=>"str"|.tuple=>"tuple"|.list=>"list"
theorem aah(K:PySem.W.Frag)(t:Ty)(d:D):PySem.W.kitOne K (.type (tyN d)) (.type (tyS t))=aU (cW t d):=by cases t<;>cases d<;>rfl
theorem Z4{k:List (cq×Obj)}{x:V}{u:bx}{dt:D}(I:_L.Inv X k σ H s)(sm:aH F H)(g:dG X.K F H x dt)(f:RelV x u):(∃r,PySem.W.KitX X.K u (.type (tyN dt)) r/\r s.heap)/\u≠.builtin "__main__.__loader__#opaque":=by cases dt with|non=>rw[g.non]at f;cases f;exact⟨⟨_,PySem.W.kitx_none,trivial⟩,nofun⟩|bl y=>rw[g.bl]at f;cases f;exact⟨⟨_,PySem.W.kitx_bool,trivial⟩,nofun⟩|int i=>rw[g.int]at f;obtain⟨t,rfl⟩:=f;exact⟨⟨_,PySem.W.kitx_int,trivial⟩,nofun⟩|str y=>rw[g.str]at f;obtain⟨t,rfl⟩:=f;exact⟨⟨_,PySem.W.kitx_str,trivial⟩,nofun⟩|tup ds=>obtain⟨q,xs,rfl,h,_⟩:=g.tup sm;cases f;obtain⟨l,_,⟨o,h1,j,_⟩,_⟩:=I.tuple h;exact⟨⟨_,PySem.W.kitx_tuple,⟨o,h1,j⟩⟩,nofun⟩|lst ds=>obtain⟨q,xs,rfl,h,_⟩:=g.lst sm;cases f;obtain⟨l,_,w,_⟩:=I.list h;obtain⟨o,h1,j,_⟩:=w.isList;exact⟨⟨_,PySem.W.kitx_list,⟨o,h1,j⟩⟩,nofun⟩|dH m=>obtain⟨q,_,rfl,h⟩:=g.dH sm;cases f;obtain⟨o,h1,j⟩:=Kf I h;exact⟨⟨_,kitx_dict,⟨o,h1,j⟩⟩,nofun⟩|dv ks ds=>obtain⟨q,_,vs,rfl,h,_⟩:=g.dv sm;cases f;obtain⟨o,h1,j⟩:=J6 I h;exact⟨⟨_,kitx_dict,⟨o,h1,j⟩⟩,nofun⟩
theorem U8(t:Ty):fj X (.builtin "isinstance") (λxs H Q=>∃x F dt,xs=[x,.ty (tyS t)]/\aH F H/\dG X.K F H x dt/\Q (.bl (cW t dt)) H):=by rintro g s σ H xs us Q I r⟨x,F,dt,h,sm,j,q⟩;subst h;obtain⟨u,k,rfl,l,rt⟩:=r.two;cases(show k=fv (tyS t)from rt);obtain⟨⟨w,Z,hz⟩,f⟩:=Z4 I sm j l;exact PySem.W.kia_one Z I.T4 hz (aah _ t dt) f λo=>⟨.bl _,H,I.tok o,rfl,q⟩
theorem Lh:eH "isinstance"=aU (.builtin "isinstance"):=by decide+kernel
theorem jw{y:Str}{p2:Pos}(t:Ty)(u:x="isinstance")(w:Gl X x)(z:X.mg x=ci)(B:SX X c a pa)(f:Gl X y)(j:X.mg y=ci)(C:eH y=aU (.type (tyS t)))(l:y≠"__name__":=by decide)(o:(y==("__debug__":Str))=a_:=by decide)(hs:cx [a,.Name y p2] X.env=(a_,eA a X.env)::cx [.Name y p2] X.env:=by rfl):SX X c (.Call (.Name x p') [a,.Name y p2] [] pos) (.inst [t] pa):=by subst u;obtain⟨N,h1,E⟩:=B.cJ;refine⟨eU (fM (U8 t) w z Lh (bZ h1 (bZ (Qh (v:=.ty (tyS t)) f j C rfl l o) dZ) hs) (he:=hs)) ?_,λi h=>by cases h⟩;rintro σ H Q⟨F,ρ,r,G,g,e,k⟩;rw[_H.E18]at e;obtain⟨dt,I,J,e⟩:=ak e;cases e;refine E g J λv q L s M=>⟨v,q,dt,rfl,s.gs.sub,M,k _ q L s ?_⟩;show Rep X.K q _ _;rw[kc,List.any_nil,Bool.or_false];exact gK _
inductive rBn(K:PySem.W.Frag)(f:List D->Option R)(xs:List V)(H:Hp)(Q:VK):Prop where|mk(F:Hp)(ds:List D)(r:R)(sm:aH F H)(rs:aG K F xs ds)(he:f ds=aU r)(k:∀v F' H',Ext F H F' H'->cH K F' H' H v r->Q v H')
theorem Tg{E:dy}{f:List D->Option R}{q:P}(o:∀{t},PA X es t->PE X E (tCB (rBn X.K f) t))(u:SA X c es ps)(y:∀ρ,_H.ev c q ρ=(evs c ps ρ).bind λds ρ=>lift (f ds) ρ)(z:isVar q=ci):SX X c E q:=by refine⟨eU (o u.1) ?_,λi h=>by rw[z]at h;cases h⟩;rintro σ H Q⟨F,ρ,r,B,g,e,k⟩;rw[y]at e;obtain⟨ds,l,C,j⟩:=ak e;have G:=aC j;clear j;obtain⟨j,I⟩:=G;subst I;exact⟨F,ρ,ds,l,g,C,λvs J O s L=>⟨J,ds,r,s.gs.sub,L,j,λw F2 M x N=>k w F2 M (s.trans (x.stp s.gs)) (.later s (N.nu s.gs))⟩⟩
theorem S5{xs:List V}{i j:Int}(h:aG K F xs [.int i,.int j]):xs=[.int i,.int j]:=by obtain⟨v,r,rfl,h1,g⟩:=h.cR;obtain⟨u,l,rfl,f,k⟩:=g.cR;rw[Rep]at h1 f;rw[h1,f,k.gk]
theorem inv2{f:Blt}{g:Int->Int->Int}{r:R}(h0:blt f []=ci)(h1:∀a,blt f [a]=ci)(o:∀a b c l,blt f (a::b::c::l)=ci)(q:∀a b,fB a=a_->blt f [a,b]=ci)(t:∀i b,fB b=a_->blt f [.int i,b]=ci)(hi:∀i j,blt f [.int i,.int j]=aU (.val (.int (g i j))))(he:blt f ds=aU r):∃i j,ds=[.int i,.int j]/\r=.val (.int (g i j)):=by
 rcases ds with _|⟨a,_|⟨b,_|⟨c,l⟩⟩⟩;.rw[h0]at he;cases he
 .rw[h1]at he;cases he
 . by_cases h:fB a=b_
   . obtain⟨i,rfl⟩:∃i,a=.int i:=by cases a<;>first|exact⟨_,rfl⟩|cases h
     by_cases k:fB b=b_
     . obtain⟨j,rfl⟩:∃j,b=.int j:=by cases b<;>first|exact⟨_,rfl⟩|cases k
       rw[hi]at he;cases he;exact⟨i,j,rfl,rfl⟩
     .rw[t i b (by simpa using k)]at he;cases he
   .rw[q a b (by simpa using h)]at he;cases he
 .rw[o]at he;cases he
theorem T3(hc:X.calm=b_):fj X (.builtin "min") (rBn X.K (blt .min2)):=by rintro f s σ H xs us Q I r⟨F,ds,q,sm,o,he,k⟩;obtain⟨i,j,rfl,rfl⟩:=inv2 (g:=λi j=>if j<i then j else i) rfl (λa=>by cases a<;>rfl) (λa b c l=>by cases a<;>first|rfl|(cases b<;>rfl)) (λa b h=>by cases a<;>first|rfl|cases h) (λi b h=>by cases b<;>first|rfl|cases h) (λ_ _=>rfl) he;rw[S5 o]at r;exact G4 hc f s σ H _ us Q I r ⟨_,_,rfl,cH.dg sm (cj _) k⟩
theorem Xq(hc:X.calm=b_):fj X (.builtin "max") (rBn X.K (blt .max2)):=by rintro f s σ H xs us Q I r⟨F,ds,q,sm,o,he,k⟩;obtain⟨i,j,rfl,rfl⟩:=inv2 (g:=λi j=>if i<j then j else i) rfl (λa=>by cases a<;>rfl) (λa b c l=>by cases a<;>first|rfl|(cases b<;>rfl)) (λa b h=>by cases a<;>first|rfl|cases h) (λi b h=>by cases b<;>first|rfl|cases h) (λ_ _=>rfl) he;rw[S5 o]at r;exact Hc hc f s σ H _ us Q I r ⟨_,_,rfl,cH.dg sm (cj _) k⟩
theorem boot_min:eH "min"=aU (.builtin "min"):=by decide+kernel
theorem boot_max:eH "max"=aU (.builtin "max"):=by decide+kernel
theorem Pa(f:x="min")(hc:X.calm=b_)(g:Gl X x)(j:X.mg x=ci)(k:SA X c [a,b] [pa,pb])(hs:cx [a,b] X.env=(a_,eA a X.env)::cx [b] X.env:=by rfl)(hpl:(i7 pos (cx [b] X.env)).any (·.1)=a_:=by rfl):SX X c (.Call (.Name x p') [a,b] [] pos) (.blt .min2 [pa,pb]):=by subst f;exact Tg (λh=>fM (T3 hc) g j boot_min h (he:=hs) (hpl:=hpl)) k (λρ=>rfl) rfl
theorem O9(f:x="max")(hc:X.calm=b_)(g:Gl X x)(j:X.mg x=ci)(k:SA X c [a,b] [pa,pb])(hs:cx [a,b] X.env=(a_,eA a X.env)::cx [b] X.env:=by rfl)(hpl:(i7 pos (cx [b] X.env)).any (·.1)=a_:=by rfl):SX X c (.Call (.Name x p') [a,b] [] pos) (.blt .max2 [pa,pb]):=by subst f;exact Tg (λh=>fM (Xq hc) g j boot_max h (he:=hs) (hpl:=hpl)) k (λρ=>rfl) rfl
end
section
variable{X:Cx}{c:Call}{n:Nat}{e a b d:dy}{p pa pb pd:P}{pos:Pos}{es:List dy}{ps:List P}
theorem CW(g:GS K F ρ σ H)(h:HX ρ i=aU ds):∃a xs,σ[i]?=aU (aU (V.ref a))/\dO K H a xs:=by
 unfold HX at h;split at h;.rename_i q;cases h;obtain⟨v,h1,f⟩:=g.pk q;obtain⟨a,xs,rfl,j,_⟩:=f.lst g.sub;exact⟨a,xs,h1,j⟩
 .cases h
theorem j7{k:Nat}{h f:Pos}(I:X.N[k]?=aU x)(J:yZ X.env.scope x)(hi:SX X c b pb)(he:SX X c e p)(L:∀ v,lb (.Subscript (.Name x h) b f) X.env v=(do
  let l<-kL [v] (eA (.Name x h) X.env)let iv<-kL [v,l] (eA b X.env)standAt f
  kL [v,l,iv] (n5 l iv v)release [v,l,iv] []):=by intro _;rfl)(hs:mh [.Subscript (.Name x h) b f] e pos.line X.env=fg a_:=by rfl)(M:mi [.Subscript (.Name x h) b f] e X.env=fg ci:=by rfl)(h1:(kD [.Subscript (.Name x h) b f] X.env).map (·.2)=[lb (.Subscript (.Name x h) b f) X.env]:=by rfl)(hd:(x==("__debug__":Str))=a_:=by decide)(u:(x==("__classdict__":Str))=a_:=by decide):SS X c n (.Assign [.Subscript (.Name x h) b f] e pos) (.wW k pb p):=by
 obtain⟨ti,w,y⟩:=hi.cJ;refine eN (Wm he.ev (Ug (gh I J hd u) w set_list L) hs M h1) ?_;rintro D σ H⟨F,ρ,fl,O,g,e,Q⟩;rw[_H.X8]at e;obtain⟨r,z,U,e⟩:=ak e;obtain⟨x0,C,t,e⟩:=ak e;have W:=aC t;clear t;obtain⟨t,Y⟩:=W;subst Y;obtain⟨dk,Z,e2,e⟩:=ak e;refine⟨F,ρ,r,z,g,U,λv F1 H1 s1 rr=>?_⟩;obtain⟨F2,s2,_,rp⟩:=s1.dB rr;obtain⟨o,ho,_⟩:=s2.gs.pk t;refine⟨o,ho,y s2.gs e2 λvi F3 H3 s3 pi=>?_⟩;split at e
 . rename_i bb ds B q;split at e;.rename_i j hj;cases e;obtain⟨ad,xs,E,q2,q3,G⟩:=s3.gs.mW k _ ds q rfl;rw[ho]at E;cases E;refine⟨ad,xs,B,j,rfl,pi.int,q2,by rw[G.length];exact hj,?_⟩;exact Q F3 σ _ ((s2.trans s3).trans (s3.gs.mut q ho (G.set (rp.mono s3.cB) j)))
   .cases e
 .cases e
theorem cX{k:Nat}{o h f:Pos}(G:X.N[k]?=aU x)(I:yZ X.env.scope x)(he:SX X c e p)(j:(h.endLine==f.line)=b_:=by rfl)(hs:cx [e] X.env=(a_,eA e X.env)::cx [] X.env:=by rfl)(l:jS (.Name x o) "append" X.env (eA (.Name x o) X.env)=eA (.Name x o) X.env:=by rfl)(t:((i7 f (cx [e] X.env)).all (λx=>!x.1)&&(sh f (nS [] X.env)).all (λx=>x.1.isSome)&&decide ([e].length+([]:List l9).length+(if([]:List l9).isEmpty then 0 else 1)<30))=b_:=by rfl)(w:gi (.Call (.Attribute (.Name x o) "append" h) [e] [] f) ci pos.line X.env=fg a_:=by rfl)(hd:(x==("__debug__":Str))=a_:=by decide)(y:(x==("__classdict__":Str))=a_:=by decide):SS X c n (.Expr (.Call (.Attribute (.Name x o) "append" h) [e] [] f) pos) (.app k p):=by
 refine eN (Dp (Th PySem.F.plainAttrs_list PySem.F.slot_list_append PySem.F.type_list_append nQ (gh G I hd y) (bZ he.ev dZ hs) l t j hs) w) ?_;rintro D σ H⟨F,ρ,fl,J,g,e,L⟩;rw[_H.X9]at e;obtain⟨d0,M,u,e⟩:=ak e;have O:=aC u;clear u;obtain⟨u,Q⟩:=O;subst Q;obtain⟨r,z,U,e⟩:=ak e;obtain⟨a,xs,h1,W⟩:=CW g u;refine⟨.ref a,h1,.inl ⟨rfl,xs,W⟩,F,ρ,r,z,g,U,λv F1 H1 s1 Y=>?_⟩;obtain⟨F2,s2,_,Z⟩:=s1.dB Y;split at e
 . rename_i bb ds q;split at e;.rename_i B;cases e;obtain⟨ad,ys,C,q2,q3,E⟩:=s2.gs.mW k _ ds q rfl;rw[h1]at C;cases C;exact⟨_,ys,v,rfl,rfl,q2,by rw[E.length];exact B,L F2 σ _ (s2.trans (s2.gs.mut q h1 (E.append (.cons Z .nil))))⟩
   .cases e
 .cases e
theorem Ig{j:Nat}{y:Str}{l o pt:Pos}{kt k2 XC}(hc:X.calm=b_)(C:X.N.Nodup)(hi:X.N[i]?=aU x)(E:X.N[j]?=aU y)(q:i≠j)(G:X.env.scope.names.lookup x=aU .local)(I:X.env.scope.names.lookup y=aU .local)(J:SX X c a pa)(L:SX X c b pb)(M:mi [.Tuple [.Name x l,.Name y o] kt pt] (.Tuple [a,b] k2 XC) X.env=fg (aU [x,y]):=by rfl)(hs:mh [.Tuple [.Name x l,.Name y o] kt pt] (.Tuple [a,b] k2 XC) pos.line X.env=fg a_:=by rfl)(h1:cx [a,b] X.env=(a_,eA a X.env)::cx [b] X.env:=by rfl)(O:cx [b] X.env=(a_,eA b X.env)::cx [] X.env:=by rfl):SS X c n (.Assign [.Tuple [.Name x l,.Name y o] kt pt] (.Tuple [a,b] k2 XC) pos) (.par i j pa pb):=by refine eN (_L.WN hc C hi E q G I (bZ J.ev (bZ L.ev dZ O) h1) M hs) ?_;rintro D σ H⟨F,ρ,fl,Q,g,e,k⟩;rw[_H.X7]at e;obtain⟨r,f,U,e⟩:=ak e;obtain⟨B,t,W,e⟩:=ak e;obtain⟨Y,Z,h,e⟩:=ak e;cases e;have zz:=aC h;clear h;obtain⟨h,e4⟩:=zz;obtain⟨ac,e5,e6⟩:=cG h;refine⟨F,ρ,r,f,g,U,λv F1 H1 s1 rr=>?_⟩;obtain⟨F2,s2,_,rp⟩:=s1.dB rr;refine⟨F2,f,B,t,s2.gs,W,λu F3 H3 s3 w=>?_⟩;obtain⟨F4,s4,_,z⟩:=s3.dB w;refine⟨v,u,rfl,?_⟩;have t4:=s2.trans s4;have t5:=t4.put (r:=.val r.d) (v:=v) (rp.mono s4.cB) e5;exact k F4 _ H3 (t5.put (r:=.val B.d) (v:=u) z e6)
theorem Mz{bs:List Bool}(h:ds.mapM zE=aU bs):ds=bs.map D.bl:=by induction ds generalizing bs with|nil=>simp at h;subst h;rfl|cons d ds f=>rw[List.mapM_cons]at h;cases hd:zE d with|none=>rw[hd]at h;cases h|some k=>rw[hd]at h;cases hr:ds.mapM zE with|none=>rw[hr]at h;cases h|some r=>rw[hr]at h;cases h;rw[c_,<-f hr,qJ hd]
theorem Eg{K:PySem.W.Frag}{F:Hp}:∀{bs:List Bool}{xs:List V},aG K F xs (bs.map D.bl)->xs=bs.map V.bl|[],_,h=>h.gk|k::bs,_,h=>by obtain⟨v,r,rfl,h1,f⟩:=h.cR;rw[Rep]at h1;rw[h1,Eg f];rfl
theorem FQ:∀{bs:List Bool}{us:List bx},Vals (bs.map V.bl) us->us=bs.map ke|[],_,h=>h.zero|k::bs,_,.cons r t=>by rw[c_,<-FQ t,show _=_ from r]
theorem Qq{id:String}{f:List Bool->Bool}(hc:X.calm=b_)(rule:∀{x:bx}{Q:bx->cn->Prop}{s:cn},cE (cS X.prog X.w) X.A.in1 (rc x) (λit g=>∃ I G t n P St y,it=.ref I/\Walks X.prog X.w X.A.in1 I G t n P St/\St 0 g.heap/\TruthOf X.prog X.w X.A.in1 P y/\∀h' B,(∀b o,b∉t->g.heap.get? b=aU o->h'.get? b=aU o)->Q (.bool (f ((dS n).map y))) {g with heap:=h',toks:=B}) X.xe s->cE (cS X.prog X.w) X.A (call (.builtin id) [x]) Q X.xe s):fj X (.builtin id) (λxs H Q=>∃p ys bs,xs=[.ref p]/\dO X.K H p ys/\ys=bs.map V.bl/\Q (.bl (f bs)) H):=by
 rintro C s σ H xs us Q I r⟨p,ys,bs,J,L,M,k⟩;subst J;subst M;obtain⟨u,rfl,N⟩:=r.one;cases N;obtain⟨O,U,l,hz⟩:=I.list L;have h:=FQ U;subst h;refine rule (gT l.isList ?_);have q:p≠s.heap.objs.size:=by obtain⟨o,h1,_⟩:=l.isList;exact dE (dc h1)
 refine⟨s.heap.objs.size,_,_,_,_,_,λi=>bs.getD i a_,rfl,Walks.list (prog:=X.prog) (w:=X.w) (A:=X.A.in1) (show X.A.in1.handled=ci from I.ok.hd hc) s.heap.objs.size p q (bs.map ke).toArray,⟨⟨_,cw _ rfl,rfl,rfl⟩,?_⟩,?_,λh' B kp=>?_⟩;.obtain⟨o,h1,E⟩:=l.isList;exact⟨o,dF h1,E⟩
 . intro i v s' Q' E' j W;have Y:v=.bool (bs.getD i a_):=by
    have j:(bs.map ke)[i]?=aU v:=by simpa using j
    rw[fk]at j;obtain⟨k',Z,e2⟩:=map_some j;rw[<-e2,List.getD_eq_getElem?_getD,Z];rfl
   subst Y;exact gS W
 . have e:f ((dS (bs.map ke).toArray.size).map λi=>bs.getD i a_)=f bs:=by
    congr 1;apply lI;.simp
    .intro i h1 E;simp at h1;simp[h1]
   rw[e];exact⟨.bl _,H,I.kept (λb o z=>kp b o (by simp;exact dE (dc z)) (dF z)),rfl,k⟩
theorem abm(hc:X.calm=b_):fj X (.builtin "all") (S8 X.K λx=>blt .all [x]):=by rintro g s σ H xs us Q I r⟨x,q,F,d,t,sm,u,he,k⟩;obtain⟨bs,w,he⟩:=map_some (show((zJ d).bind λds=>ds.mapM zE).map _=aU t from he);subst he;obtain⟨ds,j,y⟩:=cG w;have B:=Mz y;cases d with|lst es=>cases j;obtain⟨p,ys,rfl,C,l⟩:=u.lst sm;rw[B]at l;refine Qq (f:=λbs=>bs.all id) hc (λh=>call_all_walk (eu h (λit o⟨I,fp,wr,n,P,Sx,tr,h1,h2,h3,h4,h5⟩=>⟨I,fp,wr,n,P,Sx,tr,h1,h2,h3,h4,λh' E kp=>?_⟩) λ_ _ z=>z)) g s σ H xs us Q I r ⟨p,ys,bs,q,C,Eg l,cH.dg sm (gK _) k⟩;have z:=h5 h' E kp;rw[List.all_map]at z;exact z|_=>cases j
theorem boot_all:eH "all"=aU (.builtin "all"):=by decide+kernel
theorem Wo(f:x="all")(hc:X.calm=b_)(g:Gl X x)(j:X.mg x=ci)(k:SX X c a pa)(hs:cx [a] X.env=(a_,eA a X.env)::cx [] X.env:=by rfl):SX X c (.Call (.Name x p') [a] [] pos) (.blt .all [pa]):=by subst f;exact rZ (λh=>fM (abm hc) g j boot_all h (he:=hs)) k (λρ=>rfl) rfl hs
end
section
variable{K:PySem.W.Frag}
theorem jD:∀{xs ys:List D},xs.length≠ys.length->j9 xs ys=a_|[],[],h=>absurd rfl h|[],_::_,_=>by simp[lE,jc,rN,rG]|_::_,[],_=>by simp[lE,jc,rN,rG]|x::xs,y::ys,h=>by rw[jc,jD (xs:=xs) (ys:=ys) (by simpa using h),nq]
theorem gR:∀{xs ys:List D},xs.length=ys.length->j9 xs ys=(dS xs.length).all λj=>jW (xs.getD j .non) (ys.getD j .non)|[],[],_=>by rw[lE];rfl|[],_::_,h=>by simp at h|_::_,[],h=>by simp at h|x::xs,y::ys,h=>by rw[jc,gR (xs:=xs) (ys:=ys) (by simpa using h),dU,List.range_succ_eq_map,kS,List.all_map];rfl
mutual
theorem xK:∀d:D,jW d d=b_|.non=>rfl|.bl _=>by exact beq_self_eq_true _|.int _=>by exact beq_self_eq_true _|.str _=>by exact beq_self_eq_true _|.tup ds=>by exact j4 ds|.lst ds=>by exact j4 ds|.dH _=>by exact decide_eq_true rfl|.dv ks ds=>by show(decide (ks=ks)&&j9 ds ds)=b_;rw[j4 ds];simp
theorem j4:∀ds:List D,j9 ds ds=b_|[]=>by rw[lE]|d::ds=>by rw[jc,xK d,j4 ds];rfl
end
theorem fU{d e:D}(b:flat d=b_)(h1:Rep K F v d)(a:Rep K F v e):d=e:=by cases d with
 |tup _=>cases b|lst _=>cases b|dH _=>cases b|dv _ _=>cases b|non=>rw[Rep]at h1;subst h1;cases e with|non=>rfl|tup _=>rw[Rep]at a;obtain⟨_,_,q,_⟩:=a;cases q|lst _=>rw[Rep]at a;obtain⟨_,_,q,_⟩:=a;cases q|dH _=>rw[Rep]at a;obtain⟨_,_,q,_⟩:=a;cases q|dv _ _=>rw[Rep]at a;obtain⟨_,_,_,q,_⟩:=a;cases q|_=>rw[Rep]at a;cases a
 |bl k=>rw[Rep]at h1;subst h1;cases e with|bl _=>rw[Rep]at a;cases a;rfl|tup _=>rw[Rep]at a;obtain⟨_,_,q,_⟩:=a;cases q|lst _=>rw[Rep]at a;obtain⟨_,_,q,_⟩:=a;cases q|dH _=>rw[Rep]at a;obtain⟨_,_,q,_⟩:=a;cases q|dv _ _=>rw[Rep]at a;obtain⟨_,_,_,q,_⟩:=a;cases q|_=>rw[Rep]at a;cases a
 |int k=>rw[Rep]at h1;subst h1;cases e with|int _=>rw[Rep]at a;cases a;rfl|tup _=>rw[Rep]at a;obtain⟨_,_,q,_⟩:=a;cases q|lst _=>rw[Rep]at a;obtain⟨_,_,q,_⟩:=a;cases q|dH _=>rw[Rep]at a;obtain⟨_,_,q,_⟩:=a;cases q|dv _ _=>rw[Rep]at a;obtain⟨_,_,_,q,_⟩:=a;cases q|_=>rw[Rep]at a;cases a
 |str k=>rw[Rep]at h1;subst h1;cases e with|str _=>rw[Rep]at a;cases a;rfl|tup _=>rw[Rep]at a;obtain⟨_,_,q,_⟩:=a;cases q|lst _=>rw[Rep]at a;obtain⟨_,_,q,_⟩:=a;cases q|dH _=>rw[Rep]at a;obtain⟨_,_,q,_⟩:=a;cases q|dv _ _=>rw[Rep]at a;obtain⟨_,_,_,q,_⟩:=a;cases q|_=>rw[Rep]at a;cases a
theorem Q8{X:Cx}{u:List (cq×Obj)}(I:_L.Inv X u σ H s)(sm:aH F H):∀n:Nat,(∀d:D,jj n d=b_->∀(v:V)(e:D),Rep X.K F v d->Rep X.K F v e->d=e):=by
 have N:∀{a:cq}{xs ys:List V},iQ X.K F a xs->dO X.K F a ys->False:=λ{a xs ys}h1 b=>by obtain⟨_,_,⟨o,g,j,_⟩,_⟩:=I.tuple (aH.gJ sm h1);obtain⟨_,_,w,_⟩:=I.list (sm.seq b);obtain⟨C,c,f,_⟩:=w.isList;rw[g]at c;cases c;rw[j]at f;exact absurd f (by decide)
 have O:∀{a:cq}{kvs:Dc},Rep X.K F (.ref a) (.dH kvs)->∃o,s.heap.get? a=aU o/\o.cls=.type "dict":=λ{a kvs}h=>by rw[Rep]at h;obtain⟨y,_,q,E⟩:=h;cases q;exact Kf I (sm _ _ E)
 have Q:∀{a:cq}{xs:List V}{kvs:Dc},iQ X.K F a xs->Rep X.K F (.ref a) (.dH kvs)->False:=λ{a xs kvs}h1 b=>by obtain⟨_,_,⟨o,g,j,_⟩,_⟩:=I.tuple (aH.gJ sm h1);obtain⟨C,c,f⟩:=O b;rw[g]at c;cases c;rw[j]at f;exact absurd f (by decide)
 have ld:∀{a:cq}{xs:List V}{kvs:Dc},dO X.K F a xs->Rep X.K F (.ref a) (.dH kvs)->False:=λ{a xs kvs}h1 b=>by obtain⟨_,_,w,_⟩:=I.list (sm.seq h1);obtain⟨o,g,j,_⟩:=w.isList;obtain⟨C,c,f⟩:=O b;rw[g]at c;cases c;rw[j]at f;exact absurd f (by decide)
 have z:∀{a:cq}{ks:List Int}{es:List D},Rep X.K F (.ref a) (.dv ks es)->∃o,s.heap.get? a=aU o/\o.cls=.type "dict":=λ{a ks es}h=>by rw[Rep]at h;obtain⟨y,_,_,q,E,_⟩:=h;cases q;exact J6 I (sm _ _ E)
 have G:∀{a:cq}{xs:List V}{ks:List Int}{es:List D},iQ X.K F a xs->Rep X.K F (.ref a) (.dv ks es)->False:=λ{a xs ks es}h1 b=>by obtain⟨_,_,⟨o,g,j,_⟩,_⟩:=I.tuple (aH.gJ sm h1);obtain⟨C,c,f⟩:=z b;rw[g]at c;cases c;rw[j]at f;exact absurd f (by decide)
 have J:∀{a:cq}{xs:List V}{ks:List Int}{es:List D},dO X.K F a xs->Rep X.K F (.ref a) (.dv ks es)->False:=λ{a xs ks es}h1 b=>by obtain⟨_,_,w,_⟩:=I.list (sm.seq h1);obtain⟨o,g,j,_⟩:=w.isList;obtain⟨C,c,f⟩:=z b;rw[g]at c;cases c;rw[j]at f;exact absurd f (by decide)
 intro n;induction n with
 |zero=>intro d hd v e h1 b;cases d with|tup _=>simp[bT,bN,bU,bW,bV,bR]at hd|lst _=>simp[bT,bN,bU,bW,bV,bR]at hd|dH _=>simp[bT,bN,bU,bW,bV,bR]at hd|dv _ _=>simp[bT,bN,bU,bW,bV,bR]at hd|non=>exact fU rfl h1 b|bl k=>exact fU rfl h1 b|int k=>exact fU rfl h1 b|str k=>exact fU rfl h1 b
 |succ n U=>
   have all:∀{xs:List V}{ds es:List D},ds.all (jj n)=b_->aG X.K F xs ds->aG X.K F xs es->ds=es:=λ{xs ds}=>by induction ds generalizing xs with|nil=>intro es _ h1 b;rw[h1.gk]at b;have:=b.length;exact(hB this.symm).symm|cons d ds L=>intro es p h1 b;rw[kS,eW]at p;obtain⟨v,r,rfl,g,j⟩:=h1.cR;cases es with|nil=>cases b.gk|cons e es=>obtain⟨Y,Z,W,c,f⟩:=b.cR;cases W;rw[U d p.1 v e g c,L p.2 j f]
   intro d hd v e h1 b;cases d with
   |dH _=>simp[bT,bN,bU,bW,bV,bR]at hd|dv _ _=>simp[bT,bN,bU,bW,bV,bR]at hd|tup ds=>
     have p:ds.all (jj n)=b_:=by simpa[bT,bN,bU,bW,bV,bR]using hd
     rw[Rep]at h1;obtain⟨a,xs,rfl,l,M⟩:=h1;cases e with|tup es=>rw[Rep]at b;obtain⟨y,ys,q,t,B⟩:=b;cases q;have:=I.jU (aH.gJ sm l) (aH.gJ sm t);subst this;rw[all p M B]|lst es=>rw[Rep]at b;obtain⟨y,ys,q,t,B⟩:=b;cases q;exact(N l t).elim|dH _=>exact(Q l b).elim|dv _ _=>exact(G l b).elim|_=>rw[Rep]at b;cases b
   |lst ds=>
     have p:ds.all (jj n)=b_:=by simpa[bT,bN,bU,bW,bV,bR]using hd
     rw[Rep]at h1;obtain⟨a,xs,rfl,l,M⟩:=h1;cases e with|lst es=>rw[Rep]at b;obtain⟨y,ys,q,t,B⟩:=b;cases q;have:=I.mU (sm.seq l) (sm.seq t);subst this;rw[all p M B]|tup es=>rw[Rep]at b;obtain⟨y,ys,q,t,B⟩:=b;cases q;exact(N t l).elim|dH _=>exact(ld l b).elim|dv _ _=>exact(J l b).elim|_=>rw[Rep]at b;cases b
   |non=>exact fU rfl h1 b|bl k=>exact fU rfl h1 b|int k=>exact fU rfl h1 b|str k=>exact fU rfl h1 b
theorem Eu{d e:D}{u:V}{c:bx}(hd:flat d=b_)(he:flat e=b_)(h1:Rep K F v d)(a:Rep K F u e)(r1:RelV v c)(b:RelV u u'):g_ A s c u' (jW d e):=by cases d with
 |tup _=>cases hd|lst _=>cases hd|dH _=>cases hd|dv _ _=>cases hd|non=>rw[Rep]at h1;subst h1;cases(show c=.none from r1);cases e with|tup _=>cases he|lst _=>cases he|dH _=>cases he|dv _ _=>cases he|non=>rw[Rep]at a;subst a;cases(show u'=.none from b);exact li _|bl _=>rw[Rep]at a;subst a;cases(show u'=.bool _ from b);exact none_bool _|int _=>rw[Rep]at a;subst a;obtain⟨t,rfl⟩:=b;exact none_int _ _|str _=>rw[Rep]at a;subst a;obtain⟨t,rfl⟩:=b;exact none_str _ _
 |bl _=>rw[Rep]at h1;subst h1;cases(show c=.bool _ from r1);cases e with|tup _=>cases he|lst _=>cases he|dH _=>cases he|dv _ _=>cases he|non=>rw[Rep]at a;subst a;cases(show u'=.none from b);exact bool_none _|bl _=>rw[Rep]at a;subst a;cases(show u'=.bool _ from b);exact bool_bool _ _|int _=>rw[Rep]at a;subst a;obtain⟨t,rfl⟩:=b;exact bool_int _ _ _|str _=>rw[Rep]at a;subst a;obtain⟨t,rfl⟩:=b;exact bool_str _ _ _
 |int _=>rw[Rep]at h1;subst h1;obtain⟨t0,rfl⟩:=r1;cases e with|tup _=>cases he|lst _=>cases he|dH _=>cases he|dv _ _=>cases he|non=>rw[Rep]at a;subst a;cases(show u'=.none from b);exact int_none _ _|bl _=>rw[Rep]at a;subst a;cases(show u'=.bool _ from b);exact int_bool _ _ _|int _=>rw[Rep]at a;subst a;obtain⟨t,rfl⟩:=b;exact int_int _ _ _ _|str _=>rw[Rep]at a;subst a;obtain⟨t,rfl⟩:=b;exact int_str _ _ _ _
 |str _=>rw[Rep]at h1;subst h1;obtain⟨t0,rfl⟩:=r1;cases e with|tup _=>cases he|lst _=>cases he|dH _=>cases he|dv _ _=>cases he|non=>rw[Rep]at a;subst a;cases(show u'=.none from b);exact str_none _ _|bl _=>rw[Rep]at a;subst a;cases(show u'=.bool _ from b);exact str_bool _ _ _|int _=>rw[Rep]at a;subst a;obtain⟨t,rfl⟩:=b;exact str_int _ _ _ _|str _=>rw[Rep]at a;subst a;obtain⟨t,rfl⟩:=b;exact str_str _ _ _ _
theorem lX{e:D}{u:V}{a:cq}{g:Array bx}(ht:s.heap.IsTuple a g)(b:A.units<f_)(he:flat e=b_)(c:Rep K F u e)(f:RelV u u'):g_ A s (.ref a) u' (jW (.tup ds) e)/\g_ A s u' (.ref a) (jW e (.tup ds)):=by cases e with|tup _=>cases he|lst _=>cases he|dH _=>cases he|dv _ _=>cases he|non=>rw[Rep]at c;subst c;cases(show u'=.none from f);exact⟨SeqAt.EqAt.tuple_none ht b,SeqAt.EqAt.none_tuple ht b⟩|bl _=>rw[Rep]at c;subst c;cases(show u'=.bool _ from f);exact⟨SeqAt.EqAt.tuple_bool _ ht b,SeqAt.EqAt.bool_tuple _ ht b⟩|int _=>rw[Rep]at c;subst c;obtain⟨t,rfl⟩:=f;exact⟨SeqAt.EqAt.tuple_int _ _ ht b,SeqAt.EqAt.int_tuple _ _ ht b⟩|str _=>rw[Rep]at c;subst c;obtain⟨t,rfl⟩:=f;exact⟨SeqAt.EqAt.tuple_str _ _ ht b,SeqAt.EqAt.str_tuple _ _ ht b⟩
theorem mK{e:D}{u:V}{a:cq}{g:Array bx}(ht:s.heap.IsList a g)(b:A.units<f_)(he:flat e=b_)(c:Rep K F u e)(f:RelV u u'):g_ A s (.ref a) u' (jW (.lst ds) e)/\g_ A s u' (.ref a) (jW e (.lst ds)):=by cases e with|tup _=>cases he|lst _=>cases he|dH _=>cases he|dv _ _=>cases he|non=>rw[Rep]at c;subst c;cases(show u'=.none from f);exact⟨SeqAt.EqAt.list_none ht b,SeqAt.EqAt.none_list ht b⟩|bl _=>rw[Rep]at c;subst c;cases(show u'=.bool _ from f);exact⟨SeqAt.EqAt.list_bool _ ht b,SeqAt.EqAt.bool_list _ ht b⟩|int _=>rw[Rep]at c;subst c;obtain⟨t,rfl⟩:=f;exact⟨SeqAt.EqAt.list_int _ _ ht b,SeqAt.EqAt.int_list _ _ ht b⟩|str _=>rw[Rep]at c;subst c;obtain⟨t,rfl⟩:=f;exact⟨SeqAt.EqAt.list_str _ _ ht b,SeqAt.EqAt.str_list _ _ ht b⟩
theorem za{n:Nat}{d:D}(h:jj n d=b_)(h0:n=0):flat d=b_:=by subst h0;cases d<;>first|rfl|simp[bT,bN,bU,bW,bV,bR]at h
theorem aeV{X:Cx}{E:List (cq×Obj)}(I:_L.Inv X E σ H s)(sm:aH F H):∀(n:Nat)(A:ew),A.units+n<f_->∀(d e:D),jj n d=b_->jj n e=b_->∀(v u:V)(G u':bx),Rep X.K F v d->Rep X.K F u e->RelV v G->RelV u u'->g_ A s G u' (jW d e):=by intro n;induction n with|zero=>intro A Y d e hd he v u G u' h1 f r1 g;exact Eu (za hd rfl) (za he rfl) h1 f r1 g|succ n Z=>
   intro A Y d e hd he v u G u' h1 f r1 g;have c:A.units<f_:=by lia
   have M:A.in1.units+n<f_:=by show A.units+1+n<f_;lia--items by place
   have J:∀{xs ys:List V}{us ws:List bx}{ds es:List D}{j:Nat}(w:j<us.toArray.size)(B:j<ws.toArray.size),ds.all (jj n)=b_->es.all (jj n)=b_->Vals xs us->Vals ys ws->aG X.K F xs ds->aG X.K F ys es->g_ A.in1 s us.toArray[j] ws.toArray[j] (jW (ds.getD j .non) (es.getD j .non)):=λ{xs ys us ws ds es j}w B a1 a2 C h p1 p2=>by
    have w:j<us.length:=by simpa using w
    have B:j<ws.length:=by simpa using B
    have q:j<ds.length:=by rw[<-p1.length,C.length];exact w
    have l2:j<es.length:=by rw[<-p2.length,h.length];exact B
    obtain⟨x,g1,g2⟩:=p1.get (show ds[j]?=aU ds[j]by simp[q]);obtain⟨y,g3,g4⟩:=p2.get (show es[j]?=aU es[j]by simp[l2]);obtain⟨U,g5,g6⟩:=C.get g1;obtain⟨W,g7,g8⟩:=h.get g3;have e1:us.toArray[j]=U:=by have:=(dD g5).2;simpa using this
    have e2:ws.toArray[j]=W:=by have:=(dD g7).2;simpa using this
    have e3:ds.getD j .non=ds[j]:=by simp[kg,q]
    have e4:es.getD j .non=es[j]:=by simp[kg,l2]
    rw[e1,e2,e3,e4];exact Z A.in1 M _ _ (gc.mp a1 _ (ka q)) (gc.mp a2 _ (ka l2)) x y U W g2 g4 g6 g8--the same object
   have same:∀{a:cq},v=.ref a->u=.ref a->g_ A s G u' (jW d e):=λ{a}q1 q2=>by subst q1;subst q2;have:=Q8 I sm (n+1) d hd _ e h1 f;subst this;rw[xK];cases r1;cases g;exact li _
   cases d with
   |dH _=>simp[bT,bN,bU,bW,bV,bR]at hd|dv _ _=>simp[bT,bN,bU,bW,bV,bR]at hd|tup ds=>
     have N:ds.all (jj n)=b_:=by simpa[bT,bN,bU,bW,bV,bR]using hd
     have k:=h1;rw[Rep]at k;obtain⟨a,xs,rfl,O,L⟩:=k;cases r1;obtain⟨us,C,p1,_⟩:=I.tuple (aH.gJ sm O)
     cases e with|dH _=>simp[bT,bN,bU,bW,bV,bR]at he|dv _ _=>simp[bT,bN,bU,bW,bV,bR]at he|tup es=>
       have Q:es.all (jj n)=b_:=by simpa[bT,bN,bU,bW,bV,bR]using he
       have l:=f;rw[Rep]at l;obtain⟨b,ys,rfl,o,r⟩:=l;by_cases p:a=b;.subst p;exact same rfl rfl
       . cases g;obtain⟨ws,h,p2,_⟩:=I.tuple (aH.gJ sm o);refine .of_refs p ?_;have z:=SeqAt.RcAt.tuples (A:=A) (e:=λj=>jW (ds.getD j .non) (es.getD j .non)) p1 p2 c λj w B=>J w B N Q C h L r;have q:us.toArray.size=ds.length:=by rw[cy,<-C.length,L.length]
         have l2:ws.toArray.size=es.length:=by rw[cy,<-h.length,r.length]
         rw[q,l2]at z;have e0:jW (.tup ds) (.tup es)=((dS (min ds.length es.length)).all (λj=>jW (ds.getD j .non) (es.getD j .non))&&ds.length==es.length):=by
          rw[pqt];by_cases t:ds.length=es.length;.rw[gR t,t];simp
          . rw[jD t];have:(ds.length==es.length)=a_:=by simpa using t
            rw[this,nq]
         rw[e0];exact z|lst es=>rw[Rep]at f;obtain⟨b,ys,rfl,o,r⟩:=f;cases g;obtain⟨ws,h,p2,_⟩:=I.list (sm.seq o);exact SeqAt.EqAt.tuple_list p1 p2.isList c|non=>exact(lX p1 c rfl f g).1|bl _=>exact(lX p1 c rfl f g).1|int _=>exact(lX p1 c rfl f g).1|str _=>exact(lX p1 c rfl f g).1
   |lst ds=>
     have N:ds.all (jj n)=b_:=by simpa[bT,bN,bU,bW,bV,bR]using hd
     have k:=h1;rw[Rep]at k
     obtain⟨a,xs,rfl,O,L⟩:=k;cases r1;obtain⟨us,C,p1,_⟩:=I.list (sm.seq O);cases e with|dH _=>simp[bT,bN,bU,bW,bV,bR]at he|dv _ _=>simp[bT,bN,bU,bW,bV,bR]at he|lst es=>
       have Q:es.all (jj n)=b_:=by simpa[bT,bN,bU,bW,bV,bR]using he
       have l:=f;rw[Rep]at l;obtain⟨b,ys,rfl,o,r⟩:=l;by_cases p:a=b;.subst p;exact same rfl rfl
       . cases g;obtain⟨ws,h,p2,_⟩:=I.list (sm.seq o);refine .of_refs p ?_;have q:us.toArray.size=ds.length:=by rw[cy,<-C.length,L.length]
         have l2:ws.toArray.size=es.length:=by rw[cy,<-h.length,r.length]
         rw[pql];by_cases t:ds.length=es.length;.have z:=SeqAt.RcAt.lists (A:=A) (e:=λj=>jW (ds.getD j .non) (es.getD j .non)) p1.isList p2.isList (by rw[q,l2,t]) c λj w B=>J w B N Q C h L r;rw[q]at z;rw[gR t];exact z
         .rw[jD t];exact lists_lengths p1.isList p2.isList (by rw[q,l2];simpa using t) c|tup es=>rw[Rep]at f;obtain⟨b,ys,rfl,o,r⟩:=f;cases g;obtain⟨ws,h,p2,_⟩:=I.tuple (aH.gJ sm o);exact SeqAt.EqAt.list_tuple p1.isList p2 c|non=>exact(mK p1.isList c rfl f g).1|bl _=>exact(mK p1.isList c rfl f g).1|int _=>exact(mK p1.isList c rfl f g).1|str _=>exact(mK p1.isList c rfl f g).1
   |non|bl _|int _|str _=>cases e with|dH _=>simp[bT,bN,bU,bW,bV,bR]at he|dv _ _=>simp[bT,bN,bU,bW,bV,bR]at he|tup es=>rw[Rep]at f;obtain⟨b,ys,rfl,o,r⟩:=f;cases g;obtain⟨ws,h,p2,_⟩:=I.tuple (aH.gJ sm o);exact(lX p2 c rfl h1 r1).2|lst es=>rw[Rep]at f;obtain⟨b,ys,rfl,o,r⟩:=f;cases g;obtain⟨ws,h,p2,_⟩:=I.list (sm.seq o);exact(mK p2.isList c rfl h1 r1).2|_=>exact Eu rfl rfl h1 f r1 g
end
section
variable{X:Cx}{pins:List (cq×Obj)}{σ:_L.St}{H F:Hp}{s:cn}{A:ew}
noncomputable abbrev RC(A:ew)(s:cn)(v u:bx)(k:Bool):Prop:=SeqAt.RcAt A s v u k/\SeqAt.RcNeAt A s v u (!k)
inductive Top(X:Cx)(F H:Hp)(s:cn):bx->D->Prop where|non:Top X F H s .none .non|bl(b:Bool):Top X F H s (.bool b) (.bl b)|int(i:Int)(t:Tok):Top X F H s (.int i t) (.int i)|str(x:Str)(t:Tok):Top X F H s (.str x t) (.str x)|tup{a:cq}{us:List bx}{xs:List V}{ds:List D}(ht:s.heap.IsTuple a us.toArray)(hv:Vals xs us)(hr:aG X.K F xs ds):Top X F H s (.ref a) (.tup ds)|lst{a:cq}{us:List bx}{xs:List V}{ds:List D}(ht:s.heap.IsList a us.toArray)(hv:Vals xs us)(hr:aG X.K F xs ds):Top X F H s (.ref a) (.lst ds)
theorem vU(I:_L.Inv X pins σ H s)(sm:aH F H){f:bx}{d:D}(hd:jj 8 d=b_)(h:dG X.K F H v d)(r:RelV v f):Top X F H s f d:=by cases d with|dH _=>simp[bT,bN,bU,bW,bV,bR]at hd|dv _ _=>simp[bT,bN,bU,bW,bV,bR]at hd|non=>rw[h.non]at r;cases r;exact .non|bl b=>rw[h.bl]at r;cases r;exact .bl b|int i=>rw[h.int]at r;obtain⟨t,rfl⟩:=r;exact .int i t|str x=>rw[h.str]at r;obtain⟨t,rfl⟩:=r;exact .str x t|tup ds=>obtain⟨a,xs,rfl,h1,c,_⟩:=h.tup sm;cases r;obtain⟨us,e,p1,_⟩:=I.tuple h1;exact .tup p1 e c|lst ds=>obtain⟨a,xs,rfl,h1,c⟩:=h.lst sm;cases r;obtain⟨us,e,p1,_⟩:=I.list h1;exact .lst p1.isList e c
theorem aaq(I:_L.Inv X pins σ H s)(sm:aH F H){n:Nat}(hu:A.units+(n+1)<f_){d e:D}(hd:jj (n+1) d=b_)(he:jj (n+1) e=b_){G:bx}(h1:Top X F H s G d)(u:Top X F H s u' e):RC A s G u' (jW d e):=by
 have c:A.units<f_:=by lia
 have E:A.in1.units+n<f_:=by show A.units+1+n<f_;lia
 have q:∀{xs ys:List V}{us ws:List bx}{ds es:List D}{j:Nat}(k:j<us.toArray.size)(l:j<ws.toArray.size),ds.all (jj n)=b_->es.all (jj n)=b_->Vals xs us->Vals ys ws->aG X.K F xs ds->aG X.K F ys es->g_ A.in1 s us.toArray[j] ws.toArray[j] (jW (ds.getD j .non) (es.getD j .non)):=λ{xs ys us ws ds es j}k l O Q J L p1 p2=>by
  have k:j<us.length:=by simpa using k
  have l:j<ws.length:=by simpa using l
  have o:j<ds.length:=by rw[<-p1.length,J.length];exact k
  have l2:j<es.length:=by rw[<-p2.length,L.length];exact l
  obtain⟨x,U,W⟩:=p1.get (show ds[j]?=aU ds[j]by simp[o]);obtain⟨y,Y,Z⟩:=p2.get (show es[j]?=aU es[j]by simp[l2]);obtain⟨M,g5,g6⟩:=J.get U;obtain⟨N,g7,g8⟩:=L.get Y;have e1:us.toArray[j]=M:=by have:=(dD g5).2;simpa using this
  have e2:ws.toArray[j]=N:=by have:=(dD g7).2;simpa using this
  have e3:ds.getD j .non=ds[j]:=by simp[kg,o]
  have e4:es.getD j .non=es[j]:=by simp[kg,l2]
  rw[e1,e2,e3,e4];exact aeV I sm n A.in1 E _ _ (gc.mp O _ (ka o)) (gc.mp Q _ (ka l2)) x y M N W Z g6 g8
 cases h1 with
 |non=>cases u with|non=>exact⟨SeqAt.RcAt.none_none,SeqAt.RcNeAt.none_none⟩|bl b=>exact⟨SeqAt.RcAt.none_bool _,SeqAt.RcNeAt.none_bool _⟩|int i t=>exact⟨SeqAt.RcAt.none_int _ _,SeqAt.RcNeAt.none_int _ _⟩|str i t=>exact⟨SeqAt.RcAt.none_str _ _,SeqAt.RcNeAt.none_str _ _⟩|tup ht _ _=>exact⟨SeqAt.RcAt.none_tuple ht c,SeqAt.RcNeAt.none_tuple ht c⟩|lst ht _ _=>exact⟨SeqAt.RcAt.none_list ht c,SeqAt.RcNeAt.none_list ht c⟩
 |bl b0=>cases u with|non=>exact⟨SeqAt.RcAt.bool_none _,SeqAt.RcNeAt.bool_none _⟩|bl b=>exact⟨SeqAt.RcAt.bool_bool _ _,SeqAt.RcNeAt.bool_bool _ _⟩|int i t=>exact⟨SeqAt.RcAt.bool_int _ _ _,SeqAt.RcNeAt.bool_int _ _ _⟩|str i t=>exact⟨SeqAt.RcAt.bool_str _ _ _,SeqAt.RcNeAt.bool_str _ _ _⟩|tup ht _ _=>exact⟨SeqAt.RcAt.bool_tuple _ ht c,SeqAt.RcNeAt.bool_tuple _ ht c⟩|lst ht _ _=>exact⟨SeqAt.RcAt.bool_list _ ht c,SeqAt.RcNeAt.bool_list _ ht c⟩
 |int i0 t0=>cases u with|non=>exact⟨SeqAt.RcAt.int_none _ _,SeqAt.RcNeAt.int_none _ _⟩|bl b=>exact⟨SeqAt.RcAt.int_bool _ _ _,SeqAt.RcNeAt.int_bool _ _ _⟩|int i t=>exact⟨SeqAt.RcAt.int_int _ _ _ _,SeqAt.RcNeAt.int_int _ _ _ _⟩|str i t=>exact⟨SeqAt.RcAt.int_str _ _ _ _,SeqAt.RcNeAt.int_str _ _ _ _⟩|tup ht _ _=>exact⟨SeqAt.RcAt.int_tuple _ _ ht c,SeqAt.RcNeAt.int_tuple _ _ ht c⟩|lst ht _ _=>exact⟨SeqAt.RcAt.int_list _ _ ht c,int_list _ _ ht c⟩
 |str i0 t0=>cases u with|non=>exact⟨SeqAt.RcAt.str_none _ _,SeqAt.RcNeAt.str_none _ _⟩|bl b=>exact⟨SeqAt.RcAt.str_bool _ _ _,SeqAt.RcNeAt.str_bool _ _ _⟩|int i t=>exact⟨SeqAt.RcAt.str_int _ _ _ _,SeqAt.RcNeAt.str_int _ _ _ _⟩|str i t=>exact⟨SeqAt.RcAt.str_str _ _ _ _,SeqAt.RcNeAt.str_str _ _ _ _⟩|tup ht _ _=>exact⟨SeqAt.RcAt.str_tuple _ _ ht c,SeqAt.RcNeAt.str_tuple _ _ ht c⟩|lst ht _ _=>exact⟨SeqAt.RcAt.str_list _ _ ht c,str_list _ _ ht c⟩
 |@tup a us xs ds ht r hr=>
   have w:ds.all (jj n)=b_:=by simpa[bT,bN,bU,bW,bV,bR]using hd
   cases u with|non=>exact⟨SeqAt.RcAt.tuple_none ht c,SeqAt.RcNeAt.tuple_none ht c⟩|bl b=>exact⟨SeqAt.RcAt.tuple_bool _ ht c,SeqAt.RcNeAt.tuple_bool _ ht c⟩|int i t=>exact⟨SeqAt.RcAt.tuple_int _ _ ht c,SeqAt.RcNeAt.tuple_int _ _ ht c⟩|str i t=>exact⟨SeqAt.RcAt.tuple_str _ _ ht c,SeqAt.RcNeAt.tuple_str _ _ ht c⟩|lst h _ _=>exact⟨SeqAt.RcAt.tuple_list ht h c,SeqAt.RcNeAt.tuple_list ht h c⟩|@tup b ws ys es h f g=>
     have z:es.all (jj n)=b_:=by simpa[bT,bN,bU,bW,bV,bR]using he
     have o:us.toArray.size=ds.length:=by rw[cy,<-r.length,hr.length]
     have l2:ws.toArray.size=es.length:=by rw[cy,<-f.length,g.length]
     have B:=SeqAt.RcAt.tuples (A:=A) (e:=λj=>jW (ds.getD j .non) (es.getD j .non)) ht h c λj k l=>q k l w z r f hr g;have C:=SeqAt.RcNeAt.tuples (A:=A) (e:=λj=>jW (ds.getD j .non) (es.getD j .non)) ht h c λj k l=>q k l w z r f hr g;rw[o,l2]at B C;have e0:jW (.tup ds) (.tup es)=((dS (min ds.length es.length)).all (λj=>jW (ds.getD j .non) (es.getD j .non))&&ds.length==es.length):=by
      rw[pqt];by_cases p:ds.length=es.length;.rw[gR p,p];simp
      . rw[jD p];have:(ds.length==es.length)=a_:=by simpa using p
        rw[this,nq]
     rw[e0];exact⟨B,C⟩
 |@lst a us xs ds ht r hr=>
   have w:ds.all (jj n)=b_:=by simpa[bT,bN,bU,bW,bV,bR]using hd
   cases u with|non=>exact⟨SeqAt.RcAt.list_none ht c,SeqAt.RcNeAt.list_none ht c⟩|bl b=>exact⟨SeqAt.RcAt.list_bool _ ht c,SeqAt.RcNeAt.list_bool _ ht c⟩|int i t=>exact⟨SeqAt.RcAt.list_int _ _ ht c,list_int _ _ ht c⟩|str i t=>exact⟨SeqAt.RcAt.list_str _ _ ht c,list_str _ _ ht c⟩|tup h _ _=>exact⟨SeqAt.RcAt.list_tuple ht h c,SeqAt.RcNeAt.list_tuple ht h c⟩|@lst b ws ys es h f g=>
     have z:es.all (jj n)=b_:=by simpa[bT,bN,bU,bW,bV,bR]using he
     have o:us.toArray.size=ds.length:=by rw[cy,<-r.length,hr.length]
     have l2:ws.toArray.size=es.length:=by rw[cy,<-f.length,g.length]
     rw[pql];by_cases p:ds.length=es.length;.have B:=SeqAt.RcAt.lists (A:=A) (e:=λj=>jW (ds.getD j .non) (es.getD j .non)) ht h (by rw[o,l2,p]) c λj k l=>q k l w z r f hr g;have C:=SeqAt.RcNeAt.lists (A:=A) (e:=λj=>jW (ds.getD j .non) (es.getD j .non)) ht h (by rw[o,l2,p]) c λj k l=>q k l w z r f hr g;rw[o]at B C;rw[gR p];exact⟨B,C⟩
     .rw[jD p];exact⟨lists_lengths ht h (by rw[o,l2];simpa using p) c,SeqAt.RcNeAt.lists_lengths ht h (by rw[o,l2];simpa using p) c⟩
theorem sO(b:X.A.units+8<f_):fY X (dY .Eq) (rD X.K (oV .eq)):=by rintro pins s σ H x y v u Q I c f⟨F,d,e,r,sm,g,h,he,k⟩;obtain⟨t,a,j⟩:=map_some (show(Ks d e).map _=aU r from he);subst j;unfold Ks at a;obtain⟨hd,a⟩:=bI a;rw[eW]at hd;subst a;exact(aaq I sm (n:=7) b hd.1 hd.2 (vU I sm hd.1 g c) (vU I sm hd.2 h f)).1 _ _ _ _ ⟨.bl _,H,I,rfl,cH.dg sm (gK _) k⟩
theorem v7(b:X.A.units+8<f_):fY X (dY .NotEq) (rD X.K (oV .ne)):=by rintro pins s σ H x y v u Q I c f⟨F,d,e,r,sm,g,h,he,k⟩;obtain⟨t,a,j⟩:=map_some (show(Ie d e).map _=aU r from he);subst j;unfold Ie at a;obtain⟨hd,a⟩:=bI a;rw[eW]at hd;subst a;exact(aaq I sm (n:=7) b hd.1 hd.2 (vU I sm hd.1 g c) (vU I sm hd.2 h f)).2 _ _ _ _ ⟨.bl _,H,I,rfl,cH.dg sm (gK _) k⟩
end
section
variable{Pg:df}{w:er}{K:PySem.W.Frag}{mg:Str->Option bx}{base:eF}
theorem abw{qual:Str}{st:eL}{f:cq}{fd:ii}{N ps:List Str}{k n:Nat}{c:Call}{d:Fd}(C:gn K x qual st f fd)(S:aJ N ps (au st))(h1:d.np=ps.length)(t:d.nn=N.length)(G:∀(cdv:bx)(A:ew)(outer:List Env)(s:cn)(H:Hp)(E:XK),jB k (A.deeper (lL qual (au st) s.heap.objs.size f cdv))->SB (zY JL Pg w K mg base N qual (au st) f cdv A outer s H E).nox c n (gC st) d.body):oF Pg w K mg base JL (k+1) f fd ps (Rm K ps.length (λargs=>enter c n d args)):=by
 refine C.ok S (λvs H Q E h=>h.1) λcdv A outer s H vs Q E hr h=>?_;obtain⟨u,F,args,r,o,g,e,q⟩:=h;refine⟨_,G cdv A outer s H E hr,?_⟩;replace e:enter c n d args=.ok r o:=e;unfold enter at e;split at e
 . rename_i hc;obtain⟨c1,c2⟩:=hc;have I:=g.more (n:=d.nn-d.np) (τ:=cr (N.length-vs.length) ci) (by simp[h1,t,u]);have p:args.length=d.np:=c1;have go:∀{fl:Fl}{a:List Sl},iM c n d.body (args++cr (d.nn-d.np) .aO)=.ok fl a->(∀l b j,az K F (args++cr (d.nn-d.np) .aO) (start N vs) H l a b j->(match fl with|.next=>Q .non j|.brk=>False|.cont=>False|.ret r=>∀v,cZ K l a b j (args++cr (d.nn-d.np) .aO) (start N vs) H v r->Q v j))->tEx K (iM c n d.body) {nx:=λ_ j=>Q .non j,rt:=Q} (start N vs) H:=λ{fl a}z k=>⟨F,_,fl,a,I,z,λl b j s=>by have:=k l b j s;cases fl<;>exact this⟩;split at e;.rename_i a z;cases e;refine go z λl b j s=>?_;obtain⟨y,B⟩:=az.less (m:=d.np) p.symm g (by simp[h1,t,u]) s;exact q .non l _ j y (show Rep K l _ _ from Wf)
   .rename_i L a z;cases e;refine go z λl b j s v J=>?_;obtain⟨y,B⟩:=az.less (m:=d.np) p.symm g (by simp[h1,t,u]) s;exact q v l _ j y (B v r J)
   .split at e<;>cases e
 .cases e
structure aQ(Pg:df)(w:er)(K:PySem.W.Frag)(mg:Str->Option bx)(base:eF)(k:Nat)(c:Call)(i:Nat)(x:Str)(np:Nat):Prop where ex:∃fa fd qs,oF Pg w K mg base JL k fa fd qs (Rm K qs.length (c i))/\mg x=aU (.ref fa)/\keepIn K (.ref fa)=b_/\Binds K fd qs []/\qs.length=np
end
section
variable{X:Cx}{c:Call}{n k:Nat}{e a b:dy}{es:List dy}{p pa pb:P}{ps:List P}{pos:Pos}
theorem sv(i:Nat)(g:X.N[i]?=aU x:=by rfl)(h:yZ X.env.scope x:=by first|exact eT rfl|exact eR (eT rfl)|exact eR (eR rfl))(hd:(x==("__debug__":Str))=a_:=by rfl)(f:(x==("__classdict__":Str))=a_:=by rfl):SX X c (.Name x pos) (.var i):=WD g h hd f
theorem dR{np:Nat}(C:aQ X.prog X.w X.K X.mg X.base k c i x np)(hr:jB k X.A)(h:SG X c (e::es) ps)(j:Gl X x:=by rfl)(l:(e::es).length=np:=by rfl)(f:(x==("__debug__":Str))=a_:=by rfl)(he:cx (e::es) X.env=(a_,eA e X.env)::cx es X.env:=by rfl)(hpl:(i7 pos (cx es X.env)).any (·.1)=a_:=by rfl)(g:ps.length=(e::es).length:=by rfl):SX X c (.Call (.Name x p') (e::es) [] pos) (.call i ps):=by obtain⟨u,fd,y,h1,o,q,r,t⟩:=C.ex;exact O3 h1 hr j o q r h (l.trans t.symm) f he hpl g
noncomputable def RZ(names outer:List (Str×kF))(N N':List Str)(n:Nat):Bool:=(names.all λy=>names.lookup y.1==aU y.2)&&(names.all λy=>y.2!=.local||names.lookup y.1==aU .local)&&(names.all λy=>y.2!=.free||outer.lookup y.1==aU .cell||outer.lookup y.1==aU .free)&&N'.length==N.length+n&&((N.zip N').all λp=>(p.1==p.2&&names.lookup p.2==aU .free)||(names.lookup p.2!=aU .local&&names.lookup p.2!=aU .cell&&names.lookup p.2!=aU .free))
theorem vZ{scope:kf}{N':List Str}(g:scope.kind=.function)(h:RZ scope.names X.env.scope.names X.N N' n=b_):fH X scope N' n:=by
 unfold RZ at h;simp only[eW]at h;obtain⟨⟨⟨⟨h1,j⟩,l⟩,o⟩,q⟩:=h;refine⟨g,λy f=>eq_of_beq (gc.mp h1 y f),λy f e=>?_,λy f e=>?_,by simpa using o,q⟩;.have:=gc.mp j y f;rw[e]at this;simpa using this
 . have:=gc.mp l y f;rw[e]at this;simp only[mv]at this;rcases this with(z|z)|z;.cases z
   .exact .inl (eq_of_beq z)
   .exact .inr (eq_of_beq z)
theorem bJ(h:jB k A):A.units+8<f_:=by have:=h.un;lia
end
end _H
namespace PySem
section
variable{prog:df}{w:er}{A:ew}{E:bx->cn->Prop}{s:cn}
theorem ie{it l:cq}{i:Nat}{items:Array bx}{x:bx}{Q:bx->cn->Prop}(a:s.heap.IsTupleIter it l i)(e:s.heap.IsTuple l items)(f:items[i]?=aU x)(g:∀h',h'.IsTupleIter it l (i+1)->rj it s.heap h'->Q x {s with heap:=h'}):cE (cS prog w) A (lp (.ref it)) Q E s:=by obtain⟨o,ho,hc,hd⟩:=id a;obtain⟨h,b,_,j,c⟩:=e;unfold lp;refine bdq (fR (name:=iO "__next__") a.typeIs F.slot_tuple_iterator_next (hQ F.slot_tuple_iterator_next a.typeIs F.entry_tuple_iterator_next ?_ (F.args_tuple_iterator_next_1 _)));show cE _ _ (qf (.ref it) 0>>=_) _ _ s;refine bdq (fo ho hd (x:=.ref l) rfl ?_);show cE _ _ (if(ec l==eP)=b_ then _ else _) _ _ s;rw[if_neg (show ¬((ec l==eP)=b_)from de)];show cE _ _ (qf (.ref it) 1>>=_) _ _ s;refine bdq (fo ho hd (x:=.int i 0) rfl ?_);show cE _ _ (seqItems? (.ref l)>>=_) _ _ s;refine bdq (gl b c ?_);simp only[kN,f];refine bdq (wpAny_setField ho hd (by simp) (cv ⟨x,rfl,cv (g _ ?_ (m_ ..))⟩));exact⟨_,jp _ ho (Obj.isFreed_of_fields (Obj.data_mapFields hd _)),(Obj.cls_mapFields ..).trans hc,by rw[Obj.data_mapFields hd];simp[mu]⟩
theorem fJ{it l:cq}{i:Nat}{items:Array bx}{Q:bx->cn->Prop}(hh:A.handled=ci)(b:s.heap.IsTupleIter it l i)(g:s.heap.IsTuple l items)(h:items[i]?=ci)(j:∀h' e,Heap.ExtBut it s.heap h'->(∃o,h'.get? e=aU o/\o.cls=.type "StopIteration")->E (.ref e) {s with heap:=h'}):cE (cS prog w) A (lp (.ref it)) Q E s:=by
 obtain⟨o,ho,hc,hd⟩:=id b;obtain⟨k,c,_,n,f⟩:=g;unfold lp;refine bdq (fR (name:=iO "__next__") b.typeIs F.slot_tuple_iterator_next (hQ F.slot_tuple_iterator_next b.typeIs F.entry_tuple_iterator_next ?_ (F.args_tuple_iterator_next_1 _)));show cE _ _ (qf (.ref it) 0>>=_) _ _ s;refine bdq (fo ho hd (x:=.ref l) rfl ?_);show cE _ _ (if(ec l==eP)=b_ then _ else _) _ _ s;rw[if_neg (show ¬((ec l==eP)=b_)from de)];show cE _ _ (qf (.ref it) 1>>=_) _ _ s;refine bdq (fo ho hd (x:=.int i 0) rfl ?_);show cE _ _ (seqItems? (.ref l)>>=_) _ _ s;refine bdq (gl c f ?_);simp only[kN,h];refine bdq (kC (bdq (wpAny_setField ho hd (by simp) ?_)));show cE _ _ (newExc (.type "StopIteration") []>>=_) _ _ _;refine bdq ?_;simp only[newExc,newTuple];refine bdq (ey ?_ (by size_fits));refine bdq (m:=firstArgMember _ _) (wpAny_of_eq (a:=eP) (by first|rfl|(simp only[firstArgMember];rfl)) ?_);refine ey ?_ (by size_fits);simp only[raiseNew];refine bdq (wpAny_handled ?_);first|rw[show A.in1.handled=ci from hh]|rw[hh]
 refine bdq (cv (wpAny_throw ?_));exact j _ _ (((m_ ..).extBut.push _).push _) ⟨_,cw _ rfl,rfl⟩
end
theorem jz(l:cq)(items:Array bx)(n:Nat)(b:Option cq)(sl:Array (Option bx)):m5 (iE.«enumerate.__new__» ⟨[.type "enumerate",.ref l],[]⟩) (λ_ R s=>s.heap.get? l=aU {cls:=.type "tuple",dict:=b,data:=.seq items n,slots:=sl}/\R (.ok (.ret (.ref (s.heap.push {cls:=.type "tuple_iterator",data:=.fields #[.ref l,.int 0 0]}).objs.size))) {s with heap:=(s.heap.push {cls:=.type "tuple_iterator",data:=.fields #[.ref l,.int 0 0]}).push {cls:=.type "enumerate",data:=.fields #[.none,.bool a_,.ref s.heap.objs.size,mu 0,.none,.none]}}):=.of_wp λprog w A R s h=>by
  obtain⟨i,g,d,j,os⟩:=s;obtain⟨a,h⟩:=h;have f:=sub_enumerate;have e:rk (h_ ⟨i,g,d,j,os⟩) l items:=⟨_,a,rfl,n,rfl⟩;wp_walk using fS a;refine wpAny_stack_any λst=>cv ?_;split
  . rename_i c _ _ _ _ _;cases(c==fv "enumerate");.wp_walk using fS a,fm e;exact⟨_,rfl,h⟩
    .wp_walk using fS a,fm e;exact⟨_,rfl,h⟩
  .wp_walk using fS a,fm e;exact⟨_,rfl,h⟩
section
variable{prog:df}{w:er}{A:ew}{E:bx->cn->Prop}{s:cn}
theorem jG{l:cq}{items:Array bx}{Q:bx->cn->Prop}(e:s.heap.IsTuple l items)(h:∀ h',IsEnum h' (s.heap.objs.size+1) s.heap.objs.size 0 .none->h'.IsTupleIter s.heap.objs.size l 0->h'.objs.size=s.heap.objs.size+2->(∀b o,s.heap.get? b=aU o->h'.get? b=aU o)->Q (.ref (s.heap.objs.size+1)) {s with heap:=h'}):cE (cS prog w) A (call (.type "enumerate") [.ref l]) Q E s:=by
 obtain⟨⟨c,a,dt,sl⟩,f,hc,n,hd⟩:=e;replace hc:c=.type "tuple":=hc;replace hd:dt=.seq items n:=hd;subst hc hd;refine kw F.called_enumerate (by decide) (F.typeCall_enumerate_1 _) (F.newCall_enumerate_1 _) (λobj=>F.args_object_init_2 obj _) F.entry_enumerate_new (jz l items n a sl) ⟨f,?_⟩;have hz:(s.heap.push {cls:=.type "tuple_iterator",data:=.fields #[.ref l,.int 0 0]}).objs.size=s.heap.objs.size+1:=ej ..;show _/\_;rw[hz];have he:IsEnum ((s.heap.push {cls:=.type "tuple_iterator",data:=.fields #[.ref l,.int 0 0]}).push {cls:=.type "enumerate",data:=.fields #[.none,.bool a_,.ref s.heap.objs.size,mu 0,.none,.none]}) (s.heap.objs.size+1) s.heap.objs.size 0 .none:=by have:=cw (s.heap.push {cls:=.type "tuple_iterator",data:=.fields #[.ref l,.int 0 0]}) (o:={cls:=.type "enumerate",data:=.fields #[.none,.bool a_,.ref s.heap.objs.size,mu 0,.none,.none]}) rfl;rw[hz]at this;exact this
 refine⟨⟨_,he,rfl⟩,h _ he ⟨_,dF (cw _ rfl),rfl,rfl⟩ (by rw[ej,hz]) λb o x=>dF (dF x)⟩
end
end PySem
namespace _L
open PySem Spec PyProof.Rows
variable{prog:df}{w:er}{A:ew}
section
variable{X:Cx}{pins:List (cq×Obj)}{σ:_L.St}{H:Hp}{s:cn}
theorem Inv.Ai{ch:List cq}{h':eF}{o:HO}{t':Nat}(I:Inv X pins σ H s)(k:∀b u,b∉ch->s.heap.get? b=aU u->h'.get? b=aU u)(l:∀b∈ch,∃u,h'.get? b=aU u)(g:∀b∈ch,m9 X pins H b)(i:bQ X.prog X.w (upd H s.heap.objs.size o) h' s.heap.objs.size o):Inv X pins σ (upd H s.heap.objs.size o) {s with heap:=h',toks:=t'}:=by
 have fr:H s.heap.objs.size=ci:=I.hok.fresh (cN);have j:∀b u,H b=aU u->b∉ch:=λb u e a=>by rw[(g b a).1]at e;cases e
 have h:∀b u,H b=aU u->upd H s.heap.objs.size o b=aU u:=λb u e=>by
  have:b≠s.heap.objs.size:=by rintro rfl;rw[fr]at e;cases e
  rw[aB this];exact e
 refine I.call (g':=s.gens) (d':=s.drawn) (ch:=ch) ⟨λb u e n _ f=>k b u f e,λb u e n _ f=>⟨u.slots,k b u f e⟩,λb u e n f=>?_,λb u e f=>⟨u,k b u f e⟩,λb xs e=>h b _ e,λb m u e=>h b _ e,λb ps e=>⟨#[],by rw[h b _ e];simp⟩⟩ ?_ I.bare λb a=>⟨(g b a).2.2.2.1,(g b a).2.1,(g b a).2.2.2.2.1,(g b a).2.2.2.2.2⟩;.have:b≠s.heap.objs.size:=dE (dc e);rw[aB this];exact n
 . intro b u e;by_cases a:b=s.heap.objs.size;.subst a;rw[aP]at e;cases e;exact i
   . rw[aB a]at e;refine(I.hok b u e).stay (λc v hc q=>k c v ?_ q) (λc q=>h c _ q) λc xs q=>h c _ q;rcases hc with rfl|hc;.exact j _ _ e
     .exact j _ _ hc
end
noncomputable def BX(K:PySem.W.Frag)(a:cq):It:=⟨λi H=>∃xs x,dO K H a xs/\xs[i]?=aU x,λi H x b=>∃T v,H T=ci/\x=.ref T/\b=upd H T (.tup [.int (i:Int),v])/\∀xs,dO K H a xs->xs[i]?=aU v,λi H=>∃xs,dO K H a xs/\xs.length<=i⟩
theorem U4(hh:A.handled=ci)(it l:cq)(c:l≠it)(items:Array bx):Draws prog w A it [it,l] items.size (λi v=>items[i]?=aU v) (λi h=>h.IsListIter it l i/\h.IsList l items)where
 live:=λ_ _ st=>let⟨o,ho,_⟩:=st.1;⟨o,ho⟩;frame:=λ_ _ _ st e=>⟨(let⟨o,ho,r⟩:=st.1;⟨o,e it (by simp) o ho,r⟩),(let⟨o,ho,r⟩:=st.2;⟨o,e l (by simp) o ho,r⟩)⟩;item:=λi s Q E hi st f=>by refine qE st.1 st.2 (x:=items[i]) (by simp[hi]) λh' a b=>?_;exact f _ h' s.toks (by simp[hi]) ⟨a,(let⟨o,ho,r⟩:=st.2;⟨o,b.extBut l o c ho,r⟩)⟩ b
 done:=λs Q E st g=>lh hh st.1 st.2 (by simp) g
theorem G8(hh:A.handled=ci)(it l:cq)(items:Array bx)(n:Nat)(b:items.size<=n):Draws prog w A it [it,l] n (λ_ _=>True) (λi h=>i=n/\h.IsListIter it l i/\h.IsList l items)where live:=λ_ _ st=>let⟨o,ho,_⟩:=st.2.1;⟨o,ho⟩;frame:=λ_ _ _ st a=>⟨st.1,(let⟨o,ho,r⟩:=st.2.1;⟨o,a it (by simp) o ho,r⟩),(let⟨o,ho,r⟩:=st.2.2;⟨o,a l (by simp) o ho,r⟩)⟩;item:=λi s Q E hi st e=>absurd st.1 (dE hi);done:=λs Q E st c=>lh hh st.2.1 st.2.2 (by simp;exact b) c
theorem GP{P:df}{K:PySem.W.Frag}{p:List dy}{x1}{tp:Pos}(a it e:cq)(m:e≠it):Turn P w K (.Tuple p x1 tp) (BX K a) [e,it] e (λi h=>(∃g,IsEnum h e it (i:Int) g)/\h.IsListIter it a i)where
 mem:=by simp
 obj:=λi h st b hb=>by
  obtain⟨⟨g,h1⟩,o,j,G,h4⟩:=st;rcases cK.mp hb with rfl|hb;.exact⟨_,h1,λv z=>by cases z⟩
  . have:b=it:=by simpa using hb
    subst this;exact⟨o,j,λv z=>by rw[h4]at z;cases z⟩
 keep:=λi h h' st k=>by obtain⟨⟨g,h1⟩,o,j,G⟩:=st;exact⟨⟨g,k e (by simp) _ h1⟩,o,k it (by simp) _ j,G⟩
 item:=λX Z hw hK hc i t s σ H E I J st go=>by
  subst Z hw hK;obtain⟨⟨g,he⟩,l⟩:=st;obtain⟨xs,x,L,B⟩:=go;obtain⟨c,M,pl,hz⟩:=I.list L;have N:s.heap.IsList a c.toArray:=pl.isList;obtain⟨oa,O,n,_⟩:=id N;have ac:e≠a:=by rintro rfl;rw[he]at O;cases O;exact absurd (show fv "enumerate"=fv _ from n) (by decide)
  have ae:a≠it:=by rintro rfl;obtain⟨o,j,G,_⟩:=id l;rw[j]at O;cases O;rw[G]at n;exact absurd n (by decide)
  have af:i<c.toArray.size:=by rw[cy,<-M.length];exact(dD B).1
  refine qc (U4 (show X.A.in1.handled=ci from I.ok.hd hc) it a ae c.toArray) he ⟨l,N⟩ af m (by simp[m,ac]) λy h' tk U ag hst ht hsz kp=>?_;refine⟨_,rfl,og ag λC Ng Y=>?_⟩;obtain⟨u,ah,ai⟩:=M.get B;have al:y=u:=by
   have U:c[i]?=aU y:=by simpa using U
   rw[ah]at U;cases U;rfl
  subst al;have hT:∀b∈[e,it],b≠s.heap.objs.size:=λb hb=>by
   rcases cK.mp hb with rfl|hb;.exact dE (dc he)
   . have:b=it:=by simpa using hb
     subst this;obtain⟨o,j,_⟩:=id l;exact dE (dc j)
  have am:s.heap.objs.size≠e:=(hT e (by simp)).symm;have ZL:∀b o,b∉[e,it]->s.heap.get? b=aU o->C.get? b=aU o:=λb o hb q=>by have h1:b≠e:=λz=>hb (by simp[z]);have j:b≠it:=λz=>hb (by simp[z]);exact Y.extBut b o h1 (kp b o h1 j q)
  have zp:C.get? s.heap.objs.size=aU {cls:=.type "tuple",data:=.seq #[.int i tk,y]}:=Y.extBut _ _ am ht;refine⟨.ref s.heap.objs.size,upd H s.heap.objs.size (.tup [.int (i:Int),x]),?_,rfl,⟨_,x,I.fresh,rfl,rfl,λys ap=>?_⟩,⟨⟨_,Ng⟩,?_⟩,λb hb=>?_⟩
  . refine I.Ai (ch:=[e,it]) (t':=tk+1) ZL (λb hb=>?_) (λb hb=>(J b hb)) ⟨(by show 2<=sizeLine;decide),[.int i tk,y],.cons ⟨_,rfl⟩ (.cons ai .nil),⟨_,zp,rfl,_,rfl⟩⟩;rcases cK.mp hb with rfl|hb;.exact⟨_,Ng⟩
    . have:b=it:=by simpa using hb
      subst this;obtain⟨o,j,_⟩:=id hst.1;exact⟨o,Y.extBut _ _ (fx m) j⟩
  .rw[I.mU ap L];exact B
  .obtain⟨o,j,r⟩:=hst.1;exact⟨o,Y.extBut _ _ (fx m) j,r⟩
  .rw[aB (hT b hb)];exact(J b hb).1
 done:=λX Z hw hK hc i t s σ H E I J st stop=>by subst Z hw hK;obtain⟨⟨g,he⟩,l⟩:=st;obtain⟨xs,L,B⟩:=stop;obtain⟨c,M,pl,hz⟩:=I.list L;have N:s.heap.IsList a c.toArray:=pl.isList;refine qB (G8 (show X.A.in1.handled=ci from I.ok.hd hc) it a c.toArray i (by rw[cy,<-M.length];exact B)) he ⟨rfl,l,N⟩ λh' hs=>⟨rfl,?_⟩;have f:=J it (by simp);exact I.turned (t':=s.toks) (λb o hb q=>hs b o hb q) f.1 f.2.1 f.2.2.2.1 f.2.2.2.2.1 f.2.2.2.2.2
 self:=λA i s Q E st q=>mM st.1.choose_spec q
noncomputable def zO(K:PySem.W.Frag)(a:cq):It:=⟨λi H=>∃xs x,iQ K H a xs/\xs[i]?=aU x,λi H x b=>∃T v,H T=ci/\x=.ref T/\b=upd H T (.tup [.int (i:Int),v])/\∀xs,iQ K H a xs->xs[i]?=aU v,λi H=>∃xs,iQ K H a xs/\xs.length<=i⟩
theorem Ua(hh:A.handled=ci)(it l:cq)(c:l≠it)(items:Array bx):Draws prog w A it [it,l] items.size (λi v=>items[i]?=aU v) (λi h=>h.IsTupleIter it l i/\h.IsTuple l items)where
 live:=λ_ _ st=>let⟨o,ho,_⟩:=st.1;⟨o,ho⟩;frame:=λ_ _ _ st e=>⟨(let⟨o,ho,r⟩:=st.1;⟨o,e it (by simp) o ho,r⟩),(let⟨o,ho,r⟩:=st.2;⟨o,e l (by simp) o ho,r⟩)⟩;item:=λi s Q E hi st f=>by refine ie st.1 st.2 (x:=items[i]) (by simp[hi]) λh' a b=>?_;exact f _ h' s.toks (by simp[hi]) ⟨a,(let⟨o,ho,r⟩:=st.2;⟨o,b.extBut l o c ho,r⟩)⟩ b
 done:=λs Q E st g=>fJ hh st.1 st.2 (by simp) g
theorem Hd(hh:A.handled=ci)(it l:cq)(items:Array bx)(n:Nat)(b:items.size<=n):Draws prog w A it [it,l] n (λ_ _=>True) (λi h=>i=n/\h.IsTupleIter it l i/\h.IsTuple l items)where live:=λ_ _ st=>let⟨o,ho,_⟩:=st.2.1;⟨o,ho⟩;frame:=λ_ _ _ st a=>⟨st.1,(let⟨o,ho,r⟩:=st.2.1;⟨o,a it (by simp) o ho,r⟩),(let⟨o,ho,r⟩:=st.2.2;⟨o,a l (by simp) o ho,r⟩)⟩;item:=λi s Q E hi st e=>absurd st.1 (dE hi);done:=λs Q E st c=>fJ hh st.2.1 st.2.2 (by simp;exact b) c
theorem GR{P:df}{K:PySem.W.Frag}{p:List dy}{x1}{tp:Pos}(a it e:cq)(m:e≠it):Turn P w K (.Tuple p x1 tp) (zO K a) [e,it] e (λi h=>(∃g,IsEnum h e it (i:Int) g)/\h.IsTupleIter it a i)where
 mem:=by simp
 obj:=λi h st b hb=>by
  obtain⟨⟨g,h1⟩,o,j,G,h4⟩:=st;rcases cK.mp hb with rfl|hb;.exact⟨_,h1,λv z=>by cases z⟩
  . have:b=it:=by simpa using hb
    subst this;exact⟨o,j,λv z=>by rw[h4]at z;cases z⟩
 keep:=λi h h' st k=>by obtain⟨⟨g,h1⟩,o,j,G⟩:=st;exact⟨⟨g,k e (by simp) _ h1⟩,o,k it (by simp) _ j,G⟩
 item:=λX Z hw hK hc i t s σ H E I J st go=>by
  subst Z hw hK;obtain⟨⟨g,he⟩,l⟩:=st;obtain⟨xs,x,L,B⟩:=go;obtain⟨c,M,pl,hz⟩:=I.tuple L;have N:s.heap.IsTuple a c.toArray:=pl;obtain⟨oa,O,n,_⟩:=id N;have ac:e≠a:=by rintro rfl;rw[he]at O;cases O;exact absurd (show fv "enumerate"=fv _ from n) (by decide)
  have ae:a≠it:=by rintro rfl;obtain⟨o,j,G,_⟩:=id l;rw[j]at O;cases O;rw[G]at n;exact absurd n (by decide)
  have af:i<c.toArray.size:=by rw[cy,<-M.length];exact(dD B).1
  refine qc (Ua (show X.A.in1.handled=ci from I.ok.hd hc) it a ae c.toArray) he ⟨l,N⟩ af m (by simp[m,ac]) λy h' tk U ag hst ht hsz kp=>?_;refine⟨_,rfl,og ag λC Ng Y=>?_⟩;obtain⟨u,ah,ai⟩:=M.get B;have al:y=u:=by
   have U:c[i]?=aU y:=by simpa using U
   rw[ah]at U;cases U;rfl
  subst al;have hT:∀b∈[e,it],b≠s.heap.objs.size:=λb hb=>by
   rcases cK.mp hb with rfl|hb;.exact dE (dc he)
   . have:b=it:=by simpa using hb
     subst this;obtain⟨o,j,_⟩:=id l;exact dE (dc j)
  have am:s.heap.objs.size≠e:=(hT e (by simp)).symm;have ZL:∀b o,b∉[e,it]->s.heap.get? b=aU o->C.get? b=aU o:=λb o hb q=>by have h1:b≠e:=λz=>hb (by simp[z]);have j:b≠it:=λz=>hb (by simp[z]);exact Y.extBut b o h1 (kp b o h1 j q)
  have zp:C.get? s.heap.objs.size=aU {cls:=.type "tuple",data:=.seq #[.int i tk,y]}:=Y.extBut _ _ am ht;refine⟨.ref s.heap.objs.size,upd H s.heap.objs.size (.tup [.int (i:Int),x]),?_,rfl,⟨_,x,I.fresh,rfl,rfl,λys ap=>?_⟩,⟨⟨_,Ng⟩,?_⟩,λb hb=>?_⟩
  . refine I.Ai (ch:=[e,it]) (t':=tk+1) ZL (λb hb=>?_) (λb hb=>(J b hb)) ⟨(by show 2<=sizeLine;decide),[.int i tk,y],.cons ⟨_,rfl⟩ (.cons ai .nil),⟨_,zp,rfl,_,rfl⟩⟩;rcases cK.mp hb with rfl|hb;.exact⟨_,Ng⟩
    . have:b=it:=by simpa using hb
      subst this;obtain⟨o,j,_⟩:=id hst.1;exact⟨o,Y.extBut _ _ (fx m) j⟩
  .rw[I.jU ap L];exact B
  .obtain⟨o,j,r⟩:=hst.1;exact⟨o,Y.extBut _ _ (fx m) j,r⟩
  .rw[aB (hT b hb)];exact(J b hb).1
 done:=λX Z hw hK hc i t s σ H E I J st stop=>by subst Z hw hK;obtain⟨⟨g,he⟩,l⟩:=st;obtain⟨xs,L,B⟩:=stop;obtain⟨c,M,pl,hz⟩:=I.tuple L;have N:s.heap.IsTuple a c.toArray:=pl;refine qB (Hd (show X.A.in1.handled=ci from I.ok.hd hc) it a c.toArray i (by rw[cy,<-M.length];exact B)) he ⟨rfl,l,N⟩ λh' hs=>⟨rfl,?_⟩;have f:=J it (by simp);exact I.turned (t':=s.toks) (λb o hb q=>hs b o hb q) f.1 f.2.1 f.2.2.2.1 f.2.2.2.2.1 f.2.2.2.2.2
 self:=λA i s Q E st q=>mM st.1.choose_spec q
section
variable{X:Cx}{elts:List dy}{x1:Nat}{tp:Pos}
noncomputable def af7(K:PySem.W.Frag)(c:TE):TI:=λσ H R=>c σ H λx b=>∃a,x=.ref a/\(((∃xs,dO K b a xs)/\R (BX K a) b)\/((∃xs,iQ K b a xs)/\R (zO K a) b))
theorem boot_enumerate:eH "enumerate"=aU (.type "enumerate"):=by decide+kernel
theorem W6{a:dy}{t:TE}{p pos:Pos}(v:Gl X "enumerate")(y:X.mg "enumerate"=ci)(z:PE X a t)(hs:cx [a] X.env=[(a_,eA a X.env)]:=by rfl):PI X (.Tuple elts x1 tp) (.Call (.Name "enumerate" p) [a] [] pos) (af7 X.K t):=by
 intro e s σ H R I h;refine qr (gM I v y boot_enumerate (eg (cA ((bZ z dZ hs) pos e s σ H (λvs c=>match vs with|[x]=>∃a,x=.ref a/\(((∃xs,dO X.K c a xs)/\R (BX X.K a) c)\/((∃xs,iQ X.K c a xs)/\R (zO X.K a) c))|_=>False) I h) ?_) hs rfl));rintro us s1⟨vs,c,f,r1,j⟩
 . obtain⟨ad,q,k⟩:∃ad,(((∃xs,dO X.K c ad xs)/\R (BX X.K ad) c)\/((∃xs,iQ X.K c ad xs)/\R (zO X.K ad) c))/\vs=[.ref ad]:=by cases vs with|nil=>cases j|cons x r=>cases r with|nil=>obtain⟨ad,rfl,q⟩:=j;exact⟨ad,q,rfl⟩|cons _ _=>cases j
   subst k;obtain⟨u,rfl,B⟩:=r1.one;cases B;have fin:∀(h':eF)(i:Nat->eF->Prop)(J:It),Turn X.prog X.w X.K (.Tuple elts x1 tp) J [s1.heap.objs.size+1,s1.heap.objs.size] (s1.heap.objs.size+1) i->i 0 h'->IsEnum h' (s1.heap.objs.size+1) s1.heap.objs.size 0 .none->(∀b o,s1.heap.get? b=aU o->h'.get? b=aU o)->R J c->cE (cS X.prog X.w) X.A (rc (.ref (s1.heap.objs.size+1))) (PIE X e σ (.Tuple elts x1 tp) R) X.xe {s1 with heap:=h'}:=λh' i J T t0 he kp q=>by
    refine mM he ⟨_,_,i,J,c,rfl,f.kept (t':=s1.toks) kp,T,t0,λb hb=>?_,q⟩;have g:s1.heap.objs.size<=b:=by
     rcases cK.mp hb with rfl|hb;.exact rg _
     . have:b=s1.heap.objs.size:=by simpa using hb
       rw[this];exact cN
    exact f.zH g (f.hok.fresh g)
   rcases q with⟨⟨xs,l⟩,q⟩|⟨⟨xs,l⟩,q⟩;.obtain⟨m,C,n,hz⟩:=f.list l;exact call_enumerate_list n.isList λh' he hi hsz kp=>fin h' _ _ (GP ad s1.heap.objs.size (s1.heap.objs.size+1) (Nat.succ_ne_self _)) ⟨⟨_,he⟩,hi⟩ he kp q
   .obtain⟨m,C,n,hz⟩:=f.tuple l;exact jG n λh' he hi hsz kp=>fin h' _ _ (GR ad s1.heap.objs.size (s1.heap.objs.size+1) (Nat.succ_ne_self _)) ⟨⟨_,he⟩,hi⟩ he kp q
end
end _L
namespace _H
open PySem _L Spec PyProof.Rows
section
variable{K:PySem.W.Frag}{F F1 H H1:Hp}{ρ ρ1:List Sl}{σ:_L.St}{ds:List D}{a:cq}
theorem qg{c e:Hp}{T:cq}{v w:V}{d1 d2:D}(sm:aH c e)(g:e T=ci)(r1:Rep K c v d1)(h:Rep K c w d2):∃b,Ext c e b (upd e T (.tup [v,w]))/\Rep K b (.ref T) (.tup [d1,d2]):=BJ (Q:=λv f=>∃b,Ext c e b f/\Rep K b v (.tup [d1,d2])) sm (.cons r1 (.cons h .nil)) g λv b f x i=>⟨b,x,i⟩
theorem Mi{xs:List V}{e b:Hp}(f:dO K b a xs)(r:aG K e xs ds)(s:aH e b)(k:Nat):(∀d,(ds.mapIdx λi d=>D.tup [.int (i:Int),d])[k]?=aU d->(BX K a).go k b/\∀x g,(BX K a).M6 k b x g->∃c,Ext e b c g/\Rep K c x d)/\((ds.mapIdx λi d=>D.tup [.int (i:Int),d]).length<=k->(BX K a).stop k b):=by refine⟨λd hd=>?_,λh=>⟨xs,f,by rw[r.length];simpa using h⟩⟩;rw[pE]at hd;obtain⟨d0,j,l⟩:=map_some hd;subst l;obtain⟨w,h1,m⟩:=r.get j;refine⟨⟨xs,w,f,h1⟩,?_⟩;rintro x g⟨T,v,n,o,p,y⟩;subst o;subst p;have:=y xs f;rw[h1]at this;cases this;exact qg s n (cj _) m
theorem Mh{xs:List V}{e b:Hp}(f:iQ K b a xs)(r:aG K e xs ds)(s:aH e b)(k:Nat):(∀d,(ds.mapIdx λi d=>D.tup [.int (i:Int),d])[k]?=aU d->(zO K a).go k b/\∀x g,(zO K a).M6 k b x g->∃c,Ext e b c g/\Rep K c x d)/\((ds.mapIdx λi d=>D.tup [.int (i:Int),d]).length<=k->(zO K a).stop k b):=by refine⟨λd hd=>?_,λh=>⟨xs,f,by rw[r.length];simpa using h⟩⟩;rw[pE]at hd;obtain⟨d0,j,l⟩:=map_some hd;subst l;obtain⟨w,h1,m⟩:=r.get j;refine⟨⟨xs,w,f,h1⟩,?_⟩;rintro x g⟨T,v,n,o,p,y⟩;subst o;subst p;have:=y xs f;rw[h1]at this;cases this;exact qg s n (cj _) m
end
section
variable{X:Cx}{c:Call}{e a:dy}{pa:P}{pos:Pos}{elts:List dy}{x1:Nat}{tp:Pos}
theorem Ln{x:Str}{A:Pos}(B:x="enumerate")(C:Gl X x)(E:X.mg x=ci)(G:SX X c a pa)(hs:cx [a] X.env=[(a_,eA a X.env)]:=by rfl):SI X c (.Tuple elts x1 tp) (.Call (.Name x A) [a] [] pos) (.ZG pa):=by subst B;refine mD (W6 C E G.ev hs) ?_;rintro σ H R⟨F,ρ,U,I,g,e,k⟩;obtain⟨r,J,w,j⟩:=ak e;have m:=aC j;clear j;obtain⟨j,L⟩:=m;subst L;rw[_H.E21]at w;obtain⟨r0,h,M,l⟩:=ak w;have m:=aC l;clear l;obtain⟨l,N⟩:=m;subst N;obtain⟨es,f1,f2⟩:=map_some l;subst f2;cases j;refine⟨F,ρ,r0,_,g,M,λv y z s i=>?_⟩;obtain⟨F2,s2,_,f⟩:=s.dB i;cases hd:r0.d with|tup o=>rw[hd]at f1 f;cases f1;rw[Rep]at f;obtain⟨ad,xs,rfl,h1,p⟩:=f;exact⟨ad,rfl,.inr ⟨⟨xs,aH.gJ s2.gs.sub h1⟩,k _ _ _ ⟨s2.gs,λn k y q t z b=>Mh (aH.gJ b.gs.sub (aH.gJ b.cB h1)) (p.mono b.cB) b.gs.sub k,λO h u Q s3=>⟨s2.trans s3,λv r i=>i.later s2⟩⟩⟩⟩|lst o=>rw[hd]at f1 f;cases f1;rw[Rep]at f;obtain⟨ad,xs,rfl,h1,p⟩:=f;exact⟨ad,rfl,.inl ⟨⟨xs,s2.gs.sub.seq h1⟩,k _ _ _ ⟨s2.gs,λn k y q t z b=>Mi (b.gs.sub.seq (b.cB.seq h1)) (p.mono b.cB) b.gs.sub k,λO h u Q s3=>⟨s2.trans s3,λv r i=>i.later s2⟩⟩⟩⟩|_=>rw[hd]at f1;cases f1
end
end _H
namespace PySem
structure Nx(prog:df)(w:er)(A:ew)(it src:cq)(Sx:Nat->eF->Prop)(get:Nat->Option bx):Prop where
 obj:∀k h,Sx k h->∃o,h.get? it=aU o/\∀v,o.data≠.cell v
 keep:∀k h h',Sx k h->(∀o,h.get? it=aU o->h'.get? it=aU o)->(∀o,h.get? src=aU o->h'.get? src=aU o)->Sx k h'
 item:∀k(s:cn)(Q:bx->cn->Prop)(E:bx->cn->Prop)x,Sx k s.heap->get k=aU x->(∀h',Sx (k+1) h'->rj it s.heap h'->Q x {s with heap:=h'})->cE (cS prog w) A (lp (.ref it)) Q E s
 fin:∀k(s:cn)(Q:bx->cn->Prop)(E:bx->cn->Prop),Sx k s.heap->get k=ci->(∀h' e,Heap.ExtBut it s.heap h'->(∃o,h'.get? e=aU o/\o.cls=.type "StopIteration")->E (.ref e) {s with heap:=h'})->cE (cS prog w) A (lp (.ref it)) Q E s
variable{Q:bx->cn->Prop}{l1 l2:cq}{xs ys:Array bx}
section
variable{prog:df}{w:er}{A:ew}{E:bx->cn->Prop}{s:cn}
theorem Nx.list(hh:A.handled=ci)(it l:cq)(c:l≠it)(items:Array bx):Nx prog w A it l (λk h=>h.IsListIter it l k/\h.IsList l items) (λk=>items[k]?)where obj:=λk h st=>let⟨o,h1,_,h3⟩:=st.1;⟨o,h1,λv z=>by rw[h3]at z;cases z⟩;keep:=λk h h' st a b=>⟨(let⟨o,ho,r⟩:=st.1;⟨o,a o ho,r⟩),(let⟨o,ho,r⟩:=st.2;⟨o,b o ho,r⟩)⟩;item:=λk s Q E x st e g=>qE st.1 st.2 e λh' f hs=>g h' ⟨f,(let⟨o,ho,r⟩:=st.2;⟨o,hs.extBut l o c ho,r⟩)⟩ hs;fin:=λk s Q E st e i=>lh hh st.1 st.2 e i
theorem Nx.tuple(hh:A.handled=ci)(it l:cq)(c:l≠it)(items:Array bx):Nx prog w A it l (λk h=>h.IsTupleIter it l k/\h.IsTuple l items) (λk=>items[k]?)where obj:=λk h st=>let⟨o,h1,_,h3⟩:=st.1;⟨o,h1,λv z=>by rw[h3]at z;cases z⟩;keep:=λk h h' st a b=>⟨(let⟨o,ho,r⟩:=st.1;⟨o,a o ho,r⟩),(let⟨o,ho,r⟩:=st.2;⟨o,b o ho,r⟩)⟩;item:=λk s Q E x st e g=>ie st.1 st.2 e λh' f hs=>g h' ⟨f,(let⟨o,ho,r⟩:=st.2;⟨o,hs.extBut l o c ho,r⟩)⟩ hs;fin:=λk s Q E st e i=>fJ hh st.1 st.2 e i
variable{z TI TO i1 i2 l1 l2:cq}{k:Nat}{S1 S2:Nat->eF->Prop}{g1 g2:Nat->Option bx}{a b:bx}
theorem GQ{x y:bx}(D:lM z TI TO i1 i2 l1 l2)(t:Nx prog w A i1 l1 S1 g1)(u:Nx prog w A i2 l2 S2 g2)(hz:i9 s.heap z TI TO .none)(G:ft s.heap TI (.ref i1) (.ref i2))(H:ft s.heap TO a b)(h1:S1 k s.heap)(W:S2 k s.heap)(X:g1 k=aU x)(Y:g2 k=aU y)(Z:∀ h',i9 h' z TI TO (mu s.heap.objs.size)->ft h' TO x y->S1 (k+1) h'->S2 (k+1) h'->ft h' s.heap.objs.size x y->h'.objs.size=s.heap.objs.size+1->(∀c o,c≠z->c≠TO->c≠i1->c≠i2->s.heap.get? c=aU o->h'.get? c=aU o)->Q (.ref s.heap.objs.size) {s with heap:=h'}):cE (cS prog w) A (iE.«zip.__next__» ⟨[.ref z],[]⟩) (λfin s'=>∃v,fin=.done (.ret v)/\Q v s') E s:=by
 show cE _ _ (qf (.ref z) 2>>=_) _ _ _;refine bdq (fo hz rfl (x:=.bool a_) rfl ?_);show cE _ _ (qf (.ref z) 3>>=_) _ _ _;refine bdq (fo hz rfl (x:=.ref TI) rfl (bdq (gl G rfl ?_)));show cE _ _ (fy (.ref z)>>=_) _ _ _;refine bdq ?_;unfold fy;refine bdq (fo hz rfl (x:=.none) rfl (cv ?_));simp only[if_true];refine bdq (kC (bdq (fo hz rfl (x:=.ref TO) rfl (bdq (hY hz (by simp) λt1 I g=>?_)))));have I:i9 t1 z TI TO .ellipsis:=I;refine bdq ?_;simp only[List.zipIdx_cons,List.zipIdx_nil,forIn_cons,forIn_nil];refine bdq (bdq (mf ?_));show cE _ _ (lp (.ref i1)>>=_) _ _ _;have q1:S1 k t1:=t.keep _ _ _ h1 (λo e=>g.extBut _ _ D.i1z e) λo e=>g.extBut _ _ D.l1z e;refine bdq (t.item k _ _ _ x q1 X λt2 q2 m=>cv ?_);have p2:ft t2 TO a b:=m.extBut _ _ D.TOi1 (g.extBut _ _ D.TOz H);refine bdq (gl p2 rfl (bdq (ln p2 λL p3 h=>?_)));have p3:ft L TO x b:=p3;refine bdq (nE (cv (bdq (bdq (mf ?_)))));show cE _ _ (lp (.ref i2)>>=_) _ _ _;have w3:S2 k L:=u.keep _ _ _ W (λo e=>h.extBut _ _ D.TOi2.symm (m.extBut _ _ D.i12.symm (g.extBut _ _ D.i2z e))) λo e=>h.extBut _ _ D.l2TO (m.extBut _ _ D.l2i1 (g.extBut _ _ D.l2z e));refine bdq (u.item k _ _ _ y w3 Y λt4 w4 n=>cv ?_);have M:ft t4 TO x b:=n.extBut _ _ D.TOi2 p3;refine bdq (gl M rfl (bdq (ln M λf B i=>?_)));have B:ft f TO x y:=B;refine bdq (nE (cv (cv (bdq (gl B rfl (bdq (wpAny_newTuple ?_)))))));have hsz:f.objs.size=s.heap.objs.size:=by rw[i.1,n.1,h.1,m.1,g.1]
 have N:i9 f z TI TO .ellipsis:=i.extBut _ _ D.TOz.symm (n.extBut _ _ D.i2z.symm (h.extBut _ _ D.TOz.symm (m.extBut _ _ D.i1z.symm I)));have kp:∀c o,c≠z->c≠TO->c≠i1->c≠i2->s.heap.get? c=aU o->f.get? c=aU o:=λc o c1 c2 c3 c4 e=>i.extBut _ _ c2 (n.extBut _ _ c4 (h.extBut _ _ c2 (m.extBut _ _ c3 (g.extBut _ _ c1 e))));have q5:S1 (k+1) f:=t.keep _ _ _ q2 (λo e=>i.extBut _ _ D.TOi1.symm (n.extBut _ _ D.i12 (h.extBut _ _ D.TOi1.symm e))) λo e=>i.extBut _ _ D.l1TO (n.extBut _ _ D.l1i2 (h.extBut _ _ D.l1TO e));have w5:S2 (k+1) f:=u.keep _ _ _ w4 (λo e=>i.extBut _ _ D.TOi2.symm e) λo e=>i.extBut _ _ D.l2TO e;have q:z<f.objs.size:=dc N;show cE _ _ (kl (.ref z) (.ref f.objs.size)>>=_) _ _ _;refine bdq ?_;unfold kl;have z6:i9 (f.push {cls:=.type "tuple",data:=.seq #[x,y]}) z TI TO .ellipsis:=dF N;refine bdq (hY z6 (by simp) λt7 J j=>?_);have J:i9 t7 z TI TO (mu f.objs.size):=J;refine hY J (by simp) λr C l=>?_;have C:i9 r z TI TO (mu f.objs.size):=C;have p:∀c o,c≠z->f.get? c=aU o->r.get? c=aU o:=λc o c1 e=>l.extBut _ _ c1 (j.extBut _ _ c1 (dF e));have O:ft r f.objs.size x y:=l.extBut _ _ (r6 q) (j.extBut _ _ (r6 q) (cw _ rfl));have U:r.objs.size=f.objs.size+1:=by rw[l.1,j.1,ej]
 rw[hsz]at C O U;refine cv ⟨_,rfl,?_⟩;show Q (.ref f.objs.size) _;rw[hsz];exact Z r C (p _ _ D.TOz B) (t.keep _ _ _ q5 (λo e=>p _ o D.i1z e) λo e=>p _ o D.l1z e) (u.keep _ _ _ w5 (λo e=>p _ o D.i2z e) λo e=>p _ o D.l2z e) O U λc o c1 c2 c3 c4 e=>p c o c1 (kp c o c1 c2 c3 c4 e)
theorem Ik{Q:Fin->cn->Prop}(D:lM z TI TO i1 i2 l1 l2)(q:Nx prog w A i1 l1 S1 g1)(y:Nx prog w A i2 l2 S2 g2)(hz:i9 s.heap z TI TO .none)(r:ft s.heap TI (.ref i1) (.ref i2))(t:ft s.heap TO a b)(h1:S1 k s.heap)(L:S2 k s.heap)(n:g1 k=ci\/g2 k=ci)(B:∀h' e,(∀c o,c≠z->c≠TO->c≠i1->c≠i2->s.heap.get? c=aU o->h'.get? c=aU o)->(∃o,h'.get? e=aU o/\o.cls=.type "StopIteration")->E (.ref e) {s with heap:=h'}):cE (cS prog w) A (iE.«zip.__next__» ⟨[.ref z],[]⟩) Q E s:=by
 show cE _ _ (qf (.ref z) 2>>=_) _ _ _;refine bdq (fo hz rfl (x:=.bool a_) rfl ?_);show cE _ _ (qf (.ref z) 3>>=_) _ _ _;refine bdq (fo hz rfl (x:=.ref TI) rfl (bdq (gl r rfl ?_)));show cE _ _ (fy (.ref z)>>=_) _ _ _;refine bdq ?_;unfold fy;refine bdq (fo hz rfl (x:=.none) rfl (cv ?_));simp only[if_true];refine bdq (kC (bdq (fo hz rfl (x:=.ref TO) rfl (bdq (hY hz (by simp) λt1 p j=>?_)))));have p:i9 t1 z TI TO .ellipsis:=p;refine bdq ?_;simp only[List.zipIdx_cons,List.zipIdx_nil,forIn_cons,forIn_nil];refine bdq (bdq (mf ?_));show cE _ _ (lp (.ref i1)>>=_) _ _ _
 have C:S1 k t1:=q.keep _ _ _ h1 (λo e=>j.extBut _ _ D.i1z e) λo e=>j.extBut _ _ D.l1z e;cases hx:g1 k with|none=>
   refine bdq (q.fin k _ _ _ C hx λt2 e i he=>?_);obtain⟨u,f,g⟩:=he;have G:i9 t2 z TI TO .ellipsis:=i _ _ D.i1z.symm p;have l:e≠z:=λx=>by subst x;rw[G]at f;cases f;simp at g
   exact hY G (by simp) λv _ m=>B v e (λc o c1 _ c3 _ x=>m.extBut _ _ c1 (i _ _ c3 (j.extBut _ _ c1 x))) ⟨u,m.extBut _ _ l f,g⟩|some x=>
   have M:g2 k=ci:=by rcases n with h|h;rw[hx]at h;cases h;exact h
   refine bdq (q.item k _ _ _ x C hx λt2 W i=>cv ?_);have p2:ft t2 TO a b:=i.extBut _ _ D.TOi1 (j.extBut _ _ D.TOz t);refine bdq (gl p2 rfl (bdq (ln p2 λv p3 m=>?_)));refine bdq (nE (cv (bdq (bdq (mf ?_)))));show cE _ _ (lp (.ref i2)>>=_) _ _ _;have N:S2 k v:=y.keep _ _ _ L (λo e=>m.extBut _ _ D.TOi2.symm (i.extBut _ _ D.i12.symm (j.extBut _ _ D.i2z e))) λo e=>m.extBut _ _ D.l2TO (i.extBut _ _ D.l2i1 (j.extBut _ _ D.l2z e));refine bdq (y.fin k _ _ _ N M λO e H he=>?_);obtain⟨u,f,g⟩:=he;have I:i9 O z TI TO .ellipsis:=H _ _ D.i2z.symm (m.extBut _ _ D.TOz.symm (i.extBut _ _ D.i1z.symm p));have l:e≠z:=λx=>by subst x;rw[I]at f;cases f;simp at g
   exact hY I (by simp) λU _ J=>B U e (λc o c1 c2 c3 c4 x=>J.extBut _ _ c1 (H _ _ c4 (m.extBut _ _ c2 (i.extBut _ _ c3 (j.extBut _ _ c1 x))))) ⟨u,J.extBut _ _ l f,g⟩
theorem nZ{x y:bx}{Q:Option bx->cn->Prop}(D:lM z TI TO i1 i2 l1 l2)(h:Nx prog w A.in1 i1 l1 S1 g1)(i:Nx prog w A.in1 i2 l2 S2 g2)(hz:i9 s.heap z TI TO .none)(e:ft s.heap TI (.ref i1) (.ref i2))(f:ft s.heap TO a b)(h1:S1 k s.heap)(j:S2 k s.heap)(l:g1 k=aU x)(m:g2 k=aU y)(n:∀ h',i9 h' z TI TO (mu s.heap.objs.size)->ft h' TO x y->S1 (k+1) h'->S2 (k+1) h'->ft h' s.heap.objs.size x y->h'.objs.size=s.heap.objs.size+1->(∀c o,c≠z->c≠TO->c≠i1->c≠i2->s.heap.get? c=aU o->h'.get? c=aU o)->Q (aU (.ref s.heap.objs.size)) {s with heap:=h'}):cE (cS prog w) A (om (.ref z)) Q E s:=by have g:s.TypeIs (.ref z) "zip":=⟨_,hz,rfl⟩;unfold om;exact bdq (pS (fR (name:=iO "__next__") g F.slot_zip_next (hQ F.slot_zip_next g F.entry_zip_next (GQ D h i hz e f h1 j l m λh' p q r t u v B=>cv (n h' p q r t u v B)) (F.args_zip_next_1 _))))
theorem pg{Q:Option bx->cn->Prop}(D:lM z TI TO i1 i2 l1 l2)(j:Nx prog w A.in1 i1 l1 S1 g1)(l:Nx prog w A.in1 i2 l2 S2 g2)(hz:i9 s.heap z TI TO .none)(g:ft s.heap TI (.ref i1) (.ref i2))(h:ft s.heap TO a b)(h1:S1 k s.heap)(m:S2 k s.heap)(f:g1 k=ci\/g2 k=ci)(n:∀h',(∀c o,c≠z->c≠TO->c≠i1->c≠i2->s.heap.get? c=aU o->h'.get? c=aU o)->Q ci {s with heap:=h'}):cE (cS prog w) A (om (.ref z)) Q E s:=by have i:s.TypeIs (.ref z) "zip":=⟨_,hz,rfl⟩;unfold om;refine bdq (pS (fR (name:=iO "__next__") i F.slot_zip_next (hQ F.slot_zip_next i F.entry_zip_next (Ik D j l hz g h h1 m f λh' e p he=>?_) (F.args_zip_next_1 _))));obtain⟨o,ho,hc⟩:=he;exact bdq (wpAny_isInstance (T:="StopIteration") (b:=b_) ⟨o,ho,hc⟩ isSubtype_stop (cv (n _ p)))
end
theorem pJ(l1 l2:cq)(xs ys:Array bx):m5 (iE.«zip.__new__» ⟨[.type "zip",.ref l1,.ref l2],[]⟩) (λ_ R s=>s.heap.IsList l1 xs/\s.heap.IsList l2 ys/\R (.ok (.ret (.ref (s.heap.objs.size+4)))) {s with heap:=((((s.heap.push {cls:=.type "list_iterator",data:=.fields #[.ref l1,.int 0 0]}).push {cls:=.type "list_iterator",data:=.fields #[.ref l2,.int 0 0]}).push {cls:=.type "tuple",data:=.seq #[.ref s.heap.objs.size,.ref (s.heap.objs.size+1)]}).push {cls:=.type "tuple",data:=.seq #[.none,.none]}).push {cls:=.type "zip",data:=.fields #[.none,.bool a_,.bool a_,.ref (s.heap.objs.size+2),.ref (s.heap.objs.size+3)]}}):=.of_wp λprog w A R s h=>by obtain⟨f,g,d,i,os⟩:=s;obtain⟨a,b,h⟩:=h;have j:=sub_zip;have c:IsList (h_ ⟨f,g,d,i,os⟩) l1 xs:=a;have e:IsList (h_ ⟨f.push {cls:=.type "list_iterator",data:=.fields #[.ref l1,.int 0 0]},g,d,i,os⟩) l2 ys:=Heap.IsList.push b _;wp_walk using gT c,gT e;simp only[ej]at*;exact⟨_,rfl,h⟩
section
variable{prog:df}{w:er}{A:ew}{E:bx->cn->Prop}{s:cn}
theorem Av(i:s.heap.IsList l1 xs)(j:s.heap.IsList l2 ys)(h:∀ h',i9 h' (s.heap.objs.size+4) (s.heap.objs.size+2) (s.heap.objs.size+3) .none->ft h' (s.heap.objs.size+2) (.ref s.heap.objs.size) (.ref (s.heap.objs.size+1))->ft h' (s.heap.objs.size+3) .none .none->h'.IsListIter s.heap.objs.size l1 0->h'.IsListIter (s.heap.objs.size+1) l2 0->(∀c o,s.heap.get? c=aU o->h'.get? c=aU o)->Q (.ref (s.heap.objs.size+4)) {s with heap:=h'}):cE (cS prog w) A (call (.type "zip") [.ref l1,.ref l2]) Q E s:=by
 refine kw F.called_zip (by decide) (F.typeCall_zip_2 _ _) (F.newCall_zip_2 _ _) (λobj=>F.args_object_init_3 obj _ _) F.entry_zip_new (pJ l1 l2 xs ys) ⟨i,j,?_⟩;generalize k:s.heap.push {cls:=.type "list_iterator",data:=.fields #[.ref l1,.int 0 0]}=t1;have r:t1.objs.size=s.heap.objs.size+1:=by rw[<-k,ej]
 have z:t1.get? s.heap.objs.size=aU {cls:=.type "list_iterator",data:=.fields #[.ref l1,.int 0 0]}:=by rw[<-k];exact cw _ rfl
 have B:∀c o,s.heap.get? c=aU o->t1.get? c=aU o:=λc o e=>by rw[<-k];exact dF e
 generalize l:t1.push {cls:=.type "list_iterator",data:=.fields #[.ref l2,.int 0 0]}=t2;have t:t2.objs.size=s.heap.objs.size+2:=by rw[<-l,ej,r]
 have C:t2.get? (s.heap.objs.size+1)=aU {cls:=.type "list_iterator",data:=.fields #[.ref l2,.int 0 0]}:=by rw[<-r,<-l];exact cw _ rfl
 have u:∀c o,t1.get? c=aU o->t2.get? c=aU o:=λc o e=>by rw[<-l];exact dF e
 generalize m:t2.push {cls:=.type "tuple",data:=.seq #[.ref s.heap.objs.size,.ref (s.heap.objs.size+1)]}=a;have v:a.objs.size=s.heap.objs.size+3:=by rw[<-m,ej,t]
 have G:a.get? (s.heap.objs.size+2)=aU {cls:=.type "tuple",data:=.seq #[.ref s.heap.objs.size,.ref (s.heap.objs.size+1)]}:=by rw[<-t,<-m];exact cw _ rfl
 have n:∀c o,t2.get? c=aU o->a.get? c=aU o:=λc o e=>by rw[<-m];exact dF e
 generalize p:a.push {cls:=.type "tuple",data:=.seq #[.none,.none]}=b;have H:b.objs.size=s.heap.objs.size+4:=by rw[<-p,ej,v]
 have I:b.get? (s.heap.objs.size+3)=aU {cls:=.type "tuple",data:=.seq #[.none,.none]}:=by rw[<-v,<-p];exact cw _ rfl
 have g:∀c o,a.get? c=aU o->b.get? c=aU o:=λc o e=>by rw[<-p];exact dF e
 generalize x:b.push {cls:=.type "zip",data:=.fields #[.none,.bool a_,.bool a_,.ref (s.heap.objs.size+2),.ref (s.heap.objs.size+3)]}=q;have y:q.get? (s.heap.objs.size+4)=aU {cls:=.type "zip",data:=.fields #[.none,.bool a_,.bool a_,.ref (s.heap.objs.size+2),.ref (s.heap.objs.size+3)]}:=by rw[<-H,<-x];exact cw _ rfl
 have f:∀c o,b.get? c=aU o->q.get? c=aU o:=λc o e=>by rw[<-x];exact dF e
 exact⟨⟨_,y,rfl⟩,h q y (f _ _ (g _ _ G)) (f _ _ I) ⟨_,f _ _ (g _ _ (n _ _ (u _ _ z))),rfl,rfl⟩ ⟨_,f _ _ (g _ _ (n _ _ C)),rfl,rfl⟩ λc o e=>f _ _ (g _ _ (n _ _ (u _ _ (B _ _ e))))⟩
end
theorem o7(l1 l2:cq)(xs ys:Array bx):m5 (iE.«zip.__new__» ⟨[.type "zip",.ref l1,.ref l2],[]⟩) (λ_ R s=>s.heap.IsList l1 xs/\s.heap.IsTuple l2 ys/\R (.ok (.ret (.ref (s.heap.objs.size+4)))) {s with heap:=((((s.heap.push {cls:=.type "list_iterator",data:=.fields #[.ref l1,.int 0 0]}).push {cls:=.type "tuple_iterator",data:=.fields #[.ref l2,.int 0 0]}).push {cls:=.type "tuple",data:=.seq #[.ref s.heap.objs.size,.ref (s.heap.objs.size+1)]}).push {cls:=.type "tuple",data:=.seq #[.none,.none]}).push {cls:=.type "zip",data:=.fields #[.none,.bool a_,.bool a_,.ref (s.heap.objs.size+2),.ref (s.heap.objs.size+3)]}}):=.of_wp λprog w A R s h=>by obtain⟨f,g,d,i,os⟩:=s;obtain⟨a,b,h⟩:=h;have j:=sub_zip;have c:IsList (h_ ⟨f,g,d,i,os⟩) l1 xs:=a;have e:rk (h_ ⟨f.push {cls:=.type "list_iterator",data:=.fields #[.ref l1,.int 0 0]},g,d,i,os⟩) l2 ys:=Heap.IsTuple.push b _;wp_walk using gT c,fm e;simp only[ej]at*;exact⟨_,rfl,h⟩
section
variable{prog:df}{w:er}{A:ew}{E:bx->cn->Prop}{s:cn}
theorem BL(i:s.heap.IsList l1 xs)(j:s.heap.IsTuple l2 ys)(h:∀ h',i9 h' (s.heap.objs.size+4) (s.heap.objs.size+2) (s.heap.objs.size+3) .none->ft h' (s.heap.objs.size+2) (.ref s.heap.objs.size) (.ref (s.heap.objs.size+1))->ft h' (s.heap.objs.size+3) .none .none->h'.IsListIter s.heap.objs.size l1 0->h'.IsTupleIter (s.heap.objs.size+1) l2 0->(∀c o,s.heap.get? c=aU o->h'.get? c=aU o)->Q (.ref (s.heap.objs.size+4)) {s with heap:=h'}):cE (cS prog w) A (call (.type "zip") [.ref l1,.ref l2]) Q E s:=by
 refine kw F.called_zip (by decide) (F.typeCall_zip_2 _ _) (F.newCall_zip_2 _ _) (λobj=>F.args_object_init_3 obj _ _) F.entry_zip_new (o7 l1 l2 xs ys) ⟨i,j,?_⟩;generalize k:s.heap.push {cls:=.type "list_iterator",data:=.fields #[.ref l1,.int 0 0]}=t1;have r:t1.objs.size=s.heap.objs.size+1:=by rw[<-k,ej]
 have z:t1.get? s.heap.objs.size=aU {cls:=.type "list_iterator",data:=.fields #[.ref l1,.int 0 0]}:=by rw[<-k];exact cw _ rfl
 have B:∀c o,s.heap.get? c=aU o->t1.get? c=aU o:=λc o e=>by rw[<-k];exact dF e
 generalize l:t1.push {cls:=.type "tuple_iterator",data:=.fields #[.ref l2,.int 0 0]}=t2;have t:t2.objs.size=s.heap.objs.size+2:=by rw[<-l,ej,r]
 have C:t2.get? (s.heap.objs.size+1)=aU {cls:=.type "tuple_iterator",data:=.fields #[.ref l2,.int 0 0]}:=by rw[<-r,<-l];exact cw _ rfl
 have u:∀c o,t1.get? c=aU o->t2.get? c=aU o:=λc o e=>by rw[<-l];exact dF e
 generalize m:t2.push {cls:=.type "tuple",data:=.seq #[.ref s.heap.objs.size,.ref (s.heap.objs.size+1)]}=a;have v:a.objs.size=s.heap.objs.size+3:=by rw[<-m,ej,t]
 have G:a.get? (s.heap.objs.size+2)=aU {cls:=.type "tuple",data:=.seq #[.ref s.heap.objs.size,.ref (s.heap.objs.size+1)]}:=by rw[<-t,<-m];exact cw _ rfl
 have n:∀c o,t2.get? c=aU o->a.get? c=aU o:=λc o e=>by rw[<-m];exact dF e
 generalize p:a.push {cls:=.type "tuple",data:=.seq #[.none,.none]}=b;have H:b.objs.size=s.heap.objs.size+4:=by rw[<-p,ej,v]
 have I:b.get? (s.heap.objs.size+3)=aU {cls:=.type "tuple",data:=.seq #[.none,.none]}:=by rw[<-v,<-p];exact cw _ rfl
 have g:∀c o,a.get? c=aU o->b.get? c=aU o:=λc o e=>by rw[<-p];exact dF e
 generalize x:b.push {cls:=.type "zip",data:=.fields #[.none,.bool a_,.bool a_,.ref (s.heap.objs.size+2),.ref (s.heap.objs.size+3)]}=q;have y:q.get? (s.heap.objs.size+4)=aU {cls:=.type "zip",data:=.fields #[.none,.bool a_,.bool a_,.ref (s.heap.objs.size+2),.ref (s.heap.objs.size+3)]}:=by rw[<-H,<-x];exact cw _ rfl
 have f:∀c o,b.get? c=aU o->q.get? c=aU o:=λc o e=>by rw[<-x];exact dF e
 exact⟨⟨_,y,rfl⟩,h q y (f _ _ (g _ _ G)) (f _ _ I) ⟨_,f _ _ (g _ _ (n _ _ (u _ _ z))),rfl,rfl⟩ ⟨_,f _ _ (g _ _ (n _ _ C)),rfl,rfl⟩ λc o e=>f _ _ (g _ _ (n _ _ (u _ _ (B _ _ e))))⟩
end
theorem o5(l1 l2:cq)(xs ys:Array bx):m5 (iE.«zip.__new__» ⟨[.type "zip",.ref l1,.ref l2],[]⟩) (λ_ R s=>s.heap.IsTuple l1 xs/\s.heap.IsList l2 ys/\R (.ok (.ret (.ref (s.heap.objs.size+4)))) {s with heap:=((((s.heap.push {cls:=.type "tuple_iterator",data:=.fields #[.ref l1,.int 0 0]}).push {cls:=.type "list_iterator",data:=.fields #[.ref l2,.int 0 0]}).push {cls:=.type "tuple",data:=.seq #[.ref s.heap.objs.size,.ref (s.heap.objs.size+1)]}).push {cls:=.type "tuple",data:=.seq #[.none,.none]}).push {cls:=.type "zip",data:=.fields #[.none,.bool a_,.bool a_,.ref (s.heap.objs.size+2),.ref (s.heap.objs.size+3)]}}):=.of_wp λprog w A R s h=>by obtain⟨f,g,d,i,os⟩:=s;obtain⟨a,b,h⟩:=h;have j:=sub_zip;have c:rk (h_ ⟨f,g,d,i,os⟩) l1 xs:=a;have e:IsList (h_ ⟨f.push {cls:=.type "tuple_iterator",data:=.fields #[.ref l1,.int 0 0]},g,d,i,os⟩) l2 ys:=Heap.IsList.push b _;wp_walk using fm c,gT e;simp only[ej]at*;exact⟨_,rfl,h⟩
section
variable{prog:df}{w:er}{A:ew}{E:bx->cn->Prop}{s:cn}
theorem Be(i:s.heap.IsTuple l1 xs)(j:s.heap.IsList l2 ys)(h:∀ h',i9 h' (s.heap.objs.size+4) (s.heap.objs.size+2) (s.heap.objs.size+3) .none->ft h' (s.heap.objs.size+2) (.ref s.heap.objs.size) (.ref (s.heap.objs.size+1))->ft h' (s.heap.objs.size+3) .none .none->h'.IsTupleIter s.heap.objs.size l1 0->h'.IsListIter (s.heap.objs.size+1) l2 0->(∀c o,s.heap.get? c=aU o->h'.get? c=aU o)->Q (.ref (s.heap.objs.size+4)) {s with heap:=h'}):cE (cS prog w) A (call (.type "zip") [.ref l1,.ref l2]) Q E s:=by
 refine kw F.called_zip (by decide) (F.typeCall_zip_2 _ _) (F.newCall_zip_2 _ _) (λobj=>F.args_object_init_3 obj _ _) F.entry_zip_new (o5 l1 l2 xs ys) ⟨i,j,?_⟩;generalize k:s.heap.push {cls:=.type "tuple_iterator",data:=.fields #[.ref l1,.int 0 0]}=t1;have r:t1.objs.size=s.heap.objs.size+1:=by rw[<-k,ej]
 have z:t1.get? s.heap.objs.size=aU {cls:=.type "tuple_iterator",data:=.fields #[.ref l1,.int 0 0]}:=by rw[<-k];exact cw _ rfl
 have B:∀c o,s.heap.get? c=aU o->t1.get? c=aU o:=λc o e=>by rw[<-k];exact dF e
 generalize l:t1.push {cls:=.type "list_iterator",data:=.fields #[.ref l2,.int 0 0]}=t2;have t:t2.objs.size=s.heap.objs.size+2:=by rw[<-l,ej,r]
 have C:t2.get? (s.heap.objs.size+1)=aU {cls:=.type "list_iterator",data:=.fields #[.ref l2,.int 0 0]}:=by rw[<-r,<-l];exact cw _ rfl
 have u:∀c o,t1.get? c=aU o->t2.get? c=aU o:=λc o e=>by rw[<-l];exact dF e
 generalize m:t2.push {cls:=.type "tuple",data:=.seq #[.ref s.heap.objs.size,.ref (s.heap.objs.size+1)]}=a;have v:a.objs.size=s.heap.objs.size+3:=by rw[<-m,ej,t]
 have G:a.get? (s.heap.objs.size+2)=aU {cls:=.type "tuple",data:=.seq #[.ref s.heap.objs.size,.ref (s.heap.objs.size+1)]}:=by rw[<-t,<-m];exact cw _ rfl
 have n:∀c o,t2.get? c=aU o->a.get? c=aU o:=λc o e=>by rw[<-m];exact dF e
 generalize p:a.push {cls:=.type "tuple",data:=.seq #[.none,.none]}=b;have H:b.objs.size=s.heap.objs.size+4:=by rw[<-p,ej,v]
 have I:b.get? (s.heap.objs.size+3)=aU {cls:=.type "tuple",data:=.seq #[.none,.none]}:=by rw[<-v,<-p];exact cw _ rfl
 have g:∀c o,a.get? c=aU o->b.get? c=aU o:=λc o e=>by rw[<-p];exact dF e
 generalize x:b.push {cls:=.type "zip",data:=.fields #[.none,.bool a_,.bool a_,.ref (s.heap.objs.size+2),.ref (s.heap.objs.size+3)]}=q;have y:q.get? (s.heap.objs.size+4)=aU {cls:=.type "zip",data:=.fields #[.none,.bool a_,.bool a_,.ref (s.heap.objs.size+2),.ref (s.heap.objs.size+3)]}:=by rw[<-H,<-x];exact cw _ rfl
 have f:∀c o,b.get? c=aU o->q.get? c=aU o:=λc o e=>by rw[<-x];exact dF e
 exact⟨⟨_,y,rfl⟩,h q y (f _ _ (g _ _ G)) (f _ _ I) ⟨_,f _ _ (g _ _ (n _ _ (u _ _ z))),rfl,rfl⟩ ⟨_,f _ _ (g _ _ (n _ _ C)),rfl,rfl⟩ λc o e=>f _ _ (g _ _ (n _ _ (u _ _ (B _ _ e))))⟩
end
theorem pq(l1 l2:cq)(xs ys:Array bx):m5 (iE.«zip.__new__» ⟨[.type "zip",.ref l1,.ref l2],[]⟩) (λ_ R s=>s.heap.IsTuple l1 xs/\s.heap.IsTuple l2 ys/\R (.ok (.ret (.ref (s.heap.objs.size+4)))) {s with heap:=((((s.heap.push {cls:=.type "tuple_iterator",data:=.fields #[.ref l1,.int 0 0]}).push {cls:=.type "tuple_iterator",data:=.fields #[.ref l2,.int 0 0]}).push {cls:=.type "tuple",data:=.seq #[.ref s.heap.objs.size,.ref (s.heap.objs.size+1)]}).push {cls:=.type "tuple",data:=.seq #[.none,.none]}).push {cls:=.type "zip",data:=.fields #[.none,.bool a_,.bool a_,.ref (s.heap.objs.size+2),.ref (s.heap.objs.size+3)]}}):=.of_wp λprog w A R s h=>by obtain⟨f,g,d,i,os⟩:=s;obtain⟨a,b,h⟩:=h;have j:=sub_zip;have c:rk (h_ ⟨f,g,d,i,os⟩) l1 xs:=a;have e:rk (h_ ⟨f.push {cls:=.type "tuple_iterator",data:=.fields #[.ref l1,.int 0 0]},g,d,i,os⟩) l2 ys:=Heap.IsTuple.push b _;wp_walk using fm c,fm e;simp only[ej]at*;exact⟨_,rfl,h⟩
section
variable{prog:df}{w:er}{A:ew}{E:bx->cn->Prop}{s:cn}
theorem An(i:s.heap.IsTuple l1 xs)(j:s.heap.IsTuple l2 ys)(h:∀ h',i9 h' (s.heap.objs.size+4) (s.heap.objs.size+2) (s.heap.objs.size+3) .none->ft h' (s.heap.objs.size+2) (.ref s.heap.objs.size) (.ref (s.heap.objs.size+1))->ft h' (s.heap.objs.size+3) .none .none->h'.IsTupleIter s.heap.objs.size l1 0->h'.IsTupleIter (s.heap.objs.size+1) l2 0->(∀c o,s.heap.get? c=aU o->h'.get? c=aU o)->Q (.ref (s.heap.objs.size+4)) {s with heap:=h'}):cE (cS prog w) A (call (.type "zip") [.ref l1,.ref l2]) Q E s:=by
 refine kw F.called_zip (by decide) (F.typeCall_zip_2 _ _) (F.newCall_zip_2 _ _) (λobj=>F.args_object_init_3 obj _ _) F.entry_zip_new (pq l1 l2 xs ys) ⟨i,j,?_⟩;generalize k:s.heap.push {cls:=.type "tuple_iterator",data:=.fields #[.ref l1,.int 0 0]}=t1;have r:t1.objs.size=s.heap.objs.size+1:=by rw[<-k,ej]
 have z:t1.get? s.heap.objs.size=aU {cls:=.type "tuple_iterator",data:=.fields #[.ref l1,.int 0 0]}:=by rw[<-k];exact cw _ rfl
 have B:∀c o,s.heap.get? c=aU o->t1.get? c=aU o:=λc o e=>by rw[<-k];exact dF e
 generalize l:t1.push {cls:=.type "tuple_iterator",data:=.fields #[.ref l2,.int 0 0]}=t2;have t:t2.objs.size=s.heap.objs.size+2:=by rw[<-l,ej,r]
 have C:t2.get? (s.heap.objs.size+1)=aU {cls:=.type "tuple_iterator",data:=.fields #[.ref l2,.int 0 0]}:=by rw[<-r,<-l];exact cw _ rfl
 have u:∀c o,t1.get? c=aU o->t2.get? c=aU o:=λc o e=>by rw[<-l];exact dF e
 generalize m:t2.push {cls:=.type "tuple",data:=.seq #[.ref s.heap.objs.size,.ref (s.heap.objs.size+1)]}=a;have v:a.objs.size=s.heap.objs.size+3:=by rw[<-m,ej,t]
 have G:a.get? (s.heap.objs.size+2)=aU {cls:=.type "tuple",data:=.seq #[.ref s.heap.objs.size,.ref (s.heap.objs.size+1)]}:=by rw[<-t,<-m];exact cw _ rfl
 have n:∀c o,t2.get? c=aU o->a.get? c=aU o:=λc o e=>by rw[<-m];exact dF e
 generalize p:a.push {cls:=.type "tuple",data:=.seq #[.none,.none]}=b;have H:b.objs.size=s.heap.objs.size+4:=by rw[<-p,ej,v]
 have I:b.get? (s.heap.objs.size+3)=aU {cls:=.type "tuple",data:=.seq #[.none,.none]}:=by rw[<-v,<-p];exact cw _ rfl
 have g:∀c o,a.get? c=aU o->b.get? c=aU o:=λc o e=>by rw[<-p];exact dF e
 generalize x:b.push {cls:=.type "zip",data:=.fields #[.none,.bool a_,.bool a_,.ref (s.heap.objs.size+2),.ref (s.heap.objs.size+3)]}=q;have y:q.get? (s.heap.objs.size+4)=aU {cls:=.type "zip",data:=.fields #[.none,.bool a_,.bool a_,.ref (s.heap.objs.size+2),.ref (s.heap.objs.size+3)]}:=by rw[<-H,<-x];exact cw _ rfl
 have f:∀c o,b.get? c=aU o->q.get? c=aU o:=λc o e=>by rw[<-x];exact dF e
 exact⟨⟨_,y,rfl⟩,h q y (f _ _ (g _ _ G)) (f _ _ I) ⟨_,f _ _ (g _ _ (n _ _ (u _ _ z))),rfl,rfl⟩ ⟨_,f _ _ (g _ _ (n _ _ C)),rfl,rfl⟩ λc o e=>f _ _ (g _ _ (n _ _ (u _ _ (B _ _ e))))⟩
end
end PySem
namespace _L
open PySem Spec PyProof.Rows
variable{t:Bool}{a:cq}
noncomputable def Sq(t:Bool)(K:PySem.W.Frag)(H:Hp)(a:cq)(xs:List V):Prop:=if t then iQ K H a xs else dO K H a xs
noncomputable def Y7(t:Bool)(h:eF)(a:cq)(xs:Array bx):Prop:=if t then h.IsTuple a xs else h.IsList a xs
noncomputable def Ia(t:Bool)(h:eF)(i a:cq)(k:Nat):Prop:=if t then h.IsTupleIter i a k else h.IsListIter i a k
section
variable{X:Cx}{pins:List (cq×Obj)}{σ:_L.St}{H:Hp}{s:cn}
theorem Inv.sq{xs:List V}(I:Inv X pins σ H s)(h:Sq t X.K H a xs):∃b:List bx,Vals xs b/\Y7 t s.heap a b.toArray:=by cases t with|true=>obtain⟨b,c,e,_⟩:=I.tuple h;exact⟨b,c,e⟩|false=>obtain⟨b,c,e,_⟩:=I.list h;exact⟨b,c,e.isList⟩
theorem Inv.Jw{xs ys:List V}(I:Inv X pins σ H s)(h:Sq t X.K H a xs)(h':Sq t X.K H a ys):xs=ys:=by cases t with|true=>exact I.jU h h'|false=>exact I.mU h h'
theorem Y7.lt{h:eF}{xs:Array bx}(q:Y7 t h a xs):a<h.objs.size:=by cases t with|true=>obtain⟨o,e,_⟩:=id q;exact dc e|false=>obtain⟨o,e,_⟩:=id q;exact dc e
theorem Ia.obj{h:eF}{i:cq}{k:Nat}(q:Ia t h i a k):∃o,h.get? i=aU o/\∀v,o.data≠.cell v:=by cases t with|true=>obtain⟨o,b,e,c⟩:=id q;exact⟨o,b,λv z=>by rw[c]at z;cases z⟩|false=>obtain⟨o,b,e,c⟩:=id q;exact⟨o,b,λv z=>by rw[c]at z;cases z⟩
theorem Ia.keep{h h':eF}{i:cq}{k:Nat}(q:Ia t h i a k)(e:∀o,h.get? i=aU o->h'.get? i=aU o):Ia t h' i a k:=by cases t with|true=>obtain⟨o,b,r⟩:=id q;exact⟨o,e o b,r⟩|false=>obtain⟨o,b,r⟩:=id q;exact⟨o,e o b,r⟩
theorem O6(t:Bool){prog:df}{w:er}{A:ew}(hh:A.handled=ci)(it l:cq)(b:l≠it)(items:Array bx):Nx prog w A it l (λk h=>Ia t h it l k/\Y7 t h l items) (λk=>items[k]?):=by cases t with|true=>exact Nx.tuple hh it l b items|false=>exact Nx.list hh it l b items
theorem Inv.K7{ch:List cq}{h':eF}(I:Inv X pins σ H s)(k:∀b u,b∉ch->s.heap.get? b=aU u->h'.get? b=aU u)(h:∀b∈ch,m9 X pins H b):Inv X pins σ H {s with heap:=h'}:=by
 have i:∀b u,H b=aU u->b∉ch:=λb u e f=>by rw[(h b f).1]at e;cases e
 refine I.call (g':=s.gens) (d':=s.drawn) (t':=s.toks) (ch:=ch) ⟨λb u e n _ g=>k b u g e,λb u e n _ g=>⟨u.slots,k b u g e⟩,λb u e n g=>n,λb u e g=>⟨u,k b u g e⟩,λb xs e=>e,λb j u e=>e,λb ps e=>⟨#[],by rw[e];simp⟩⟩ ?_ I.bare λb f=>⟨(h b f).2.2.2.1,(h b f).2.1,(h b f).2.2.2.2.1,(h b f).2.2.2.2.2⟩;intro b u e;refine(I.hok b u e).stay (λc v hc q=>k c v ?_ q) (λc q=>q) λc xs q=>q;rcases hc with rfl|hc;.exact i _ _ e
 .exact i _ _ hc
end
noncomputable def ZR(t1 t2:Bool)(K:PySem.W.Frag)(a b:cq):It:=⟨λi H=>∃ xs ys x y,Sq t1 K H a xs/\Sq t2 K H b ys/\xs[i]?=aU x/\ys[i]?=aU y,λi H x c=>∃T v w,H T=ci/\x=.ref T/\c=upd H T (.tup [v,w])/\(∀xs,Sq t1 K H a xs->xs[i]?=aU v)/\∀ys,Sq t2 K H b ys->ys[i]?=aU w,λi H=>∃xs ys,Sq t1 K H a xs/\Sq t2 K H b ys/\(xs.length<=i\/ys.length<=i)⟩
theorem Mv{P:df}{w:er}{K:PySem.W.Frag}{L:List dy}{x1}{tp:Pos}(t1 t2:Bool){z TI TO f g J l2:cq}(D:lM z TI TO f g J l2):Turn P w K (.Tuple L x1 tp) (ZR t1 t2 K J l2) [z,TI,TO,f,g] z (λi h=>i9 h z TI TO .none/\ft h TI (.ref f) (.ref g)/\(∃a b,ft h TO a b)/\Ia t1 h f J i/\Ia t2 h g l2 i)where
 mem:=by simp
 obj:=λi h st b c=>by
  obtain⟨h1,m,⟨u,v,r⟩,B,C⟩:=st;simp only[cK,iS,or_false]at c;rcases c with rfl|rfl|rfl|rfl|rfl;.exact⟨_,h1,λv z=>by cases z⟩
  .exact⟨_,m,λv z=>by cases z⟩
  .exact⟨_,r,λv z=>by cases z⟩
  .exact B.obj
  .exact C.obj
 keep:=λi h h' st k=>by obtain⟨h1,m,⟨u,v,r⟩,B,C⟩:=st;exact⟨k z (by simp) _ h1,k TI (by simp) _ m,⟨u,v,k TO (by simp) _ r⟩,B.keep (k f (by simp)),C.keep (k g (by simp))⟩
 item:=λX hP hw hK hc i M s σ H E I U st go=>by
  subst hP hw hK;obtain⟨h1,m,⟨u,v,r⟩,B,C⟩:=st;obtain⟨xs,ys,x,y,n,p,hx,hy⟩:=go;obtain⟨Ry,G,ZM⟩:=I.sq n;obtain⟨j,XH,Tz⟩:=I.sq p;obtain⟨Y,ac,ae⟩:=G.get hx;obtain⟨Z,af,ag⟩:=XH.get hy;have hh:X.A.in1.handled=ci:=I.ok.hd hc;refine nZ D (O6 t1 hh f J D.l1i1 Ry.toArray) (O6 t2 hh g l2 D.l2i2 j.toArray) h1 m r (k:=i) ⟨B,ZM⟩ ⟨C,Tz⟩ (x:=Y) (y:=Z) (by simpa using ac) (by simpa using af) λh' z1 p1 s1 s2 pT hsz kp=>?_;refine⟨_,rfl,wpAny_letOwnedTupleGo_zip z1 λl z2 N=>?_⟩;have O:∀b∈[z,TI,TO,f,g],b≠s.heap.objs.size:=λb c=>by
   simp only[cK,iS,or_false]at c;rcases c with rfl|rfl|rfl|rfl|rfl;.exact dE (dc h1)
   .exact dE (dc m)
   .exact dE (dc r)
   .exact dE (dc B.obj.choose_spec.1)
   .exact dE (dc C.obj.choose_spec.1)
  have ZL:∀b o,b∉[z,TO,f,g]->s.heap.get? b=aU o->l.get? b=aU o:=λb o c q=>by simp only[cK,iS,or_false,not_or]at c;exact N.extBut b o c.1 (kp b o c.1 c.2.1 c.2.2.1 c.2.2.2 q)
  have ah:ft l s.heap.objs.size Y Z:=N.extBut _ _ (O z (by simp)).symm pT;have p2:ft l TO Y Z:=N.extBut _ _ D.TOz p1;have j1:Ia t1 l f J (i+1):=s1.1.keep λo e=>N.extBut _ _ D.i1z e;have j2:Ia t2 l g l2 (i+1):=s2.1.keep λo e=>N.extBut _ _ D.i2z e;refine⟨.ref s.heap.objs.size,upd H s.heap.objs.size (.tup [x,y]),?_,rfl,⟨_,x,y,I.fresh,rfl,rfl,λzs hz=>?_,λzs hz=>?_⟩,⟨z2,ZL TI _ ?_ m,⟨_,_,p2⟩,j1,j2⟩,λb c=>?_⟩
  . refine I.Ai (ch:=[z,TO,f,g]) (t':=s.toks) ZL (λb c=>?_) (λb c=>U b ?_) ⟨(by show 2<=sizeLine;decide),[Y,Z],.cons ae (.cons ag .nil),⟨_,ah,rfl,_,rfl⟩⟩
    . simp only[cK,iS,or_false]at c;rcases c with rfl|rfl|rfl|rfl;.exact⟨_,z2⟩
      .exact⟨_,p2⟩
      .exact⟨_,j1.obj.choose_spec.1⟩
      .exact⟨_,j2.obj.choose_spec.1⟩
    .simp only[cK,iS,or_false]at c ⊢;rcases c with h|h|h|h<;>simp[h]
  .rw[I.Jw hz n];exact hx
  .rw[I.Jw hz p];exact hy
  .simp[D.TIz,D.TITO,D.TIi1,D.TIi2]
  .rw[aB (O b c)];exact(U b c).1
 done:=λX hP hw hK hc i M s σ H E I U st stop=>by
  subst hP hw hK;obtain⟨h1,m,⟨u,v,r⟩,B,C⟩:=st;obtain⟨xs,ys,n,p,hx⟩:=stop;obtain⟨Ry,G,ZM⟩:=I.sq n;obtain⟨j,XH,Tz⟩:=I.sq p;have hh:X.A.in1.handled=ci:=I.ok.hd hc;refine pg D (O6 t1 hh f J D.l1i1 Ry.toArray) (O6 t2 hh g l2 D.l2i2 j.toArray) h1 m r (k:=i) ⟨B,ZM⟩ ⟨C,Tz⟩ ?_ λh' kp=>⟨rfl,?_⟩
  . rcases hx with hx|hx;.left;rw[G.length]at hx;simpa using hx
    .right;rw[XH.length]at hx;simpa using hx
  .exact I.K7 (ch:=[z,TO,f,g]) (λb u c q=>by simp only[cK,iS,or_false,not_or]at c;exact kp b u c.1 c.2.1 c.2.2.1 c.2.2.2 q) λb c=>U b (by simp only[cK,iS,or_false]at c ⊢;rcases c with h|h|h|h<;>simp[h])
 self:=λA i s Q E st q=>wpAny_pyIter_zip st.1 q
section
variable{X:Cx}{elts:List dy}{x1:Nat}{tp:Pos}
theorem GX{prog:df}{w:er}{A:ew}{E:bx->cn->Prop}{s:cn}(t1 t2:Bool){f l2:cq}{xs ys:Array bx}{Q:bx->cn->Prop}(b:Y7 t1 s.heap f xs)(e:Y7 t2 s.heap l2 ys)(h:∀ h',i9 h' (s.heap.objs.size+4) (s.heap.objs.size+2) (s.heap.objs.size+3) .none->ft h' (s.heap.objs.size+2) (.ref s.heap.objs.size) (.ref (s.heap.objs.size+1))->ft h' (s.heap.objs.size+3) .none .none->Ia t1 h' s.heap.objs.size f 0->Ia t2 h' (s.heap.objs.size+1) l2 0->(∀c o,s.heap.get? c=aU o->h'.get? c=aU o)->Q (.ref (s.heap.objs.size+4)) {s with heap:=h'}):cE (cS prog w) A (call (.type "zip") [.ref f,.ref l2]) Q E s:=by
 cases t1<;>cases t2;.exact Av b e h
 .exact BL b e h
 .exact Be b e h
 .exact An b e h
theorem Xv{n l m:Nat}(h1:l<n)(b:m<n):lM (n+4) (n+2) (n+3) n (n+1) l m:=by constructor<;>exact λh=>absurd (show(_:Nat)=_ from h) (by lia)
noncomputable def afB(K:PySem.W.Frag)(R:It->Hp->Prop)(vs:List V)(c:Hp):Prop:=∃t1 t2 a b,vs=[.ref a,.ref b]/\(∃xs,Sq t1 K c a xs)/\(∃ys,Sq t2 K c b ys)/\R (ZR t1 t2 K a b) c
noncomputable def afk(K:PySem.W.Frag)(b:TA):TI:=λσ H R=>b σ H (afB K R)
theorem boot_zip:eH "zip"=aU (.type "zip"):=by decide+kernel
theorem VM{a b:dy}{k:TA}{p pos:Pos}(w:Gl X "zip")(x:X.mg "zip"=ci)(y:PA X [a,b] k)(hs:cx [a,b] X.env=[(a_,eA a X.env),(a_,eA b X.env)]:=by rfl)(c:cx [b] X.env=[(a_,eA b X.env)]:=by rfl):PI X (.Tuple elts x1 tp) (.Call (.Name "zip" p) [a,b] [] pos) (afk X.K k):=by
 intro e s σ H R I h;refine qr (gM I w x boot_zip (eg (cA (y pos e s σ H _ I h) ?_) (by rw[hs,c]) (by rw[c];rfl)));rintro us s1⟨vs,z,f,r1,A⟩;obtain⟨t1,t2,B,l2,rfl,⟨xs,i⟩,⟨ys,j⟩,q⟩:=A;obtain⟨u,v,rfl,C,E⟩:=r1.two;cases C;cases E;obtain⟨O,G,l⟩:=f.sq i;obtain⟨m,Q,n⟩:=f.sq j;have b1:=l.lt;have b2:=n.lt;refine GX t1 t2 l n λh' o J L M N kp=>?_;have D:lM (s1.heap.objs.size+4) (s1.heap.objs.size+2) (s1.heap.objs.size+3) s1.heap.objs.size (s1.heap.objs.size+1) B l2:=Xv b1 b2;refine wpAny_pyIter_zip o ⟨_,_,_,_,z,rfl,f.kept (t':=s1.toks) kp,Mv t1 t2 D,⟨o,J,⟨_,_,L⟩,M,N⟩,λb r=>?_,q⟩;have g:s1.heap.objs.size<=b:=by simp only[cK,iS,or_false]at r;rcases r with rfl|rfl|rfl|rfl|rfl<;>first|exact Nat.le_add_right _ _|exact cN
 exact f.zH g (f.hok.fresh g)
end
end _L
namespace _H
open PySem _L Spec PyProof.Rows
section
variable{K:PySem.W.Frag}{F F1 H H1:Hp}{ρ ρ1:List Sl}{σ:_L.St}{ds es:List D}{a b:cq}
theorem aH.sq{t:Bool}{xs:List V}(e:aH F H)(h:Sq t K F a xs):Sq t K H a xs:=by cases t with|true=>exact aH.gJ e h|false=>exact e.seq h
theorem wI{t1 t2:Bool}{xs ys:List V}{j c:Hp}(e:Sq t1 K c a xs)(f:Sq t2 K c b ys)(r1:aG K j xs ds)(n:aG K j ys es)(s:aH j c)(k:Nat):(∀d,((ds.zip es).map λp=>D.tup [p.1,p.2])[k]?=aU d->(ZR t1 t2 K a b).go k c/\∀x l,(ZR t1 t2 K a b).M6 k c x l->∃g,Ext j c g l/\Rep K g x d)/\(((ds.zip es).map λp=>D.tup [p.1,p.2]).length<=k->(ZR t1 t2 K a b).stop k c):=by refine⟨λd hd=>?_,λh=>⟨xs,ys,e,f,by rw[r1.length,n.length];rw[dV,List.length_zip]at h;lia⟩⟩;rw[fk]at hd;obtain⟨⟨d0,d1⟩,o,q⟩:=map_some hd;subst q;obtain⟨f1,f2⟩:=nB.mp o;obtain⟨w,h1,r⟩:=r1.get f1;obtain⟨t,i,m⟩:=n.get f2;refine⟨⟨xs,ys,w,t,e,f,h1,i⟩,?_⟩;rintro x l⟨T,v,C,u,z,A,y,B⟩;subst z;subst A;have:=y xs e;rw[h1]at this;cases this;have:=B ys f;rw[i]at this;cases this;exact qg s u r m
theorem J7{v:V}{d:D}{ds:List D}(h:Rep K F v d)(e:items d=aU ds):∃t a xs,v=.ref a/\Sq t K F a xs/\aG K F xs ds:=by cases d with|tup es=>cases e;rw[Rep]at h;obtain⟨a,xs,rfl,h1,c⟩:=h;exact⟨b_,a,xs,rfl,h1,c⟩|lst es=>cases e;rw[Rep]at h;obtain⟨a,xs,rfl,h1,c⟩:=h;exact⟨a_,a,xs,rfl,h1,c⟩|_=>cases e
end
structure bz(K:PySem.W.Frag)(x:Str)(st:eL):Prop where ex:∃f fd,PySem.W.nsIn K dL x=aU (aU (.ref f))/\gn K x x st f fd
section
variable{Pg:df}{w:er}{K:PySem.W.Frag}{mg:Str->Option bx}{base h:eF}
theorem UT{x:Str}{st:eL}{f:cq}{oc:bx}{g i:Option cq}{b:Array (Option bx)}{kV e j cdv ct:bx}(a:PySem.W.nsIn K dL x=aU (aU (.ref f)))(l:K.lookup f=aU ⟨oc,g,.func (PySem.W.fnOf x x (iY st) (gC st) (au st) .none kV e j i cdv ct),b⟩)(c:PySem.W.codeIn K cdv x=b_)(k:keepIn K (.ref f)=b_):bz K x st:=⟨_,_,a,VJ l c k⟩
theorem bG{Γ:Tab}{wl i np:Nat}{x:Str}{st:eL}{ps:List Str}(X:K.In h)(G:h.Ns dL mg)(D:bz K x st)(g:ps.length=np)(j:∀(kV c k:bx)(l:Option cq)(cdv ct:bx)(us:List bx),us.length=ps.length->sf (PySem.W.fnOf x x (iY st) (gC st) (au st) .none kV c k l cdv ct) ⟨us,[]⟩=fg (ps.zip us)):aQ Pg w K mg base 0 (run Γ wl 0) i x np:=by obtain⟨f,fd,a,F⟩:=D.ex;exact⟨f,fd,ps,⟨λvs H Q E s=>s.1,λA outer s H args us vs Q E hr e b v sp=>by obtain⟨_,F,as,r,m,_,z,_⟩:=sp;cases z⟩,mg_of X G a,F.kp,F.binds j,g⟩
theorem bH{Γ:Tab}{wl n i np:Nat}{x:Str}{st:eL}{ps:List Str}{d:Fd}(X:K.In h)(G:h.Ns dL mg)(D:bz K x st)(g:ps.length=np)(b:Γ i=aU d)(j:∀(kV c k:bx)(l:Option cq)(cdv ct:bx)(us:List bx),us.length=ps.length->sf (PySem.W.fnOf x x (iY st) (gC st) (au st) .none kV c k l cdv ct) ⟨us,[]⟩=fg (ps.zip us))(ok:∀f fd,gn K x x st f fd->oF Pg w K mg base JL (n+1) f fd ps (Rm K np (λargs=>enter (run Γ wl n) wl d args))):aQ Pg w K mg base (n+1) (run Γ wl (n+1)) i x np:=by
 obtain⟨f,fd,a,F⟩:=D.ex;refine⟨f,fd,ps,?_,mg_of X G a,F.kp,F.binds j,g⟩;have e:run Γ wl (n+1) i=λargs=>enter (run Γ wl n) wl d args:=by funext args;show(match Γ i with|some d=>enter (run Γ wl n) wl d args|none=>.stuck)=_;rw[b]
 rw[e,g];exact ok f fd F
theorem uU{F:Hp}:∀ns:List Int,aG K F (ns.map V.int) (ns.map D.int)|[]=>.nil|n::ns=>.cons (cj n) (uU ns)
theorem Hj{H:Hp}{a:cq}{ns:List Int}{g:List Sl->Res R}{as:List Sl}(l:dO K H a (ns.map V.int))(hr:g [.val a_ (.lst (ns.map D.int))]=.ok (.val (.bl b_)) as):Rm K 1 g [.ref a] H (λv _=>v=.bl b_) λ_ _ _=>False:=by
 refine⟨rfl,H,_,_,as,⟨.refl _,rfl,λi b d e=>?_,λi s m e k=>?_,λi j c h=>?_⟩,hr,λv n o p s f=>?_⟩;.match i,e with|0,e=>cases e;refine⟨.ref a,rfl,?_⟩;rw[Rep];exact⟨a,_,rfl,l,uU ns⟩|i+1,e=>simp at e
 .match i,e with|0,e=>cases e;cases k|i+1,e=>simp at e
 .obtain⟨⟨s,m,e,k⟩,_⟩:=h;match i,e with|0,e=>cases e;cases k|i+1,e=>simp at e
 .have f:Rep K n v (.bl b_):=f;rw[Rep]at f;exact f
end
end _H
namespace _H
open PySem
variable{n:Nat}{c:Call}{ρ:List Sl}{is:List Nat}{ds:List D}
noncomputable def Res.sat{b:Type}(Q:b->List Sl->Prop)(x:Res b):Prop:=match x with|.ok a ρ=>Q a ρ|.exc _ _=>False|.stuck=>False
section
variable{α β:Type}{Q Q':α->List Sl->Prop}
@[simp]theorem V1{a:α}{ρ:List Sl}:(Res.ok a ρ).sat Q=Q a ρ:=rfl
@[simp]theorem ac6{k:Nat}{ρ:List Sl}:(Res.exc k ρ:Res α).sat Q=False:=rfl
@[simp]theorem Zm:(Res.stuck:Res α).sat Q=False:=rfl
theorem cC{x:Res β}{f:β->List Sl->Res α}:(x.bind f).sat Q=x.sat λa ρ=>(f a ρ).sat Q:=by cases x<;>rfl
@[simp]theorem acQ{p:Prop}[Decidable p]{x y:Res α}:(if p then x else y).sat Q=((p->x.sat Q)/\(¬ p->y.sat Q)):=by by_cases h:p<;>simp[h]
@[simp]theorem N5{a:α}{ρ:List Sl}:(lift (aU a) ρ).sat Q=Q a ρ:=rfl
@[simp]theorem NT{ρ:List Sl}:(lift (ci:Option α) ρ).sat Q=False:=rfl
@[simp]theorem QS{p:Prop}[Decidable p]{a:α}{ρ:List Sl}:(lift (if p then aU a else ci) ρ).sat Q=(p/\Q a ρ):=by by_cases h:p<;>simp[h]
theorem Res.sat.imp{x:Res α}(h:x.sat Q)(k:∀a ρ,Q a ρ->Q' a ρ):x.sat Q':=by cases x with|ok a ρ=>exact k a ρ h|exc _ _=>exact h|stuck=>exact h
theorem sat_iff{x:Res α}:x.sat Q↔∃a ρ,x=.ok a ρ/\Q a ρ:=by cases x with|ok a ρ=>exact⟨λh=>⟨a,ρ,rfl,h⟩,λ⟨_,_,e,h⟩=>by cases e;exact h⟩|exc _ _=>exact⟨λh=>h.elim,λ⟨_,_,e,_⟩=>by cases e⟩|stuck=>exact⟨λh=>h.elim,λ⟨_,_,e,_⟩=>by cases e⟩
end
noncomputable def fr:Sl->Bool|.aO=>b_|.val b _=>!b|.own b _=>!b|.lent _=>a_|.gV _=>a_|.cM _=>a_|.hold _=>a_
@[simp]theorem aet:fr .aO=b_:=rfl
@[simp]theorem afO{b:Bool}{d:D}:fr (.val b d)=!b:=rfl
@[simp]theorem agB{b:Bool}{d:List D}:fr (.own b d)=!b:=rfl
@[simp]theorem ac9{d:List D}:fr (.lent d)=a_:=rfl
theorem Vz(ρ:List Sl)(i:Nat)(s:Sl):put ρ i s=match ρ[i]?with|some t=>if fr t=b_ then aU (ρ.set i s)else ci|none=>ci:=by unfold put;cases h:ρ[i]?with|none=>rfl|some t=>cases t with|aO=>rfl|val b d=>cases b<;>rfl|own b d=>cases b<;>rfl|lent d=>rfl|gV m=>rfl|cM m=>rfl|hold m=>rfl
theorem J3{Γ:Tab}{w i:Nat}{d:Fd}{args:List Sl}(h:Γ i=aU d):run Γ w (n+1) i args=enter (run Γ w n) w d args:=by rw[run,h]
noncomputable def fin(np:Nat):Fl->List Sl->Option (R×List Sl)|.next,ρ=>aU (.val .non,ρ.take np)|.ret r,ρ=>aU (r,ρ.take np)|_,_=>ci
noncomputable def eQ(np:Nat)(Q:R->List Sl->Prop)(fl:Fl)(ρ:List Sl):Prop:=match fl with|.next=>Q (.val .non) (ρ.take np)|.ret r=>Q r (ρ.take np)|_=>False
noncomputable def sQ(c:Call)(n:Nat)(r:List S)(Q:Fl->List Sl->Prop)(fl:Fl)(ρ:List Sl):Prop:=match fl with|.next=>(iM c n r ρ).sat Q|fl=>Q fl ρ
noncomputable def fQ(J:List Sl->Prop)(Q:Fl->List Sl->Prop)(fl:Fl)(ρ:List Sl):Prop:=match fl with|.next=>J ρ|.cont=>J ρ|.brk=>Q .next ρ|.ret v=>Q (.ret v) ρ
section
variable{np:Nat}{Q:R->List Sl->Prop}{ρ:List Sl}{v:R}{c:Call}{n:Nat}{r:List S}{Q':Fl->List Sl->Prop}{J:List Sl->Prop}
@[simp]theorem ace:eQ np Q .next ρ=Q (.val .non) (ρ.take np):=rfl
@[simp]theorem af6:eQ np Q (.ret v) ρ=Q v (ρ.take np):=rfl
@[simp]theorem agr:eQ np Q .brk ρ=False:=rfl
@[simp]theorem acx:eQ np Q .cont ρ=False:=rfl
@[simp]theorem ado:sQ c n r Q' .next ρ=(iM c n r ρ).sat Q':=rfl
@[simp]theorem afL:sQ c n r Q' (.ret v) ρ=Q' (.ret v) ρ:=rfl
@[simp]theorem agw:sQ c n r Q' .brk ρ=Q' .brk ρ:=rfl
@[simp]theorem adz:sQ c n r Q' .cont ρ=Q' .cont ρ:=rfl
@[simp]theorem acz:fQ J Q' .next ρ=J ρ:=rfl
@[simp]theorem adp:fQ J Q' .cont ρ=J ρ:=rfl
@[simp]theorem af3:fQ J Q' .brk ρ=Q' .next ρ:=rfl
@[simp]theorem agP:fQ J Q' (.ret v) ρ=Q' (.ret v) ρ:=rfl
end
theorem Gu{d:Fd}{args:List Sl}{Q:R->List Sl->Prop}(a:args.length=d.np)(hd:d.np<=d.nn)(h:(iM c n d.body (args++cr (d.nn-d.np) .aO)).sat (eQ d.np Q)):(enter c n d args).sat Q:=by unfold enter;rw[if_pos ⟨a,hd⟩];revert h;cases iM c n d.body (args++cr (d.nn-d.np) .aO)with|stuck=>exact λh=>fh h|exc _ _=>exact λh=>fh h|ok fl ρ=>cases fl<;>first|exact id|exact λh=>fh h
theorem aK{Γ:Tab}{w i:Nat}{d:Fd}{args:List Sl}{Q:R->List Sl->Prop}(a:Γ i=aU d)(b:args.length=d.np)(hd:d.np<=d.nn)(h:(iM (run Γ w n) w d.body (args++cr (d.nn-d.np) .aO)).sat (eQ d.np Q)):(run Γ w (n+1) i args).sat Q:=by rw[J3 a];exact Gu b hd h
theorem aj{s:S}{r:List S}{Q:Fl->List Sl->Prop}(h:(ex c n s ρ).sat (sQ c n r Q)):(iM c n (s::r) ρ).sat Q:=by rw[Xj,cC];refine h.imp λfl a q=>?_;cases fl<;>exact q
theorem Gk{s:S}{r:List S}{Q:Fl->List Sl->Prop}(h:(ex c n s ρ).sat (sQ c n r Q)):sQ c n (s::r) Q .next ρ:=aj h
@[simp]theorem adu{c:Call}{n:Nat}{ρ:List Sl}{Q:Fl->List Sl->Prop}:(iM c n [] ρ).sat Q=Q .next ρ:=by rw[xs0];rfl
theorem cQ{s:S}{r:List S}{Q:Fl->List Sl->Prop}(M:List Sl->Prop)(h:(ex c n s ρ).sat λfl a=>fl=.next/\M a)(k:∀a,M a->(iM c n r a).sat Q):(iM c n (s::r) ρ).sat Q:=aj (h.imp λfl a⟨e,q⟩=>by subst e;exact k a q)
theorem bw{is:List Nat}{one:Bool}{body:List Sl->Res Fl}(J:List D->List Sl->Prop){Q:Fl->List Sl->Prop}(b:∀d r ρ,J (d::r) ρ->∃a,cL ρ is one d=aU a/\(body a).sat (fQ (J r) Q))(f:∀ρ,J [] ρ->Q .next ρ):∀{ds:List D}{ρ:List Sl},J ds ρ->(jf is one body ds ρ).sat Q|[],ρ,j=>f ρ j|d::r,ρ,j=>by obtain⟨a,e,h⟩:=b d r ρ j;rw[BV,e];show((body a).bind _).sat Q;rw[cC];refine h.imp λfl g q=>?_;cases fl with|next=>exact bw J b f q|cont=>exact bw J b f q|brk=>exact q|ret v=>exact q
theorem jV{is:List Nat}{one:Bool}{a:List Sl->Res Bool}{p:Ev}(J:List Sl->Prop)(g:D->Option D){Q:List D->List Sl->Prop}:∀{ds f:List D}{ρ:List Sl},J ρ->(∀ d,d ∈ ds->∀ ρ,J ρ->∃ i,cL ρ is one d=aU i/\(a i).sat λb l=>if b=b_ then(p l).sat λr s=>g d=aU r.d/\J s else g d=ci/\J l)->(∀ ρ,J ρ->Q (f++ds.filterMap g) ρ)->(turns is one a p ds f ρ).sat Q|[],f,ρ,j,h,k=>by rw[Bs];simpa using k ρ j|d::r,f,ρ,j,h,k=>by obtain⟨i,e,h1⟩:=h d (by simp) ρ j;rw[Aj,e];show((a i).bind _).sat Q;rw[cC];refine h1.imp λb l q=>?_;cases b with|true=>rw[if_pos rfl]at q;rw[if_pos rfl,cC];refine q.imp λx s⟨u,j3⟩=>?_;refine jV J g j3 (λd' m=>h d' (by simp[m])) λo t=>?_;have:=k o t;rw[gL,u]at this;rw[eM];exact this|false=>rw[if_neg (by simp)]at q;rw[if_neg (by simp)];refine jV J g q.2 (λd' m=>h d' (by simp[m])) λo t=>?_;have:=k o t;rw[gL,q.1]at this;exact this
theorem zF{one:Bool}{b:Ev}(J:List Sl->Prop)(g:D->D){Q:List D->List Sl->Prop}(j:J ρ)(h:∀d,d∈ds->∀ρ,J ρ->∃a,cL ρ is one d=aU a/\(b a).sat λr f=>g d=r.d/\J f)(k:∀ρ,J ρ->Q (ds.map g) ρ):(turns is one (o6 c ci) b ds [] ρ).sat Q:=jV J (λd=>aU (g d)) j (λd hd ρ j=>by obtain⟨a,e,h1⟩:=h d hd ρ j;refine⟨a,e,?_⟩;rw[o6,V1,if_pos rfl];exact h1.imp λr f q=>⟨by rw[q.1],q.2⟩) λρ j=>by simpa using k ρ j
section
variable{ρ l:List Sl}{a:Sl}{i j:Int}{k m:Nat}{b b':Bool}{s:Str}{d:D}{ds es:List D}{e f:Ev}{x:Option Sl}{c:Call}
@[simp]theorem Ws:cW .int .non=a_:=rfl
@[simp]theorem Zw:cW .int (.bl b)=b_:=rfl
@[simp]theorem Ut:cW .int (.int i)=b_:=rfl
@[simp]theorem Xo:cW .int (.str s)=a_:=rfl
@[simp]theorem Us:cW .int (.tup ds)=a_:=rfl
@[simp]theorem Xp:cW .int (.lst ds)=a_:=rfl
@[simp]theorem RT:cW .bool .non=a_:=rfl
@[simp]theorem V4:cW .bool (.bl b)=b_:=rfl
@[simp]theorem R7:cW .bool (.int i)=a_:=rfl
@[simp]theorem RM:cW .bool (.str s)=a_:=rfl
@[simp]theorem Sg:cW .bool (.tup ds)=a_:=rfl
@[simp]theorem S6:cW .bool (.lst ds)=a_:=rfl
@[simp]theorem U5:cW .str .non=a_:=rfl
@[simp]theorem YG:cW .str (.bl b)=a_:=rfl
@[simp]theorem Wi:cW .str (.int i)=a_:=rfl
@[simp]theorem Vc:cW .str (.str s)=b_:=rfl
@[simp]theorem Wv:cW .str (.tup ds)=a_:=rfl
@[simp]theorem Xe:cW .str (.lst ds)=a_:=rfl
@[simp]theorem Qj:cW .tuple .non=a_:=rfl
@[simp]theorem Sd:cW .tuple (.bl b)=a_:=rfl
@[simp]theorem Ow:cW .tuple (.int i)=a_:=rfl
@[simp]theorem Qy:cW .tuple (.str s)=a_:=rfl
@[simp]theorem QR:cW .tuple (.tup ds)=b_:=rfl
@[simp]theorem Q9:cW .tuple (.lst ds)=a_:=rfl
@[simp]theorem Su:cW .list .non=a_:=rfl
@[simp]theorem Xc:cW .list (.bl b)=a_:=rfl
@[simp]theorem Tp:cW .list (.int i)=a_:=rfl
@[simp]theorem RN:cW .list (.str s)=a_:=rfl
@[simp]theorem RG:cW .list (.tup ds)=a_:=rfl
@[simp]theorem SN:cW .list (.lst ds)=b_:=rfl
@[simp]theorem RX:cW .none .non=b_:=rfl
@[simp]theorem U0:cW .none (.bl b)=a_:=rfl
@[simp]theorem SM:cW .none (.int i)=a_:=rfl
@[simp]theorem RV:cW .none (.str s)=a_:=rfl
@[simp]theorem SJ:cW .none (.tup ds)=a_:=rfl
@[simp]theorem RQ:cW .none (.lst ds)=a_:=rfl
@[simp]theorem Zz:iD .non=b_:=rfl
@[simp]theorem aas:iD (.bl b)=a_:=rfl
@[simp]theorem YW:iD (.int i)=a_:=rfl
@[simp]theorem Zb:iD (.str s)=a_:=rfl
@[simp]theorem YS:iD (.tup ds)=a_:=rfl
@[simp]theorem Yc:iD (.lst ds)=a_:=rfl
@[simp]theorem aav:flat .non=b_:=rfl
@[simp]theorem acI:flat (.bl b)=b_:=rfl
@[simp]theorem Js:flat (.int i)=b_:=rfl
@[simp]theorem aab:flat (.str s)=b_:=rfl
@[simp]theorem aby:flat (.tup ds)=a_:=rfl
@[simp]theorem aap:flat (.lst ds)=a_:=rfl
@[simp]theorem aej:(R.val d).d=d:=rfl
@[simp]theorem ag2:(R.own ds).d=.lst ds:=rfl
@[simp]theorem Z8:zG (.val d)=.val a_ d:=rfl
@[simp]theorem aaf:zG (.own ds)=.own a_ ds:=rfl
@[simp]theorem Yo:uf (.val d)=.dat d:=rfl
@[simp]theorem Zo:uf (.own ds)=.tmp ds:=rfl
@[simp]theorem acp:iw (.int i)=aU i:=rfl
@[simp]theorem afX:zE (.bl b)=aU b:=rfl
@[simp]theorem Hb:items (.lst ds)=aU ds:=rfl
@[simp]theorem Ye:items (.tup ds)=aU ds:=rfl
@[simp]theorem WR:UL (.tup ds)=aU ds:=rfl
@[simp]theorem Xf:zJ (.lst ds)=aU ds:=rfl
@[simp]theorem acn:tQ .add=qL:=rfl
@[simp]theorem acV:tQ .sub=ye:=rfl
@[simp]theorem ac4:tQ .mul=mQ:=rfl
@[simp]theorem abq:tQ .fdiv=sV:=rfl
@[simp]theorem adD:tQ .mod=yj:=rfl
@[simp]theorem aco:tQ .pow=xY:=rfl
@[simp]theorem Zk:qL (.int i) (.int j)=aU (.val (.int (i+j))):=rfl
@[simp]theorem YC:qL (.lst ds) (.lst es)=if ds.length+es.length<=lim then aU (.own (ds++es))else ci:=rfl
@[simp]theorem Yh:qL (.tup ds) (.tup es)=if ds.length+es.length<=lim then aU (.val (.tup (ds++es)))else ci:=rfl
@[simp]theorem ZC:ye (.int i) (.int j)=aU (.val (.int (i-j))):=rfl
@[simp]theorem Yp:mQ (.int i) (.int j)=if((-18446744073709551616<i/\i<18446744073709551616)\/(-18446744073709551616<j/\j<18446744073709551616))then aU (.val (.int (i*j)))else ci:=rfl
@[simp]theorem VP:sV (.int i) (.int j)=if 0<j/\j<1606938044258990275541962092341162602522202993782792835301376 then aU (.val (.int (i/j)))else ci:=rfl
@[simp]theorem Y0:yj (.int i) (.int j)=if 0<j then aU (.val (.int (i%j)))else ci:=rfl
@[simp]theorem Zf:xY (.int i) (.int j)=if 0<=j/\j<=1000/\i.natAbs<18446744073709551616 then aU (.val (.int (i^j.toNat)))else ci:=rfl
@[simp]theorem acK:GC (.lst ds) (.int i)=(at' ds i).map .val:=rfl
@[simp]theorem adI:GC (.tup ds) (.int i)=(at' ds i).map .val:=rfl
@[simp]theorem aaO:K8 (.int i)=aU (.val (.int (-i))):=rfl
@[simp]theorem Zq:cm .eq (.int i) (.int j)=aU (i==j):=rfl
@[simp]theorem Zy:cm .ne (.int i) (.int j)=aU (!(i==j)):=rfl
@[simp]theorem abu:cm .eq (.bl b) (.bl b')=aU (b==b'):=rfl
@[simp]theorem aaP:cm .ne (.bl b) (.bl b')=aU (!(b==b')):=rfl
@[simp]theorem Yn:cm .lt (.int i) (.int j)=aU (decide (i<j)):=rfl
@[simp]theorem YX:cm .le (.int i) (.int j)=aU (decide (i<=j)):=rfl
@[simp]theorem YL:cm .gt (.int i) (.int j)=aU (decide (j<i)):=rfl
@[simp]theorem Yj:cm .ge (.int i) (.int j)=aU (decide (j<=i)):=rfl
@[simp]theorem aeo:cm .isN d .non=aU (iD d):=rfl
@[simp]theorem adL:cm .Hv d .non=aU (!iD d):=rfl
@[simp]theorem RD:blt .len [.lst ds]=aU (.val (.int ds.length)):=rfl
@[simp]theorem Ss:blt .len [.tup ds]=aU (.val (.int ds.length)):=rfl
@[simp]theorem Rc:blt .list [.lst ds]=aU (.own ds):=rfl
@[simp]theorem Qp:blt .list [.tup ds]=aU (.own ds):=rfl
@[simp]theorem Ny:blt .tuple [.lst ds]=aU (.val (.tup ds)):=rfl
@[simp]theorem NQ:blt .tuple [.tup ds]=aU (.val (.tup ds)):=rfl
@[simp]theorem aaT:blt .min2 [.int i,.int j]=aU (.val (.int (if j<i then j else i))):=rfl
@[simp]theorem abx:blt .max2 [.int i,.int j]=aU (.val (.int (if i<j then j else i))):=rfl
@[simp]theorem acs:blt .all [.lst ds]=(ds.mapM zE).map λbs=>.val (.bl (bs.all id)):=rfl
@[simp]theorem Y8:isVar (.var k)=aU k:=rfl
@[simp]theorem ac7:pk (a::l) k=match(a::l)[k]?with|some (.val _ d)=>aU d|some (.own _ ds)=>aU (.lst ds)|some (.lent ds)=>aU (.lst ds)|_=>ci:=rfl
@[simp]theorem ZS:HX (a::l) k=match pk (a::l) k with|some (.lst ds)=>aU ds|_=>ci:=rfl
@[simp]theorem abE:cJ (aU k) e ρ=lift (pk ρ k) ρ:=rfl
@[simp]theorem abF:cJ ci e ρ=(e ρ).bind λr ρ=>.ok r.d ρ:=rfl
@[simp]theorem Yq{y:Option Nat}:iG (aU k) e y f ρ=(lift (pk ρ k) ρ).bind λ_ ρ=>(cJ y f ρ).bind λy ρ=>(lift (pk ρ k) ρ).bind λx ρ=>.ok (x,y) ρ:=rfl
@[simp]theorem YF{y:Option Nat}:iG ci e y f ρ=(cJ ci e ρ).bind λx ρ=>(cJ y f ρ).bind λy ρ=>.ok (x,y) ρ:=rfl
@[simp]theorem Ys{es:List D}:eG (.own b ds) (aU (.own b' es))=.own b es:=rfl
@[simp]theorem Zn:eG (.own b ds) (aU (.val b' d))=.val b d:=rfl
@[simp]theorem Mu:eG a ci=a:=by cases a<;>rfl
@[simp]theorem Ho:eG (.val b d) x=.val b d:=by cases x<;>rfl
@[simp]theorem YT:eG .aO x=.aO:=by cases x<;>rfl
@[simp]theorem Af:eG (.lent ds) x=.lent ds:=by cases x<;>rfl
@[simp]theorem aad:cL ρ [k] b_ d=put ρ k (.val a_ d):=rfl
@[simp]theorem Yu{is:List Nat}:cL ρ is a_ (.tup ds)=putAll ρ is ds:=by cases is<;>rfl
@[simp]theorem WK:srcOf ci e ρ=(e ρ).bind λr ρ=>lift (items r.d) ρ:=rfl
@[simp]theorem Vk:srcOf (aU k) e (a::l)=match(a::l)[k]?with|some (.val _ d)=>lift (items d) (a::l)|some (.own _ ds)=>.ok ds ((a::l).set k (.lent ds))|some (.lent ds)=>.ok ds (a::l)|_=>.stuck:=rfl
@[simp]theorem RL{g:List Sl}:aW g ci ρ=ρ:=rfl
@[simp]theorem RW:aW (a::l) (aU k) ρ=match(a::l)[k]?with|some (.own b ds)=>ρ.set k (.own b ds)|_=>ρ:=rfl
@[simp]theorem abl{s:Sl}:put (a::l) k s=match(a::l)[k]?with|some t=>if fr t=b_ then aU ((a::l).set k s)else ci|none=>ci:=Vz ..
@[simp]theorem VL:putAll ρ [] []=aU ρ:=rfl
@[simp]theorem Sy{is:List Nat}:putAll ρ (k::is) (d::ds)=(put ρ k (.val a_ d)).bind λρ=>putAll ρ is ds:=rfl
end
@[simp]theorem at_0{a:Type}{b:a}{l:List a}:at' (b::l) 0=aU b:=by unfold at' ik;rw[if_pos (by decide),if_pos (by simp only[dU];lia)];rfl
@[simp]theorem at_1{a:Type}{e b:a}{l:List a}:at' (e::b::l) 1=aU b:=by unfold at' ik;rw[if_pos (by decide),if_pos (by simp only[dU];lia)];rfl
@[simp]theorem at_2{a:Type}{e f b:a}{l:List a}:at' (e::f::b::l) 2=aU b:=by unfold at' ik;rw[if_pos (by decide),if_pos (by simp only[dU];lia)];rfl
@[simp]theorem at_3{a:Type}{e f g b:a}{l:List a}:at' (e::f::g::b::l) 3=aU b:=by unfold at' ik;rw[if_pos (by decide),if_pos (by simp only[dU];lia)];rfl
@[simp]theorem at_4{a:Type}{e f g h b:a}{l:List a}:at' (e::f::g::h::b::l) 4=aU b:=by unfold at' ik;rw[if_pos (by decide),if_pos (by simp only[dU];lia)];rfl
@[simp]theorem at_5{a:Type}{e f g h i b:a}{l:List a}:at' (e::f::g::h::i::b::l) 5=aU b:=by unfold at' ik;rw[if_pos (by decide),if_pos (by simp only[dU];lia)];rfl
@[simp]theorem at_6{a:Type}{e f g h i j b:a}{l:List a}:at' (e::f::g::h::i::j::b::l) 6=aU b:=by unfold at' ik;rw[if_pos (by decide),if_pos (by simp only[dU];lia)];rfl
@[simp]theorem at_7{a:Type}{e f g h i j k b:a}{l:List a}:at' (e::f::g::h::i::j::k::b::l) 7=aU b:=by unfold at' ik;rw[if_pos (by decide),if_pos (by simp only[dU];lia)];rfl
theorem jQ{a:Type}{l:List a}{i:Int}(h:0<=i)(h':i<l.length):at' l i=l[i.toNat]?:=by unfold at' ik;rw[if_pos h,if_pos h'];rfl
theorem Je{a:Type}{l:List a}{k:Nat}(h':k<l.length):at' l (k:Int)=l[k]?:=by rw[jQ (by lia) (by lia)];simp
@[simp]theorem YM{d:D}:isVar (.con d)=ci:=rfl
@[simp]theorem Yy{o:Op}{p q:P}:isVar (.bin o p q)=ci:=rfl
@[simp]theorem Yz{p:P}:isVar (.neg p)=ci:=rfl
@[simp]theorem YZ{p:P}:isVar (.not p)=ci:=rfl
@[simp]theorem Zv{p q:P}:isVar (.and p q)=ci:=rfl
@[simp]theorem Z3{p q:P}:isVar (.or p q)=ci:=rfl
@[simp]theorem Zi{o:Cm}{p q:P}:isVar (.cmp o p q)=ci:=rfl
@[simp]theorem Sv{o a:Cm}{p q r:P}:isVar (.chain o a p q r)=ci:=rfl
@[simp]theorem Zj{p q r:P}:isVar (.Tu p q r)=ci:=rfl
@[simp]theorem Zr{as:List P}:isVar (.tup as)=ci:=rfl
@[simp]theorem Zd{as:List P}:isVar (.lst as)=ci:=rfl
@[simp]theorem Yx{p q:P}:isVar (.idx p q)=ci:=rfl
@[simp]theorem R8{p q r:P}:isVar (.slice p q r)=ci:=rfl
@[simp]theorem Xd{f:Nat}{as:List P}:isVar (.call f as)=ci:=rfl
@[simp]theorem Ym{b:Blt}{as:List P}:isVar (.blt b as)=ci:=rfl
@[simp]theorem Vh{a:List Ty}{p:P}:isVar (.inst a p)=ci:=rfl
@[simp]theorem VB{p e:P}{n:Nat}{is:List Nat}{one:Bool}{t:Option P}:isVar (.comp p n is one t e)=ci:=rfl
@[simp]theorem Yl{p q:P}:isVar (.xn p q)=ci:=rfl
@[simp]theorem YK{p:P}:isVar (.ZG p)=ci:=rfl
@[simp]theorem Ze{p q:P}:isVar (.zip p q)=ci:=rfl
noncomputable def mC(c:Call)(is:List Nat)(one:Bool)(a:Option P)(b:P)(ds:List D)(ρ:List Sl):Res (List D):=turns is one (o6 c a) (ev c b) ds [] ρ
@[simp]theorem adh{c:Call}{src f:P}{n:Nat}{is:List Nat}{one:Bool}{b:Option P}{ρ:List Sl}:ev c (.comp src n is one b f) ρ=(srcOf (isVar src) (ev c src) ρ).bind λds a=>if ds.length<=lim then(mC c is one b f ds (a++cr n .aO)).bind λxs e=>.ok (.own xs) (aW ρ (isVar src) (e.take a.length))else .stuck:=(rfl)
noncomputable def KH(c:Call)(n:Nat)(t:P)(body:List S)(k:Nat)(ρ:List Sl):Res Fl:=qd (iR (ev c t)) (iM c n body) k ρ
@[simp]theorem agm{c:Call}{n:Nat}{t:P}{body:List S}{ρ:List Sl}:ex c n (.whl t body) ρ=KH c n t body n ρ:=(rfl)
theorem vY{b e h:Type}{x:Res e}{f:e->List Sl->Res b}{g:b->List Sl->Res h}:(x.bind f).bind g=x.bind λa ρ=>(f a ρ).bind g:=by cases x<;>rfl
@[simp]theorem aei{Γ:Tab}{w n i:Nat}{args:List Sl}{b:Type}{f:R->List Sl->Res b}{Q:b->List Sl->Prop}:((run Γ w n i args).bind f).sat Q=(run Γ w n i args).sat λa ρ=>(f a ρ).sat Q:=cC
@[simp]theorem aem{Γ:Tab}{w n i:Nat}{args:List Sl}{b e:Type}{f:R->List Sl->Res b}{g:b->List Sl->Res e}:((run Γ w n i args).bind f).bind g=(run Γ w n i args).bind λa ρ=>(f a ρ).bind g:=vY
@[simp]theorem adg{c:Call}{is:List Nat}{one:Bool}{b:Option P}{e:P}{ds:List D}{ρ:List Sl}{g:Type}{f:List D->List Sl->Res g}{Q:g->List Sl->Prop}:((mC c is one b e ds ρ).bind f).sat Q=(mC c is one b e ds ρ).sat λa ρ=>(f a ρ).sat Q:=cC
@[simp]theorem adK{c:Call}{is:List Nat}{one:Bool}{b:Option P}{e:P}{ds:List D}{ρ:List Sl}{h i:Type}{f:List D->List Sl->Res h}{g:h->List Sl->Res i}:((mC c is one b e ds ρ).bind f).bind g=(mC c is one b e ds ρ).bind λa ρ=>(f a ρ).bind g:=vY
@[simp]theorem afe{is:List Nat}{one:Bool}{b:List Sl->Res Fl}{ds:List D}{ρ:List Sl}{e:Type}{f:Fl->List Sl->Res e}{Q:e->List Sl->Prop}:((jf is one b ds ρ).bind f).sat Q=(jf is one b ds ρ).sat λa ρ=>(f a ρ).sat Q:=cC
@[simp]theorem adq{b e:Type}{p:Prop}[Decidable p]{a:e}{ρ:List Sl}{f:e->List Sl->Res b}{Q:b->List Sl->Prop}:((lift (if p then aU a else ci) ρ).bind f).sat Q=(p/\(f a ρ).sat Q):=by by_cases h:p<;>simp[h,lift,Res.bind]
@[simp]theorem acd{b e h:Type}{p:Prop}[Decidable p]{a:e}{ρ:List Sl}{f:e->List Sl->Res b}{g:b->List Sl->Res h}:((lift (if p then aU a else ci) ρ).bind f).bind g=(lift (if p then aU a else ci) ρ).bind λa ρ=>(f a ρ).bind g:=vY
@[simp]theorem bb_ite{b a:Type}{p:Prop}[Decidable p]{x y:Res a}{f:a->List Sl->Res b}:(if p then x else y).bind f=if p then x.bind f else y.bind f:=by by_cases h:p<;>simp[h]
@[simp]theorem ae2{c:Call}{n k:Nat}{t:P}{b:List S}{ρ:List Sl}{e:Type}{f:Fl->List Sl->Res e}{Q:e->List Sl->Prop}:((KH c n t b k ρ).bind f).sat Q=(KH c n t b k ρ).sat λa ρ=>(f a ρ).sat Q:=cC
@[simp]theorem aeJ{b e:Type}{a:b}{ρ:List Sl}{f:b->List Sl->Res e}:(Res.ok a ρ).bind f=f a ρ:=rfl
@[simp]theorem YD{a b:Type}{f:a->List Sl->Res b}:(Res.stuck:Res a).bind f=.stuck:=rfl
@[simp]theorem abj{b:Type}{a:b}{ρ:List Sl}:lift (aU a) ρ=.ok a ρ:=rfl
@[simp]theorem aam{a:Type}{ρ:List Sl}:lift (ci:Option a) ρ=.stuck:=rfl
noncomputable def HR:List Sl->Nat->Sl->List Sl|[],_,_=>[]|t::ρ,0,s=>eG t (aU s)::ρ|t::ρ,k+1,s=>t::HR ρ k s
theorem qt{k:Nat}{s:Sl}:HR [] k s=[]:=rfl
theorem sI{t:Sl}{ρ:List Sl}{s:Sl}:HR (t::ρ) 0 s=eG t (aU s)::ρ:=rfl
theorem sE{t:Sl}{ρ:List Sl}{k:Nat}{s:Sl}:HR (t::ρ) (k+1) s=t::HR ρ k s:=rfl
noncomputable def bk:List Arg->List Sl->List Sl->List Sl|.fL k::as,s::ss,ρ=>bk as ss (HR ρ k s)|.dat _::as,_::ss,ρ=>bk as ss ρ|.tmp _::as,_::ss,ρ=>bk as ss ρ|_,_,ρ=>ρ
section
variable{t s:Sl}{ρ ss:List Sl}{k:Nat}{as:List Arg}{d:D}{ds:List D}
@[simp]theorem ahZ:HR (t::ρ) 0 s=eG t (aU s)::ρ:=rfl
@[simp]theorem ah8:HR (t::ρ) (k+1) s=t::HR ρ k s:=rfl
@[simp]theorem Wl:bk (.fL k::as) (s::ss) ρ=bk as ss (HR ρ k s):=rfl
@[simp]theorem Xn:bk (.dat d::as) (s::ss) ρ=bk as ss ρ:=rfl
@[simp]theorem Uk:bk (.tmp ds::as) (s::ss) ρ=bk as ss ρ:=rfl
@[simp]theorem aes:bk [] ss ρ=ρ:=rfl
end
theorem Bo{s:Sl}:∀{ρ:List Sl}{k j:Nat},(HR ρ k s)[j]?=(ρ[j]?).map λt=>if j=k then eG t (aU s)else t|[],_,_=>by simp[qt,sI,sE]|t::ρ,0,0=>by simp[qt,sI,sE]|t::ρ,0,j+1=>by simp[qt,sI,sE]|t::ρ,k+1,0=>by simp[qt,sI,sE]|t::ρ,k+1,j+1=>by have:=Bo (s:=s) (ρ:=ρ) (k:=k) (j:=j);simp only[qt,sI,sE,gE,this];congr 1;funext t;simp
theorem yD{as:List Arg}{ss:List Sl}:∀{ρ:List Sl}{i j:Nat},(eZ as ss i ρ)[j]?=(ρ[j]?).map λt=>eG t (aY (i+j) as ss)|[],_,_=>by simp[qY,lH]|t::ρ,i,0=>by simp[qY,lH]|t::ρ,i,j+1=>by have:=yD (as:=as) (ss:=ss) (ρ:=ρ) (i:=i+1) (j:=j);simp only[qY,lH,gE,this];rw[show i+1+j=i+(j+1)by lia]
noncomputable def stb(t:Sl):Prop:=∀x,eG t x=t
noncomputable def Uo(ρ:List Sl):List Arg->Prop|[]=>True|.fL k::as=>(Arg.fL k∈as->∀t,ρ[k]?=aU t->stb t)/\Uo ρ as|_::as=>Uo ρ as
theorem pU{ρ:List Sl}:∀{as:List Arg}{a:List Sl},Uo ρ as->(∀k,Arg.fL k∈as->∀t,a[k]?=aU t->ρ[k]?=aU t\/stb t)->Uo a as
 |[],_,_,_=>trivial|.fL k::as,a,h,g=>⟨λf t ht=>by
  rcases g k (by simp) t ht with e|e;.exact h.1 f t e
  .exact e,pU h.2 λj b=>g j (by simp[b])⟩|.dat _::as,a,h,g=>pU (as:=as) h λj b=>g j (by simp[b])|.tmp _::as,a,h,g=>pU (as:=as) h λj b=>g j (by simp[b])
theorem lV{k:Nat}:∀{as:List Arg}{ss:List Sl},Arg.fL k∉as->aY k as ss=ci|[],_,_=>by unfold aY;rfl|.fL j::as,[],_=>rfl|.dat _::as,[],_=>rfl|.tmp _::as,[],_=>rfl|.fL j::as,s::ss,h=>by simp only[cK,Arg.fL.injEq,not_or]at h;rw[aY,if_neg (λe=>h.1 e.symm),lV h.2]|.dat _::as,s::ss,h=>by simp only[cK,not_or]at h;rw[aY,lV h.2]|.tmp _::as,s::ss,h=>by simp only[cK,not_or]at h;rw[aY,lV h.2]
theorem Du:∀{as:List Arg}{ss ρ:List Sl},Uo ρ as->∀j,(bk as ss ρ)[j]?=(ρ[j]?).map λt=>eG t (aY j as ss)
 |[],ss,ρ,_,j=>by cases ss<;>simp[aY]|.fL k::as,[],ρ,_,j=>by rw[show bk (.fL k::as) [] ρ=ρ from rfl];simp[aY]|.dat d::as,[],ρ,_,j=>by rw[show bk (.dat d::as) [] ρ=ρ from rfl];simp[aY]|.tmp d::as,[],ρ,_,j=>by rw[show bk (.tmp d::as) [] ρ=ρ from rfl];simp[aY]|.dat _::as,s::ss,ρ,h,j=>by rw[Xn,aY];exact Du (as:=as) h j|.tmp _::as,s::ss,ρ,h,j=>by rw[Uk,aY];exact Du (as:=as) h j|.fL k::as,s::ss,ρ,h,j=>by
   have b:Uo (HR ρ k s) as:=pU h.2 λi hi t ht=>by rw[Bo]at ht;cases e:ρ[i]?with|none=>rw[e]at ht;cases ht|some t0=>
      rw[e]at ht;by_cases c:i=k;.subst c;have hs:=h.1 hi t0 e;simp[hs (aU s)]at ht;exact .inl (by rw[ht])
      .simp[c]at ht;exact .inl (by rw[ht])
   rw[Wl,Du b j,Bo,aY];cases e:ρ[j]?with|none=>rfl|some t0=>
     simp only[kH];by_cases c:j=k
     . subst c;rw[if_pos rfl,if_pos rfl];by_cases a:Arg.fL j∈as;.have hs:=h.1 a t0 e;rw[hs (aU s),hs]
       .rw[lV a,Mu]
     .rw[if_neg c,if_neg (λz=>c z.symm)]
theorem gF{ρ:List Sl}{k:Nat}{b:Bool}{ds:List D}(e:ρ[k]?=aU (.own b ds)):∀{as:List Arg}{u:List Nat}{r:List Sl},k∈u->cz ρ as u=aU r->Arg.fL k∉as
 |[],_,_,_,_=>by simp|.dat _::as,u,r,a,h=>by simp only[Bd,BZ,zN,qm,fi]at h;obtain⟨f,h,_⟩:=h;simp[gF e a h]|.tmp _::as,u,r,a,h=>by simp only[Bd,BZ,zN,qm,fi]at h;obtain⟨f,h,_⟩:=h;simp[gF e a h]|.fL i::as,u,r,a,h=>by
   rw[qm]at h;have hi:i≠k:=by rintro rfl;rw[e]at h;simp[a]at h
   have:Arg.fL k∉as:=by
    split at h;.obtain⟨f,h,_⟩:=fi.mp h;exact gF e a h
    . split at h;.cases h
      .obtain⟨f,h,_⟩:=fi.mp h;exact gF e (by simp[a]) h
    . split at h;.cases h
      .obtain⟨f,h,_⟩:=fi.mp h;exact gF e (by simp[a]) h
    .cases h
   simp[this];exact λz=>hi z.symm
theorem gD{ρ:List Sl}:∀{as:List Arg}{u:List Nat}{r:List Sl},cz ρ as u=aU r->Uo ρ as
 |[],_,_,_=>trivial|.dat _::as,u,r,h=>by obtain⟨a,h,_⟩:=fi.mp h;exact gD (as:=as) h|.tmp _::as,u,r,h=>by obtain⟨a,h,_⟩:=fi.mp h;exact gD (as:=as) h|.fL i::as,u,r,h=>by
   rw[qm]at h;split at h;.rename_i b d q;obtain⟨a,h,_⟩:=fi.mp h;exact⟨λ_ t ht=>by rw[q]at ht;cases ht;exact λx=>Ho,gD h⟩
   . rename_i b ds q;split at h;.cases h
     .obtain⟨a,h,_⟩:=fi.mp h;exact⟨λe=>absurd e (gF q (by simp) h),gD h⟩
   . rename_i ds q;split at h;.cases h
     .obtain⟨a,h,_⟩:=fi.mp h;exact⟨λ_ t ht=>by rw[q]at ht;cases ht;exact λx=>Af,gD h⟩
   .cases h
theorem abz{as:List Arg}{ss r:List Sl}{u:List Nat}(h:cz ρ as u=aU r):eZ as ss 0 ρ=bk as ss ρ:=by apply List.ext_getElem?;intro j;rw[yD,Du (gD h),rq]
@[simp]theorem Zh{c:Call}{k:Nat}{as:List Arg}{ρ:List Sl}:rB c k as ρ=match cz ρ as []with|none=>.stuck|some args=>(c k args).bind λr a=>.ok r (bk as a ρ):=by unfold rB;cases e:cz ρ as []with|none=>rfl|some args=>simp only[<-abz (r:=args) e];cases c k args<;>rfl
theorem cg{one:Bool}{a:P}(J:List Sl->Prop)(g:D->D){Q:List D->List Sl->Prop}(j:J ρ)(h:∀d,d∈ds->∀ρ,J ρ->∃b,cL ρ is one d=aU b/\(ev c a b).sat λr e=>g d=r.d/\J e)(k:∀ρ,J ρ->Q (ds.map g) ρ):(mC c is one ci a ds ρ).sat Q:=zF J g j h k
theorem iH{one:Bool}{i t:P}(J:List Sl->Prop)(g:D->Option D){Q:List D->List Sl->Prop}(j:J ρ)(h:∀d,d∈ds->∀ρ,J ρ->∃a,cL ρ is one d=aU a/\(ev c t a).sat λr f=>∃b,r.d=.bl b/\if b=b_ then(ev c i f).sat λr l=>g d=aU r.d/\J l else g d=ci/\J f)(k:∀ρ,J ρ->Q (ds.filterMap g) ρ):(mC c is one (aU t) i ds ρ).sat Q:=jV J g j (λd hd ρ j=>by obtain⟨a,e,h1⟩:=h d hd ρ j;refine⟨a,e,?_⟩;rw[o6,iR,cC];refine h1.imp λr f⟨b,e,q⟩=>?_;rw[e];exact q) λρ j=>by simpa using k ρ j
theorem fP{c:Call}{n:Nat}{t:P}{body:List S}(J:Nat->List Sl->Prop){Q:Fl->List Sl->Prop}(h:∀m ρ,J m ρ->(ev c t ρ).sat λr a=>∃b,r.d=.bl b/\if b=b_ then(iM c n body a).sat (fQ (λf=>∃g,g<m/\J g f) Q)else Q .next a):∀{k m:Nat}{ρ:List Sl},m<k->J m ρ->(KH c n t body k ρ).sat Q|0,m,ρ,i,_=>absurd i (Nat.not_lt_zero _)|k+1,m,ρ,i,j=>by unfold KH;rw[Mt,cC,iR,cC];refine(h m ρ j).imp λr a⟨b,e,q⟩=>?_;rw[e];show(if b=b_ then _ else _:Res Fl).sat Q;cases b with|false=>rw[if_neg (by simp)]at q;rw[if_neg (by simp)];exact q|true=>rw[if_pos rfl]at q;rw[if_pos rfl,cC];refine q.imp λfl f q=>?_;cases fl with|next=>obtain⟨g,l,o⟩:=q;exact fP J h (ef l (Nat.lt_succ_iff.mp i)) o|cont=>obtain⟨g,l,o⟩:=q;exact fP J h (ef l (Nat.lt_succ_iff.mp i)) o|brk=>exact q|ret v=>exact q
@[simp]theorem aif:type_of%@_H.E1:=@_H.E1
@[simp]theorem aiw:type_of%@_H.E2:=@_H.E2
@[simp]theorem aie:type_of%@_H.E3:=@_H.E3
@[simp]theorem aix:type_of%@_H.E4:=@_H.E4
@[simp]theorem ah9:type_of%@_H.E5:=@_H.E5
@[simp]theorem ahT:type_of%@_H.E6:=@_H.E6
@[simp]theorem ahN:type_of%@_H.E7:=@_H.E7
@[simp]theorem ahP:type_of%@_H.E8:=@_H.E8
@[simp]theorem aeN:type_of%@_H.E9:=@_H.E9
@[simp]theorem agN:type_of%@_H.E10:=@_H.E10
@[simp]theorem aeM:type_of%@_H.E11:=@_H.E11
@[simp]theorem agx:type_of%@_H.E12:=@_H.E12
@[simp]theorem afH:type_of%@_H.E13:=@_H.E13
@[simp]theorem age:type_of%@_H.E14:=@_H.E14
@[simp]theorem aey:type_of%@_H.E15:=@_H.E15
@[simp]theorem agn:type_of%@_H.E16:=@_H.E16
@[simp]theorem afP:type_of%@_H.E17:=@_H.E17
@[simp]theorem ady:type_of%@_H.aaI:=@_H.aaI
@[simp]theorem aek:type_of%@_H.E18:=@_H.E18
@[simp]theorem afQ:type_of%@_H.E19:=@_H.E19
@[simp]theorem agH:type_of%@_H.E20:=@_H.E20
@[simp]theorem aeP:type_of%@_H.E21:=@_H.E21
@[simp]theorem afW:type_of%@_H.E22:=@_H.E22
@[simp]theorem ahW:type_of%@_H.X1:=@_H.X1
@[simp]theorem aii:type_of%@_H.X2:=@_H.X2
@[simp]theorem aib:type_of%@_H.X3:=@_H.X3
@[simp]theorem ahY:type_of%@_H.X4:=@_H.X4
@[simp]theorem ah3:type_of%@_H.X5:=@_H.X5
@[simp]theorem aik:type_of%@_H.X6:=@_H.X6
@[simp]theorem aih:type_of%@_H.X7:=@_H.X7
@[simp]theorem ah1:type_of%@_H.X8:=@_H.X8
@[simp]theorem aer:type_of%@_H.X9:=@_H.X9
@[simp]theorem ae9:type_of%@_H.X10:=@_H.X10
@[simp]theorem agz:type_of%@_H.X11:=@_H.X11
@[simp]theorem aeZ:type_of%@_H.X12:=@_H.X12
@[simp]theorem afG:type_of%@_H.X13:=@_H.X13
@[simp]theorem ag1:type_of%@_H.iR.eq_1:=@_H.iR.eq_1
@[simp]theorem agh:type_of%@_H.evs.eq_1:=@_H.evs.eq_1
@[simp]theorem afn:type_of%@_H.evs.eq_2:=@_H.evs.eq_2
@[simp]theorem afN:type_of%@_H.Ce.eq_1:=@_H.Ce.eq_1
@[simp]theorem afg:type_of%@_H.Ce.eq_2:=@_H.Ce.eq_2
@[simp]theorem afD:type_of%@_H.o6.eq_1:=@_H.o6.eq_1
@[simp]theorem agY:type_of%@_H.o6.eq_2:=@_H.o6.eq_2
@[simp]theorem afq:type_of%@_H.oV.eq_1:=@_H.oV.eq_1
@[simp]theorem aal:type_of%@_H.cz.eq_1:=@_H.cz.eq_1
@[simp]theorem abo:type_of%@_H.cz.eq_2:=@_H.cz.eq_2
@[simp]theorem aaE:type_of%@_H.cz.eq_3:=@_H.cz.eq_3
@[simp]theorem abv:type_of%@_H.cz.eq_4:=@_H.cz.eq_4
@[simp]theorem aai:type_of%@_H.eZ.eq_1:=@_H.eZ.eq_1
@[simp]theorem Z1:type_of%@_H.eZ.eq_2:=@_H.eZ.eq_2
@[simp]theorem aaD:type_of%@_H.aY.eq_1:=@_H.aY.eq_1
@[simp]theorem aaQ:type_of%@_H.aY.eq_2:=@_H.aY.eq_2
@[simp]theorem aaN:type_of%@_H.aY.eq_3:=@_H.aY.eq_3
@[simp]theorem aa2:type_of%@_H.aY.eq_4:=@_H.aY.eq_4
end _H
namespace _H
open PySem _L Spec PyProof.Rows
variable{H:Hp}
section
variable{X:Cx}{c:Call}{a b:dy}{pa pb:P}{pos:Pos}
theorem sH:∀{e:List D}{ns:List Int},e.mapM iw=aU ns->e=ns.map D.int|[],ns,h=>by simp at h;subst h;rfl|d::e,ns,h=>by simp[List.mapM_cons,Option.bind_eq_some_iff]at h;obtain⟨i,f,j,g,rfl⟩:=h;rw[dj f,sH g];rfl
theorem jJ{K:PySem.W.Frag}{F:Hp}:∀{ns:List Int}{ys:List V},aG K F ys (ns.map D.int)->ys=ns.map V.int|[],ys,h=>by rw[h.gk];rfl|n::ns,ys,h=>by obtain⟨v,r,rfl,h1,t⟩:=h.cR;rw[Rep]at h1;rw[h1,jJ t];rfl
theorem vC{ns:List Int}{us:List bx}(h:Vals (ns.map V.int) us){i:Nat}{v:bx}(e:us.toArray[i]?=aU v):∃t,v=.int (ns.getD i 0) t:=by
 have e:us[i]?=aU v:=by simpa using e
 have hi:i<us.length:=(dD e).1;have j:=h.length;rw[dV]at j;have g:(ns.map V.int)[i]?=aU (.int (ns.getD i 0)):=by rw[fk,dA (by lia)];simp[kg,show i<ns.length by lia]
 obtain⟨w,f,k⟩:=h.get g;rw[e]at f;cases f;exact k
theorem walked{g:List (cq×Obj)}{σ:_L.St}{s:cn}{p:cq}{ys:List V}(I:_L.Inv X g σ H s)(hc:X.calm=b_)(hq:dO X.K H p ys\/iQ X.K H p ys){Q:bx->cn->Prop}{E:bx->cn->Prop}(k:∀(it:cq)(us:List bx)(e:cn)(St:Nat->eF->Prop),Vals ys us->Walks X.prog X.w X.A.in1 it [it,p] [it] us.toArray.size (λi v=>us.toArray[i]?=aU v) St->St 0 e.heap->(∀ b ∈[it,p],b<e.heap.objs.size)->(∀h' l,(∀b o,b∉[it]->e.heap.get? b=aU o->h'.get? b=aU o)->_L.Inv X g σ H {e with heap:=h',toks:=l})->Q (.ref it) e):cE (cS X.prog X.w) X.A.in1 (rc (.ref p)) Q E s:=by
 have hh:X.A.in1.handled=ci:=I.ok.hd hc;rcases hq with hq|hq
 . obtain⟨us,m,f,hz⟩:=I.list hq;have f:=f.isList;have h:p<s.heap.objs.size:=by obtain⟨o,h1,_⟩:=f;exact dc h1
   refine gT f (k s.heap.objs.size us _ _ m (Walks.list hh s.heap.objs.size p (dE h) us.toArray) ⟨⟨_,cw _ rfl,rfl,rfl⟩,?_⟩ ?_ λh' l kp=>?_);.obtain⟨o,h1,n⟩:=f;exact⟨o,dF h1,n⟩
   . intro b j;obtain⟨o,h1,_⟩:=f;simp at j;rcases j with rfl|rfl;.exact dc (cw _ rfl)
     .exact dc (dF h1)
   .exact I.kept (λb o z=>kp b o (by simp;exact dE (dc z)) (dF z))
 . obtain⟨us,m,f,hz⟩:=I.tuple hq;have h:p<s.heap.objs.size:=by obtain⟨o,h1,_⟩:=f;exact dc h1
   refine fm f (k s.heap.objs.size us _ _ m (Walks.tuple hh s.heap.objs.size p (dE h) us.toArray) ⟨⟨_,cw _ rfl,rfl,rfl⟩,?_⟩ ?_ λh' l kp=>?_);.obtain⟨o,h1,n⟩:=f;exact⟨o,dF h1,n⟩
   . intro b j;obtain⟨o,h1,_⟩:=f;simp at j;rcases j with rfl|rfl;.exact dc (cw _ rfl)
     .exact dc (dF h1)
   .exact I.kept (λb o z=>kp b o (by simp;exact dE (dc z)) (dF z))
theorem oH(ns:List Int):∀k,k<=ns.length->preSum (λi=>ns.getD i 0) k=(ns.take k).sum|0,_=>by simp[preSum]|k+1,h=>by rw[preSum,oH ns k (by lia),List.take_succ,ol];simp[kg,show k<ns.length by lia]
theorem abn(hc:X.calm=b_):fj X (.builtin "sum") (S8 X.K λx=>blt .sum [x]):=by
 rintro g s σ H xs us Q I r⟨x,n,F,d,o,sm,q,he,k⟩;obtain⟨ns,t,he⟩:=map_some (show((items d).bind λh=>h.mapM iw).map _=aU o from he);subst he;obtain⟨h,w,y⟩:=cG t;obtain⟨p,ys,rfl,z,j⟩:=q.items sm w;rw[sH y]at j;have A:=jJ j;subst n;obtain⟨u,rfl,B⟩:=r.one;cases B;refine call_sum_walkG (walked I hc z λit us l St m W h0 C kp=>?_);subst A;have f:us.toArray.size=ns.length:=by rw[cy,<-m.length,dV]
 refine⟨it,_,_,_,_,St,λi=>ns.getD i 0,rfl,W,h0,C,λi v e=>vC m e,λh' E t' G=>?_⟩;rw[f,oH ns _ (cN),List.take_length];exact⟨.int _,H,kp h' E G,⟨t',rfl⟩,cH.dg sm (cj _) k⟩
theorem KQ{ns:List Int}{m:Int}(k:ns.min?=aU m):ns.getD (argBest (λi j=>decide (ns.getD i 0<ns.getD j 0)) (ns.length-1)) 0=m:=by
 have h:ns≠[]:=by rintro rfl;simp at k
 have r:0<ns.length:=List.length_pos_iff.mpr h;obtain⟨h1,n⟩:=argBest_lt (λi=>ns.getD i 0) (ns.length-1);have l:=oC.mp k;generalize argBest (λi j=>decide (ns.getD i 0<ns.getD j 0)) (ns.length-1)=j at*;have o:j<ns.length:=by lia
 have f:ns.getD j 0∈ns:=by simp[kg,o]
 obtain⟨q,p,e⟩:=ly l.1;have g:=n q (by lia);simp only[kg,dA p,Option.getD_some]at g;rw[e]at g;have s:=l.2 _ f;have g:ns.getD j 0<=m:=g;lia
theorem Ui(hc:X.calm=b_):fj X (.builtin "min") (S8 X.K λx=>blt .Cj [x]):=by
 rintro j s σ H xs us Q I r⟨x,y,F,d,z,sm,A,he,k⟩;obtain⟨ns,B,he⟩:=cG (show((items d).bind λl=>l.mapM iw).bind _=aU z from he);obtain⟨m,n,he⟩:=map_some he;subst he;obtain⟨l,C,E⟩:=cG B;obtain⟨p,ys,rfl,G,o⟩:=A.items sm C;rw[sH E]at o;have J:=jJ o;subst y;obtain⟨u,rfl,L⟩:=r.one;cases L;refine call_min_walk (walked I hc G λit us q St h W h0 M kp=>?_);subst J;have f:us.toArray.size=ns.length:=by rw[cy,<-h.length,dV]
 have g:0<ns.length:=by cases ns with|nil=>simp at n|cons _ _=>simp
 refine⟨it,_,_,_,_,St,_,rfl,W,h0,M,by rw[f];exact g,CmpOf.ints_lt (λi=>ns.getD i 0) (λi v e=>vC h e),λv h' N w O=>?_⟩;rw[f]at w;obtain⟨t,rfl⟩:=vC h w;rw[KQ n];exact⟨.int _,H,kp h' N O,⟨t,rfl⟩,cH.dg sm (cj _) k⟩
theorem boot_sum:eH "sum"=aU (.builtin "sum"):=by decide+kernel
theorem lD{x:Str}{e:Pos}(f:x="sum")(hc:X.calm=b_)(g:Gl X x)(i:X.mg x=ci)(j:SX X c a pa)(hs:cx [a] X.env=(a_,eA a X.env)::cx [] X.env:=by rfl):SX X c (.Call (.Name x e) [a] [] pos) (.blt .sum [pa]):=by subst f;exact rZ (λh=>fM (abn hc) g i boot_sum h (he:=hs)) j (λρ=>rfl) rfl hs
theorem wL{x:Str}{e:Pos}(f:x="min")(hc:X.calm=b_)(g:Gl X x)(i:X.mg x=ci)(j:SX X c a pa)(hs:cx [a] X.env=(a_,eA a X.env)::cx [] X.env:=by rfl):SX X c (.Call (.Name x e) [a] [] pos) (.blt .Cj [pa]):=by subst f;exact rZ (λh=>fM (Ui hc) g i boot_min h (he:=hs)) j (λρ=>rfl) rfl hs
theorem Jg{K:PySem.W.Frag}{F H:Hp}{v:V}{d:D}(h:dG K F H v d)(f:flat d=b_):km v=b_:=by cases d with|non=>rw[h.non];rfl|bl _=>rw[h.bl];rfl|int _=>rw[h.int];rfl|str _=>rw[h.str];rfl|tup _=>cases f|lst _=>cases f|dH _=>cases f|dv _ _=>cases f
theorem afs{K:PySem.W.Frag}{F H:Hp}{v u:V}{d e:D}(h:dG K F H v d)(h':dG K F H u e)(f:flat d=b_)(g:flat e=b_):Qo v u=jW d e:=by cases d with
 |tup _=>cases f|lst _=>cases f|dH _=>cases f|dv _ _=>cases f|non=>rw[h.non];cases e with|tup _=>cases g|lst _=>cases g|dH _=>cases g|dv _ _=>cases g|non=>rw[h'.non];rfl|bl _=>rw[h'.bl];rfl|int _=>rw[h'.int];rfl|str _=>rw[h'.str];rfl
 |bl _=>rw[h.bl];cases e with|tup _=>cases g|lst _=>cases g|dH _=>cases g|dv _ _=>cases g|non=>rw[h'.non];rfl|bl _=>rw[h'.bl];rfl|int _=>rw[h'.int];rfl|str _=>rw[h'.str];rfl
 |int _=>rw[h.int];cases e with|tup _=>cases g|lst _=>cases g|dH _=>cases g|dv _ _=>cases g|non=>rw[h'.non];rfl|bl _=>rw[h'.bl];rfl|int _=>rw[h'.int];rfl|str _=>rw[h'.str];rfl
 |str _=>rw[h.str];cases e with|tup _=>cases g|lst _=>cases g|dH _=>cases g|dv _ _=>cases g|non=>rw[h'.non];rfl|bl _=>rw[h'.bl];rfl|int _=>rw[h'.int];rfl|str _=>rw[h'.str];rfl
theorem abk{K:PySem.W.Frag}{F H:Hp}{v:V}{d:D}(h:dG K F H v d)(f:flat d=b_):∀{i:List D}{vs:List V},aG K F vs i->i.all flat=b_->vs.all km=b_/\inV v vs=i.any λy=>jW y d|[],vs,r,_=>by rw[r.gk];exact⟨rfl,rfl⟩|e::i,vs,r,g=>by obtain⟨w,ws,rfl,h1,t⟩:=r.cR;rw[kS,eW]at g;obtain⟨k,j⟩:=abk h f t g.2;have q:dG K F H w e:=.inl h1;refine⟨by rw[kS,Jg q g.1,k];rfl,?_⟩;unfold inV at j ⊢;rw[kc,kc,j,afs q h g.1 f]
theorem Pk:fY X (dY .In) (rD X.K (oV .inn)):=by rintro f s σ H x y v u Q I i j⟨F,d,e,r,sm,h,l,he,k⟩;obtain⟨t,m,n⟩:=map_some (show(Jx a_ d e).map _=aU r from he);subst n;obtain⟨E,o,q⟩:=cG m;obtain⟨g,w⟩:=bI q;rw[eW]at g;obtain⟨p,xs,rfl,z,A⟩:=l.items sm o;obtain⟨B,C⟩:=abk h g.1 A g.2;subst w;refine Gr f s σ H x _ v u Q I i j ⟨p,xs,rfl,z,Jg h g.1,B,?_⟩;rw[C];exact cH.dg sm (gK _) k
end
end _H
namespace _H
open PySem
section
variable{i j:Int}{ds es:List D}{d:D}{b b':Bool}
@[simp]theorem aci:tQ .shl=JZ:=rfl
@[simp]theorem ac1:tQ .shr=Ma:=rfl
@[simp]theorem Z7:tQ .band=Ay:=rfl
@[simp]theorem Yg:JZ (.int i) (.int j)=if 0<=j/\j<=1000/\i.natAbs<18446744073709551616 then aU (.val (.int (i*2^j.toNat)))else ci:=rfl
@[simp]theorem YQ:Ma (.int i) (.int j)=if 0<=j then aU (.val (.int (i/2^j.toNat)))else ci:=rfl
@[simp]theorem T5:Ay (.int i) (.int j)=aU (.val (.int (Builtin.bitAnd i j))):=rfl
@[simp]theorem Zt:mQ (.lst ds) (.int i)=if 0<=i/\0<ds.length/\ds.length*i.toNat<=lim then aU (.own (cr i.toNat ds).flatten)else ci:=rfl
@[simp]theorem Y4:mQ (.tup ds) (.int i)=if 0<=i/\0<ds.length/\ds.length*i.toNat<=lim then aU (.val (.tup (cr i.toNat ds).flatten))else ci:=rfl
@[simp]theorem agk:cm .isT (.bl b) (.bl b_)=aU b:=rfl
@[simp]theorem ade:cm .abN (.bl b) (.bl b_)=aU (!b):=rfl
@[simp]theorem acj:blt .sum [.lst ds]=(ds.mapM iw).map λns=>.val (.int ns.sum):=rfl
@[simp]theorem abh:blt .Cj [.lst ds]=(ds.mapM iw).bind λns=>ns.min?.map λi=>.val (.int i):=rfl
end
@[simp]theorem agZ:type_of%@_H.X15:=@_H.X15
@[simp]theorem afu:type_of%@_H.X16:=@_H.X16
theorem fV{ns:List Int}:(ns.map D.int).mapM iw=aU ns:=by induction ns with|nil=>rfl|cons n ns a=>simp[a]
@[simp]theorem Zx{ns:List Int}:ns.mapM (iw ∘ D.int)=aU ns:=by rw[<-fV (ns:=ns),List.mapM_map]
@[simp]theorem JV{bs:List Bool}:bs.mapM (zE ∘ D.bl)=aU bs:=by induction bs with|nil=>rfl|cons b bs a=>simp[a]
theorem Og{S:List Int}{i:Int}:((S.map D.int).any λy=>jW y (.int i))=S.contains i:=by induction S with|nil=>rfl|cons s S a=>rw[c_,kc,List.contains_cons,a,pqi];rw[show(s==i)=(i==s)from Bool.eq_iff_iff.mpr ⟨λh=>by simp at h ⊢;exact h.symm,λh=>by simp at h ⊢;exact h.symm⟩]
theorem Ld{S:List Int}:(S.map D.int).all flat=b_:=by rw[gc];intro d hd;obtain⟨i,_,rfl⟩:=da.mp hd;rfl
theorem Vr{S:List Int}{i:Int}:cm .inn (.int i) (.lst (S.map D.int))=aU (S.contains i):=by show Jx a_ _ _=_;unfold Jx;simp only[Hb,bind_some,Js,Ld,Bool.and_true,Og];rfl
theorem pL{n:Nat}{S:List Int}:jj (n+1) (.lst (S.map D.int))=b_:=by rw[bN,gc];intro d hd;obtain⟨i,_,rfl⟩:=da.mp hd;cases n<;>rfl
theorem p8:∀{S T:List Int},j9 (S.map D.int) (T.map D.int)=(S==T)|[],[]=>by simp[lE,jc,rN,rG]|[],_::_=>by simp[lE,jc,rN,rG]|_::_,[]=>by simp[lE,jc,rN,rG]|s::S,t::T=>by rw[c_,c_,jc,p8,pqi];rfl
theorem adv{S T:List Int}:cm .eq (.lst (S.map D.int)) (.lst (T.map D.int))=aU (S==T):=by show Ks _ _=_;unfold Ks;rw[pL,pL,pql,p8];rfl
theorem adl{S T:List Int}:cm .ne (.lst (S.map D.int)) (.lst (T.map D.int))=aU (!(S==T)):=by show Ie _ _=_;unfold Ie;rw[pL,pL,pql,p8];rfl
theorem Qe{a:Type}{l:List a}{x:a}:at' (l++[x]) (-1)=aU x:=by
 unfold at' ik;rw[if_neg (by decide),if_pos (by simp only[ek,iX];lia)];have:(-1+((l++[x]).length:Int)).toNat=l.length:=by simp only[ek,iX];lia
 rw[this];simp
theorem cY{a:Type}{l:List a}{f:a->D}{k:Nat}{x:a}(h:l[k]?=aU x):at' (l.map f) (k:Int)=aU (f x):=by have b:=(dD h).1;rw[Je (by simpa using b),fk,h];rfl
theorem J0{n k:Nat}(h:k<n):ik n (k:Int)=aU k:=by unfold ik;rw[if_pos (by lia),if_pos (by lia)];simp
theorem mL{is:List Nat}{one:Bool}{body:List Sl->Res Fl}{g:Nat->D}{N:Nat}(J:Nat->List Sl->Prop){Q:Fl->List Sl->Prop}(c:∀i ρ,i<N->J i ρ->∃a,cL ρ is one (g i)=aU a/\(body a).sat (fQ (J (i+1)) Q))(f:∀ρ,J N ρ->Q .next ρ){ρ:List Sl}(h0:J 0 ρ):(jf is one body ((dS N).map g) ρ).sat Q:=by
 refine bw (λr ρ=>∃i,i<=N/\r=((dS N).map g).drop i/\J i ρ) ?_ ?_ ⟨0,tU,rfl,h0⟩
 . rintro d r ρ⟨i,hi,e,j⟩;have b:i<N:=by
    rcases Nat.lt_or_ge i N with h|h;.exact h
    .rw[List.drop_eq_nil_of_le (by simpa using h)]at e;cases e
   rw[fN (by simpa using b)]at e;injection e with e1 e2;simp at e1;subst e1;obtain⟨a,h1,k⟩:=c i ρ b j;refine⟨a,h1,k.imp λfl l q=>?_⟩;cases fl with|next=>exact⟨i+1,b,e2,q⟩|cont=>exact⟨i+1,b,e2,q⟩|brk=>exact q|ret v=>exact q
 . rintro ρ⟨i,hi,e,j⟩;have:i=N:=by have m:=congrArg kX e;simp at m;lia
   subst this;exact f ρ j
theorem Gi{c:Call}{is:List Nat}{one:Bool}{f:P}(J:List Sl->Prop)(P:D->Prop){Q:List D->List Sl->Prop}{i:List D}{ρ:List Sl}(j:J ρ)(h:∀d,d∈i->∀ρ,J ρ->∃a,cL ρ is one d=aU a/\(ev c f a).sat λr g=>P r.d/\J g)(k:∀xs ρ,J ρ->xs.length=i.length->(∀x∈xs,P x)->Q xs ρ):(mC c is one ci f i ρ).sat Q:=by suffices hh:∀(i:List D)(b:List D)(ρ:List Sl),J ρ->(∀x∈b,P x)->(∀d,d∈i->∀ρ,J ρ->∃a,cL ρ is one d=aU a/\(ev c f a).sat λr g=>P r.d/\J g)->(turns is one (o6 c ci) (ev c f) i b ρ).sat λxs ρ=>J ρ/\(∀x∈xs,P x)/\xs.length=b.length+i.length from(hh i [] ρ j (by simp) h).imp λxs ρ⟨l,q2,q3⟩=>k xs ρ l (by simpa using q3) q2;intro i;induction i with|nil=>intro b ρ j m _;rw[Bs];exact⟨j,m,by simp⟩|cons d r o=>
   intro b ρ j m h;obtain⟨a,e,h1⟩:=h d (by simp) ρ j;rw[Aj,e];show((o6 c ci a).bind _).sat _;rw[o6];show((ev c f a).bind _).sat _;rw[cC];refine h1.imp λx g⟨p,j3⟩=>?_;refine(o (b++[x.d]) g j3 (λy hy=>?_) λd' n=>h d' (by simp[n])).imp λxs ρ⟨l,q2,q3⟩=>⟨l,q2,by simp at q3 ⊢;lia⟩;rcases eS.mp hy with hy|hy;.exact m y hy
   .rw[dP.mp hy];exact p
inductive A3(a b c:Prop):Prop where|mk(ha:a)(hb:b)(hc:c)
inductive A4(a b c d:Prop):Prop where|mk(ha:a)(hb:b)(hc:c)(hd:d)
inductive A5(a b c d e:Prop):Prop where|mk(ha:a)(hb:b)(hc:c)(hd:d)(he:e)
inductive A6(a b c d e f:Prop):Prop where|mk(ha:a)(hb:b)(hc:c)(hd:d)(he:e)(hf:f)
inductive A7(a b c d e f g:Prop):Prop where|mk(ha:a)(hb:b)(hc:c)(hd:d)(he:e)(hf:f)(hg:g)
inductive A8(a b c d e f g h:Prop):Prop where|mk(ha:a)(hb:b)(hc:c)(hd:d)(he:e)(hf:f)(hg:g)(hh:h)
inductive A9(a b c d e f g h i:Prop):Prop where|mk(ha:a)(hb:b)(hc:c)(hd:d)(he:e)(hf:f)(hg:g)(hh:h)(hi:i)
end _H
namespace _U
open PySem Spec PyProof.Rows
section
variable{prog:df}{w:er}{A:ew}{E:bx->cn->Prop}{s:cn}
theorem yp{t sl:cq}{a:Array bx}{f g:bx}{lo hi:Option Int}{Q:bx->cn->Prop}(ht:qo s.heap t a)(hs:s.heap.IsSliceOf sl f g .none)(i:lS f lo)(j:lS g hi)(h1:dM a.size 0 lo=0)(k:dM a.size a.size hi=a.size)(h:Q (.ref t) s):cE (cS prog w) A (ku (.ref t) (.ref sl)) Q E s:=by
 obtain⟨os,b,c,l⟩:=id hs;have m:s.TypeIs (.ref sl) "slice":=⟨os,b,c⟩;unfold ku;try with_reducible refine im ?_
 first|refine bdq (cv ?_)|skip
 refine bdq (wpAny_sequenceKey ht.typeIs (by decide) (bdq (fR (name:=iO "__getitem__") ht.typeIs slot_tuple_getitem (hQ slot_tuple_getitem ht.typeIs entry_tuple_getitem ?_ (args_tuple_getitem _ _)))));show cE _ _ (tupleItemsOf (.ref t)>>=_) _ _ s;refine bdq (tupleItemsOf_ ht (bdq (k7 m ?_)));rw[if_pos (by decide)];refine bdq (iI hs i j ?_);have e:((((dM a.size 0 lo:Nat):Int)==0&&(1:Int)==1&&(dM a.size a.size hi-dM a.size 0 lo)==a.size)=b_):=by rw[h1,k];simp
 show cE _ _ (if(((dM a.size 0 lo:Nat):Int)==0&&(1:Int)==1&&(dM a.size a.size hi-dM a.size 0 lo)==a.size)=b_ then _ else _) _ _ s;rw[if_pos e];unfold Builtin.Tuple.tupleIsExact;refine bdq (bdq (k7 ht.typeIs (cv ?_)));rw[if_pos (by decide)];exact bdq (kC (cv ⟨_,rfl,cv h⟩))
end
end _U
namespace _H
open PySem _L Spec PyProof.Rows
noncomputable def nst:dy->Bool|.Starred _ _=>a_|_=>b_
theorem iZ{e:dy}{es:List dy}{env:Env}(h:nst e=b_):cx (e::es) env=(a_,eA e env)::cx es env:=by cases e with|Starred a b=>cases h|_=>rw[cx];(intro e p z;cases z)
noncomputable def rA:List Int->List dy->Option (List dy)|[],es=>aU es|i::is,.Constant (.int j) _ _::es=>if i=j then rA is es else ci|_,_=>ci
theorem lW{X:_L.Cx}{c:Call}:∀(is:List Int){es a:List dy}{b:List P},rA is es=aU a->SA X c a b->SA X c es (is.map (λi=>P.con (.int i))++b)|[],es,a,b,h,r=>by cases h;exact r|i::is,[],a,b,h,r=>by cases h|i::is,e::es,a,b,h,r=>by cases e with
   |Constant v k p=>cases v with
     |int j=>
       replace h:(if i=j then rA is es else ci)=aU a:=h;split at h;.rename_i f;subst f;exact Ew aa (lW is h r) (iZ rfl)
       .cases h|_=>cases h
   |_=>cases h
theorem vP{n d:Nat}{o:Option Int}:_U.dM n d o=_H.dM n d o:=by cases o with|none=>rfl|some v=>
   show(if v<0 then(v+(n:Int)).toNat else min v.toNat n)=(if 0<=v then min v.toNat n else(v+n).toNat);by_cases h:0<=v;.rw[if_pos h,if_neg (by lia)]
   .rw[if_neg h,if_pos (by lia)]
theorem K3{xs:List V}{lo hi:Option Int}:yx xs lo hi=_H.cut xs lo hi:=by unfold yx _H.cut;rw[vP,vP]
theorem aG.cut{K:PySem.W.Frag}{F:Hp}{a:List D}{vs:List V}{lo hi:Option Int}(h:aG K F vs a):aG K F (_H.cut vs lo hi) (_H.cut a lo hi):=by unfold _H.cut;rw[h.length];exact(h.drop _).take _
section
variable{X:Cx}{c:Call}{n:Nat}{e a b:dy}{p pa pb pl ph:P}{pos p2:Pos}{lo hi:Option dy}
noncomputable def aeg(K:PySem.W.Frag):V->Option Int->Option Int->Hp->VK->Prop:=λx lo hi H Q=>∃F d r,aH F H/\dG K F H x d/\Ob d (aU lo) (aU hi)=aU r/\∀v g f,Ext F H g f->cH K g f H v r->Q v f
theorem abA:SlR X (aeg X.K):=by
 rintro f s σ H x v u w lo hi sl Q I l hs pl m⟨F,d,r,sm,y,he,k⟩;cases d with|lst o=>cases he;obtain⟨a,xs,rfl,j,h⟩:=y.lst sm;refine P0 f s σ H _ v u w lo hi sl Q I l hs pl m ⟨a,xs,rfl,j,λp q=>?_⟩;rw[K3];exact xH sm h.cut q k|tup o=>
   cases he;obtain⟨a,xs,rfl,j,h,rt⟩:=y.tup sm;by_cases i:_U.dM xs.length 0 lo=0/\_U.dM xs.length xs.length hi=xs.length
   . cases l;obtain⟨t,z,ht,hz⟩:=I.tuple j;have g:t.toArray.size=xs.length:=by rw[cy];exact z.length.symm
     refine⟨"tuple",_,slot_tuple_getitem.lookup,ht.typeIs,_U.yp ht hs pl m (by rw[g];exact i.1) (by rw[g];exact i.2) ⟨.ref a,H,I,rfl,?_⟩⟩;have hc:_H.cut o lo hi=o:=by unfold _H.cut;rw[<-h.length,<-vP,<-vP,i.1,i.2];simp[h.length]
     rw[hc]at k;exact cH.dg sm rt k
   .refine Vu f s σ H _ v u w lo hi sl Q I l hs pl m ⟨a,xs,rfl,j,i,λp q=>?_⟩;rw[K3];exact BJ sm h.cut q k|_=>cases he
noncomputable def SO(X:Cx)(c:Call)(o:Option dy)(p:P):Prop:=∃t,PO X o t/\∀{σ:_L.St}{H F:Hp}{ρ f:List Sl}{d:D}{i:Option Int}{Q:Option Int->Hp->Prop},GS X.K F ρ σ H->cJ (isVar p) (_H.ev c p) ρ=.ok d f->part p d=aU i->(∀h g,az X.K F ρ σ H h f σ g->Q i g)->t σ H Q
theorem vM:SO X c ci (.con .non):=by refine⟨_,Qt,λ{σ H F ρ f d i Q}g e h k=>?_⟩;cases(show aU ci=aU i from h);have j:(_H.ev c (.con .non) ρ).bind (λr ρ=>.ok r.d ρ)=.ok d f:=e;clear e;rw[_H.E2]at j;cases j;exact k F H (.refl g)
theorem wH(h:SX X c e p)(l:Jh p=a_:=by rfl):SO X c (aU e) p:=by obtain⟨t,h1,m⟩:=h.cJ;refine⟨_,Pb h1,λ{σ H F ρ o d i Q}g e f k=>?_⟩;unfold part at f;rw[l,if_neg (by decide)]at f;obtain⟨j,q,r⟩:=map_some f;cases dj q;subst r;exact m g e λv u w s x=>⟨j,x.int,k u w s⟩
theorem xr{d:D}{x y:Option (Option Int)}{r:R}(h:Ob d x y=aU r):∃lo hi,x=aU lo/\y=aU hi:=by cases x with|none=>cases d<;>cases h|some lo=>cases y with|none=>cases d<;>cases h|some hi=>exact⟨lo,hi,rfl,rfl⟩
theorem rF(Z:SX X c a pa)(hl:SO X c lo pl)(hh:SO X c hi ph):SX X c (.Subscript a (.Slice lo hi ci p2) pos) (.slice pa pl ph):=by obtain⟨tl,l1,l2⟩:=hl;obtain⟨th,h1,h2⟩:=hh;cases hv:isVar pa with|none=>refine⟨eU (yw abA Z.ev l1 h1) ?_,λi h=>by cases h⟩;rintro σ H Q⟨F,ρ,r,B,g,e,k⟩;rw[_H.E14,hv]at e;obtain⟨x,C,f,j⟩:=ak e;clear e;have l:(_H.ev c pa ρ).bind (λr ρ=>.ok r.d ρ)=.ok x C:=f;clear f;obtain⟨rx,ac,e1,E⟩:=ak l;clear l;cases E;obtain⟨y,G,I,m⟩:=ak j;clear j;obtain⟨z,J,L,o⟩:=ak m;clear m;obtain⟨e,M⟩:=aC o;clear o;subst M;obtain⟨N,O,q,s⟩:=xr e;rw[q,s]at e;refine⟨F,ρ,rx,_,g,e1,λv F1 H1 s1 rr=>?_⟩;obtain⟨F2,s2,_,rp⟩:=s1.dB rr;refine l2 s2.gs I q λF3 H3 s3=>h2 s3.gs L s λF4 H4 s4=>?_;have s5:=s2.trans (s3.trans s4);refine⟨F4,_,r,s4.gs.sub,.inl ((rp.mono s3.cB).mono s4.cB),e,λv U W x Y=>?_⟩;exact k v U W (s5.trans (x.stp s5.gs)) (.later s5 (Y.nu s5.gs))|some i=>refine⟨eU (yw abA (Z.var i hv) l1 h1) ?_,λi h=>by cases h⟩;rintro σ H Q⟨F,ρ,r,B,g,e,k⟩;rw[_H.E14,hv]at e;obtain⟨x0,ae,t,j⟩:=ak e;clear e;obtain⟨E,Hz⟩:=aC t;clear t;subst Hz;obtain⟨y,G,I,m⟩:=ak j;clear j;obtain⟨z,J,L,o⟩:=ak m;clear m;obtain⟨x,af,u,ed⟩:=ak o;clear o;obtain⟨e5,e6⟩:=aC u;clear u;subst e6;obtain⟨e,M⟩:=aC ed;clear ed;subst M;obtain⟨N,O,q,s⟩:=xr e;rw[q,s]at e;obtain⟨v,w,_⟩:=g.pk E;refine⟨v,w,l2 g I q λF3 H3 s3=>h2 s3.gs L s λF4 H4 s4=>?_⟩;have s5:=s3.trans s4;obtain⟨v',A,pv⟩:=s5.gs.pk e5;rw[w]at A;cases A;refine⟨F4,_,r,s4.gs.sub,pv,e,λv U W x Y=>?_⟩;exact k v U W (s5.trans (x.stp s5.gs)) (.later s5 (Y.nu s5.gs))
theorem JN{i:Nat}{x:Str}{t:Pos}{op:lP}{sub:Bool}(ho:R4 X op (Yd λi j=>if sub then i-j else i+j))(w:X.N.Nodup)(hi:X.N[i]?=aU x)(y:Loc X.env.scope x)(he:SX X c e p)(z:X.fn x=b_\/X.env.scope.names.lookup x=aU .local:=by first|(left;rfl)|(right;rfl)|assumption):SS X c n (.AugAssign (.Name x t) op e pos) (.aug i sub p):=by
 obtain⟨te,h1,A⟩:=he.cJ;refine eN (T7 w hi y h1 ho z) ?_;rintro D σ H⟨F,ρ,fl,B,g,e,k⟩;rw[_H.X15]at e;obtain⟨a0,C,f,s⟩:=ak e;clear e;obtain⟨E,G⟩:=aC f;clear f;subst G;obtain⟨b0,I,J,o⟩:=ak s;clear s;obtain⟨v,q,L⟩:=g.pk E;refine⟨v,q,A g J λu F1 M s1 O=>?_⟩;split at o;.rename_i h l;obtain⟨Q,U,m,W⟩:=ak o;clear o;cases W;obtain⟨Y,e3⟩:=aC m;clear m;have Z:Rep X.K F1 (.int (if sub then h-l else h+l)) (.int (if sub then h-l else h+l)):=cj _;exact⟨h,l,L.int,O.int,k F1 _ M (az.put (r:=.val (.int _)) s1 Z Y)⟩
 .cases o
theorem Qz:R4 X .Add (Yd λi j=>if a_ then i-j else i+j):=Xl
theorem wD:R4 X .Sub (Yd λi j=>if b_ then i-j else i+j):=WY
end
end _H
namespace _L
open PySem Spec PyProof.Rows
section
variable{X:Cx}{tg:dy}
theorem yf:eH "tuple"=aU (.type "tuple"):=by decide+kernel
theorem jo:eH "reversed"=aU (.type "reversed"):=by decide+kernel
end
end _L
namespace _H
open PySem _L Spec PyProof.Rows
section
variable{K:PySem.W.Frag}{F F1 H H1:Hp}{ρ ρ1:List Sl}{σ:_L.St}{ds:List D}{a:cq}
theorem aG.rev:∀{ds:List D}{xs:List V},aG K F xs ds->aG K F xs.reverse ds.reverse|[],_,h=>by rw[h.gk];exact .nil|d::ds,_,h=>by obtain⟨v,r,rfl,h1,b⟩:=h.cR;rw[ko,ko];exact(aG.rev b).append (.cons h1 .nil)
end
section
variable{X:Cx}{c:Call}{a b d:dy}{pa pb pd:P}{pos:Pos}
theorem Ka{o p:Cm}{op j:nV}(ho:fY X (dY op) (rD X.K (oV o)))(y:fY X (dY j) (rD X.K (oV p)))(B:SX X c a pa)(C:SX X c b pb)(hd:SX X c d pd)(E:lastMarks [op,j] [b,d]=a_:=by with_unfolding_all rfl):ST X c (.Compare a [op,j] [b,d] pos) (.chain o p pa pb pd):=by
 obtain⟨G,I,h1,J,L⟩:=B.iG C;obtain⟨M,N,O⟩:=hd.cJ;refine uQ (Lb ho y h1 J N E) λσ H Q q=>nP (t:=Kq (rD X.K (oV o)) (rD X.K (oV p)) G I M) (λQ z=>?_) q;obtain⟨F,ρ,r,U,g,e,k⟩:=z;rw[_H.E9]at e;obtain⟨l,W,Y,e⟩:=ak e;obtain⟨t,Z,i,e⟩:=ak e;have zz:=aC i;clear i;obtain⟨i,A⟩:=zz;subst A;have f:flat l.2=b_/\cm o l.1 l.2=aU t:=by
  split at i;.rename_i hf;exact⟨hf,i⟩
  .cases i
 obtain⟨f,i⟩:=f;refine L g Y λv u F' H' s pv n=>⟨F',l.1,l.2,.val (.bl t),s.gs.sub,pv,n,by unfold oV;rw[i];rfl,λw F2 H2 x m=>?_⟩;have s2:=s.trans (x.stp s.gs);have m:Rep X.K F2 w (.bl t):=m;rw[Rep]at m;subst m;refine⟨t,rfl,?_⟩;cases t with|false=>rw[if_neg de]at e ⊢;cases e;exact k _ F2 H2 s2 (show Rep X.K F2 _ _ from gK _)|true=>
   rw[if_pos rfl]at e ⊢;obtain⟨z,ac,A,e⟩:=ak e;obtain⟨e4,e5⟩:=aC e;subst e5;refine O s2.gs A λw F3 H3 s3 pw=>⟨F3,l.2,z,r,s3.gs.sub,?_,pw,e4,λw' F4 H4 x4 m=>?_⟩
   . have x1:=x.fs;have x2:=s3.cB;rcases n with n|⟨_,_,_,_,_,_,h⟩;.exact .inl ((n.mono x1).mono x2)
     .rw[h]at f;cases f
   .have s4:=s2.trans s3;exact k w' F4 H4 (s4.trans (x4.stp s4.gs)) (.later s4 (m.nu s4.gs))
end
end _H
namespace _L
open PySem Spec PyProof.Rows
theorem xQ:eH "list"=aU (.type "list"):=by decide+kernel
end _L
namespace PySem
namespace F
theorem Jc:oj (.type "list_reverseiterator") "__len__"=fg ci:=by rw[typeLookup_type,ro];kernel_rfl
theorem Pn:oj (.type "list_reverseiterator") "__length_hint__"=fg (aU (.builtin "list_reverseiterator.__length_hint__")):=by rw[typeLookup_type,ro];kernel_rfl
end F
section
variable{prog:df}{w:er}{A:ew}{E:bx->cn->Prop}{s:cn}
theorem pC{it l:cq}{items:Array bx}{Q:Bool->cn->Prop}(e:s.heap.IsRevIter it l ((items.size:Int)-1))(m:s.heap.IsList l items)(i:items.size<=2^24)(h:∀b j,s.toks<=j->Q b {s with toks:=j}):cE (cS prog w) A (listLengthHint (.ref it)) Q E s:=by
 have f:=e.typeIs;unfold listLengthHint;refine bdq (n1 f F.Jc ?_);show cE _ _ (specialOf (ec it) (iO "__length_hint__")>>=_) _ _ _;refine bdq (n1 f F.Pn ?_);generalize a:("list_reverseiterator.__length_hint__":String)=c;(fail_if_success(clear a c));wp_delta;rw[show splitId c=aU ("list_reverseiterator","__length_hint__")from by subst a;decide+kernel];subst a;refine bdq (wpAny_isInstance (b:=b_) f (by rw[isSubtype_type];kernel_rfl) ?_);rw[if_neg (by decide)];dsimp only;split;.refine wpAny_ite_split (λg=>absurd g (by decide+kernel)) (λ_=>?_);exact cv (h _ s.toks (cN))
 .rename_i k;exact absurd (by decide+kernel) k
theorem gY{R:Result->cn->Prop}{I l:cq}{items:Array bx}(hh:A.handled=ci)(j:s.heap.IsRevIter I l ((items.size:Int)-1))(G:s.heap.IsList l items)(H:l≠I)(u:items.size<=2^24)(S:cq)(m:S≠I)(x:S≠l)(res:bx)(k:Nat)(J:s.heap.get? S=aU {cls:=.type "list",data:=.seq #[] k})(Q:∀ h' y a t,(∀ b o,b ≠ S->b ≠ I->s.heap.get? b=aU o->h'.get? b=aU o)->h'.get? S=aU {cls:=.type "list",dict:=ci,data:=.seq a t,slots:=#[]}->ItemsOf (λi v=>items[items.size-1-i]?=aU v) a items.size->R (.ok (.ret res)) {s with heap:=h',toks:=y}):cE (cS prog w) A.in1 (i6 (.ref S) (.ref I) res) (λfin n=>match fin with|.done f=>R (.ok f) n|.again t=>t.quiet=b_/\k_ (cS prog w) A t R n) (λe n=>R (.error e) n) s:=by
 have L:S∉[I,l]:=λhm=>by
  rcases cK.mp hm with e|hm;.exact m e
  .exact x (dP.mp hm)
 have W:=(Walks.listRev (prog:=prog) (w:=w) (A:=A.in1) hh I l H items).toS;have U:s.TypeIs (.ref I) "list_reverseiterator":=j.typeIs;have key:∀(h:eF)(c y:Nat),h.IsRevIter I l ((items.size:Int)-1-((0:Nat):Int))->h.IsList l items->(∀b o,b≠S->s.heap.get? b=aU o->h.get? b=aU o)->h.get? S=aU {cls:=.type "list",data:=.seq #[] c}->k_ (cS prog w) A (.builtin "list.extend.loop" ⟨[.ref S,.ref I,res],[]⟩) R {s with heap:=h,toks:=y}:=by
  intro h c y hi M X p;refine codeAny_extend_loopS W (by rw[fb];lia) S L res items.size 0 _ #[] c rfl (tU) ⟨tU,hi,M⟩ p (ItemsOf.nil _) λn a t hm N z=>?_;rw[Moved.eq_with hm];refine Q n.heap n.toks a t (λb o B O e=>hm.heap b o (λhmem=>?_) (X b o B e)) N z;rcases cK.mp hmem with Y|hmem;.exact B Y
  .exact O (dP.mp hmem)
 unfold i6;refine bdq (k7 U ?_);have h1:listSameRef (.ref S) (.ref I)=a_:=by simp[listSameRef,m]
 have Z:(fv "list_reverseiterator"==fv "list")=a_:=by decide
 have h3:(fv "list_reverseiterator"==fv "tuple")=a_:=by decide
 simp only[h1,Z,h3,Bool.or_false,iL,if_false];refine bdq (wpAny_pyIter_revIter j ?_);refine bdq (im (pC j G u λbb y ac=>?_));have C:s.heap.IsRevIter I l ((items.size:Int)-1-((0:Nat):Int)):=by simpa using j
 refine wpAny_ite_split (λ_=>?_) (λ_=>cv ⟨mn F.plain_extend_loop _,key _ k _ C G (λb o _ e=>e) J⟩);refine bdq (kC ?_);refine bdq ?_;show cE _ _ (updateSeq S (·.push .none)>>=λ_=>updateSeq S (·.pop)) _ _ _;refine bdq (nX J rfl ?_);have g:=jp (fE (·.push eP)) J rfl;refine nX (hz:=by seq_fits) g rfl ?_;have q:=jp (fE (·.pop)) g rfl;have r:∀b o,b≠S->s.heap.get? b=aU o->((s.heap.update S (fE (·.push eP))).update S (fE (·.pop))).get? b=aU o:=λb o B e=>(gX _ _ (fx B)).trans ((gX _ _ (fx B)).trans e);exact cv ⟨mn F.plain_extend_loop _,key _ _ _ (C.at λo e=>r I o (fx m) e) (G.at λo e=>r l o (fx x) e) r q⟩
theorem qi{Q:bx->cn->Prop}{I l:cq}{items:Array bx}(hh:A.handled=ci)(h:s.heap.IsRevIter I l ((items.size:Int)-1))(G:s.heap.IsList l items)(t:l≠I)(j:items.size<=2^24)(H:∀ h' u a x,(∀ b o,b ≠ I->s.heap.get? b=aU o->h'.get? b=aU o)->h'.get? s.heap.objs.size=aU {cls:=.type "list",dict:=ci,data:=.seq a x,slots:=#[]}->ItemsOf (λi v=>items[items.size-1-i]?=aU v) a items.size->Q (.ref s.heap.objs.size) {s with heap:=h',toks:=u}):cE (cS prog w) A (call (.type "list") [.ref I]) Q E s:=by
 refine callType_codes (Q₁:=λobj c=>obj=.ref s.heap.objs.size/\c={s with heap:=s.heap.push {cls:=.type "list",data:=.seq #[]}}) F.called_list (F.typeCall_list_1 _) F.entry_list_init (code_list_new _ ⟨rfl,rfl⟩) λobj c k=>?_;obtain⟨rfl,rfl⟩:=k;have m:I<s.heap.objs.size:=let⟨_,ho,_⟩:=h;dc ho;have J:l<s.heap.objs.size:=let⟨_,ho,_⟩:=G;dc ho;have n:s.heap.objs.size≠I:=fx (dE m);have p:s.heap.objs.size≠l:=fx (dE J);generalize y:s.heap.objs.size=S at*;have r:(s.heap.push {cls:=.type "list",data:=.seq #[]}).get? S=aU {cls:=.type "list",data:=.seq #[]}:=by rw[<-y];exact cw _ rfl
 refine⟨⟨_,r,rfl⟩,F.args_list_init_2 _ _,?_⟩;show cE _ _ (do let z<-mo (.ref S);Builtin.List.listUpdate (.ref S) (λ_=>#[]);letGo z.toList.reverse;i6 (.ref S) (.ref I) .none) _ _ _;refine bdq ?_;unfold mo;refine bdq (gl r rfl (cv ?_));show cE _ _ (updateSeq S (λ_=>#[])>>=λ_=>letGo (#[]:Array bx).toList.reverse>>=λ_=>i6 (.ref S) (.ref I) .none) _ _ _;refine bdq (nX r rfl ?_);have f:=jp (fE (λ_=>(#[]:Array bx))) r rfl;have g:∀b o,b≠S->s.heap.get? b=aU o->((s.heap.push {cls:=.type "list",data:=.seq #[]}).update S (fE (λ_=>(#[]:Array bx)))).get? b=aU o:=λb o B e=>(gX _ _ (fx B)).trans (dF e);refine bdq (nE ?_);refine gY (A:=A.in1) (items:=items) hh (h.at λo e=>g I o (fx n) e) (G.at λo e=>g l o (fx p) e) t j S n p .none _ f λh' u a x L C q=>?_;exact⟨rfl,H h' u a x (λb o B e=>L b o (by rw[<-y];exact dE (dc e)) B (g b o (by rw[<-y];exact dE (dc e)) e)) C q⟩
end
end PySem
namespace _L
open PySem Spec PyProof.Rows
theorem Ft:∀{xs:List V}{us:List bx},Vals xs us->Vals xs.reverse us.reverse|_,_,.nil=>.nil|_,_,.cons r a=>by rw[ko,ko];exact(Ft a).append (.cons r .nil)
section
variable{X:Cx}{pins:List (cq×Obj)}{σ:St}{H:Hp}{s:cn}{E:bx->cn->Prop}
theorem Cd{a:dy}{C:TE}{p pos p2 i:Pos}(hc:X.calm=b_)(L:Gl X "list")(M:X.mg "list"=ci)(N:Gl X "reversed")(O:X.mg "reversed"=ci)(U:PE X a C)(hs:cx [a] X.env=[(a_,eA a X.env)]:=by rfl)(k:cx [.Call (.Name "reversed" p) [a] [] pos] X.env=[(a_,eA (.Call (.Name "reversed" p) [a] [] pos) X.env)]:=by rfl):PE X (.Call (.Name "list" p2) [.Call (.Name "reversed" p) [a] [] pos] [] i) (λσ H Q=>C σ H λx f=>∃ad xs,x=.ref ad/\dO X.K f ad xs/\∀l,f l=ci->Q (.ref l) (upd f l (.lst xs.reverse))):=by
 intro pins s σ H Q I h;refine qr (gM I L M xQ (eg ?_ k rfl));rw[k];show cE _ _ (spliced ((a_,eA (.Call (.Name "reversed" p) [a] [] pos) X.env)::[])) _ _ _;refine iB (qr (gM I N O jo (eg (cA ((bZ U dZ hs) pos pins s σ H (λvs f=>match vs with|[x]=>∃ad xs,x=.ref ad/\dO X.K f ad xs/\∀l,f l=ci->Q (.ref l) (upd f l (.lst xs.reverse))|_=>False) I h) ?_) hs rfl)));rintro us s1⟨vs,f,t,r1,v⟩;obtain⟨ad,xs,W,q,w⟩:∃ad xs,dO X.K f ad xs/\(∀l,f l=ci->Q (.ref l) (upd f l (.lst xs.reverse)))/\vs=[.ref ad]:=by cases vs with|nil=>cases v|cons x r=>cases r with|nil=>obtain⟨ad,xs,rfl,q,Y⟩:=v;exact⟨ad,xs,q,Y,rfl⟩|cons _ _=>cases v
 subst w;obtain⟨u,rfl,Z⟩:=r1.one;cases Z;obtain⟨c,G,y,hz⟩:=t.list W;have hsz:c.toArray.size=xs.length:=by rw[cy,<-G.length]
 refine call_reversed_list y.isList (kn ?_);have z:ad≠s1.heap.objs.size:=dE (let⟨_,ho,_⟩:=y.isList;dc ho);have A:(s1.heap.push (revObj ad ((c.toArray.size:Int)-1))).IsList ad c.toArray:=y.isList.at λo e=>dF e;refine qi (t.ok.hd hc) (I:=s1.heap.objs.size) (l:=ad) (items:=c.toArray) ⟨_,cw _ rfl,rfl,rfl⟩ A z (by rw[hsz];exact ic hz (by decide)) λh' tk g c' J B m=>?_;have n:(s1.heap.push (revObj ad ((c.toArray.size:Int)-1))).objs.size=s1.heap.objs.size+1:=ej ..;have ea:g.toList=c.reverse:=by
  obtain⟨h1,h2⟩:=m;apply lI;.simpa using h1
  . intro j j1 j2;have hj:j<c.length:=by simpa using j2
    have:=h2 j g[j] (nv (by simpa using j1));simp only[cy]at this;have h3:=nh.mp this;rw[List.getElem_reverse];simpa using h3.2.symm
 dsimp only at B J ⊢;rw[n]at B ⊢;refine⟨.ref (s1.heap.objs.size+1),_,t.laid (t':=tk) (o:=.lst xs.reverse) (h':=h') (λb o e=>J b o (dE (dc e)) (dF e)) (rg _) ?_,rfl,q _ (t.hok.fresh (rg _))⟩;exact⟨by simpa using hz,g.toList,c',by rw[ea];exact Ft G,by simpa using B⟩
end
end _L
namespace _H
open PySem _L Spec PyProof.Rows
section
variable{X:Cx}{c:Call}{a:dy}{pa:P}{pos:Pos}
theorem Aw{x y:Str}{j n b:Pos}(o:y="list")(p:x="reversed")(hc:X.calm=b_)(q:Gl X y)(t:X.mg y=ci)(u:Gl X x)(w:X.mg x=ci)(z:SX X c a pa)(hs:cx [a] X.env=[(a_,eA a X.env)]:=by rfl)(m:cx [.Call (.Name x j) [a] [] pos] X.env=[(a_,eA (.Call (.Name x j) [a] [] pos) X.env)]:=by rfl):SX X c (.Call (.Name y n) [.Call (.Name x j) [a] [] pos] [] b) (.blt .Ru [pa]):=by subst p o;obtain⟨Y,h1,A⟩:=z.cJ;refine⟨eU (Cd hc q t u w h1 hs m) ?_,λi h=>by cases h⟩;rintro σ H Q⟨F,ρ,r,B,g,e,k⟩;rw[_H.E16]at e;obtain⟨d,C,E,f⟩:=ak e;have G:=aC f;clear f;obtain⟨f,I⟩:=G;subst I;cases d with|lst Z=>cases f;refine A g E ?_;rintro v F' H' s J;obtain⟨ad,xs,rfl,L,M⟩:=J.lst s.gs.sub;exact⟨ad,xs,rfl,L,λl N=>xH s.gs.sub (aG.rev M) N λv F2 O U W=>k v F2 O (s.trans (U.stp s.gs)) (.later s (W.nu s.gs))⟩|_=>cases f
end
end _H
namespace _H
open PySem
theorem mq:∀a b:List Int,bK a b=b_->bK b a=a_
 |[],[],h=>by simp[bK]at h|[],_::_,_=>by simp[bK]|_::_,[],h=>by simp[bK]at h|x::a,y::b,h=>by
   simp only[bK,mv,decide_eq_true_eq,eW]at h;simp only[bK,k6,decide_eq_false_iff_not,kQ];rcases h with h|⟨h,h'⟩;.exact⟨by lia,.inl (by lia)⟩
   .exact⟨by lia,.inr (mq a b h')⟩
theorem BK:∀a b c:List Int,bK b a=a_->bK c b=a_->bK c a=a_
 |[],_,c,_,_=>by cases c<;>simp[bK]|_::_,[],_,h,_=>by simp[bK]at h|_::_,_::_,[],_,h=>by simp[bK]at h|x::a,y::b,z::c,h1,f=>by
   simp only[bK,k6,decide_eq_false_iff_not,kQ]at h1 f ⊢;refine⟨by lia,?_⟩;by_cases e:z=x;.right;exact BK a b c (h1.2.resolve_left (by lia)) (f.2.resolve_left (by lia))
   .exact .inl e
theorem yS:∀a b:List Int,bK a b=a_->bK b a=a_->a=b
 |[],[],_,_=>rfl|[],_::_,h,_=>by simp[bK]at h|_::_,[],_,h=>by simp[bK]at h|x::a,y::b,h1,c=>by
   simp only[bK,k6,decide_eq_false_iff_not,kQ]at h1 c;have e:x=y:=by lia
   subst e;rw[yS a b (h1.2.resolve_left (by simp)) (c.2.resolve_left (by simp))]
theorem xV:∀{xs ys:List D},xs.all fB=b_->ys.all fB=b_->xs.map tR=ys.map tR->xs=ys
 |[],[],_,_,_=>rfl|[],_::_,_,_,h=>by simp at h|_::_,[],_,_,h=>by simp at h|x::xs,y::ys,h1,a,h=>by
   simp only[kS,eW]at h1 a;simp only[c_,List.cons.injEq]at h;obtain⟨i,rfl⟩:∃i,x=.int i:=by cases x<;>first|exact⟨_,rfl⟩|(have q:=h1.1;simp[fB]at q;done)
   obtain⟨j,rfl⟩:∃j,y=.int j:=by cases y<;>first|exact⟨_,rfl⟩|(have q:=a.1;simp[fB]at q;done)
   rw[xV h1.2 a.2 h.2,show i=j from h.1]
theorem DP{x y:D}(h:(fB x=b_/\fB y=b_)\/(xN x=b_/\xN y=b_))(e:dm x=dm y):x=y:=by
 rcases h with⟨h1,a⟩|⟨h1,a⟩
 . cases x<;>first|(simp[fB]at h1;done)|skip
   cases y<;>first|(simp[fB]at a;done)|skip
   simpa[dm]using e
 . cases x<;>first|(simp[xN]at h1;done)|skip
   cases y<;>first|(simp[xN]at a;done)|skip
   rename_i xs ys;cases xs<;>first|(simp[xN]at h1;done)|skip
   cases ys<;>first|(simp[xN]at a;done)|skip
   rw[xV h1 a e]
noncomputable def mj(a b:D):Bool:=!bK (dm b) (dm a)
theorem yP(a:List D):(R6 a).Perm a:=List.mergeSort_perm ..
theorem QL(a b c:D)(h1:mj a b=b_)(e:mj b c=b_):mj a c=b_:=by simp only[mj,mS]at*;exact BK _ _ _ h1 e
theorem KY(a b:D):(mj a b||mj b a)=b_:=by simp only[mj,mv,mS];cases h:bK (dm b) (dm a)with|false=>exact .inl rfl|true=>exact .inr (mq _ _ h)
theorem Bg(c:List D):(R6 c).Pairwise λa b=>mj a b=b_:=List.pairwise_mergeSort QL KY c
theorem wu{a:List D}(h:sortable a=b_):∀x∈a,∀y∈a,dm x=dm y->x=y:=by
 simp only[sortable,eW,mv,gc]at h;intro x b y c e;rcases h.2 with h|h;.exact DP (.inl ⟨h x b,h y c⟩) e
 .exact DP (.inr ⟨h x b,h y c⟩) e
theorem rT{c l:List D}(h:sortable c=b_)(p:l.Perm c)(s:l.Pairwise λa b=>mj a b=b_):l=R6 c:=by refine List.Perm.eq_of_pairwise (le:=λa b=>mj a b=b_) (λa b f g h1 e=>?_) s (Bg c) (p.trans (yP c).symm);simp only[mj,mS]at h1 e;exact wu h a (p.mem_iff.mp f) b ((yP c).mem_iff.mp g) (yS _ _ e h1)
end _H
namespace _H
open PySem PyProof.Rows
variable{xs:Array gd}{i:Nat}
structure Rk(M:sk)(A:ew)(E:bx->cn->Prop)(s:cn)(κ:i8)(ok:gd->Prop)(K:gd->Int):Prop where lt:∀{x y:gd}{Q:Option Bool->iP->Prop}{st:iP},ok x->ok y->kindOf st=κ->Q (aU (decide (K x<K y))) st->wpS M A E s (lt' x y) Q st
section
variable{M:sk}{A:ew}{E:bx->cn->Prop}{s:cn}{κ:i8}{ok:gd->Prop}{K:gd->Int}
noncomputable def it(xs:Array gd)(i:Nat):gd:=xs.getD i (eP,eP)
theorem QG(h:i<xs.size):xs[i]?=aU (it xs i):=by unfold it;simp[nk,h]
theorem Kg(h:i<xs.size):it xs i∈xs.toList:=by
 have:it xs i=xs[i]:=by unfold it;simp[nk,h]
 rw[this];simp
theorem Ex{Q:gd->iP->Prop}{st:iP}(h:i<xs.size)(q:Q (it xs i) st):wpS M A E s (elem' xs i) Q st:=by rw[elem'_eq,QG h];exact kB q
end
section
variable{K:gd->Int}
noncomputable def Seg(K:gd->Int)(xs:Array gd)(lo hi:Nat):Prop:=∀i j,lo<=i->i<=j->j<hi->K (it xs i)<=K (it xs j)
theorem Qa:it xs i=xs.toList.getD i (eP,eP):=by
 unfold it;by_cases h:i<xs.size;.simp[nk,h]
 .simp[nk,h]
end
section
variable{M:sk}{A:ew}{E:bx->cn->Prop}{s:cn}{κ:i8}{ok:gd->Prop}{K:gd->Int}
structure Sx(κ:i8)(ok:gd->Prop)(st:iP)(xs:Array gd)(st':iP):Prop where
 kind:kindOf st'=κ
 arr:sj st'=xs
 pend:ky st'=ky st
 fail:sd st'=ci
 ok:∀x∈xs.toList,ok x
theorem Ot(R:Rk M A E s κ ok K){st a:iP}{j:Nat}{Q:Option Bool->iP->Prop}(h:Sx κ ok st xs a)(hi:i<xs.size)(b:j<xs.size)(q:Q (aU (decide (K (it xs i)<K (it xs j)))) a):wpS M A E s (ltAt' i j) Q a:=by rw[ltAt'_eq];refine ia (qv ?_);show wpS M A E s (elem' (sj a) i>>=λx=>elem' (sj a) j>>=λy=>lt' x y) Q a;rw[h.arr];exact ia (Ex hi (ia (Ex b (R.lt (h.ok _ (Kg hi)) (h.ok _ (Kg b)) h.kind q))))
theorem WL(R:Rk M A E s κ ok K){st g:iP}{lo a n:Nat}{Q:Option (Option Nat)×Nat->iP->Prop}(h:Sx κ ok st xs g)(u:lo+n<=xs.size)(v:1<=a)(l:a<=n)(hs:Seg K xs lo (lo+a))(q:∀m,a<=m->m<=n->Seg K xs lo (lo+m)->(m=n\/K (it xs (lo+m))<K (it xs (lo+m-1)))->Q (ci,m) g):wpS M A E s (forIn [a:n] ((ci,a):Option (Option Nat)×Nat) λ_ c=>ltAt' (lo+c.2) (lo+c.2-1)>>=λo=>match o with|some b=>if b=b_ then fg (.done (ci,c.2))else fg (.yield (ci,c.2+1))|_=>fg (.done (aU ci,c.2))) Q g:=by
 refine qA (I:=λx c k=>k=g/\c=(ci,x)/\Seg K xs lo (lo+x)) ?_ ?_ ⟨rfl,rfl,hs⟩
 . rintro x c k h1 w⟨rfl,rfl,f⟩;try dsimp only
   refine ia (Ot R h (by lia) (by lia) ?_);by_cases c:K (it xs (lo+x))<K (it xs (lo+x-1))
   . rw[decide_eq_true c];try dsimp only
     rw[if_pos rfl];exact kB (q x h1 (by lia) f (.inr c))
   . rw[decide_eq_false c];try dsimp only
     rw[if_neg (by simp)];refine kB ⟨rfl,rfl,λi j p r y=>?_⟩;by_cases t:j<lo+x;.exact f i j p r t
     . have:j=lo+x:=by lia
       subst this;by_cases e:i=lo+x;.rw[e];exact d_ _
       .have:=f i (lo+x-1) p (by lia) (by lia);lia
 .rintro c k⟨rfl,rfl,f⟩;rw[show max a n=n by lia]at f ⊢;exact q n l (cN) f (.inl rfl)
end
noncomputable abbrev Rn:=Nat×Nat×Nat
section
variable{K:gd->Int}{xs ys:Array gd}
noncomputable def Rns(K:gd->Int)(xs:Array gd):Nat->List Rn->Nat->Prop|a,[],b=>a=b|a,r::l,b=>r.1=a/\1<=r.2.1/\Seg K xs a (a+r.2.1)/\Rns K xs (a+r.2.1) l b
theorem wA:∀{l k:List Rn}{a b:Nat},Rns K xs a (l++k) b↔∃m,Rns K xs a l m/\Rns K xs m k b
 |[],k,a,b=>⟨λh=>⟨a,rfl,h⟩,λ⟨m,h1,c⟩=>by cases(show a=m from h1);exact c⟩|r::l,k,a,b=>by
   rw[kb];constructor;.rintro⟨h1,c,e,f⟩;obtain⟨m,g,j⟩:=wA.mp f;exact⟨m,⟨h1,c,e,g⟩,j⟩
   .rintro⟨m,⟨h1,c,e,f⟩,g⟩;exact⟨h1,c,e,wA.mpr ⟨m,f,g⟩⟩
end
section
variable{M:sk}{A:ew}{E:bx->cn->Prop}{s:cn}{κ:i8}{ok:gd->Prop}{K:gd->Int}
structure SR(κ:i8)(ok:gd->Prop)(K:gd->Int)(x0 ys:Array gd)(l:List Rn)(lo:Nat)(st:iP):Prop where
 kind:kindOf st=κ
 arr:sj st=ys
 fail:sd st=ci
 pend:(ky st).toList=l
 perm:ys.toList.Perm x0.toList
 ok:∀x∈ys.toList,ok x
 rns:Rns K ys 0 l lo
 le:lo<=ys.size
theorem SR.sx{x0 ys:Array gd}{l:List Rn}{lo:Nat}{st:iP}(h:SR κ ok K x0 ys l lo st):Sx κ ok st ys st:=⟨h.kind,h.arr,rfl,h.fail,h.ok⟩
end
end _H
namespace _H
open PySem W PyProof.Rows Calls _L Spec
theorem Px(a:List Int):bK a a=a_:=by cases h:bK a a with|false=>rfl|true=>rw[mq _ _ h]at h;cases h
theorem La{a b x:List Int}(h:bK b a=a_)(c:bK x a=b_):bK x b=b_:=by cases e:bK x b with|true=>rfl|false=>rw[BK _ _ _ h e]at c;cases c
theorem uN{a:Type}{p q:a->Bool}(h:∀x,p x=b_->q x=b_):∀{l:List a},(∃x,x∈l/\q x=b_/\p x=a_)->l.countP p<l.countP q
 |[],⟨x,hx,_⟩=>by cases hx|y::l,⟨x,hx,h1,b⟩=>by
   rw[List.countP_cons,List.countP_cons];have m:=oP (l:=l) (p:=p) (q:=q) λx _=>h x;rcases cK.mp hx with rfl|hx;.rw[h1,b,if_pos rfl,if_neg (by simp)];lia
   .have:=uN h ⟨x,hx,h1,b⟩;cases hp:p y with|true=>rw[h y hp];lia|false=>rw[if_neg (by simp)];lia
noncomputable def W7(a:List D)(d:D):Nat:=a.countP λe=>bK (dm e) (dm d)
theorem Ij{a:List D}{d e:D}(hd:d∈a):decide ((W7 a d:Int)<W7 a e)=bK (dm d) (dm e):=by cases h:bK (dm d) (dm e)with|true=>have:=uN (l:=a) (p:=λx=>bK (dm x) (dm d)) (q:=λx=>bK (dm x) (dm e)) (λx b=>La (mq _ _ h) b) ⟨d,hd,h,Px _⟩;rw[decide_eq_true_iff];unfold W7;lia|false=>have:=oP (l:=a) (p:=λx=>bK (dm x) (dm e)) (q:=λx=>bK (dm x) (dm d)) λx _ b=>La h b;rw[decide_eq_false_iff_not];unfold W7;lia
open Classical in
noncomputable def rkK(P:bx->D->Prop)(a:List D)(x:gd):Int:=if h:∃d,d∈a/\P x.1 d then(W7 a h.choose:Int)else 0
theorem Df{P:bx->D->Prop}{a:List D}{x:gd}{d:D}(fn:∀u d e,P u d->P u e->dm d=dm e)(hd:d∈a)(b:P x.1 d):rkK P a x=W7 a d:=by have h:∃d,d∈a/\P x.1 d:=⟨d,hd,b⟩;unfold rkK;rw[dif_pos h];unfold W7;rw[fn _ _ _ h.choose_spec.2 b]
noncomputable def pick{a:Type}(d:a)(p:List Nat)(l:List a):List a:=p.map λi=>l.getD i d
theorem lU{a:Type}(d:a)(l:List a):pick d (dS l.length) l=l:=by refine lI (by simp[pick]) λi h1 b=>?_;simp[pick,b]
theorem qC{a:Type}{d:a}{p:List Nat}{l:List a}{n:Nat}(h:p.Perm (dS n)):(pick d p l).length=n:=by rw[pick,dV,h.length_eq,kq]
theorem jT{P:bx->D->Prop}:∀{us:List bx}{a:List D},Paired P us a->∀i,i<us.length->P (us.getD i .none) (a.getD i .non)/\a.getD i .non∈a|_,_,.cons r _,0,_=>⟨by simpa using r,by simp⟩|_,_,.cons _ t,i+1,hi=>by have:=jT t i (by simpa using hi);exact⟨by simpa using this.1,by simpa using eR this.2⟩
end _H
namespace _H
open PySem _L Spec PyProof.Rows Calls W
section
variable{prog:df}{w:er}{A:ew}{E:bx->cn->Prop}{s:cn}{vs:List bx}{κ:i8}{P:bx->D->Prop}{ds:List D}
theorem oO{b fin:Bool}{Q:Bool->cn->Prop}:∀{xs ys:List bx}{is js:List Int}{i:Nat},hJ xs is->hJ ys js->fin=decide (is.length<js.length)->Q (bK is js) s->KatLex prog w A b fin Q (xs.zip ys) i s
 |_,_,_,_,_,.nil,.nil,e,h=>by subst e;exact kat_nil (by simpa[bK]using h)|_,_,_,_,_,.nil,.cons _ _ _,e,h=>by subst e;exact kat_nil (by simpa[bK]using h)|_,_,_,_,_,.cons _ _ _,.nil,e,h=>by subst e;exact kat_nil (by simpa[bK]using h)|_,_,_,_,i,.cons (ns:=is) x t r,.cons (ns:=js) y u r',e,h=>by
   refine kat_cons (ny ?_);by_cases q:x=y;.subst q;rw[beq_self_eq_true];refine kat_yes (oO r r' (by rw[e];simp) ?_);simpa[bK]using h
   . rw[beq_eq_false_iff_ne.mpr q];refine kat_no ?_;have a:Q (decide (x<y)) s:=by simpa[bK,q]using h
     cases(b&&i==0)with|true=>exact oneLt_int a|false=>exact kat_one _ _ (wpAny_lt_int a)
noncomputable def pD(h:eF)(u:bx)(d:D):Prop:=∃a b is,u=.ref a/\qo h a (qV b)/\hJ b is/\is≠[]/\dm d=is
theorem nR{h h':eF}(k:∀b o,h.get? b=aU o->h'.get? b=aU o){u:bx}{d:D}(t:pD h u d):pD h' u d:=by obtain⟨a,c,is,e,⟨o,h1,f⟩,g⟩:=t;exact⟨a,c,is,e,⟨o,k _ _ h1,f⟩,g⟩
theorem uL{h h':eF}(k:∀b o,h.get? b=aU o->h'.get? b=aU o):∀{us:List bx}{ds:List D},Paired (pD h) us ds->Paired (pD h') us ds|_,_,.nil=>.nil|_,_,.cons r t=>.cons (nR k r) (uL k t)
theorem oK{h:eF}:∀{us:List bx}{ds:List D},Paired (pD h) us ds->∃fs,KatTups h us fs/\fs.length=us.length/\∀f∈fs,∃n t,f=fT n t|_,_,.nil=>⟨[],trivial,rfl,by simp⟩|_,_,.cons r t=>by obtain⟨fs,h1,c,e⟩:=oK t;obtain⟨a,g,is,rfl,⟨o,i,j,n,k⟩,hi,b,_⟩:=r;cases hi with|nil=>exact absurd rfl b|cons x l m=>
     refine⟨.int x l::fs,KatTups.cons i j k (by simp) h1,by simp[c],λf hf=>?_⟩;rcases cK.mp hf with rfl|hf;.exact⟨_,_,rfl⟩
     .exact e f hf
theorem GK{ds:List D}(t:Paired (pD s.heap) vs ds)(e:2<=vs.length){C:i8->cn->Prop}(a:C (tuples' (fv "int"!=fv "tuple")) s):cE (cS prog w) A (keyKind' vs.toArray) C E s:=by obtain⟨fs,h1,f,b⟩:=oK t;refine kat_kind (T:=.type "int") h1 (by lia) (λv c=>?_) rfl a;obtain⟨n,t,rfl⟩:=b v c;exact Looks.now
theorem Q5{x y:bx}{d e:D}(h:pD s.heap x d)(i:pD s.heap y e){b:Bool}{C:Bool->cn->Prop}(c:C (bK (dm d) (dm e)) s):cE (cS prog w) A (keyLt' (tuples' b) x y) C E s:=by obtain⟨a,j,is,rfl,⟨o,k,r,n,l⟩,hi,m,p⟩:=h;obtain⟨t,its',js,rfl,⟨u,p1,p2,v,p3⟩,f,g,q⟩:=i;refine kat_lt k l p1 p3 ?_;rw[p,q]at c;refine oO (is:=is) (js:=js) (by simpa using hi) (by simpa using f) ?_ c;rw[cy,cy,kP hi,kP f]
end
theorem Gw{xs:List V}{us:List bx}(h:Vals xs us)(i:Nat):RelV (xs.getD i .non) (us.getD i .none):=by
 have c:=h.length;by_cases hi:i<xs.length
 . obtain⟨u,e,r⟩:=h.get (i:=i) (x:=xs[i]) (dA hi);have a:xs.getD i .non=xs[i]:=by simp[hi]
   have b:us.getD i .none=u:=by simp[e]
   rw[a,b];exact r
 . have a:xs.getD i .non=.non:=by simp[mE hi]
   have b:us.getD i .none=.none:=by simp[show us.length<=i by lia]
   rw[a,b];rfl
theorem yq{f:Nat->V}{g:Nat->bx}(h:∀i,RelV (f i) (g i)):∀l:List Nat,Vals (l.map f) (l.map g)|[]=>.nil|i::l=>.cons (h i) (yq h l)
theorem Jr{p:List Nat}{xs:List V}{us:List bx}(h:Vals xs us):Vals (pick .non p xs) (pick .none p us):=yq (Gw h) _
theorem yX{K:PySem.W.Frag}{F:Hp}{f:Nat->V}{g:Nat->D}(h:∀i,Rep K F (f i) (g i)):∀l:List Nat,aG K F (l.map f) (l.map g)|[]=>.nil|i::l=>.cons (h i) (yX h l)
theorem KN{K:PySem.W.Frag}{F:Hp}{p:List Nat}{xs:List V}{a:List D}(h:aG K F xs a):aG K F (pick .non p xs) (pick .non p a):=yX (λi=>by
 have f:=h.length;by_cases hi:i<a.length
 . obtain⟨u,e,r⟩:=h.get (i:=i) (d:=a[i]) (dA hi);have b:a.getD i .non=a[i]:=by simp[hi]
   have c:xs.getD i .non=u:=by simp[e]
   rw[b,c];exact r
 . have b:a.getD i .non=.non:=by simp[mE hi]
   have c:xs.getD i .non=.non:=by simp[show xs.length<=i by lia]
   rw[b,c,Rep]) _
theorem IV{us:List bx}:∀{ns a:List Int},hJ us ns->hJ us a->ns=a:=by induction us with|nil=>intro ns a h1 b;cases h1;cases b;rfl|cons u us c=>intro ns a h1 b;cases h1 with|cons n t r=>cases b with|cons m t' e=>rw[c r e]
theorem Om{h:eF}(u:bx)(d e:D):pD h u d->pD h u e->dm d=dm e:=λ⟨a,f,is,h1,⟨o,g,r,n,i⟩,j,_,k⟩⟨b,l,js,c,⟨s,p1,p2,m,p3⟩,p,_,q⟩=>by rw[h1]at c;cases c;rw[g]at p1;cases p1;rw[i]at p3;cases p3;rw[k,q,IV j p]
theorem all_ints:∀{a:List D},a.all fB=b_->a=(a.map tR).map D.int
 |[],_=>rfl|d::a,h=>by
   simp only[kS,eW]at h;cases d<;>first|(have q:=h.1;simp[fB]at q;done)|skip
   rw[c_,c_,<-all_ints h.2];rfl
theorem intsAre_of:∀{ns:List Int}{us:List bx},Vals (ns.map V.int) us->hJ us ns|[],_,.nil=>.nil|n::ns,_,.cons r t=>by obtain⟨a,rfl⟩:=r;exact .cons n a (intsAre_of t)
section
variable{X:Cx}{c:Call}{a:dy}{pa:P}{pos:Pos}
theorem boot_sorted:eH "sorted"=aU (.builtin "sorted"):=by decide+kernel
end
end _H
namespace _H
open PySem _L Spec PyProof.Rows Calls
theorem Bu(l b:cq)(items a:List bx)(n H:Nat)(I o:Option cq)(sl r:Array (Option bx))(is js:List Int)(hi:hJ items is)(G:hJ a js):m5 (iE.«tuple.__lt__» ⟨[.ref l,.ref b],[]⟩) (λA R s=>s.heap.get? l=aU {cls:=.type "tuple",dict:=I,data:=.seq items.toArray n,slots:=sl}/\s.heap.get? b=aU {cls:=.type "tuple",dict:=o,data:=.seq a.toArray H,slots:=r}/\R (.ok (.ret (.bool (bK is js)))) s):=.of_wp λprog w A R s h=>by
  obtain⟨v,g,d,z,os⟩:=s;obtain⟨J,L,h⟩:=h;have f2:=AutoSeq1.sub_tuple_tuple;wp_walk using fS J,fS L,wpAny_forIn_list _ (λf b B=>b.1=ci/\B=⟨v,g,d,z,os⟩/\∃xs ys c j,f=xs.zip ys/\hJ xs c/\hJ ys j/\decide (items.length<a.length)=decide (c.length<j.length)/\R (.ok (.ret (.bool (bK c j)))) ⟨v,g,d,z,os⟩) _;case turn=>rintro⟨y,x⟩f b B⟨i,rfl,xs,ys,c,j,hz,h1,k,C,m⟩;cases h1 with|nil=>cases hz|cons p t h1=>cases k with|nil=>cases hz|cons q u k=>
       injection hz with hyx hrest;cases hyx;refine bdq (ny ?_);by_cases e:p=q;.subst e;rw[beq_self_eq_true];wp_walk;exact⟨rfl,rfl,_,_,_,_,hrest,h1,k,by rw[C];simp,by simpa[bK]using m⟩
       . rw[beq_eq_false_iff_ne.mpr e];have E:R (.ok (.ret (.bool (decide (p<q))))) ⟨v,g,d,z,os⟩:=by simpa[bK,e]using m
         simp only[Bool.not_false,if_true];refine bdq (kC ?_);refine bdq (show cE (cS prog w) A.in1 (dY .Lt (fT p t) (fT q u)) _ _ _ from wpAny_lt_int ?_);refine bdq (cv ?_);exact cv (cv ⟨_,rfl,E⟩)
  case fin=>
   rintro⟨b1,b2⟩B⟨i,rfl,xs,ys,c,j,hz,h1,k,C,m⟩;simp only at i;subst i;have e:bK c j=decide (items.length<a.length):=by rw[C];cases h1 with|nil=>cases k<;>simp[bK]|cons _ _ _=>cases k with|nil=>simp[bK]|cons _ _ _=>cases hz
   rw[e]at m;wp_walk;exact⟨_,rfl,by simpa[Builtin.Tuple.tupleCompareSizes]using m⟩
  case h=>exact⟨rfl,rfl,items,a,is,js,by simp,hi,G,by rw[kP hi,kP G],h⟩
section
variable{X:Cx}
theorem nY(hu:X.A.units+8<f_):fY X (dY .Lt) (rD X.K (oV .lt)):=by rintro f s σ H x y v u Q I E G⟨F,d,e,r,sm,J,L,he,k⟩;obtain⟨t,c,p⟩:=map_some (show(aba d e).map _=aU r from he);subst p;cases d with
 |int i=>cases e with|int j=>exact Vx f s σ H x y v u Q I E G ⟨F,.int i,.int j,_,sm,J,L,by have p:NP (λi j=>decide (i<j)) (.int i) (.int j)=aU t:=c;simp only[p];rfl,k⟩|_=>cases c
 |tup xs=>cases e with|tup ys=>obtain⟨hc,c⟩:=bI (show(if(xs.all fB&&ys.all fB)=b_ then aU (bK (xs.map tR) (ys.map tR))else ci)=aU t from c);rw[eW]at hc;obtain⟨a,vs,rfl,h1,M,_⟩:=J.tup sm;obtain⟨b,ws,rfl,Y,N,_⟩:=L.tup sm;cases E;cases G;obtain⟨q,O,it,_⟩:=I.tuple h1;obtain⟨g,U,z,_⟩:=I.tuple Y;rw[all_ints hc.1]at M;rw[all_ints hc.2]at N;rw[jJ M]at O;rw[jJ N]at U;have Z:=intsAre_of O;have i2:=intsAre_of U;obtain⟨⟨cls,dd,data,sl⟩,ho,h,n,hd⟩:=it;obtain⟨⟨W,B,data2,C⟩,l,m,n2,o⟩:=z;simp only at h hd m o;subst h hd m o;refine(show cE (cS X.prog X.w) X.A (richCompare .Lt (.ref a) (.ref b)) _ _ s from richCompare_meets_room (op:=.Lt) ⟨_,ho,rfl⟩ ⟨_,l,rfl⟩ PySem.F.slot_tuple_lt PySem.F.entry_tuple_lt (PySem.F.args_tuple_lt_2 _ _) (Bu a b q g n n2 dd B sl C _ _ Z i2) ⟨ho,l,show ke _≠kT/\_ from⟨(λx=>nomatch x),⟨.bl t,H,I,by rw[<-c];rfl,cH.dg sm (gK _) k⟩⟩⟩ (by lia))|_=>cases c
 |_=>cases c
end
end _H
namespace _L
open PySem Spec PyProof.Rows
variable{y:V}{w:er}{H:Hp}{Q:bx->cn->Prop}{X:Cx}
section
variable{κ:Type}[DecidableEq κ]
noncomputable def jk(kvs:List (κ×V))(k:κ):Option V:=(kvs.find? λa=>decide (a.1=k)).map (·.2)
noncomputable def putK(kvs:List (κ×V))(k:κ)(v:V):List (κ×V):=if(kvs.any λa=>decide (a.1=k))=b_ then kvs.map (λa=>if a.1=k then(a.1,v)else a)else kvs++[(k,v)]
theorem mR{p:κ×V}{r:List (κ×V)}{k:κ}(e:p.1=k):jk (p::r) k=aU p.2:=by simp[jk,gI,e]
theorem mH{p:κ×V}{r:List (κ×V)}{k:κ}(e:¬ p.1=k):jk (p::r) k=jk r k:=by simp[jk,gI,e]
theorem qp(k:κ):∀kvs:List (κ×V),(kvs.any λa=>decide (a.1=k))=(jk kvs k).isSome
 |[]=>rfl|p::r=>by
   rw[kc];by_cases e:p.1=k;.simp only[mR e,decide_eq_true e,Bool.true_or,Option.isSome_some]
   .rw[mH e,decide_eq_false e,Bool.false_or];exact qp k r
theorem jH(kvs:List (κ×V))(k:κ)(v:V):(putK kvs k v).length<=kvs.length+1:=by
 unfold putK;split;.rw[dV];lia
 .rw[ek,dU,mx];lia
theorem pA.iJ{o:Option V}{u:Option bx}(r:pA o u):o.isSome=u.isSome:=by cases o with
 |none=>cases u with|none=>rfl|some _=>exact(show False from r).elim
 |some _=>cases u with|none=>exact(show False from r).elim|some _=>rfl
theorem pA.getD{o:Option V}{u:Option bx}{d:V}{d':bx}(r:pA o u)(a:RelV d d'):RelV (o.getD d) (u.getD d'):=by cases o with
 |none=>cases u with|none=>exact a|some _=>exact(show False from r).elim
 |some _=>cases u with|none=>exact(show False from r).elim|some _=>exact r
theorem KV.val{kvs:List (κ×V)}{vs:List (κ×bx)}(r:KV kvs vs)(k:κ):pA (jk kvs k) (mN vs k):=by unfold KV at r;induction r with|nil=>exact kM|@cons p q ps a h t f=>
   obtain⟨h1,g⟩:=h;by_cases e:p.1=k
   . have c:q.1=k:=h1.symm.trans e;have b:mN (q::a) k=aU q.2:=by simp[mN,gI,c]
     rw[mR e,b];exact g
   . have c:¬ q.1=k:=λz=>e (h1.trans z);have b:mN (q::a) k=mN a k:=by simp[mN,gI,c]
     rw[mH e,b];exact f
theorem KV.any{kvs:List (κ×V)}{vs:List (κ×bx)}(r:KV kvs vs)(k:κ):(kvs.any λa=>decide (a.1=k))=vs.any λa=>decide (a.1=k):=by unfold KV at r;induction r with|nil=>rfl|cons h t b=>rw[kc,kc,b,h.1]
theorem KV.repl{kvs:List (κ×V)}{vs:List (κ×bx)}(r:KV kvs vs)(k:κ){u:bx}(b:RelV y u):KV (kvs.map λa=>if a.1=k then(a.1,y)else a) (vs.map λa=>if a.1=k then(a.1,u)else a):=by unfold KV at r ⊢;induction r with|nil=>exact .nil|@cons p q ps g h t c=>
   rw[c_,c_];refine .cons ?_ c;obtain⟨h1,f⟩:=h;by_cases e:p.1=k;.rw[if_pos e,if_pos (h1.symm.trans e)];exact⟨h1,b⟩
   .rw[if_neg e,if_neg (λz=>e (h1.trans z))];exact⟨h1,f⟩
theorem KV.put{kvs:List (κ×V)}{vs:List (κ×bx)}(r:KV kvs vs)(k:κ){u:bx}(a:RelV y u):KV (putK kvs k y) (stored vs k u):=by
 unfold putK stored;rw[r.any k];by_cases e:(vs.any λb=>decide (b.1=k))=b_;.rw[if_pos e,if_pos e];exact r.repl k a
 .rw[if_neg e,if_neg e];exact Paired.snoc r ⟨rfl,a⟩
theorem KV.length{kvs:List (κ×V)}{vs:List (κ×bx)}(r:KV kvs vs):kvs.length=vs.length:=Paired.length r
end
theorem rH{P:df}{k:Key}{u:bx}(r:RelV (kV k) u):(bB P w).is k u=b_:=by cases k with|inl i=>obtain⟨t,e⟩:=(show ∃t,u=fT i t from r);subst e;exact yz P w i t|inr x=>obtain⟨t,e⟩:=(show ∃t,u=Value.str x t from r);subst e;exact yH P w x t
theorem uD{P:df}{w:er}:∀{ks:List Key}{us:List bx},Vals (ks.map kV) us->ItemsAre (bB P w) ks us|[],_,r=>by rw[l6]at r;cases r;exact .nil|k::ks,_,r=>by rw[c_]at r;cases r with|cons h t=>exact .cons (rH h) (uD t)
noncomputable abbrev KT(H:Hp):List (List Key×V)->List (List Key×cq×bx)->Prop:=Paired λp q=>p.1=q.1/\H q.2.1=aU (.tup (p.1.map kV))/\RelV p.2 q.2.2
theorem KT.val{kvs:List (List Key×V)}{xs:List (List Key×cq×bx)}(r:KT H kvs xs)(k:List Key):pA (jk kvs k) ((ox xs k).map (·.2)):=by induction r with|nil=>exact kM|@cons p q ps a h t f=>
   obtain⟨h1,_,g⟩:=h;by_cases e:p.1=k
   . have c:q.1=k:=h1.symm.trans e;have b:ox (q::a) k=aU q.2:=by simp[ox,gI,c]
     rw[mR e,b];exact g
   . have c:¬ q.1=k:=λz=>e (h1.trans z);have b:ox (q::a) k=ox a k:=by simp[ox,gI,c]
     rw[mH e,b];exact f
theorem KT.repl{kvs:List (List Key×V)}{xs:List (List Key×cq×bx)}(r:KT H kvs xs)(k:List Key){u:bx}(c:RelV y u):KT H (kvs.map λa=>if a.1=k then(a.1,y)else a) (xs.map (putAt k u)):=by induction r with|nil=>exact .nil|@cons p q ps i h t f=>
   rw[c_,c_];refine .cons ?_ f;obtain⟨h1,b,g⟩:=h;unfold putAt;by_cases e:p.1=k;.rw[if_pos e,if_pos (h1.symm.trans e)];exact⟨h1,b,c⟩
   .rw[if_neg e,if_neg (λz=>e (h1.trans z))];exact⟨h1,b,g⟩
theorem KT.put{kvs:List (List Key×V)}{xs:List (List Key×cq×bx)}(r:KT H kvs xs)(k:List Key){b:cq}{u:bx}(c:H b=aU (.tup (k.map kV)))(a:RelV y u):KT H (putK kvs k y) (storedH xs k b u):=by
 have e:(kvs.any λf=>decide (f.1=k))=(ox xs k).isSome:=by rw[qp,(r.val k).iJ,isSome_map]
 unfold putK storedH;rw[e];by_cases q:(ox xs k).isSome=b_;.rw[if_pos q,if_pos q];exact r.repl k a
 .rw[if_neg q,if_neg q];exact Paired.snoc r ⟨rfl,c,a⟩
theorem KT.keeps{a:Hp}{kvs:List (List Key×V)}{xs:List (List Key×cq×bx)}(r:KT H kvs xs)(ht:∀b ys,H b=aU (.tup ys)->a b=aU (.tup ys)):KT a kvs xs:=Paired.We r λ_ _ z=>⟨z.1,ht _ _ z.2.1,z.2.2⟩
section
variable{P:df}{w:er}{H:Hp}{h:eF}{a:cq}
theorem Ti{u:HO}(ok:m7 P w H h)(e:Rd H a u):bQ P w H h a u:=e.ok ok
theorem rW{kvs:List (Key×V)}(ok:m7 P w H h)(e:Rd H a (.dK kvs)):kvs.length<=sizeLine/\(a==h8)=a_/\∃vs,KV kvs vs/\h.DictOf (bB P w) a vs:=show bQ P w H h a (.dK kvs)from Ti ok e
theorem Td{kvs:List (Key×V)}(ok:m7 P w H h)(e:H a=aU (.dK kvs)):kvs.length<=sizeLine/\(a==h8)=a_/\∃vs,KV kvs vs/\h.DictOf (bB P w) a vs:=rW ok (.inl e)
theorem ni{ks:List Key}(ok:m7 P w H h)(e:H a=aU (.tup (ks.map kV))):(lT (bB P w)).is h ks a:=by obtain⟨_,b,r,o,h1,c,n,f⟩:=(show bQ P w H h a (.tup (ks.map kV))from ok a _ e);exact⟨o,b.toArray,n,h1,c,f,by simpa using uD r⟩
theorem rJ{kvs:List (List Key×V)}(ok:m7 P w H h)(e:Rd H a (.dT kvs)):kvs.length<=sizeLine/\(a==h8)=a_/\∃xs,KT H kvs xs/\h.DictOfH (lT (bB P w)) a xs:=by
 obtain⟨z,y,xs,r,o,es,ep,h1,c,f,g,i⟩:=(show bQ P w H h a (.dT kvs)from Ti ok e);refine⟨z,y,xs,r,o,es,ep,h1,c,f,g,λx hx=>?_,i⟩;have all:∀{l:List (List Key×V)}{m:List (List Key×cq×bx)},KT H l m->∀x∈m,(lT (bB P w)).is h x.1 x.2.1:=by intro l m q;induction q with|nil=>intro x hx;exact nomatch hx|@cons p q ps k b t j=>
    intro x hx;rcases cK.mp hx with e|hx;.subst e;exact ni ok (by rw[<-b.1];exact b.2.1)
    .exact j x hx
 exact all r x hx
theorem Jz{kvs:List (List Key×V)}(ok:m7 P w H h)(e:H a=aU (.dT kvs)):kvs.length<=sizeLine/\(a==h8)=a_/\∃xs,KT H kvs xs/\h.DictOfH (lT (bB P w)) a xs:=rJ ok (.inl e)
end
noncomputable def nT(H:Hp)(a:cq)(y:V)(r:Option V):Prop:=(∃kvs k,Rd H a (.dK kvs)/\y=kV k/\r=jk kvs k)\/∃kvs k b,Rd H a (.dT kvs)/\y=.ref b/\H b=aU (.tup (k.map kV))/\r=jk kvs k
noncomputable def ZV(H:Hp)(a:cq)(y v:V)(c:Hp):Prop:=(∃kvs k,H a=aU (.dK kvs)/\y=kV k/\kvs.length<sizeLine/\c=upd H a (.dK (putK kvs k v)))\/∃kvs k b,H a=aU (.dT kvs)/\y=.ref b/\H b=aU (.tup (k.map kV))/\kvs.length<sizeLine/\c=upd H a (.dT (putK kvs k v))
section
variable{X:Cx}{pins:List (cq×Obj)}{σ:St}{H:Hp}{s:cn}{a:cq}{y v:V}{u r:bx}{o:Option V}{A:ew}{E:bx->cn->Prop}
theorem Inv.big(I:Inv X pins σ H s):h8<s.heap.objs.size:=by have h:dL<s.heap.objs.size:=(I.mod.glob.keeps I.bk).lt;exact oz (by decide) h
theorem oA(B:A.units+1<f_)(I:Inv X pins σ H s)(g:nT H a y (aU v))(t:RelV y u)(h:∀f x,Inv X pins σ H x->RelV v f->Q f x):cE (cS X.prog X.w) A (ku (.ref a) u) Q E s:=by
 rcases g with⟨kvs,k,e,i,l⟩|⟨kvs,k,b,e,i,C,l⟩;.subst i;obtain⟨z,hd,vs,c,j⟩:=rW I.hok e;obtain⟨f,m,n⟩:=pA.some_of (v:=v) (o:=mN vs k) (by rw[l];exact c.val k);exact wpAny_getItem_of (rH t) j.mapOf m (h f _ (I.tok _) n)
 .subst i;cases(show u=ec b from t);obtain⟨z,hd,xs,c,j⟩:=rJ I.hok e;obtain⟨f,m,n⟩:=pA.some_of (v:=v) (o:=(ox xs k).map (·.2)) (by rw[l];exact c.val k);obtain⟨p,G,q⟩:=fi.mp m;refine wpAny_getItem_heap (iN B) (ni I.hok C) j G ?_;rw[q];exact h f _ (I.tok _) n
theorem aa4(n:A.units+1<f_)(I:Inv X pins σ H s)(g:nT H a y o)(j:RelV y u)(h:∀m,Inv X pins σ H m->Q (.bool o.isSome) m):cE (cS X.prog X.w) A (dY .In u (.ref a)) Q E s:=by
 rcases g with⟨kvs,k,e,f,l⟩|⟨kvs,k,b,e,f,p,l⟩;.subst f;obtain⟨z,hd,vs,c,i⟩:=rW I.hok e;refine wpAny_in_of (rH j) hd i.mapOf ?_;rw[<-(c.val k).iJ,<-l];exact h _ (I.tok _)
 .subst f;cases(show u=ec b from j);obtain⟨z,hd,xs,c,i⟩:=rJ I.hok e;refine wpAny_in_heap (iN n) (ni I.hok p) hd i ?_;have q:=(c.val k).iJ;rw[isSome_map]at q;rw[<-q,<-l];exact h _ (I.tok _)
theorem DW(n:A.units+1<f_)(I:Inv X pins σ H s)(g:nT H a y o)(j:RelV y u)(h:∀m,Inv X pins σ H m->Q (.bool (!o.isSome)) m):cE (cS X.prog X.w) A (dY .NotIn u (.ref a)) Q E s:=by
 rcases g with⟨kvs,k,e,f,l⟩|⟨kvs,k,b,e,f,p,l⟩;.subst f;obtain⟨z,hd,vs,c,i⟩:=rW I.hok e;refine wpAny_notIn_of (rH j) hd i.mapOf ?_;rw[<-(c.val k).iJ,<-l];exact h _ (I.tok _)
 .subst f;cases(show u=ec b from j);obtain⟨z,hd,xs,c,i⟩:=rJ I.hok e;refine wpAny_notIn_heap (iN n) (ni I.hok p) hd i ?_;have q:=(c.val k).iJ;rw[isSome_map]at q;rw[<-q,<-l];exact h _ (I.tok _)
theorem vA{h':eF}{t':Nat}{c:HO}(I:Inv X pins σ H s)(g:Mut (H a))(hs:rj a s.heap h')(he:∃q,h'.get? a=aU q)(f:bQ X.prog X.w (upd H a c) h' a c):Inv X pins σ (upd H a c) {s with heap:=h',toks:=t'}:=I.write (x:=a) (e:=a) g (.inl rfl) (λb q h z=>(hs.2 b h).trans z) he f
theorem MK{P:df}{c:Hp}{h':eF}{kvs:List (Key×V)}{vs:List (Key×bx)}(z:kvs.length<=sizeLine)(hd:(a==h8)=a_)(b:KV kvs vs)(e:h'.DictOf (bB P w) a vs):bQ P w c h' a (.dK kvs):=⟨z,hd,vs,b,e⟩
theorem G5{x:Hp}{Q:Unit->cn->Prop}(M:A.units+1<f_)(I:Inv X pins σ H s)(g:ZV H a y v x)(B:RelV y u)(C:RelV v r)(h:∀G,Inv X pins σ x G->Q () G):cE (cS X.prog X.w) A (n5 (.ref a) u r) Q E s:=by
 rcases g with⟨kvs,k,e,m,l,n⟩|⟨kvs,k,b,e,m,J,l,n⟩
 . subst m n;obtain⟨z,hd,vs,f,p⟩:=Td I.hok e;have hz:vs.length<=sizeLine:=by rw[<-f.length];exact z
   have t:(putK kvs k v).length<=sizeLine:=by have:=jH kvs k v;lia
   refine wpAny_setItem_pairs (hsz:=hz) (rH B) p λh' i hs=>h _ ?_;have he:∃q,h'.get? a=aU q:=let⟨q,_,_,j,_⟩:=i;⟨q,j⟩;exact vA I (by rw[e];exact kM) hs he (MK t hd (f.put k C) i)
 . subst m n;cases(show u=ec b from B);obtain⟨z,hd,xs,f,p⟩:=Jz I.hok e;have hz:xs.length<=sizeLine:=by rw[<-Paired.length f];exact z
   have t:(putK kvs k v).length<=sizeLine:=by have:=jH kvs k v;lia
   refine wpAny_setItem_heap (hsz:=hz) (iN M) (ni I.hok J) p λh' i hs=>h _ ?_;obtain⟨q,es,ep,j,N,O,U,_,W⟩:=i;refine vA I (by rw[e];exact kM) hs ⟨q,j⟩ ⟨t,hd,_,(f.put k J C).keeps λc ys L=>?_,q,es,ep,j,N,O,U,W⟩;rw[aB (aaU L e (λz=>nomatch z))];exact L
end
noncomputable def QF(i:dy):Prop:=∀a iv,nK i a_ a iv=operate [a,iv] (ku a iv)
theorem Ey{prog:df}{A:ew}{E:bx->cn->Prop}{s:cn}{env:Env}{a slice:dy}{pos:Pos}{T id:String}(l:oj (.type T) "__getitem__"=fg (aU (.builtin id)))(hs:QF slice)(h:cE (cS prog w) A (eA a env) (λo e=>cE (cS prog w) A (eA slice env) (λi b=>b.TypeIs o T/\cE (cS prog w) A (ku o i) Q E b) E e) E s):cE (cS prog w) A (eA (.Subscript a slice pos) env) Q E s:=by
 refine Subscript_ (eu h (λo e g=>eu g (λi b c=>?_) λ_ _ x=>x) λ_ _ x=>x);obtain⟨k,c⟩:=c;unfold pV;refine bdq ?_;rw[getitemInPython_of_ne k.not_modules];refine bdq (n1 k l ?_);have fin:cE (cS prog w) A (nK slice a_ o i) (λr f=>cE (cS prog w) A (letTemporaryGo a o r>>=λ_=>fg r) Q E f) E b:=by rw[hs o i];exact wpAny_operating (eu c (λr f j=>bdq (wpAny_letTemporaryGo (cv j))) λ_ _ x=>x)
 first|exact cv (bdq fin)|exact bdq (cv (bdq fin))|exact bdq fin
theorem jy{c:List (cq×Obj)}{σ:St}{s:cn}{a:cq}{o:Option V}(I:Inv X c σ H s)(g:nT H a y o):s.TypeIs (.ref a) "dict":=by
 rcases g with⟨kvs,k,e,_,_⟩|⟨kvs,k,b,e,_,_,_⟩;.obtain⟨_,_,vs,_,f⟩:=rW I.hok e;exact f.typeIs
 .obtain⟨_,_,xs,_,f⟩:=rJ I.hok e;exact f.typeIs
noncomputable def Z5(c ty:TE):TE:=λσ H Q=>c σ H λx e=>ty σ e λy b=>∃a v,x=.ref a/\nT b a y (aU v)/\Q v b
noncomputable def agb(ty c:TE):TE:=λσ H Q=>ty σ H λy e=>c σ e λx b=>∃a o,x=.ref a/\nT b a y o/\Q (.bl o.isSome) b
noncomputable def Qw(ty c:TE):TE:=λσ H Q=>ty σ H λy e=>c σ e λx b=>∃a o,x=.ref a/\nT b a y o/\Q (.bl (!o.isSome)) b
noncomputable def aak(c ty e:TE):TS:=λD σ H=>e σ H λv f=>c σ f λx g=>ty σ g λy h=>∃a b,x=.ref a/\ZV h a y v b/\D.nx σ b
section
variable{X:Cx}{o i e value:dy}{pos pos' tpos:Pos}{td ty tv:TE}
theorem PX(c:X.A.units+1<f_)(ho:PE X o td)(hi:PE X i ty)(hs:QF i):PE X (.Subscript o i pos) (Z5 td ty):=by intro b s σ H Q I h;refine Ey PySem.F.slot_dict_getitem.lookup hs (cA (ho b s σ H _ I h) λu s1⟨x,H1,I1,rx,q1⟩=>cA (hi b s1 σ H1 _ I1 q1) λiv s2⟨y,H2,I2,ry,a,v,ex,g,q2⟩=>?_);subst ex;obtain rfl:u=ec a:=rx;exact⟨jy I2 g,oA c I2 g ry λk s3 f j=>⟨v,H2,f,j,q2⟩⟩
theorem Uv(c:X.A.units+1<f_)(hi:PE X i ty)(ho:PE X o td):PC X .In i o (agb ty td):=by intro b s σ H Q I h;refine cA (hi b s σ H _ I h) λiv s1⟨y,H1,I1,ry,q1⟩=>cA (ho b s1 σ H1 _ I1 q1) λu s2⟨x,H2,I2,rx,a,ov,ex,g,q2⟩=>?_;subst ex;obtain rfl:u=ec a:=rx;exact aa4 c I2 g ry λs3 f=>⟨.bl ov.isSome,H2,f,rfl,q2⟩
theorem Hl(c:X.A.units+1<f_)(hi:PE X i ty)(ho:PE X o td):PC X .NotIn i o (Qw ty td):=by intro b s σ H Q I h;refine cA (hi b s σ H _ I h) λiv s1⟨y,H1,I1,ry,q1⟩=>cA (ho b s1 σ H1 _ I1 q1) λu s2⟨x,H2,I2,rx,a,ov,ex,g,q2⟩=>?_;subst ex;obtain rfl:u=ec a:=rx;exact DW c I2 g ry λs3 f=>⟨.bl (!ov.isSome),H2,f,rfl,q2⟩
theorem Dn(c:X.A.units+1<f_)(ho:PE X o td)(hi:PE X i ty)(f:PE X value tv)(hs:gi value (aU (.Subscript o i pos')) pos.line X.env=fg a_):PS X (.Assign [.Subscript o i pos'] value pos) (aak td ty tv):=by intro b s σ H D I h;refine wpAny_Assign_Subscript (cA (f b s σ H _ I h) λr s1⟨v,H1,I1,rv,q1⟩=>cA (ho b s1 σ H1 _ I1 q1) λu s2⟨x,H2,I2,rx,q2⟩=>cA (hi b s2 σ H2 _ I2 q2) λiv s3⟨y,H3,I3,ry,a,H4,ex,g,q3⟩=>?_) hs;subst ex;obtain rfl:u=ec a:=rx;exact G5 c I3 g ry rv λs4 j=>⟨σ,H4,j,q3⟩
end
theorem xx{P:df}(h:eF)(a:h8<h.objs.size):bQ P w H (h.push {cls:=.type "dict",data:=.dict #[]}) h.objs.size (.dK []):=⟨tU,beq_eq_false_iff_ne.mpr (fx (dE a)),[],.nil,Heap.DictOf.new h⟩
noncomputable def Vs:TE:=λ_ H Q=>∀p,H p=ci->Q (.ref p) (upd H p (.dK []))
section
variable{X:Cx}{pos:Pos}
theorem ym:PE X (.Dict [] [] pos) Vs:=λb s σ H Q I h=>wpAny_Dict_empty ⟨.ref s.heap.objs.size,_,I.laid (a:=s.heap.objs.size) (o:=.dK []) (t':=s.toks) (λ_ _ q=>dF q) (cN) (xx s.heap I.big),rfl,h _ (I.hok.fresh (cN))⟩
end
noncomputable def Bm:List (TE×TE)->St->Hp->(List (V×V)->Hp->Prop)->Prop|[],_,H,Q=>Q [] H|(a,b)::r,σ,H,Q=>a σ H λx c=>b σ c λy e=>Bm r σ e λps f=>Q ((x,y)::ps) f
noncomputable abbrev VV:List (V×V)->List (bx×bx)->Prop:=Paired λp q=>RelV p.1 q.1/\RelV p.2 q.2
noncomputable def PPs(X:Cx)(pos:Pos)(keys:List (Option dy))(a:List dy)(e:List (TE×TE)):Prop:=∀(b:List (cq × Obj))(s:cn)(σ:St)(H:Hp)(Q:List (V × V)->Hp->Prop),Inv X b σ H s->Bm e σ H Q->cE (cS X.prog X.w) X.A (evalPairs (pairTrees keys a X.env pos)) (λvs f=>∃ps c,Inv X b σ c f/\VV ps vs/\Q ps c) X.xe s
theorem FP{pos:Pos}:PPs X pos [] [] []:=λa s σ H Q I h=>pairTrees_nil_walk ⟨[],H,I,.nil,h⟩
theorem xT{pos:Pos}{k v:dy}{ks:List (Option dy)}{vs:List dy}{b c:TE}{e:List (TE×TE)}(f:PE X k b)(g:PE X v c)(hr:PPs X pos ks vs e):PPs X pos (aU k::ks) (v::vs) ((b,c)::e):=λa s σ H Q I h=>pairTrees_cons_walk (cA (f a s σ H _ I h) λu s1⟨x,H1,I1,rx,q1⟩=>cA (g a s1 σ H1 _ I1 q1) λi s2⟨y,H2,I2,ry,q2⟩=>cA (hr a s2 σ H2 _ I2 q2) λws s3⟨ps,H3,I3,rel,q3⟩=>⟨(x,y)::ps,H3,I3,.cons ⟨rx,ry⟩ rel,q3⟩)
noncomputable def oE(kvs more:List (Key×V)):List (Key×V):=more.foldl (λa b=>putK a b.1 b.2) kvs
theorem KV.merge:∀{more:List (Key×V)}{a:List (Key×bx)}{kvs:List (Key×V)}{vs:List (Key×bx)},KV more a->KV kvs vs->KV (oE kvs more) (merged vs a):=by intro more a kvs vs r;unfold KV at r;induction r generalizing kvs vs with|nil=>intro q;exact q|@cons p q ps c h t b=>
   intro r0;have e:KV (putK kvs p.1 p.2) (stored vs q.1 q.2):=by have:=r0.put p.1 h.2;rw[<-h.1];exact this
   exact b e
theorem kE:∀(more kvs:List (Key×V)),(oE kvs more).length<=kvs.length+more.length|[],kvs=>by show kvs.length<=kvs.length+0;lia|p::r,kvs=>by have h1:=kE r (putK kvs p.1 p.2);have a:=jH kvs p.1 p.2;show(oE (putK kvs p.1 p.2) r).length<=_;rw[dU];lia
theorem qU{P:df}{w:er}:∀{kvs:List (Key×V)}{ws:List (bx×bx)},VV (kvs.map λf=>(kV f.1,f.2)) ws->∃e,Carries (bB P w) ws e/\KV kvs e|[],_,r=>by rw[l6]at r;cases r;exact⟨[],kM,.nil⟩|p::kvs,_,r=>by rw[c_]at r;cases r with|@cons a b as bs h t=>obtain⟨e,c,q⟩:=qU (P:=P) (w:=w) t;obtain⟨b1,b2⟩:=b;exact⟨(p.1,b2)::e,⟨rH h.1,rfl,c⟩,.cons ⟨rfl,h.2⟩ q⟩
noncomputable def abb(c:List (TE×TE)):TE:=λσ H Q=>∀p,H p=ci->Bm c σ (upd H p (.dK [])) λps a=>a p=aU (.dK [])/\∃kvs:List (Key×V),ps=kvs.map (λb=>(kV b.1,b.2))/\kvs.length<=15/\Q (.ref p) (upd a p (.dK (oE [] kvs)))
theorem Fv{pos:Pos}{keys:List (Option dy)}{b:List dy}{j:List (TE×TE)}(h:PPs X pos keys b j)(f:keys.all (·.isSome)=b_)(l:keys.length=b.length)(h0:keys≠[])(i:keys.length<=15):PE X (.Dict keys b pos) (abb j):=by
 intro g s σ H Q I q;have m:=I.hok.fresh (le_refl s.heap.objs.size);have n:=I.laid (a:=s.heap.objs.size) (o:=.dK []) (h':=s.heap.push {cls:=.type "dict",data:=.dict #[]}) (t':=s.toks) (λ_ _ q=>dF q) (cN) (xx s.heap I.big);refine wpAny_Dict_walk (knd:=bB X.prog X.w) f l h0 i (cA (h g _ σ _ _ n (q _ m)) λws s2⟨ps,H2,I2,rel,e,kvs,ep,lk,q2⟩=>?_);subst ep;obtain⟨p,c,r⟩:=qU (P:=X.prog) (w:=X.w) rel;obtain⟨z,hd,t,r0,u⟩:=Td I2.hok e;cases r0;refine⟨p,c,u,λh' k hs=>⟨.ref s.heap.objs.size,_,?_,rfl,q2⟩⟩;have hz:(oE [] kvs).length<=sizeLine:=by have h1:=kE kvs [];rw[mx]at h1;rw[fb];lia
 have he:∃q,h'.get? s.heap.objs.size=aU q:=let⟨q,_,_,hq,_⟩:=k;⟨q,hq⟩;exact vA I2 (by rw[e];exact kM) hs he (MK hz hd (r.merge .nil) k)
structure M2(X:Cx)(o:dy)(m:Str)(apos:Pos)(e f:dy)(cpos:Pos):Prop where
 base:jS o m X.env (eA o X.env)=eA o X.env
 few:((i7 cpos (cx [e,f] X.env)).all (λx=>!x.1)&&(sh cpos (nS [] X.env)).all (λx=>x.1.isSome)&&decide (([e,f]:List dy).length+([]:List l9).length+(if([]:List l9).isEmpty then 0 else 1)<30))=b_
 line:(apos.endLine==cpos.line)=b_
 trees:i7 cpos (cx [e,f] X.env)=[(a_,eA e X.env),(a_,eA f X.env)]
noncomputable def IsD(H:Hp)(a:cq):Prop:=(∃kvs,Rd H a (.dK kvs))\/∃kvs,Rd H a (.dT kvs)
theorem Xw{f:List (cq×Obj)}{σ:St}{s:cn}{a:cq}(I:Inv X f σ H s)(d:IsD H a):s.TypeIs (.ref a) "dict"/\(∀b,ec a=.ref b->∃c,s.heap.get? b=aU c/\c.dict=ci)/\(a==h8)=a_:=by
 rcases d with⟨kvs,e⟩|⟨kvs,e⟩;.obtain⟨_,hd,vs,_,g⟩:=rW I.hok e;refine⟨g.typeIs,λb q=>?_,hd⟩;cases q;obtain⟨c,_,_,h1,h,_⟩:=g;exact⟨c,h1,h.2.1⟩
 .obtain⟨_,hd,xs,_,g⟩:=rJ I.hok e;refine⟨g.typeIs,λb q=>?_,hd⟩;cases q;obtain⟨c,_,_,h1,h,_⟩:=g;exact⟨c,h1,h.2.1⟩
section
variable{X:Cx}{pins:List (cq×Obj)}{σ:St}{H:Hp}{s:cn}{a:cq}{y d:V}{u r:bx}{o:Option V}{A:ew}{E:bx->cn->Prop}
theorem Ur(q:A.units+1<f_)(I:Inv X pins σ H s)(g:nT H a y o)(j:RelV y u)(m:RelV d r)(h:∀n p,Inv X pins σ H p->RelV (o.getD d) n->Q n p):cE (cS X.prog X.w) A (call (.builtin "dict.get") [.ref a,u,r]) Q E s:=by
 rcases g with⟨kvs,k,e,i,l⟩|⟨kvs,k,b,e,i,t,l⟩;.subst i;obtain⟨z,hd,vs,c,f⟩:=rW I.hok e;refine ri PySem.F.slot_dict_get f.typeIs PySem.F.entry_dict_get (PySem.F.args_dict_get_3 _ _ _) (meets_dict_get_default (bB X.prog X.w) a (rH j) hd r) ⟨_,f.mapOf,h _ _ (I.tok _) ?_⟩;rw[l];exact(c.val k).getD m
 .subst i;cases(show u=ec b from j);obtain⟨z,hd,xs,c,f⟩:=rJ I.hok e;refine ri PySem.F.slot_dict_get f.typeIs PySem.F.entry_dict_get (PySem.F.args_dict_get_3 _ _ _) (meetsH_dict_get_default (lT (bB X.prog X.w)) a b hd r) ⟨iN q,k,xs,ni I.hok t,f,h _ _ (I.tok _) ?_⟩;rw[l];exact(c.val k).getD m
end
noncomputable def W9(e ty f:TE):TE:=λσ H Q=>e σ H λx b=>∃a,x=.ref a/\IsD b a/\ty σ b λy g=>f σ g λz c=>∃o,nT c a y o/\Q (o.getD z) c
section
variable{X:Cx}{o e f:dy}{apos cpos:Pos}{td ty tx:TE}
theorem Il(c:X.A.units+1<f_)(ho:PE X o td)(he:PE X e ty)(i:PE X f tx)(m:M2 X o "get" apos e f cpos):PE X (.Call (.Attribute o "get" apos) [e,f] [] cpos) (W9 td ty tx):=by intro b s σ H Q I h;refine wpAny_Call_method m.base m.few m.line PySem.F.plainAttrs_dict PySem.F.slot_dict_get PySem.F.type_dict_get (cA (ho b s σ H _ I h) λu s1⟨x,H1,I1,rx,a,ex,d,q1⟩=>?_);subst ex;obtain rfl:u=ec a:=rx;obtain⟨t1,t2,_⟩:=Xw I1 d;refine⟨t1,t2,?_⟩;rw[m.trees];refine kK rfl (pc (iB (cA (he b s1 σ H1 _ I1 q1) λiv s2⟨y,H2,I2,ry,q2⟩=>iB (cA (i b s2 σ H2 _ I2 q2) λl s3⟨z,H3,I3,rz,ov,g,q3⟩=>kn ?_))));exact Ur c I3 g ry rz λn s4 j k=>⟨_,H3,j,k,q3⟩
end
end _L
namespace _H
open PySem _L Spec PyProof.Rows
variable{kvs:List (Int×D)}{es:List (Key×V)}{k:Int}{i:Nat}
inductive KR(K:PySem.W.Frag)(F:Hp):List (Int×D)->List (Key×V)->Prop where|nil:KR K F [] []|cons{k:Int}{d:D}{v:V}{kvs:List (Int×D)}{es:List (Key×V)}(h:Rep K F v d)(t:KR K F kvs es):KR K F ((k,d)::kvs) ((dQ k,v)::es)
section
variable{K:PySem.W.Frag}{F F':Hp}
noncomputable def ent(ks:List Int)(vs:List V):List (Key×V):=(ks.zip vs).map λp=>(dQ p.1,p.2)
theorem KR.of:∀{kvs:List (Int×D)}{vs:List V},aG K F vs (kvs.map (·.2))->KR K F kvs (ent (kvs.map (·.1)) vs)|[],vs,h=>by rw[l6]at h;rw[h.gk];exact .nil|(k,d)::kvs,vs,h=>by obtain⟨v,r,rfl,h1,a⟩:=h.cR;exact .cons h1 (KR.of a)
theorem KR.to(h:KR K F kvs es):∃vs,es=ent (kvs.map (·.1)) vs/\aG K F vs (kvs.map (·.2)):=by induction h with|nil=>exact⟨[],rfl,.nil⟩|@cons k d v kvs es h t a=>obtain⟨vs,rfl,r⟩:=a;exact⟨v::vs,rfl,.cons h r⟩
theorem KR.oc(h:KR K F kvs es):kO K F (.dK es) (.v kvs):=by obtain⟨vs,rfl,r⟩:=h.to;exact⟨vs,rfl,r⟩
theorem KR.Wx{o:HO}(h:kO K F o (.v kvs)):∃es,o=.dK es/\KR K F kvs es:=by obtain⟨vs,rfl,r⟩:=h;exact⟨_,rfl,.of r⟩
theorem KR.len(h:KR K F kvs es):es.length=kvs.length:=by induction h with|nil=>rfl|cons h t a=>simp[a]
theorem KR.get{d:D}(h:KR K F kvs es)(e:lA kvs k=aU d):∃v,jk es (dQ k:Key)=aU v/\Rep K F v d:=by induction h with|nil=>cases e|@cons j d' v kvs es h t a=>
   unfold lA at e a;rw[gI]at e;by_cases c:j=k;.simp[c]at e;subst e;exact⟨v,mR (by rw[c]),h⟩
   .simp[c]at e;obtain⟨b,h1,f⟩:=a (by simpa using e);exact⟨b,by rw[mH (by simpa using c)];exact h1,f⟩
theorem KR.any{kvs:List (Int×D)}{es:List (Key×V)}(k:Int)(h:KR K F kvs es):(es.any λa=>decide (a.1=(dQ k:Key)))=kvs.any λp=>decide (p.1=k):=by induction h with|nil=>rfl|cons h t b=>simp[b]
theorem KR.has(k:Int)(h:KR K F kvs es):(jk es (dQ k:Key)).isSome=(kvs.map (·.1)).contains k:=by rw[<-qp,h.any k];induction h with|nil=>rfl|@cons j d v kvs es h t a=>rw[kc,a,c_,List.contains_cons];congr 1;exact Bool.eq_iff_iff.mpr ⟨λz=>by simp at z ⊢;exact z.symm,λz=>by simp at z ⊢;exact z.symm⟩
theorem KR.repl{d:D}{v:V}(r:Rep K F v d)(h:KR K F kvs es):KR K F (kvs.map λp=>if p.1=k then(p.1,d)else p) (es.map λa=>if a.1=(dQ k:Key)then(a.1,v)else a):=by induction h with|nil=>exact .nil|@cons j d' e kvs es h t b=>
   by_cases c:j=k;.subst c;simp;exact .cons r b
   . have:¬(dQ j:Key)=dQ k:=by simpa using c
     simp[c,this];exact .cons h b
theorem KR.snoc{d:D}{v:V}(r:Rep K F v d)(h:KR K F kvs es):KR K F (kvs++[(k,d)]) (es++[(dQ k,v)]):=by induction h with|nil=>exact .cons r .nil|cons h t a=>exact .cons h a
theorem KR.put{d:D}{v:V}(r:Rep K F v d)(h:KR K F kvs es):KR K F (gq kvs k d) (putK es (dQ k:Key) v):=by
 unfold gq putK;rw[h.any k];split;.exact h.repl r
 .exact h.snoc r
theorem KR.zip{ks:List Int}{a:List D}{vs:List V}(h:aG K F vs a)(b:ks.length=a.length):KR K F (ks.zip a) (ent ks vs):=by induction a generalizing ks vs with
 |nil=>rw[h.gk];cases ks with|nil=>exact .nil|cons _ _=>simp at b
 |cons d a c=>obtain⟨v,r,rfl,h1,e⟩:=h.cR;cases ks with|nil=>simp at b|cons k ks=>exact .cons h1 (c e (by simpa using b))
end
section
variable{K:PySem.W.Frag}{F F1 H H1:Hp}{ρ ρ1 ρ2:List Sl}{σ σ1:_L.St}
theorem GS.agc{x:Nat}{m p:Dc}{a:cq}(g:GS K F ρ σ H)(e:ρ[x]?=aU (.gV m))(r:σ[x]?=aU (aU (.ref a))):az K F ρ σ H F (ρ.set x (.gV p)) σ (upd H a p.ho):=by
 have hi:x<ρ.length:=(dD e).1;have v:aX ρ σ x a:=⟨⟨_,_,e,rfl⟩,r⟩;obtain⟨I,J,h1,L,w,M⟩:=g.own x _ _ e rfl;rw[r]at h1;cases h1;have f:∀{j:Nat}{c:cq},aX (ρ.set x (.gV p)) σ j c->aX ρ σ j c:=λ{j c}⟨⟨t,dt,h,s⟩,q3⟩=>by
  by_cases b:j=x;.subst b;exact⟨⟨_,_,e,rfl⟩,q3⟩
  .rw[fC b]at h;exact⟨⟨t,dt,h,s⟩,q3⟩
 refine⟨⟨λc o q=>?_,by simp[g.len],λj z d q=>?_,λj t dt q u=>?_,λj k c h s=>g.dis j k c (f h) (f s)⟩,.refl _,λc n A=>absurd n A,λc o q n=>?_,λc⟨j,q⟩=>.inl ⟨j,f q⟩,by simp,λj t q l=>⟨rfl,?_⟩⟩
 . have:c≠a:=by rintro rfl;rw[w]at q;cases q
   rw[aB this];exact g.sub c o q
 . by_cases b:j=x;.subst b;rw[cp hi]at q;cases q
   .rw[fC b]at q;exact g.val j z d q
 . by_cases b:j=x;.subst b;rw[cp hi]at q;cases q;cases u;exact⟨a,_,r,aP,w,rfl⟩
   . rw[fC b]at q;obtain⟨c,B,y,C,E,G⟩:=g.own j t dt q u;have:c≠a:=by rintro rfl;exact b (g.dis j x c ⟨⟨t,dt,q,u⟩,y⟩ v)
     exact⟨c,B,y,by rw[aB this];exact C,E,G⟩
 . have:c≠a:=by rintro rfl;exact n ⟨x,v⟩
   rw[aB this];exact q
 . by_cases b:j=x;.subst b;rw[e]at q;cases q;cases l
   .exact⟨t,by rw[fC b];exact q,.refl t⟩
theorem GS.newD{m:Dc}{a:cq}(g:GS K F ρ σ H)(e:ρ[i]?=aU .aO)(s:H a=ci):az K F ρ σ H F (ρ.set i (.gV m)) (σ.set i (aU (.ref a))) (upd H a m.ho):=by
 have hi:i<ρ.length:=(dD e).1;have u:i<σ.length:=by rw[<-g.len];exact hi
 have x:F a=ci:=by cases q:F a with|none=>rfl|some o=>rw[g.sub a o q]at s;cases s
 have f:∀{j:Nat}{c:cq},j≠i->aX (ρ.set i (.gV m)) (σ.set i (aU (.ref a))) j c->aX ρ σ j c:=λ{j c}b⟨⟨t,ds,e1,e2⟩,e3⟩=>by rw[fC b]at e1 e3;exact⟨⟨t,ds,e1,e2⟩,e3⟩
 have h:∀{c:cq},aX (ρ.set i (.gV m)) (σ.set i (aU (.ref a))) i c->c=a:=λ{c}⟨_,e3⟩=>by rw[cp u]at e3;cases e3;rfl
 have no:∀{j:Nat},¬ aX ρ σ j a:=λ{j}⟨⟨t,ds,e1,e2⟩,e3⟩=>by obtain⟨c,o,p,r,_⟩:=g.own j t ds e1 e2;rw[e3]at p;cases p;rw[s]at r;cases r
 refine⟨⟨λc o q=>?_,by simp[g.len],λj z d q=>?_,λj t dt q y=>?_,λj k c p r=>?_⟩,.refl _,λc n A=>absurd n A,λc o q n=>?_,λc⟨j,q⟩=>?_,by simp,λj t q l=>?_⟩
 . have:c≠a:=by rintro rfl;rw[x]at q;cases q
   rw[aB this];exact g.sub c o q
 . by_cases b:j=i;.subst b;rw[cp hi]at q;cases q
   .rw[fC b]at q ⊢;exact g.val j z d q
 . by_cases b:j=i;.subst b;rw[cp hi]at q;cases q;cases y;exact⟨a,_,cp u,aP,x,rfl⟩
   . rw[fC b]at q ⊢;obtain⟨c,o,B,w,C,E⟩:=g.own j t dt q y;have:c≠a:=by rintro rfl;rw[s]at w;cases w
     exact⟨c,o,B,by rw[aB this];exact w,C,E⟩
 . by_cases b:j=i
   . by_cases v:k=i;.rw[b,v]
     .subst b;rw[h p]at r;exact absurd (f v r) no
   . by_cases v:k=i;.subst v;rw[h r]at p;exact absurd (f b p) no
     .exact g.dis j k c (f b p) (f v r)
 . have:c≠a:=by rintro rfl;rw[s]at q;cases q
   rw[aB this];exact q
 . by_cases b:j=i;.subst b;rw[h q];exact .inr s
   .exact .inl ⟨j,f b q⟩
 . have b:j≠i:=by rintro rfl;rw[e]at q;cases q;cases l
   exact⟨by rw[fC b],t,by rw[fC b];exact q,.refl t⟩
end
noncomputable def tL(p:Int×Int):Key×V:=(dQ p.1,V.int p.2)
theorem My(i:Int):∀kvs:List (Int×Int),jk (kvs.map tL) (dQ i:Key)=((kvs.find? λb=>decide (b.1=i)).map (·.2)).map V.int
 |[]=>rfl|p::kvs=>by
   have a:=My i kvs;unfold jk at a ⊢;rw[c_,gI,gI];by_cases h:p.1=i
   . have e:decide ((tL p).1=(dQ i:Key))=b_:=by simp[tL,h]
     rw[e];simp[h,tL]
   . have e:decide ((tL p).1=(dQ i:Key))=a_:=by simp[tL,h]
     rw[e];simp only[h,decide_false];exact a
theorem Vq(i v:Int)(kvs:List (Int×Int)):putK (kvs.map tL) (dQ i:Key) (V.int v)=(putD kvs i v).map tL:=by
 have e:((kvs.map tL).any λa=>decide (a.1=(dQ i:Key)))=kvs.any λa=>decide (a.1=i):=by rw[List.any_map];congr 1;funext p;simp[tL]
 unfold putK putD;rw[e];split
 . rw[eh,eh];refine gu λp _=>?_;by_cases h:p.1=i;.simp[tL,h]
   .simp[tL,h]
 .rw[gy];rfl
section
variable{X:Cx}{c:Call}{n:Nat}{a b e:dy}{pa pb p:P}{pos:Pos}
theorem Mf{H:Hp}{q:cq}{m:Dc}{i:Int}{o:Option Int}(h:Rd H q m.ho)(e:m.get (.int i)=aU o):nT H q (.int i) (o.map V.int):=by cases m with|k kvs=>cases e;exact .inl ⟨kvs.map tL,dQ i,h,rfl,(My i kvs).symm⟩|t kvs=>cases e
theorem pW(hu:X.A.units+8<f_)(M:SX X c a pa)(N:SX X c b pb)(hs:QF b):SX X c (.Subscript a b pos) (.bin .Ci pa pb):=by refine vN (f:=FJ) (λh1 O=>?_) M N (λρ=>rfl) rfl;intro l s σ H Q I h;refine Ey PySem.F.slot_dict_getitem.lookup hs (cA (h1 l s σ H _ I h) λu s1⟨x,H1,I1,rx,q1⟩=>cA (O l s1 σ H1 _ I1 q1) λiv s2⟨y,H2,I2,ry,q2⟩=>?_);obtain⟨F,d,e,r,sm,G,J,he,k⟩:=q2;cases d with
 |dH m=>have U:=cG (show(m.get e).bind (λo=>o.map λv=>R.val (.int v))=aU r from he);clear he;obtain⟨o,w,he⟩:=U;cases o with|none=>cases he|some v=>
     cases he;obtain⟨i,rfl⟩:∃i,e=.int i:=by cases m with|t kvs=>cases e<;>cases w|k kvs=>cases e<;>first|exact⟨_,rfl⟩|cases w
     obtain⟨q,z,rfl,B⟩:=G.dH sm;rw[J.int]at ry;obtain rfl:u=ec q:=rx;have g:=Mf (.inr ⟨z,B⟩) w;exact⟨jy I2 g,oA (by lia) I2 g ry λW s3 C E=>⟨.int v,H2,C,E,cH.dg sm (cj _) k⟩⟩
 |dv ks Y=>cases e with|int j=>obtain⟨d',Z,he⟩:=map_some (show(lA (ks.zip Y) j).map R.val=aU r from he);subst he;obtain⟨q,z,vs,rfl,B,rs,hl⟩:=G.dv sm;obtain⟨L,g1,g2⟩:=(KR.zip rs hl).get Z;rw[J.int]at ry;obtain rfl:u=ec q:=rx;have g:nT H2 q (.int j) (aU L):=.inl ⟨_,dQ j,.inr ⟨z,B⟩,rfl,g1.symm⟩;exact⟨jy I2 g,oA (by lia) I2 g ry λW s3 C E=>⟨L,H2,C,E,cH.dg sm g2 k⟩⟩|_=>cases he
 |_=>cases he
theorem Ov{x:Str}{f p2:Pos}(h:X.N.Nodup)(hi:X.N[i]?=aU x)(j:Loc X.env.scope x)(hs:gi (.Dict [] [] p2) (aU (.Name x f)) pos.line X.env=fg a_:=by rfl)(l:X.fn x=b_\/X.env.scope.names.lookup x=aU .local:=by first|(left;rfl)|(right;rfl)|assumption):SS X c n (.Assign [.Name x f] (.Dict [] [] p2) pos) (.M8 i a_):=by
 refine eN (vR h hi j ym hs l) ?_;rintro D σ H⟨F,ρ,fl,o,g,e,k⟩;rw[_H.X17]at e;split at e;.rename_i q;cases e;exact λa r=>k F _ _ (g.newD (m:=.k []) q r)
 .cases e
theorem Vj{x:Str}{C f l:Pos}{pk E:P}(hu:X.A.units+8<f_)(W:X.N[i]?=aU x)(Y:yZ X.env.scope x)(Z:SX X c a pk)(hb:SX X c b E)(m:M2 X (.Name x C) "get" f a b l)(hd:(x==("__debug__":Str))=a_:=by decide)(u:(x==("__classdict__":Str))=a_:=by decide):SX X c (.Call (.Attribute (.Name x C) "get" f) [a,b] [] l) (.ZJ i pk E):=by
 obtain⟨ta,h1,h2⟩:=Z.cJ;obtain⟨tb,h3,h4⟩:=hb.cJ;refine⟨eU (Il (by lia) (gh W Y hd u) h1 h3 m) ?_,λi h=>by cases h⟩;rintro σ H Q⟨F,ρ,r,ac,g,e,k⟩;rw[_H.E23]at e;split at e
 . rename_i m0 q;obtain⟨y,ae,e1,G⟩:=ak e;clear e;obtain⟨dd,af,e2,s⟩:=ak G;clear G;obtain⟨I,o0,J,L,w3,w4⟩:=g.own i _ _ q rfl;refine⟨.ref I,J,I,rfl,?_,?_⟩;.cases(show o0=m0.ho from w4);cases m0 with|k kvs=>exact .inl ⟨_,.inl L⟩|t kvs=>exact .inr ⟨_,.inl L⟩
   . refine h2 g e1 λv F1 H1 s1 pv=>h4 s1.gs e2 λz F2 H2 s2 M=>?_;split at s
     . rename_i m1 q1;obtain⟨O,e3⟩:=aC s;clear s;subst e3;obtain⟨o,B,eD⟩:=cG O;clear O;obtain⟨w,e5,e6⟩:=map_some eD;subst e6;obtain⟨a1,o1,U,y2,y3,y4⟩:=s2.gs.own i _ _ q1 rfl;rw[J]at U;cases U;cases(show o1=m1.ho from y4);obtain⟨j,rfl⟩:∃j,y=.int j:=by cases m1 with|t kvs=>cases y<;>cases B|k kvs=>cases y<;>first|exact⟨_,rfl⟩|cases B
       rw[dj e5]at M;rw[pv.int,M.int];refine⟨o.map V.int,Mf (.inl y2) B,?_⟩;have:(o.map V.int).getD (V.int w)=V.int (o.getD w):=by cases o<;>rfl
       rw[this];exact k _ F2 H2 (s1.trans s2) (show Rep X.K F2 _ _ from cj _)
     .cases s
 .cases e
theorem O4{x:Str}{C f:Pos}{pk:P}(hu:X.A.units+8<f_)(J:X.N[i]?=aU x)(L:yZ X.env.scope x)(M:SX X c a pk)(he:SX X c e p)(hs:gi e (aU (.Subscript (.Name x C) a f)) pos.line X.env=fg a_:=by rfl)(hd:(x==("__debug__":Str))=a_:=by decide)(s:(x==("__classdict__":Str))=a_:=by decide):SS X c n (.Assign [.Subscript (.Name x C) a f] e pos) (.dput i pk p):=by
 obtain⟨ta,h1,O⟩:=M.cJ;refine eN (Dn (by lia) (gh J L hd s) h1 he.ev hs) ?_;rintro D σ H⟨F,ρ,fl,Q,g,e,k⟩;rw[_H.X18]at e;obtain⟨r,u,U,o⟩:=ak e;clear e;refine⟨F,ρ,r,u,g,U,λv F1 H1 s1 W=>?_⟩;split at o
 . rename_i m0 Y;obtain⟨E,Z,e2,h⟩:=ak o;clear o;obtain⟨z,o0,B,w2,w3,w4⟩:=s1.gs.own i _ _ Y rfl;refine⟨.ref z,B,O s1.gs e2 λy F2 H2 s2 py=>?_⟩;split at h
   . rename_i m w q;split at h;.rename_i G l;cases h;obtain⟨a1,o1,I,y2,y3,y4⟩:=s2.gs.own i _ _ q rfl;rw[B]at I;cases I;cases(show o1=m.ho from y4);cases(show v=.int w by have:Rep X.K F1 v (.int w):=W;rwa[Rep]at this);refine⟨z,upd H2 z G.ho,rfl,?_,k F2 σ _ ((s1.trans s2).trans (s2.gs.agc q B))⟩;cases m with|t kvs=>cases E<;>cases l|k kvs=>cases E with|int j=>obtain⟨hl,l⟩:=bI (show(if kvs.length<lim then aU (Dc.k (putD kvs j w))else ci)=aU G from l);subst l;rw[py.int];refine .inl ⟨kvs.map tL,dQ j,y2,rfl,by rw[dV,fb];exact hl,?_⟩;rw[Vq];rfl|_=>cases l
     .cases h
   .cases h
 .cases o
end
end _H
namespace _L
open PySem Spec PyProof.Rows
noncomputable def Itk(a:cq)(b:Obj)(kvs:List (Key×V)):It:=⟨λi H=>H a=aU (.dB b (.dK kvs))/\i<kvs.length,λi H x c=>c=H/\∃p,kvs[i]?=aU p/\x=kV p.1,λi H=>H a=aU (.dB b (.dK kvs))/\kvs.length<=i⟩
theorem KV.get:∀{κ:Type}{kvs:List (κ×V)}{vs:List (κ×bx)}{i:Nat}{p:κ×V},KV kvs vs->kvs[i]?=aU p->∃v,vs[i]?=aU (p.1,v)|_,_,_,_,_,.nil,e=>by simp at e|_,_,_,0,_,.cons r _,e=>by simp at e;subst e;exact⟨_,by rw[List.getElem?_cons_zero,r.1]⟩|_,_,_,i+1,p,.cons _ t,e=>by obtain⟨v,h⟩:=KV.get (i:=i) (p:=p) t (by simpa using e);exact⟨v,by simpa using h⟩
theorem uI{X:Cx}{b:List (cq×Obj)}{σ:St}{H:Hp}{s:cn}{a:cq}{c:Obj}{kvs:List (Key×V)}{es:Array DictEntry}{ep:Nat}(I:Inv X b σ H s)(h:H a=aU (.dB c (.dK kvs)))(hd:c.data=.dict es ep):(a==h8)=a_/\∃vs,KV kvs vs/\s.heap.DictAt (bB X.prog X.w) a vs ep:=by obtain⟨ho,hz,f,vs,r,g⟩:=(show bQ X.prog X.w H s.heap a (.dB c (.dK kvs))from I.hok a _ h);obtain⟨o,i,j,h1,k,e,l⟩:=g;rw[ho]at h1;cases h1;rw[hd]at e;cases e;exact⟨f,vs,r,⟨c,es,ho,k,hd,l⟩⟩
theorem Uc{P:df}{w:er}{k:Key}{u:bx}(h:(bB P w).is k u=b_):RelV (kV k) u:=by
 rcases bM h with⟨i,t,rfl,rfl⟩|⟨x,t,rfl,rfl⟩;.exact⟨t,rfl⟩
 .exact⟨t,rfl⟩
theorem Gg{P:df}{w:er}{K:PySem.W.Frag}{C:dy}(a it:cq)(B:Obj)(kvs:List (Key×V))(es:Array DictEntry)(ep:Nat)(hd:B.data=.dict es ep):Turn P w K C (Itk a B kvs) [it] it (λi h=>h.IsKeyIter it a i kvs.length ep)where
 mem:=by simp
 obj:=λi h st b g=>by
  have e:b=it:=by simpa using g
  subst e;obtain⟨o,e,c,d⟩:=st;exact⟨o,e,λv z=>by rw[d]at z;cases z⟩
 keep:=λi h h' st k=>st.at λo e=>k it (by simp) o e;item:=by intro X n p q hc i f s σ H E I m st t;subst n p q;obtain⟨x,hi⟩:=t;obtain⟨G,vs,r,y⟩:=uI I x hd;have l:vs.length=kvs.length:=(Paired.length r).symm;obtain⟨v,J⟩:=KV.get r (show kvs[i]?=aU kvs[i]by simp[hi]);obtain⟨f0,f1,f2,f3,f4,f5⟩:=m it (by simp);refine wpAny_pyNext_dict_item (by rw[l];exact st) y J λu h' L j M=>?_;have N:Inv X f σ H {s with heap:=h'}:=I.turned (t':=s.toks) (λb o g e=>(M.2 b g).trans e) f0 f1 f3 f4 f5;rw[l]at j;obtain⟨o,e,c,d⟩:=id j;exact⟨u,rfl,Fe (s:={s with heap:=h'}) e c d (by decide) ⟨_,H,N,Uc L,⟨rfl,_,by simp[hi],rfl⟩,j,λb g=>(m b g).1⟩⟩
 done:=by intro X n p q hc i f s σ H E I m st t;subst n p q;obtain⟨x,hi⟩:=t;obtain⟨G,vs,r,y⟩:=uI I x hd;have l:vs.length=kvs.length:=(Paired.length r).symm;obtain⟨f0,f1,f2,f3,f4,f5⟩:=m it (by simp);refine wpAny_pyNext_dict_end (I.ok.hd hc) (by rw[l];exact st) y (by simp[l,hi]) λh' he=>⟨rfl,?_⟩;exact I.turned (t':=s.toks) (λb o g e=>he b o g e) f0 f1 f3 f4 f5
 self:=λA i s Q E st O=>wpAny_pyIter_keyiter st O
section
variable{X:Cx}{tg:dy}
theorem Q0{l:dy}{k:TE}(n:PE X l k):PI X tg l (λσ H R=>k σ H λx f=>∃a c kvs,x=.ref a/\f a=aU (.dB c (.dK kvs))/\R (Itk a c kvs) f):=by
 intro g s σ H R I h;refine cA (n g s σ H _ I h) ?_;rintro v s1⟨x,f,j,r1,a,c,kvs,e,p,q⟩;subst e;cases r1;obtain⟨ho,hz,t,vs,r,u⟩:=(show bQ X.prog X.w f s1.heap a (.dB c (.dK kvs))from j.hok a _ p);obtain⟨o,es,ep,h1,y,m,z⟩:=id u;rw[ho]at h1;cases h1;have i:vs.length=kvs.length:=(Paired.length r).symm;refine wpAny_pyIter_dict (knd:=bB X.prog X.w) (kvs:=vs) (ep:=ep) t ⟨c,es,ho,y,m,z⟩ ?_;refine⟨s1.heap.objs.size,[s1.heap.objs.size],_,_,f,rfl,j.kept (t':=s1.toks) λb o e=>dF e,Gg a _ c kvs es ep m,⟨_,cw _ rfl,rfl,by rw[i];rfl⟩,λb A=>?_,q⟩;have e:b=s1.heap.objs.size:=by simpa using A
 subst e;exact j.zH (cN) (j.hok.fresh (cN))
end
end _L
namespace _H
open PySem _L Spec PyProof.Rows
section
variable{X:Cx}{c:Call}{tg e:dy}{p:P}
theorem O8{ks:List Int}{es:List (Key×V)}{j:Nat}{p:Key×V}{i:Int}(h:es.map (·.1)=ks.map (dQ:Int->Key))(a:es[j]?=aU p)(b:ks[j]?=aU i):p.1=dQ i:=by
 have:(es.map (·.1))[j]?=(ks.map (dQ:Int->Key))[j]?:=by rw[h]
 rw[fk,fk,a,b]at this;exact eJ this
theorem sW:∀{ks:List Int}{vs:List V},ks.length=vs.length->(ent ks vs).map (·.1)=ks.map (dQ:Int->Key)|[],[],_=>rfl|k::ks,v::vs,h=>by have:=sW (ks:=ks) (vs:=vs) (by simpa using h);unfold ent at this ⊢;simpa using this|[],_::_,h=>by simp at h|_::_,[],h=>by simp at h
theorem Qs(h:SX X c e p):SI X c tg e (.blt .keys [p]):=by
 unfold SI;obtain⟨ta,h1,U⟩:=h.cJ;refine mD (Q0 h1) ?_;rintro σ H R⟨F,ρ,A,B,g,W,k⟩;obtain⟨r,o,I,Y⟩:=ak (show((_H.ev c (.blt .keys [p]) ρ).bind λr ρ=>lift (items r.d) ρ)=.ok A B from W);obtain⟨J,Z⟩:=aC Y;subst Z;rw[_H.E16]at I;obtain⟨d,ac,e1,eE⟩:=ak I;obtain⟨y,e4⟩:=aC eE;subst e4;refine U g e1 λv F' L s M=>?_;have hd:∃(ks:List Int)(es:List (Key×V))(a:cq)(b:Obj),A=ks.map D.int/\v=.ref a/\L a=aU (.dB b (.dK es))/\es.map (·.1)=ks.map (dQ:Int->Key):=by cases d with
  |dH m=>cases m with|k kvs=>cases y;cases J;obtain⟨a,b,rfl,f⟩:=M.dH s.gs.sub;exact⟨kvs.map (·.1),kvs.map tL,a,b,by rw[eh];rfl,rfl,f,by rw[eh,eh];rfl⟩|t kvs=>cases y
  |dv ks ae=>cases y;cases J;obtain⟨a,b,vs,rfl,f,rs,hl⟩:=M.dv s.gs.sub;exact⟨ks,ent ks vs,a,b,rfl,rfl,f,sW (by rw[rs.length];exact hl)⟩|_=>cases y
 obtain⟨ks,es,a,b,rfl,rfl,f,u⟩:=hd;have C:es.length=ks.length:=by have:=congrArg kX u;simpa using this
 refine⟨a,b,es,rfl,f,k _ F' L ⟨s.gs,λn j F2 o E H2 s2=>?_,λF2 o E H2 s2=>⟨s.trans s2,λv r rr=>rr.later s⟩⟩⟩;have gm:=s.gs.more (n:=n) (τ:=cr n ci) (by simp);have w:=s2.keep a _ f λ⟨j,⟨t,dt,q1,q2⟩,q3⟩=>by obtain⟨a',o',N,O,z3,G⟩:=gm.own j t dt q1 q2;rw[q3]at N;cases N;rw[f]at O;cases O;cases dt with|l A=>obtain⟨xs,z,_⟩:=G;cases z|d m=>cases m<;>cases G|v kvs=>obtain⟨xs,z,_⟩:=G;cases z
 refine⟨λd hd=>?_,λQ=>⟨w,by rw[C];simpa using Q⟩⟩;have Q:j<ks.length:=by have:=(dD hd).1;simpa using this
 refine⟨⟨w,by lia⟩,λx j8⟨e5,q,e6,e7⟩=>?_⟩;subst e5;refine⟨F2,.refl s2.gs.sub,?_⟩;rw[fk]at hd;obtain⟨i,e8,e9⟩:=map_some hd;rw[e7,O8 u e6 e8,<-e9];exact cj _
end
end _H
namespace _H
open PySem _L Spec PyProof.Rows Calls W
section
variable{X:Cx}{c:Call}{a:dy}{pa:P}{pos:Pos}
theorem lN:∀{ns:List Int}{us:List bx},hJ us ns->Vals (ns.map V.int) us|_,_,.nil=>.nil|_,_,.cons n t r=>.cons ⟨t,rfl⟩ (lN r)
theorem uw{K:PySem.W.Frag}{F:Hp}:∀ns:List Int,aG K F (ns.map V.int) (ns.map D.int)|[]=>.nil|n::ns=>.cons (cj n) (uw ns)
end
end _H
namespace _H
open PySem _L Spec PyProof.Rows
theorem Inv.aeE{X:Cx}{c:List (cq×Obj)}{σ:_L.St}{H:Hp}{s:cn}{a:cq}{kvs:List (List Key×V)}(I:_L.Inv X c σ H s)(h:H a=aU (.dT kvs)):∃o,_L.Inv X c σ (upd H a (.dB o (.dT kvs))) s:=by obtain⟨z,y,xs,r,o,es,ep,h1,f,g,i,j⟩:=(show bQ X.prog X.w H s.heap a (.dT kvs)from I.hok a _ h);refine⟨o,I.write (h':=s.heap) (t':=s.toks) (by rw[h];exact trivial) (.inl rfl) (λb u _ e=>e) ⟨o,h1⟩ ⟨h1,z,y,xs,KT.keeps r λb ys q=>?_,o,es,ep,h1,f,g,i,j⟩⟩;rw[aB (by rintro rfl;rw[h]at q;cases q)];exact q
section
variable{X:Cx}{c:Call}{n:Nat}{a b e:dy}{p pa pb:P}{pos:Pos}{es:List dy}{ps:List P}{x1:Nat}{tpos:Pos}
theorem Iu{i:Nat}{x:Str}{A:Pos}(B:X.N[i]?=aU x)(C:yZ X.env.scope x)(hd:(x==("__debug__":Str))=a_:=by decide)(w:(x==("__classdict__":Str))=a_:=by decide):SX X c (.Name x A) (.vw i):=by
 have h:=gh (X:=X) (pos:=A) B C hd w;refine⟨?_,λi h=>by cases h⟩;rintro f s σ H Q I⟨F,ρ,r,E,g,e,k⟩;rw[_H.E24]at e;split at e
 . rename_i m q;cases e;obtain⟨a,h1,j,l⟩:=g.Fq q;refine cA (h f s σ H (λv y=>v=.ref a/\y=H) I ⟨.ref a,h1,rfl,rfl⟩) λu s1⟨v,H1,I1,r1,e1,e2⟩=>?_;subst e1 e2;have G:∃o,_L.Inv X f σ (upd H1 a (.dB o m.ho)) s1:=by cases m with|k kvs=>exact Inv.Jo I1 j|t kvs=>exact Inv.aeE I1 j
   obtain⟨o,z⟩:=G;exact⟨.ref a,_,z,r1,k _ _ _ (l o).1 (l o).2⟩
 .rename_i kvs q;cases e;obtain⟨a,vs,h1,j,l⟩:=g.Ff q;refine cA (h f s σ H (λv y=>v=.ref a/\y=H) I ⟨.ref a,h1,rfl,rfl⟩) λu s1⟨v,H1,I1,r1,e1,e2⟩=>?_;subst e1 e2;obtain⟨o,z⟩:=Inv.Jo I1 j;exact⟨.ref a,_,z,r1,k _ _ _ (l o).1 (l o).2⟩
 .rename_i b L q;cases e;obtain⟨v,J,h1,j,l⟩:=g.freeze q;exact h f s σ H Q I ⟨v,h1,k v J H j l⟩
 .rename_i b d q;cases e;obtain⟨v,h1,j⟩:=g.val i b d q;exact h f s σ H Q I ⟨v,h1,k v F H (.refl g) j⟩
 .cases e
end
end _H
namespace _H
open PySem _L Spec PyProof.Rows
section
variable{K:PySem.W.Frag}{F H F' H':Hp}{ρ ρ':List Sl}{σ σ':_L.St}
noncomputable def Kp(ρ:List Sl)(σ:_L.St)(H:Hp)(a:cq)(o:HO):Prop:=H a=aU o/\¬ Own ρ σ a
theorem Kp.stp{a:cq}{o:HO}(h:Kp ρ σ H a o)(s:az K F ρ σ H F' ρ' σ' H'):Kp ρ' σ' H' a o:=⟨s.keep a o h.1 h.2,λz=>(s.xq a z).elim h.2 λe=>by rw[h.1]at e;cases e⟩
structure Wt(K:PySem.W.Frag)(F:Hp)(ρ:List Sl)(σ:_L.St)(H:Hp)(a:cq)(ds:List D):Prop where
 ex:∃xs,Kp ρ σ H a (.lst xs)/\aG K F xs ds
 fr:F a=ci
theorem Wt.stp{a:cq}{b:List D}(h:Wt K F ρ σ H a b)(s:az K F ρ σ H F' ρ' σ' H'):Wt K F' ρ' σ' H' a b:=by obtain⟨⟨xs,h1,c⟩,e⟩:=h;refine⟨⟨xs,h1.stp s,c.mono s.cB⟩,?_⟩;cases q:F' a with|none=>rfl|some o=>
   rcases s.zj a e (by rw[q];simp)with z|z;.exact absurd z h1.2
   .rw[h1.1]at z;cases z
end
end _H
namespace _H
open PySem _L Spec PyProof.Rows
section
variable{X:Cx}{c:Call}{n:Nat}{e a b d elt tg:dy}{p pa pb pe:P}{pos:Pos}{elts:List dy}{x1:Nat}{tp:Pos}
noncomputable def aa5(K:PySem.W.Frag)(i:Nat)(f:Ev):TI:=λσ H R=>∃F ρ j g h,GS K F ρ σ H/\JX i f ρ=.ok (j,g) h/\∀J F1 k,Walk K F ρ σ H (aW g (aU i)) J j F1 h k->R J k
theorem Qd{x:Str}{p':Pos}{i:Nat}(hx:x="zip")(hg:Gl X x)(hm:X.mg x=ci)(hv:isVar pb=aU i)(ha:SX X c a pa)(hb:SX X c b pb)(hs:cx [a,b] X.env=[(a_,eA a X.env),(a_,eA b X.env)]:=by rfl)(j:cx [b] X.env=[(a_,eA b X.env)]:=by rfl):PI X (.Tuple elts x1 tp) (.Call (.Name x p') [a,b] [] pos) (aa5 X.K i (_H.ev c pa)):=by
 subst hx;refine mD (VM hg hm (bZ ha.ev (bZ (hb.var i hv) dZ j) (by rw[hs,j])) hs j) ?_;rintro σ H R⟨F,ρ,ds,l,ac,g,e,k⟩;obtain⟨r,M,e1,e⟩:=ak e;obtain⟨es,m,J,e⟩:=ak e;have N:=aC J;clear J;obtain⟨J,e3⟩:=N;subst e3;refine⟨F,ρ,r,M,g,e1,λu O A s o=>?_⟩;obtain⟨F2,s2,_,ru⟩:=s.dB o;obtain⟨t2,Q,ys,rfl,z,U⟩:=J7 ru J;split at e;.rename_i bb d' q;obtain⟨f,ae,L,e⟩:=ak e;have N:=aC L;clear L;obtain⟨L,e5⟩:=N;subst e5;cases e;obtain⟨v',h1,rv⟩:=s2.gs.val i bb d' q;obtain⟨t1,w,xs,rfl,q1,r1⟩:=J7 rv L;refine⟨_,h1,t2,t1,Q,w,rfl,⟨ys,aH.sq s2.gs.sub z⟩,⟨xs,aH.sq s2.gs.sub q1⟩,k _ _ _ ⟨s2.gs,λn k O B C A h=>wI (aH.sq h.gs.sub (aH.sq h.cB z)) (aH.sq h.gs.sub (aH.sq h.cB q1)) (U.mono h.cB) (r1.mono h.cB) h.gs.sub k,λF3 m E H3 s3=>?_⟩⟩;unfold aW;dsimp only;rw[q];exact⟨s2.trans s3,λv r o=>o.later s2⟩
 . rename_i bb f q;cases e;have hi:i<l.length:=(dD q).1;have W:=s2.gs.lend q;have ql:(l.set i (.lent f))[i]?=aU (.lent f):=cp hi;obtain⟨w,xs,h1,Y,w3,w4⟩:=W.mW i _ f ql rfl;refine⟨_,h1,t2,a_,Q,w,rfl,⟨ys,aH.sq s2.gs.sub z⟩,⟨xs,dO.of Y⟩,k _ _ _ ⟨W,λn k O B C A h=>?_,λF3 m E H3 s3=>?_⟩⟩;.obtain⟨G,t,Z,z3⟩:=h.lk i _ (by rw[du (by simpa using hi)];exact ql) rfl;cases(show t=.lent f from z3);rw[du (by rw[<-W.len];simpa using hi),h1]at G;obtain⟨a',y,I,u2,u3,u4⟩:=h.gs.mW i _ f Z rfl;rw[G]at I;cases I;exact wI (aH.sq h.gs.sub (aH.sq h.cB z)) (show Sq a_ X.K A w y from dO.of u2) (U.mono h.cB) u4 h.gs.sub k
   .unfold aW;dsimp only;rw[q];obtain⟨y1,y2⟩:=az.aW s2.gs q s3;exact⟨s2.trans y1,λv r o=>(y2 v r o).later s2⟩
 . rename_i f q;cases e;have hi:i<l.length:=(dD q).1;obtain⟨w,xs,h1,Y,w3,w4⟩:=s2.gs.mW i _ f q rfl;refine⟨_,h1,t2,a_,Q,w,rfl,⟨ys,aH.sq s2.gs.sub z⟩,⟨xs,dO.of Y⟩,k _ _ _ ⟨s2.gs,λn k O B C A h=>?_,λF3 m E H3 s3=>?_⟩⟩;.obtain⟨G,t,Z,z3⟩:=h.lk i _ (by rw[du hi];exact q) rfl;cases(show t=.lent f from z3);rw[du (by rw[<-s2.gs.len];exact hi),h1]at G;obtain⟨a',y,I,u2,u3,u4⟩:=h.gs.mW i _ f Z rfl;rw[G]at I;cases I;exact wI (aH.sq h.gs.sub (aH.sq h.cB z)) (show Sq a_ X.K A w y from dO.of u2) (U.mono h.cB) u4 h.gs.sub k
   .unfold aW;dsimp only;rw[q];exact⟨s2.trans s3,λv r o=>o.later s2⟩
 .cases e
variable{scope:kf}{N':List Str}{ifs:List dy}{iter:dy}
theorem Qv{i j:Nat}{x:Str}{f l:Pos}{nn:Nat}{g:TG}{is:List Nat}{one:Bool}{t:Option P}(hc:X.calm=b_)(A:X.N.Nodup)(q:X.N[i]?=aU x)(B:Loc X.env.scope x)(ok:fH X scope N' n)(hi:PI X tg iter (aa5 X.K j (_H.ev c pb)))(E:∀cl C s₀ H₀ ex,PG (rC X scope N' cl C s₀ H₀ ex) tg g)(s:lQ X.K X.N.length is one g)(ht:∀cl C s₀ H₀ ex,SQ (rC X scope N' cl C s₀ H₀ ex) c ifs t)(he:∀cl C s₀ H₀ ex,SX (rC X scope N' cl C s₀ H₀ ex) c elt pe)(u:gi (.ListComp elt [⟨tg,iter,ifs,0⟩] scope pos) (aU (.Name x f)) l.line X.env=fg b_:=by rfl)(hs:∀x,fe iter X.env x=fg x:=by intro _;rfl)(G:X.fn x=b_\/X.env.scope.names.lookup x=aU .local:=by first|(left;rfl)|(right;rfl)|assumption):SS X c nn (.Assign [.Name x f] (.ListComp elt [⟨tg,iter,ifs,0⟩] scope pos) l) (.asg i (.zg j pb n is one t pe)):=by
 refine Mj (vm (tt:=HS X.K (o6 c t)) (te:=xm X.K (_H.ev c pe)) hc A q B ok hi E ht (λcl C s₀ H₀ ex=>(he cl C s₀ H₀ ex).ev) u hs G) ?_;rintro D σ H I⟨F,ρ,fl,J,L,e,k⟩;rw[_H.X6]at e;obtain⟨r,M,z,e⟩:=ak e;obtain⟨O,Q,o,e⟩:=ak e;cases e;have U:=aC o;clear o;obtain⟨o,e3⟩:=U;rw[_H.E28]at z;obtain⟨⟨W,w⟩,y,Y,e⟩:=ak z;dsimp only at e;split at e;.rename_i m;obtain⟨xs,Z,e4,e⟩:=ak e;cases e;exact zc I s (λR h=>⟨F,ρ,W,w,y,L,Y,h⟩) m e4 λv F1 H1 s1 rr=>k F1 _ H1 (s1.put rr o)
 .cases e
end
end _H
namespace _H
open PySem PyProof.Rows
section
variable{M:sk}{A:ew}{E:bx->cn->Prop}{s:cn}{κ:i8}{ok:gd->Prop}{K:gd->Int}
theorem Hr(R:Rk M A E s κ ok K){st b:iP}{xs:Array gd}{lo n:Nat}{Q:Option Nat->iP->Prop}(h:Sx κ ok st xs b)(f:lo+n<=xs.size)(h1:1<=n)(sg:Seg K xs lo (lo+n))(q:Q (aU n) b):wpS M A E s (countRun' lo n) Q b:=by
 have one:∀ys:Array gd,Seg K ys lo (lo+1):=λys i j k l o=>by rw[show i=j by lia];exact d_ _
 show wpS M A E s (_>>=_) Q b;refine ia (WL (a:=1) (n:=n) R h f (le_refl 1) h1 (one xs) λm m1 p sm e=>?_);dsimp only;have c1:m=n:=by
  by_cases c:m=n;.exact c
  .have g:=e.resolve_left c;have:=sg (lo+m-1) (lo+m) (by lia) (by lia) (by lia);lia
 subst c1;rw[if_pos (by simp)];exact kB q
theorem SR.abe{x0 ys:Array gd}{l:List Rn}{lo n:Nat}{st:iP}(h:SR κ ok K x0 ys l lo st)(h1:1<=n)(a:lo+n<=ys.size)(hs:Seg K ys lo (lo+n)):SR κ ok K x0 ys (l++[(lo,n,0)]) (lo+n) (setPending st ((ky st).push (lo,n,0))):=⟨h.kind,h.arr,h.fail,by show((ky st).push (lo,n,0)).toList=_;rw[Array.toList_push,h.pend],h.perm,h.ok,wA.mpr ⟨lo,h.rns,rfl,h1,hs,rfl⟩,a⟩
theorem uZ:∀(f n r:Nat),r<=1->n<64\/n<=f->rd f n r<=n+r/\(64<=n->rd f n r<=n)
 |0,n,r,hr,h=>by have e:rd 0 n r=n+r:=rfl;rw[e];exact⟨cN,λz=>by lia⟩|f+1,n,r,hr,h=>by
   rw[minRun'_succ];by_cases c:n<64;.rw[if_pos c];exact⟨cN,λz=>by lia⟩
   .rw[if_neg c];have a:=uZ f (n/2) (max r (n%2)) (by lia) (by lia);exact⟨by lia,λ_=>by lia⟩
theorem Lx(R:Rk M A E s κ ok K){x0:Array gd}{Q:Unit->iP->Prop}{st:iP}(h:SR κ ok K x0 x0 [] 0 st)(sg:Seg K x0 0 x0.size)(h1:1<=x0.size)(q:∀a,sj a=x0->sd a=ci->Q () a):wpS M A E s sortRuns' Q st:=by
 rw[sortRuns'_eq];refine ia (qv ?_);dsimp only;simp only[h.arr];have j:rd x0.size x0.size 0<=x0.size:=(uZ x0.size x0.size 0 (by lia) (.inr (cN))).1;generalize rd x0.size x0.size 0=o at j;refine ia (wpS_mono (qA (I:=λx c a=>(c=(ci,0)/\SR κ ok K x0 x0 [] 0 a/\x=0)\/(c=(ci,x0.size)/\SR κ ok K x0 x0 [(0,x0.size,0)] x0.size a)) (Q:=λc a=>c=(ci,x0.size)/\SR κ ok K x0 x0 [(0,x0.size,0)] x0.size a) ?_ ?_ (.inl ⟨rfl,h,rfl⟩)) ?_)
 . rintro x c f _ k(⟨rfl,b,rfl⟩|⟨rfl,b⟩)
   . dsimp only;rw[if_neg (by lia)];refine ia (Hr R b.sx (lo:=0) (n:=x0.size-0) (by lia) (by lia) (by simpa using sg) ?_);dsimp only;rw[if_neg (by lia)];refine ia (qv ?_);have l:(ky f).back?=ci:=by have:ky f=#[]:=md.mp b.pend;rw[this];rfl
     rw[l];dsimp only;refine ia (wpS_modify (kB (.inr ⟨by simp,?_⟩)));have:=b.abe (n:=x0.size-0) (by lia) (by lia) (by simpa using sg);simpa using this
   .dsimp only;rw[if_pos (cN)];exact kB ⟨rfl,b⟩
 . rintro c f(⟨rfl,b,e⟩|⟨rfl,b⟩);.lia
   .exact⟨rfl,b⟩
 . rintro c f⟨rfl,b⟩;dsimp only;refine ia (wpS_mono (qA (I:=λx c a=>c=(ci,())/\SR κ ok K x0 x0 [(0,x0.size,0)] x0.size a) (Q:=λc a=>c=(ci,())/\SR κ ok K x0 x0 [(0,x0.size,0)] x0.size a) ?_ (λ_ _ h=>h) ⟨rfl,b⟩) ?_)
   . rintro x c g _ k⟨rfl,i⟩;refine ia (qv ?_);try dsimp only
     have m:(ky g).size<=1:=by rw[<-jR,i.pend];simp
     rw[if_pos m];exact kB ⟨rfl,i⟩
   .rintro c g⟨rfl,i⟩;dsimp only;exact kB (q g i.arr i.fail)
end
end _H
namespace _H
open PySem W PyProof.Rows Calls _L Spec
section
variable{prog:df}{w:er}{A:ew}{E:bx->cn->Prop}{s:cn}{vs:List bx}{κ:i8}{P:bx->D->Prop}{ds:List D}
theorem Lw{a:cq}{n:Nat}{O:PySem.Fin->cn->Prop}(ho:s.heap.get? a=aU (rb "list" vs.toArray n))(so:sortable ds=b_)(hz:vs.length<=16777216)(L:Paired P vs ds)(fn:∀u d e,P u d->P u e->dm d=dm e)(z:ds.Pairwise λa b=>mj a b=b_)(N:∀h',(∀b o,b≠a->s.heap.get? b=aU o->h'.get? b=aU o)->∀C:i8->cn->Prop,C κ {s with heap:=h'}->2<=vs.length->cE (cS prog w) A (keyKind' vs.toArray) C (λ_ _=>False) {s with heap:=h'})(hl:∀h',(∀b o,b≠a->s.heap.get? b=aU o->h'.get? b=aU o)->∀u v d e,P u d->P v e->∀C:Bool->cn->Prop,C (bK (dm d) (dm e)) {s with heap:=h'}->cE (cS prog w) A (keyLt' κ u v) C (λ_ _=>False) {s with heap:=h'})(h:∀h' c p,(∀b o,b≠a->s.heap.get? b=aU o->h'.get? b=aU o)->p.Perm (dS vs.length)->pick .non p ds=R6 ds->h'.get? a=aU (rb "list" (pick .none p vs).toArray c)->O (.done (.ret .none)) {s with heap:=h'}):cE (cS prog w) A (iE.«list.sort» ⟨[.ref a],[]⟩) O E s:=by
 have ha:a<s.heap.objs.size:=dc ho;have B:vs.length=ds.length:=Paired.length L;obtain⟨l,G⟩:∃l,(s.heap.update a (fE λ_=>(#[]:Array bx))).get? a=aU (rb "list" #[] l):=⟨_,get?_update_seq ho λ_=>#[]⟩;rw[list_sort_plain];refine bdq (listItems_at ho rfl ?_);refine bdq (p5 ho rfl ?_ (by rw[cy,fb];lia) (tU));refine bdq (rX G rfl ?_);refine bdq (wpAny_newTuple ?_ (by show vs.length<=_;rw[fb];lia));refine bdq (wpAny_newList ?_ (tU));refine im ?_;generalize hH:(((s.heap.update a (fE λ_=>(#[]:Array bx))).push {cls:=.type "tuple",data:=.seq vs.toArray}).push {cls:=.type "list",data:=.seq #[]}:eF)=m;have g:m.get? a=aU (rb "list" #[] l):=by rw[<-hH];exact dF (dF G)
 have keep:∀b o,b≠a->s.heap.get? b=aU o->m.get? b=aU o:=λb o M e=>by rw[<-hH];exact dF (dF ((gX _ _ (fx M)).trans e))
 have fin:∀p:List Nat,p.Perm (dS vs.length)->pick .non p ds=R6 ds->O (.done (.ret .none)) {s with heap:=m.update a (fE λ_=>qV (pick .none p vs))}:=by intro p h1 f;obtain⟨c2,U⟩:∃c2,(m.update a (fE λ_=>qV (pick eP p vs))).get? a=aU (rb "list" (pick eP p vs).toArray c2):=⟨_,get?_update_seq g λ_=>qV (pick eP p vs)⟩;exact h _ c2 p (λb o M e=>(gX _ _ (fx M)).trans (keep b o M e)) h1 f U
 show cE (cS prog w) A _ O E {s with heap:=m};dsimp only;by_cases f:vs.toArray.size<2
 . rw[if_pos f,if_pos f];refine bdq (cv ?_);rw[StateT.run_pure];refine bdq (cv ?_);dsimp only;have eo:(sj (SortSt.mk' general' (vs.toArray.zip vs.toArray) #[] 7 ci)).map (·.2)=qV (pick eP (dS vs.length) vs):=by rw[lU];apply md.mp;show((vs.toArray.zip vs.toArray).map (·.2)).toList=vs;simp[List.map_snd_zip]
   rw[eo];refine bdq (rX g rfl ?_);refine bdq (p5 g rfl ?_ (tU) (by rw[cy,qC (.refl _),fb];lia));simp only[bne_self_eq_false,iL,if_false];refine cv (fin _ (.refl _) ?_);rw[B,lU];refine rT so (.refl _) ?_;match ds,(show ds.length<2 by simp at f;lia)with|[],_=>exact .nil|[_],_=>exact List.pairwise_singleton ..|_::_::_,f=>simp at f;lia
 . rw[if_neg f,if_neg f];have W:2<=vs.length:=by simpa using f
   refine bdq (N m keep _ ?_ W|>λq=>eu q (λ_ _ x=>x) λ_ _ x=>x.elim);have H:(vs.toArray.zip vs.toArray).toList=(dS vs.length).map λi=>(vs.getD i eP,vs.getD i eP):=by
    refine lI (by simp) λi h1 f=>?_;have:i<vs.length:=by simpa using f
    simp[this]
   have X:∀x∈(vs.toArray.zip vs.toArray).toList,∃d,d∈ds/\P x.1 d:=λx hx=>by rw[H]at hx;obtain⟨i,hi,rfl⟩:=da.mp hx;have:=jT L i (iq.mp hi);exact⟨_,this.2,this.1⟩
   have R:Rk (cS prog w) A E {s with heap:=m} κ (λx=>∃d,d∈ds/\P x.1 d) (rkK P ds):=⟨by rintro x y Q st⟨d,d1,d2⟩⟨e,l,t⟩Y hq;rw[Df fn d1 d2,Df fn l t,Ij d1]at hq;rw[lt'_eq];refine ia (qv ?_);rw[Y];refine ia (wpS_lift (pS (eu (hl m keep x.1 y.1 d e d2 t (λb Z=>Z={s with heap:=m}/\b=bK (dm d) (dm e)) ⟨rfl,rfl⟩) ?_ λ_ _ h=>h.elim)));rintro b Z⟨rfl,rfl⟩;exact⟨rfl,kB hq⟩⟩;have at':∀k,k<vs.length->it (vs.toArray.zip vs.toArray) k=(vs.getD k .none,vs.getD k .none):=λk N=>by rw[Qa,H];simp[N]
   have hsz:(vs.toArray.zip vs.toArray).size=vs.length:=by simp
   have sg:Seg (rkK P ds) (vs.toArray.zip vs.toArray) 0 (vs.toArray.zip vs.toArray).size:=λi j _ ij jn=>by
    rw[hsz]at jn;rw[at' i (by lia),at' j jn];have a1:=jT L i (by lia);have a2:=jT L j jn;rw[Df fn a1.2 a1.1,Df fn a2.2 a2.1];by_cases e:i=j;.rw[e];exact d_ _
    . have I:=List.pairwise_iff_getElem.mp z i j (by lia) (by lia) (by lia);simp only[mj,mS]at I;have l:ds.getD i .non=ds[i]'(by lia):=by simp[show i<ds.length by lia]
      have t:ds.getD j .non=ds[j]'(by lia):=by simp[show j<ds.length by lia]
      rw[<-l,<-t,<-Ij a2.2,decide_eq_false_iff_not]at I;lia
   have run:=Lx R (x0:=vs.toArray.zip vs.toArray) (st:=SortSt.mk' κ (vs.toArray.zip vs.toArray) #[] 7 ci) (Q:=λ_ r=>∃p:List Nat,p.Perm (dS vs.length)/\pick .non p ds=R6 ds/\(sj r).map (·.2)=(pick eP p vs).toArray/\sd r=ci) ⟨rfl,rfl,rfl,rfl,.refl _,X,rfl,tU⟩ sg (by rw[hsz];lia) λr l t=>by
     refine⟨dS vs.length,.refl _,?_,?_,t⟩;.rw[B,lU];exact rT so (.refl _) z
     .rw[l,lU];apply md.mp;simp[List.map_snd_zip]
   refine bdq (eu run ?_ λ_ _ e=>e);rintro⟨⟨⟩,r⟩Z⟨rfl,p,p1,p2,J,hf⟩;dsimp only;rw[J];refine bdq (rX g rfl ?_);refine bdq (p5 g rfl ?_ (tU) (by rw[cy,qC p1,fb];lia));rw[hf];simp only[bne_self_eq_false,iL,if_false];exact cv (fin _ p1 p2)
end
end _H
namespace _H
open PySem _L Spec PyProof.Rows Calls W
noncomputable def zx(nw:cq->Option HO)(H:Hp):Hp:=λa=>match nw a with|some o=>aU o|none=>H a
theorem wR{nw:cq->Option HO}{H:Hp}{a:cq}{o:HO}(h:nw a=aU o):zx nw H a=aU o:=by unfold zx;rw[h]
theorem ig{nw:cq->Option HO}{H:Hp}{a:cq}(h:nw a=ci):zx nw H a=H a:=by unfold zx;rw[h]
theorem aaM{X:Cx}{g:List (cq×Obj)}{σ:_L.St}{H:Hp}{s:cn}{h':eF}{t':Nat}{nw:cq->Option HO}(I:_L.Inv X g σ H s)(k:∀b u,s.heap.get? b=aU u->h'.get? b=aU u)(i:∀a o,nw a=aU o->s.heap.objs.size<=a)(h:∀a o,nw a=aU o->bQ X.prog X.w (zx nw H) h' a o):_L.Inv X g σ (zx nw H) {s with heap:=h',toks:=t'}:=by
 have no:∀a,a<s.heap.objs.size->nw a=ci:=λa j=>by cases q:nw a with|none=>rfl|some o=>exact absurd (i a o q) (Nat.not_le_of_lt j)
 have f:∀a o,H a=aU o->zx nw H a=aU o:=λa o e=>by rw[ig (no a (I.hok.lt e))];exact e
 refine I.un ⟨λb u q _ _ _=>k b u q,λb u q _ _ _=>⟨u.slots,k b u q⟩,λb u q n _=>?_,λb u q _=>⟨u,k b u q⟩,λb xs q=>f b _ q,λb u xs q=>f b _ q,λb ps q=>⟨#[],by rw[f b _ q];simp⟩⟩ λb u e=>?_;.rw[ig (no b (dc q))];exact n
 .cases q:nw b with|some o=>rw[wR q]at e;cases e;exact h b _ q|none=>rw[ig q]at e;exact(I.hok b u e).stay (λc v _ z=>k c v z) (λc z=>f c _ z) λc xs z=>f c _ z
noncomputable def iv(l d:cq):eF->Prop:=λh=>h.IsItemsView l d
noncomputable def J2:V->List V->Hp->VK->Prop:=λx xs H Q=>∃q a kvs,x=.ref q/\xs=[]/\H q=aU (.dB a (.dK (map tL kvs)))/\∀l,H l=ci->Q (.ref l) (upd H l (.ext (iv l q)))
noncomputable def rIt(X:Cx):List V->Hp->VK->Prop:=λxs H Q=>∃l q f kvs,xs=[.ref l]/\H l=aU (.ext (iv l q))/\H q=aU (.dB f (.dK (map tL kvs)))/\(kvs.length<=16777216/\kvs.Pairwise (λa b=>a.1<b.1))/\∃F,aH F H/\∀v e c,Ext F H e c->cH X.K e c H v (.own (kvs.map jC))->Q v c
theorem yC{P:df}{w:er}{h:eF}:∀{kvs:List (Int×Int)}{vs:List (Key×bx)}{as:List cq},KV (kvs.map tL) vs->as.length=vs.length->(∀(j:Nat)(a:cq),as[j]?=aU a->∃key k x,vs[j]?=aU (k,x)/\(bB P w).is k key=b_/\h.get? a=aU {cls:=.type "tuple",data:=.seq #[key,x]})->∀(j:Nat)(a:cq),as[j]?=aU a->∃p,kvs[j]?=aU p/\∃t u,h.get? a=aU {cls:=.type "tuple",data:=.seq #[fT p.1 t,fT p.2 u]}
 |[],_,as,.nil,f,_,j,a,e=>by cases as with|nil=>cases e|cons _ _=>simp at f
 |p::kvs,_,as,.cons (b:=q) r t,f,hk,j,a,e=>by cases as with|nil=>cases e|cons b as=>cases j with
     |zero=>
       obtain⟨key,k,x,g,m,n⟩:=hk 0 a e;simp at g;have o:k=dQ p.1:=by have z:=r.1;rw[g]at z;exact z.symm
       have s:∃u,x=fT p.2 u:=by have z:=r.2;rw[g]at z;exact z
       subst o;obtain⟨u,rfl⟩:=s;obtain⟨i,v,l,rfl⟩|⟨_,_,l,_⟩:=bM (show oW (dQ p.1) key=b_ from m);.cases l;exact⟨p,rfl,v,u,n⟩
       .cases l|succ j=>exact yC t (by simpa using f) (λi c z=>by simpa using hk (i+1) c (by simpa using z)) j a (by simpa using e)
noncomputable def tpV(p:Int×Int):HO:=.tup [.int p.1,.int p.2]
noncomputable def pQ:List cq->List (Int×Int)->cq->Option HO|a::as,p::ps,b=>if b=a then aU (tpV p)else pQ as ps b|_,_,_=>ci
theorem pN:∀{as:List cq}{ps:List (Int×Int)}{b:cq}{o:HO},pQ as ps b=aU o->∃(j:Nat)(p:Int×Int),as[j]?=aU b/\ps[j]?=aU p/\o=tpV p
 |a::as,p::ps,b,o,h=>by
   unfold pQ at h;split at h;.rename_i e;cases h;subst e;exact⟨0,p,rfl,rfl,rfl⟩
   .obtain⟨j,q,h1,c,f⟩:=pN h;exact⟨j+1,q,by simpa using h1,by simpa using c,f⟩|[],_,_,_,h=>by simp[pQ]at h|_::_,[],_,_,h=>by simp[pQ]at h
theorem Dz:∀{as:List cq}{ps:List (Int×Int)},as.Pairwise (·<·)->∀{j:Nat}{b:cq}{p:Int×Int},as[j]?=aU b->ps[j]?=aU p->pQ as ps b=aU (tpV p)|[],_,_,_,_,_,h,_=>by simp at h|_::_,[],_,_,_,_,_,h=>by simp at h|a::as,q::ps,c,j,b,p,h1,f=>by unfold pQ;cases j with|zero=>cases h1;cases f;rw[if_pos rfl]|succ j=>
     have h1:as[j]?=aU b:=by simpa using h1
     have:=(ki.mp c).1 b (dl h1);rw[if_neg (λe=>by rw[e]at this;exact ip _ this)];exact Dz (ki.mp c).2 h1 (by simpa using f)
theorem rQ:∀as:List cq,Vals (as.map V.ref) (as.map ec)|[]=>.nil|_::as=>.cons rfl (rQ as)
theorem Dq{K:PySem.W.Frag}{F:Hp}:∀{as:List cq}{ps:List (Int×Int)},as.length=ps.length->(∀(j:Nat)(b:cq)(p:Int×Int),as[j]?=aU b->ps[j]?=aU p->F b=aU (tpV p))->aG K F (as.map V.ref) (ps.map jC)|[],[],_,_=>.nil|a::as,p::ps,c,h=>.cons (by have:=h 0 a p rfl rfl;rw[show jC p=.tup [.int p.1,.int p.2]from rfl,Rep];refine⟨a,_,rfl,.inl (.inl this),.cons (by rw[Rep]) (.cons (by rw[Rep]) .nil)⟩) (Dq (by simpa using c) λj b q h1 e=>h (j+1) b q (by simpa using h1) (by simpa using e))|[],_::_,c,_=>by simp at c|_::_,[],c,_=>by simp at c
theorem FW{h:eF}:∀{as:List cq}{ps:List (Int×Int)},as.length=ps.length->(∀(j:Nat)(b:cq),as[j]?=aU b->∃p,ps[j]?=aU p/\∃t u,h.get? b=aU {cls:=.type "tuple",data:=.seq #[fT p.1 t,fT p.2 u]})->Paired (pD h) (as.map ec) (ps.map jC)|[],[],_,_=>.nil|a::as,p::ps,c,h=>.cons (by obtain⟨q,e,t,u,g⟩:=h 0 a rfl;cases e;exact⟨a,[fT p.1 t,fT p.2 u],[p.1,p.2],rfl,⟨_,g,rfl,0,rfl⟩,.cons _ _ (.cons _ _ .nil),by simp,rfl⟩) (FW (by simpa using c) λj b h1=>by simpa using h (j+1) b (by simpa using h1))|[],_::_,c,_=>by simp at c|_::_,[],c,_=>by simp at c
theorem yl{prog:df}{w:er}{A:ew}{E:bx->cn->Prop}{s:cn}{v d:cq}{kvs:List (Key×bx)}{ep:Nat}{Q:List bx->cn->Prop}(hh:A.handled=ci)(i:s.heap.IsItemsView v d)(j:s.heap.DictAt (bB prog w) d kvs ep)(n:kvs.length<=sizeLine)(p:∀(h':eF)(f:Nat)(as:List cq),(∀b o,s.heap.get? b=aU o->h'.get? b=aU o)->s.heap.objs.size<h'.objs.size->as.length=kvs.length->KdxG (bB prog w) kvs s.heap.objs.size h' as->Q (as.map ec) {s with heap:=h',toks:=f}):cE (cS prog w) A (collect (.ref v)) Q E s:=by
 have g:v<s.heap.objs.size:=let⟨_,h1,_⟩:=i;dc h1;have h:d<s.heap.objs.size:=j.lt_size;unfold collect;refine bdq (wpAny_runValue (lg F.entry_proto_collect ?_));rw[i4 F.plain_proto_collect _];show cE _ A.in1 (newList []>>=λl=>again (.builtin "list.__iadd__" ⟨[l,.ref v],[]⟩)) _ _ s;refine bdq (ey (cv ⟨mn F.plain_list_iadd _,lg F.entry_list_iadd ?_⟩));rw[i4 F.plain_list_iadd _];show cE _ A.in1 (i6 (.ref s.heap.objs.size) (.ref v) (.ref s.heap.objs.size)) _ _ _;refine kdx_extend (A:=A) (R:=λr k=>match r with
  |.ok (.ret v)=>cE (cS prog w) A (match v with
   |.ref a=>do let o<-load a match o.data with|.seq xs _=>fg xs.toList|_=>nI "internal:collect"
   |_=>nI "internal:collect") Q E k|.ok _=>False|.error e=>E e k) (s:={s with heap:=s.heap.push {cls:=.type "list",data:=.seq #[]}}) hh (let⟨o,h1,q⟩:=i;⟨o,dF h1,q⟩) (j.at' λo e=>dF e) s.heap.objs.size (r6 g) (dE h) _ 0 (cw _ rfl) (λh' f t z as u m x y c=>?_) n;refine bdq (wpAny_load m (cv ?_));rw[c];exact p h' f as (λb o e=>u b o (dE (dc e)) (dF e)) (dc m) x (y.low (by rw[size_push'];exact rg _))
section
variable{X:Cx}{c:Call}{a:dy}{pa:P}{pos:Pos}
theorem J4:MtR X "dict.items" J2:=by rintro f s σ H x xs v us Q I h i⟨q,j,kvs,rfl,rfl,l,k⟩;cases h;cases i;obtain⟨ho,hz,m,vs,r,g⟩:=(show bQ X.prog X.w H s.heap q (.dB j (.dK (kvs.map tL)))from I.hok q _ l);refine ri PySem.F.slot_dict_items g.typeIs PySem.F.entry_dict_items (PySem.F.args_dict_items_1 _) (meets_dict_items _ q m) ⟨⟨vs,g⟩,?_⟩;have n:(s.heap.push {cls:=.type "dict_items",data:=.fields #[.ref q]}).IsItemsView s.heap.objs.size q:=⟨_,cw _ rfl,rfl,rfl⟩;refine⟨.ref s.heap.objs.size,_,I.laid (t':=s.toks) (o:=.ext (iv s.heap.objs.size q)) (λb o e=>dF e) (cN) ⟨n,⟨_,cw _ rfl⟩,λh1 u z k=>?_⟩,rfl,k _ (I.hok.fresh (cN))⟩;obtain⟨o,p,t⟩:=z;exact⟨o,k o p,t⟩
theorem Wc(hc:X.calm=b_):fj X (.builtin "sorted") (rIt X):=by
 rintro al s σ H xs us Q I r⟨l,q,ob,kvs,hx,hl,hq,⟨am,ac⟩,F,sm,k⟩;subst hx;have so:sortable (kvs.map jC)=b_:=by
  have:(kvs.map jC).all xN=b_:=by rw[gc];intro x hx;obtain⟨p,_,rfl⟩:=da.mp hx;rfl
  simp only[sortable,dV,this,Bool.or_true,Bool.and_true,decide_eq_true_eq];lia
 have J:(kvs.map jC).Pairwise λa b=>mj a b=b_:=by rw[List.pairwise_map];refine ac.imp λ{a b}h=>?_;show(!bK [b.1,b.2] [a.1,a.2])=b_;simp[bK];lia
 have ae:R6 (kvs.map jC)=kvs.map jC:=(rT so (.refl _) J).symm;rw[<-ae]at k;obtain⟨u,rfl,rx⟩:=r.one;cases rx;obtain⟨af,_,_⟩:=(show bQ X.prog X.w H s.heap l (.ext (iv l q))from I.hok l _ hl);obtain⟨ho,hz,hS,vs,rv,dd⟩:=(show bQ X.prog X.w H s.heap q (.dB ob (.dK (kvs.map tL)))from I.hok q _ hq);have L:vs.length=kvs.length:=by rw[<-Paired.length rv,dV]
 obtain⟨f,es,ep,d1,d2,d3,d4⟩:=dd;have dat:s.heap.DictAt (bB X.prog X.w) q vs ep:=⟨f,es,d1,d2,d3,d4⟩;refine Calls.call_function_entry kind_sorted plain_sorted entry_sorted (args_sorted1 _) ?_;unfold iE.«sorted»;refine bdq (m:=checkCount "sorted" 1 1 _) (cv ?_);refine bdq (yl (A:=X.A.in1) (I.ok.hd hc) af dat (by rw[L,fb];lia) λh1 M as kp hsz N hG=>?_);have hsz:=lx hsz;have g:as.length=kvs.length:=N.trans L;have pr:=yC rv N hG.pairs;have tt:Paired (pD h1) (as.map ec) (kvs.map jC):=FW g pr;have O:∀a o,pQ as kvs a=aU o->s.heap.objs.size<=a:=λa o e=>by obtain⟨j,p,U,_,_⟩:=pN e;exact lx (hG.above a (dl U))
 have i:∀a o,pQ as kvs a=aU o->H a=ci:=λa o e=>I.hok.fresh (O a o e);have B:aH H (zx (pQ as kvs) H):=λb o e=>by cases z:pQ as kvs b with|none=>rw[ig z];exact e|some f=>rw[i b f z]at e;cases e
 have e0:Ext F H (zx (pQ as kvs) F) (zx (pQ as kvs) H):=by
  refine⟨B,λb o e=>?_,λb o e=>?_,λb n n'=>?_⟩;.cases z:pQ as kvs b with|none=>rw[ig z];exact e|some f=>have n0:=i b f z;rw[sm b o e]at n0;cases n0
  .cases z:pQ as kvs b with|none=>rw[ig z]at e ⊢;exact sm b o e|some f=>rw[wR z]at e ⊢;exact e
  .cases z:pQ as kvs b with|none=>rw[ig z]at n';exact absurd n n'|some f=>rw[i b f z];rfl
 have rs:aG X.K (zx (pQ as kvs) F) (as.map V.ref) (kvs.map jC):=Dq g λj b p h1 h2=>wR (Dz hG.rise h1 h2);have vv:=rQ as;have ag:∀b∈as,b<h1.objs.size:=λb hb=>hG.there hb;have W:(as.map ec).length=kvs.length:=by rw[dV];exact g
 refine bdq (wpAny_newList ?_ (by rw[W,fb];lia));generalize Y:(h1.push {cls:=.type "list",data:=.seq (as.map ec).toArray}:eF)=G;have Z:G.get? h1.objs.size=aU (rb "list" (as.map ec).toArray 0):=by rw[<-Y];exact cw _ rfl
 have Nh:∀b o,h1.get? b=aU o->G.get? b=aU o:=λb o e=>by rw[<-Y];exact dF e
 have E:∀b o,h1.get? b=aU o->b≠h1.objs.size:=λb o e=>dE (dc e);show cE _ _ _ _ _ {s with heap:=G,toks:=M};refine bdq (im (hQ slot_list_sort ⟨_,Z,rfl⟩ entry_list_sort ?body (args_list_sort _)));case body=>
  refine Lw (s:={s with heap:=G,toks:=M}) (κ:=tuples' (fv "int"!=fv "tuple")) Z so (by lia) tt Om J (λh' k' C hC h2=>?_) (λh' k' u v d e hd he C hC=>?_) λh' cc p k' p1 p2 e=>?_;.exact GK (s:={s with heap:=h',toks:=M}) (uL (λb o z=>k' b o (E b o z) (Nh b o z)) tt) h2 hC
  .have kk:∀b o,h1.get? b=aU o->h'.get? b=aU o:=λb o z=>k' b o (E b o z) (Nh b o z);exact Q5 (s:={s with heap:=h',toks:=M}) (nR kk hd) (nR kk he) hC
  . refine⟨_,rfl,cv ⟨_,rfl,?_⟩⟩;have kk:∀b o,h1.get? b=aU o->h'.get? b=aU o:=λb o z=>k' b o (E b o z) (Nh b o z);have hL:pQ as kvs h1.objs.size=ci:=by cases z:pQ as kvs h1.objs.size with|none=>rfl|some o=>obtain⟨j,p,U,_,_⟩:=pN z;exact absurd (ag _ (dl U)) (ip _)
    have ah:upd (zx (pQ as kvs) H) h1.objs.size (.lst (pick .non p (as.map V.ref)))=zx (λb=>if b=h1.objs.size then aU (.lst (pick .non p (as.map V.ref)))else pQ as kvs b) H:=by
     funext b;unfold upd zx;by_cases z:b=h1.objs.size;.rw[if_pos z];simp only[if_pos z]
     .rw[if_neg z];simp only[if_neg z]
    have I':=aaM (t':=M) (h':=h') (nw:=λb=>if b=h1.objs.size then aU (.lst (pick .non p (as.map V.ref)))else pQ as kvs b) I (λb o z=>kk b o (kp b o z)) (λa o z=>by
     by_cases y:a=h1.objs.size;.rw[y];exact hsz
     .simp only[if_neg y]at z;exact O a o z) (λa o z=>by
     by_cases y:a=h1.objs.size;.simp only[if_pos y]at z;cases z;subst y;exact⟨by rw[qC p1,W,fb];lia,pick .none p (as.map ec),cc,Jr vv,e⟩
     .simp only[if_neg y]at z;obtain⟨j,p',U,e2,rfl⟩:=pN z;obtain⟨ap,e3,t,u,e4⟩:=pr j a U;rw[e2]at e3;cases e3;exact⟨by rw[fb];simp,[fT p'.1 t,fT p'.2 u],.cons ⟨t,rfl⟩ (.cons ⟨u,rfl⟩ .nil),⟨_,kk _ _ e4,rfl,0,rfl⟩⟩);rw[<-ah]at I';refine⟨.ref h1.objs.size,_,I',rfl,?_⟩;have ai:aG X.K (zx (pQ as kvs) F) (pick .non p (as.map V.ref)) (R6 (kvs.map jC)):=by rw[<-p2];exact KN rs
    refine xH e0.sub ai (by rw[ig hL];exact I.hok.fresh hsz) λv F2 G x rn=>k v F2 G ⟨e0.hs.trans x.hs,e0.fs.trans x.fs,x.sub,λc n n'=>?_⟩ ?_
    . by_cases e:zx (pQ as kvs) F c=ci;.have:=x.gr c e n';cases z:H c with|none=>rfl|some o=>rw[B c o z]at this;exact this
      .exact e0.gr c n e
    obtain⟨b,xs,q1,q2,q3,q4,q5⟩:=rn;refine⟨b,xs,q1,q2,q3,q4,?_⟩;cases z:H b with|none=>rfl|some o=>rw[B b o z]at q5;cases q5
theorem J5{o:dy}{to:TE}{f g:Pos}(ho:PE X o to)(j:jS o "items" X.env (eA o X.env)=eA o X.env:=by rfl)(l:(f.endLine==g.line)=b_:=by rfl):PE X (.Call (.Attribute o "items" f) [] [] g) (λσ H Q=>to σ H λx m=>J2 x [] m Q):=by intro i s σ H Q I h;refine wpAny_Call_method0_late j l (cA (ho i s σ H _ I h) λv s1⟨x,m,I1,r1,q1⟩=>?_);obtain⟨q,u,kvs,rfl,_,y,k⟩:=id q1;cases r1;obtain⟨ho,hz,z,vs,r,n,es,ep,p,t,A⟩:=(show bQ X.prog X.w m s1.heap q (.dB u (.dK (kvs.map tL)))from I1.hok q _ y);refine⟨"dict","dict.items",PySem.F.plainAttrs_dict,PySem.F.slot_dict_items,PySem.F.type_dict_items,⟨n,p,t.1⟩,λb e=>?_,kK rfl (PySem.evalArgs_none (J4 i s1 σ m (.ref q) [] _ [] Q I1 rfl .nil q1))⟩;cases e;exact⟨n,p,t.2.1⟩
theorem Oe{x:Str}{O f j:Pos}{o:dy}(U:x="sorted")(hc:X.calm=b_)(W:Gl X x)(Y:X.mg x=ci)(p:(f.endLine==j.line)=b_)(Z:SX X c o pa)(s:jS o "items" X.env (eA o X.env)=eA o X.env:=by rfl):SX X c (.Call (.Name x O) [.Call (.Attribute o "items" f) [] [] j] [] pos) (.blt .M7 [pa]):=by
 subst U;obtain⟨ta,h1,h3⟩:=Z.cJ;refine⟨eU (fM (Wc hc) W Y boot_sorted (bZ (J5 h1 s p) dZ)) ?_,λi h=>by cases h⟩;rintro σ H Q⟨F,ρ,r,C,g,e,k⟩;have e:((cJ (isVar pa) (_H.ev c pa) ρ).bind λx ρ=>lift (blt .M7 [x]) ρ)=.ok r C:=e;obtain⟨d,ac,e1,u⟩:=ak e;have zz:=aC u;clear u;obtain⟨u,e3⟩:=zz;subst e3;refine h3 g e1 λv I y st pv=>?_;obtain⟨kvs,rfl⟩:∃kvs,d=.dH (.k kvs):=by cases d with
  |dH m=>cases m with|k kvs=>exact⟨kvs,rfl⟩|t kvs=>cases u
  |_=>cases u
 obtain⟨so,he⟩:=bI (show(if kvs.length<=16777216/\kvs.Pairwise (λa b=>a.1<b.1)then aU (R.own (kvs.map jC))else ci)=aU r from u);subst he;obtain⟨q,J,rfl,L⟩:=pv.dH st.gs.sub;refine⟨q,J,kvs,rfl,rfl,L,λl A=>⟨l,q,J,kvs,rfl,aP,aH.cV A q _ L,so,I,λb o e=>aH.cV A b o (st.gs.sub b o e),λw F2 E B rn=>?_⟩⟩;have sm:aH y (upd y l (.ext (iv l q))):=aH.cV A;have x3:Ext I y F2 E:=⟨sm.trans B.hs,B.fs,B.sub,λb n n'=>by
  have:=B.gr b n n';by_cases M:b=l;.subst M;rw[A];rfl
  .rw[aB M]at this;exact this⟩;have G:cH X.K F2 E y w (.own (kvs.map jC)):=by obtain⟨b,xs,q1,q2,q3,q4,N⟩:=rn;refine⟨b,xs,q1,q2,q3,q4,?_⟩;cases z:y b with|none=>rfl|some o=>rw[sm b o z]at N;cases N
 exact k w F2 E (st.trans (x3.stp st.gs)) (.later st (G.nu st.gs))
end
end _H
namespace _H
open PySem _L Spec PyProof.Rows
variable{o:Option V}{rows:List (List D)}
section
variable{K:PySem.W.Frag}{F F' F1 H H' H1 F0 H0:Hp}{ρ ρ' ρ1 ρ0:List Sl}{σ σ' σ1 σ0:_L.St}{x:Nat}{q:cq}{as:List cq}{rows oZ:List (List D)}
noncomputable def Jt:Sl->Bool|.aO=>b_|.hold _=>b_|_=>a_
theorem gG{s:Sl}{i:Nat}{b:cq}(g:Jt s=b_)(h:aX (ρ.set x s) (σ.set x o) i b):aX ρ σ i b/\i≠x:=by
 obtain⟨⟨t,j,e,a⟩,f⟩:=h;by_cases c:x=i
 . subst c;rw[m2]at e;rw[if_pos rfl]at e;split at e;.cases e;cases s<;>first|(cases a;done)|(cases g;done)
   .cases e
 .rw[eI c]at e f;exact⟨⟨⟨t,j,e,a⟩,f⟩,λz=>c z.symm⟩
theorem GS.Es{s:Sl}(f:Jt s=b_)(g:GS K F ρ σ H):GS K F (ρ.set x s) (σ.set x o) H:=by
 refine⟨g.sub,by simp[g.len],λi b d e=>?_,λi t k e h=>?_,λi j a h1 l=>g.dis i j a (gG f h1).1 (gG f l).1⟩
 . by_cases c:x=i
   . subst c;rw[m2,if_pos rfl]at e;split at e;.cases e;cases f
     .cases e
   .rw[eI c]at e ⊢;exact g.val i b d e
 . by_cases c:x=i
   . subst c;rw[m2,if_pos rfl]at e;split at e;.cases e;cases s<;>first|(cases h;done)|(cases f;done)
     .cases e
   .rw[eI c]at e ⊢;exact g.own i t k e h
theorem az.Es{s:Sl}{o:Option V}(a:Jt s=b_)(t:az K F ρ σ H F1 ρ1 σ1 H1)(f:∀s0,ρ[x]?=aU s0->uA s0=a_):az K F ρ σ H F1 (ρ1.set x s) (σ1.set x o) H1:=by
 refine⟨t.gs.Es a,t.cB,t.zj,t.keep,λb⟨i,h⟩=>t.xq b ⟨i,(gG a h).1⟩,by simp[t.len],λi g e l=>?_⟩;have c:x≠i:=by rintro rfl;rw[f _ e]at l;cases l
 obtain⟨j,s2,k,m⟩:=t.lk i g e l;exact⟨by rw[eI c];exact j,s2,by rw[eI c];exact k,m⟩
theorem az.free{i:Nat}{s1:Sl}(t:az K F ρ σ H F1 ρ1 σ1 H1)(h:ρ1[i]?=aU s1)(a:uA s1=a_):∀s0,ρ[i]?=aU s0->uA s0=a_:=λs0 e=>by cases z:uA s0 with|false=>rfl|true=>obtain⟨_,s2,b,c⟩:=t.lk i s0 e z;rw[h]at b;cases b;rw[c.uA z]at a;cases a
structure Xy(F:Hp)(ρ:List Sl)(σ:_L.St)(H:Hp)(a:cq)(xs:List V):Prop where kp:Kp ρ σ H a (.lst xs)fr:F a=ci
theorem Xy.stp{a:cq}{xs:List V}(h:Xy F ρ σ H a xs)(s:az K F ρ σ H F' ρ' σ' H'):Xy F' ρ' σ' H' a xs:=by refine⟨h.kp.stp s,?_⟩;cases z:F' a with|none=>rfl|some o=>
   rcases s.zj a h.fr (by rw[z];simp)with y|y;.exact absurd y h.kp.2
   .rw[h.kp.1]at y;cases y
structure Nw(K:PySem.W.Frag)(x:Nat)(q:cq)(as:List cq)(F:Hp)(ρ:List Sl)(σ:_L.St)(H:Hp)(rows:List (List D)):Prop where
 slot:ρ[x]?=aU (.hold rows)val:σ[x]?=aU (aU (.ref q))out:Xy F ρ σ H q (as.map V.ref)nd:(q::as).Nodup
 len:as.length=rows.length
 row:∀(k:Nat)(a:cq)(ds:List D),as[k]?=aU a->rows[k]?=aU ds->Wt K F ρ σ H a ds
theorem Nw.stp(w:Nw K x q as F ρ σ H rows)(s:az K F ρ σ H F' ρ' σ' H'):Nw K x q as F' ρ' σ' H' rows:=by obtain⟨b,s2,c,e⟩:=s.lk x _ w.slot rfl;cases(show s2=.hold rows from e);exact⟨c,b.trans w.val,w.out.stp s,w.nd,w.len,λk a f h1 g=>(w.row k a f h1 g).stp s⟩
structure NB(K:PySem.W.Frag)(x:Nat)(q:cq)(as:List cq)(F0:Hp)(ρ0:List Sl)(σ0:_L.St)(H0:Hp)(F:Hp)(ρ:List Sl)(σ:_L.St)(H:Hp)(rows:List (List D)):Prop where
 stp:az K F0 ρ0 σ0 H0 F ρ σ H
 fresh:∀b,b∈q::as->Own ρ0 σ0 b\/H0 b=ci
 free:∀s0,ρ0[x]?=aU s0->uA s0=a_
 nw:Nw K x q as F ρ σ H rows
theorem NB.step(b:NB K x q as F0 ρ0 σ0 H0 F ρ σ H rows)(s:az K F ρ σ H F' ρ' σ' H'):NB K x q as F0 ρ0 σ0 H0 F' ρ' σ' H' rows:=⟨b.stp.trans s,b.fresh,b.free,b.nw.stp s⟩
theorem DR{s:Sl}{a:cq}{b:HO}(c:Jt s=b_)(h:Kp ρ σ H a b):Kp (ρ.set x s) (σ.set x o) H a b:=⟨h.1,λ⟨i,z⟩=>h.2 ⟨i,(gG c z).1⟩⟩
theorem Rj{s:Sl}{a:cq}{b:List D}(c:Jt s=b_)(h:Wt K F ρ σ H a b):Wt K F (ρ.set x s) (σ.set x o) H a b:=by obtain⟨⟨xs,h1,e⟩,f⟩:=h;exact⟨⟨xs,DR c h1,e⟩,f⟩
theorem az.aep{Da:cq}{o:HO}(s:az K F ρ σ H F1 ρ1 σ1 H1)(h:Own ρ σ Da\/H Da=ci)(j:F1 Da=ci)(ho:¬ Own ρ1 σ1 Da):az K F ρ σ H F1 ρ1 σ1 (upd H1 Da o):=by
 refine⟨⟨λb u e=>?_,s.gs.len,s.gs.val,λi t c e f=>?_,s.gs.dis⟩,s.cB,s.zj,λb u e n=>?_,s.xq,s.len,s.lk⟩
 . have:b≠Da:=by rintro rfl;rw[j]at e;cases e
   rw[aB this];exact s.gs.sub b u e
 . obtain⟨a,xs,g,k,l,m⟩:=s.gs.own i t c e f;have:a≠Da:=by rintro rfl;exact ho ⟨i,⟨t,c,e,f⟩,g⟩
   exact⟨a,xs,g,by rw[aB this];exact k,l,m⟩
 . have:b≠Da:=by
    rintro rfl;rcases h with h|h;.exact n h
    .rw[h]at e;cases e
   rw[aB this];exact s.keep b u e n
theorem NB.mut{r:Nat}{a:cq}{row e:List D}{ys:List V}(b:NB K x q as F0 ρ0 σ0 H0 F ρ σ H rows)(g:as[r]?=aU a)(hr:rows[r]?=aU row)(n:aG K F ys e):NB K x q as F0 ρ0 σ0 H0 F (ρ.set x (.hold (rows.set r e))) σ (upd H a (.lst ys)) (rows.set r e):=by
 have w:=b.nw.row r a row g hr;obtain⟨⟨xs,l,r1⟩,f1⟩:=w;have p:x<ρ.length:=(dD b.nw.slot).1;have sx:σ.set x (aU (.ref q))=σ:=by have:=b.nw.val;obtain⟨h1,f⟩:=dD this;rw[<-f];simp
 have mem:a∈q::as:=dr _ (dl g);have s1:=(b.stp.aep (o:=.lst ys) (b.fresh a mem) f1 l.2).Es (x:=x) (s:=.hold (rows.set r e)) (o:=aU (.ref q)) rfl b.free;rw[sx]at s1;have t:q≠a:=by have:=(ez.mp b.nw.nd).1;rintro rfl;exact this (dl g)
 have own:∀{c:cq},¬ Own ρ σ c->¬ Own (ρ.set x (.hold (rows.set r e))) σ c:=λ{c}h⟨i,z⟩=>h ⟨i,by have:=gG (x:=x) (s:=.hold (rows.set r e)) (o:=aU (.ref q)) (σ:=σ) (ρ:=ρ) rfl (b:=c) (i:=i) (by rw[sx];exact z);exact this.1⟩;refine⟨s1,b.fresh,b.free,⟨cp p,b.nw.val,⟨⟨by rw[aB t];exact b.nw.out.kp.1,own b.nw.out.kp.2⟩,b.nw.out.fr⟩,b.nw.nd,by simp[b.nw.len],λk c u h1 f=>?_⟩⟩;by_cases j:k=r;.subst j;rw[g]at h1;cases h1;have v:k<rows.length:=(dD hr).1;rw[cp v]at f;cases f;exact⟨⟨ys,⟨aP,own l.2⟩,n⟩,f1⟩
 . rw[eI (λz=>j z.symm)]at f;obtain⟨⟨y,m,A⟩,f2⟩:=b.nw.row k c u h1 f;have nc:c≠a:=by rintro rfl;have nd:=(ez.mp b.nw.nd).2;obtain⟨E,B⟩:=dD h1;obtain⟨l2,C⟩:=dD g;exact j ((List.getElem_inj nd).mp (B.trans C.symm))
   exact⟨⟨y,⟨by rw[aB nc];exact m.1,own m.2⟩,A⟩,f2⟩
noncomputable def Fz(F H:Hp)(bs:List cq):Hp:=λb=>if b∈bs then H b else F b
theorem uR{G:Hp}:∀{as:List cq}{rows:List (List D)},as.length=rows.length->(∀(k:Nat)(a:cq)(c:List D),as[k]?=aU a->rows[k]?=aU c->Rep K G (.ref a) (.lst c))->aG K G (as.map V.ref) (rows.map D.lst)|[],[],_,_=>.nil|a::as,c::rows,h,k=>.cons (k 0 a c rfl rfl) (uR (by simpa using h) λj b es h1 e=>k (j+1) b es (by simpa using h1) (by simpa using e))|[],_::_,h,_=>by simp at h|_::_,[],h,_=>by simp at h
theorem Nw.R5(w:Nw K x q as F ρ σ H rows){b:cq}(hb:b∈q::as):F b=ci/\¬ Own ρ σ b:=by
 rcases cK.mp hb with rfl|hb;.exact⟨w.out.fr,w.out.kp.2⟩
 . obtain⟨k,a⟩:=k4 hb;have c:k<rows.length:=by rw[<-w.len];exact(dD a).1
   obtain⟨⟨xs,e,_⟩,f1⟩:=w.row k b rows[k] a (by simp[c]);exact⟨f1,e.2⟩
theorem Nw.fz(w:Nw K x q as F ρ σ H rows)(sm:aH F H):aH F (Fz F H (q::as))/\aH (Fz F H (q::as)) H/\Rep K (Fz F H (q::as)) (.ref q) (.lst (rows.map D.lst)):=by
 have s1:aH F (Fz F H (q::as)):=λb o e=>by unfold Fz;rw[if_neg λc=>by rw[(w.R5 c).1]at e;cases e];exact e
 refine⟨s1,λb o e=>?_,?_⟩
 . unfold Fz at e;split at e;.exact e
   .exact sm b o e
 .rw[Rep];refine⟨q,as.map V.ref,rfl,dO.of (by unfold Fz;rw[if_pos io];exact w.out.kp.1),uR w.len λk a f h1 g=>?_⟩;obtain⟨⟨xs,h,r1⟩,f1⟩:=w.row k a f h1 g;rw[Rep];exact⟨a,xs,rfl,dO.of (by unfold Fz;rw[if_pos (dr _ (dl h1))];exact h.1),r1.mono s1⟩
theorem NB.dB(b:NB K x q as F0 ρ0 σ0 H0 F ρ σ H rows):az K F0 ρ0 σ0 H0 (Fz F H (q::as)) (ρ.set x (.val a_ (.lst (rows.map D.lst)))) σ H:=by
 obtain⟨s1,s2,w⟩:=b.nw.fz b.stp.gs.sub;have g:=b.stp.gs;have s:x<ρ.length:=(dD b.nw.slot).1;have k:∀{j:Nat}{c:cq},aX (ρ.set x (.val a_ (.lst (rows.map D.lst)))) σ j c->aX ρ σ j c/\x≠j:=λ{j c}⟨⟨t,r,e,m⟩,e1⟩=>by
  by_cases f:x=j;.subst f;rw[cp s]at e;cases e;cases m
  .rw[eI f]at e;exact⟨⟨⟨t,r,e,m⟩,e1⟩,f⟩
 refine⟨⟨s2,by simp[g.len],λi y d e=>?_,λi t r e m=>?_,λi j c h1 p=>g.dis i j c (k h1).1 (k p).1⟩,b.stp.cB.trans s1,λc n u=>?_,b.stp.keep,λc⟨j,h⟩=>b.stp.xq c ⟨j,(k h).1⟩,by simp[b.stp.len],λi t e l=>?_⟩
 . by_cases f:x=i;.subst f;rw[cp s]at e;cases e;exact⟨_,b.nw.val,w⟩
   .rw[eI f]at e;obtain⟨v,h1,p⟩:=g.val i y d e;exact⟨v,h1,p.mono s1⟩
 . by_cases f:x=i;.subst f;rw[cp s]at e;cases e;cases m
   .rw[eI f]at e;obtain⟨a,o,h1,p,z,A⟩:=g.own i t r e m;refine⟨a,o,h1,p,?_,A.mono s1⟩;unfold Fz;rw[if_neg λB=>(b.nw.R5 B).2 ⟨i,⟨t,r,e,m⟩,h1⟩];exact z
 . by_cases hc:c∈q::as;.exact(b.fresh c hc).imp id jY
   . have:Fz F H (q::as) c=F c:=by unfold Fz;rw[if_neg hc]
     rw[this]at u;exact b.stp.zj c n u
 . have c:x≠i:=by rintro rfl;rw[b.free _ e]at l;cases l
   obtain⟨C,s3,E,G⟩:=b.stp.lk i t e l;exact⟨C,s3,by rw[eI c];exact E,G⟩
end
inductive Vf(K:PySem.W.Frag)(x:Nat)(f:List Sl->Res Fl)(E:Ends)(σ:_L.St)(H:Hp):Prop where|mk(F0:Hp)(ρ0:List Sl)(σ0:_L.St)(H0 F:Hp)(ρ:List Sl)(q:cq)(as:List cq)(rows:List (List D))(fl:Fl)(ρ':List Sl)(b:NB K x q as F0 ρ0 σ0 H0 F ρ σ H rows)(e:f ρ=.ok fl ρ')(k:∀F' σ' H',az K F0 ρ0 σ0 H0 F' ρ' σ' H'->aH F F'->((∀r,fl≠.ret r)->∃oZ,NB K x q as F0 ρ0 σ0 H0 F' ρ' σ' H' oZ)->JQ K E F' ρ' σ' H' ρ0 σ0 H0 fl)
inductive aag(K:PySem.W.Frag)(x:Nat)(f:List Sl->Res Fl)(E:Ends)(σ:_L.St)(H:Hp):Prop where|mk(F0:Hp)(ρ0:List Sl)(σ0:_L.St)(H0 F:Hp)(ρ:List Sl)(q:cq)(as:List cq)(rows:List (List D))(fl:Fl)(ρ':List Sl)(b:NB K x q as F0 ρ0 σ0 H0 F ρ σ H rows)(e:f ρ=.ok fl ρ')(k:∀F' σ' H',az K F0 ρ0 σ0 H0 F' ρ' σ' H'->JQ K E F' ρ' σ' H' ρ0 σ0 H0 fl)
structure SSN(X:Cx)(c:Call)(n x:Nat)(st:eL)(s:S):Prop where p:PS X st (Vf X.K x (ex c n s))
structure Za(X:Cx)(c:Call)(n x:Nat)(st:List eL)(s:List S):Prop where p:xJ X st (Vf X.K x (iM c n s))
structure SBT(X:Cx)(c:Call)(n x:Nat)(st:List eL)(s:List S):Prop where p:xJ X st (aag X.K x (iM c n s))
section
variable{X:Cx}{c:Call}{n x:Nat}{e a b d tg iter:dy}{p pa pb pd:P}{pos:Pos}{body:List eL}{ss:List S}{st:eL}{s:S}{sts:List eL}
theorem p6:Za X c n x [] []:=⟨nJ CP λD σ H⟨f,ρ0,σ0,H0,F,ρ,q,as,rows,fl,ρ',nb,e,k⟩=>by rw[xs0]at e;cases e;exact k F σ H nb.stp (.refl _) λ_=>⟨rows,nb⟩⟩
theorem sy(h1:SSN X c n x st s)(w:Za X c n x sts ss):Za X c n x (st::sts) (s::ss):=by refine⟨nJ (lR h1.p w.p) ?_⟩;rintro D σ H⟨h,f,g,i,F,ρ,q,as,rows,fl,t,l,e,k⟩;rw[Xj]at e;obtain⟨f1,j,m,e⟩:=ak e;cases f1 with|next=>refine⟨h,f,g,i,F,ρ,q,as,rows,.next,j,l,m,λF1 y G s1 sm nn=>?_⟩;obtain⟨A,B⟩:=nn (λr z=>by cases z);exact⟨h,f,g,i,F1,j,q,as,A,fl,t,B,e,λF2 u C s2 E v=>k F2 u C s2 (sm.trans E) v⟩|brk=>cases e;exact⟨h,f,g,i,F,ρ,q,as,rows,.brk,_,l,m,k⟩|cont=>cases e;exact⟨h,f,g,i,F,ρ,q,as,rows,.cont,_,l,m,k⟩|ret r=>cases e;exact⟨h,f,g,i,F,ρ,q,as,rows,.ret r,_,l,m,k⟩
theorem Ku(h1:SSN X c n x st s)(w:SBT X c n x sts ss):SBT X c n x (st::sts) (s::ss):=by refine⟨nJ (lR h1.p w.p) ?_⟩;rintro D σ H⟨j,g,h,l,F,ρ,q,as,rows,fl,v,t,e,k⟩;rw[Xj]at e;obtain⟨f1,m,u,e⟩:=ak e;cases f1 with|next=>refine⟨j,g,h,l,F,ρ,q,as,rows,.next,m,t,u,λF1 f i s1 sm nn=>?_⟩;obtain⟨y,A⟩:=nn (λr z=>by cases z);exact⟨j,g,h,l,F1,m,q,as,y,fl,v,A,e,k⟩|brk=>cases e;exact⟨j,g,h,l,F,ρ,q,as,rows,.brk,_,t,u,λF1 f i s1 _ _=>k F1 f i s1⟩|cont=>cases e;exact⟨j,g,h,l,F,ρ,q,as,rows,.cont,_,t,u,λF1 f i s1 _ _=>k F1 f i s1⟩|ret r=>cases e;exact⟨j,g,h,l,F,ρ,q,as,rows,.ret r,_,t,u,λF1 f i s1 _ _=>k F1 f i s1⟩
theorem Qm(h:SB X c n sts ss):SBT X c n x sts (.dB x::ss):=by refine⟨nJ h ?_⟩;rintro D σ H⟨B,l,m,C,F,ρ,q,as,rows,fl,f,i,e,k⟩;rw[Xj]at e;obtain⟨f1,u,j,e⟩:=ak e;rw[_H.X22,i.nw.slot]at j;cases j;have t:=i.dB;refine⟨_,_,fl,f,t.gs,e,λw g y s=>?_⟩;have z:=k w g y (t.trans s);cases fl with|next=>exact z|brk=>exact z|cont=>exact z|ret r=>exact λv A=>z v (A.later t)
theorem Wr{r u:List eL}{v w:List S}(hc:ST X c e p)(z:Za X c n x r v)(A:Za X c n x u w):SSN X c n x (.If e r u pos) (.ifs p v w):=by refine⟨eN (Te hc z.p A.p) ?_⟩;rintro D σ H⟨B,j,l,C,F,ρ,q,as,rows,fl,i,y,e,k⟩;rw[_H.X12]at e;obtain⟨t,g,E,e⟩:=ak e;refine⟨F,ρ,t,g,y.stp.gs,E,λF1 G s1=>?_⟩;have go:∀{f:List Sl->Res Fl},f g=.ok fl i->Vf X.K x f D σ G:=λ{f}h=>⟨B,j,l,C,F1,g,q,as,rows,fl,i,y.step s1,h,λF2 m I s2 sm nn=>k F2 m I s2 (s1.cB.trans sm) nn⟩;cases t with|true=>rw[if_pos rfl]at e;exact go e|false=>rw[if_neg de]at e;exact go e
theorem JR{ρ:List Sl}(h:jh ρ x=aU rows):ρ[x]?=aU (.hold rows):=by
 unfold jh at h;split at h;.rename_i z;cases h;exact z
 .cases h
noncomputable def WalkN(K:PySem.W.Frag)(J:It)(i:List D)(F1:Hp):Prop:=∀(k:Nat)(h f:Hp),aH F1 h->aH h f->(∀d,i[k]?=aU d->J.go k f/\∀x j,J.M6 k f x j->∃g,Ext h f g j/\Rep K g x d)/\(i.length<=k->J.stop k f)
inductive aeK(K:PySem.W.Frag)(f:Ev)(σ:_L.St)(H:Hp)(R:It->Hp->Prop):Prop where|mk(F:Hp)(ρ:List Sl)(r:_H.R)(ρ1:List Sl)(ds:List D)(g:GS K F ρ σ H)(e:f ρ=.ok r ρ1)(e2:items r.d=aU ds)(k:∀J F1 H1,az K F ρ σ H F1 ρ1 σ H1->WalkN K J ds F1->R J H1)
structure SIN(X:Cx)(c:Call)(tg e:dy)(p:P):Prop where p:PI X tg e (aeK X.K (_H.ev c p))
theorem Qg(h:SX X c e p):SIN X c tg e p:=by refine⟨mD (zB h.ev) ?_⟩;rintro σ H R⟨F,ρ,r,m,y,g,e,i,k⟩;refine⟨F,ρ,r,m,g,e,λv z A s t=>?_⟩;obtain⟨F2,s2,_,j⟩:=s.dB t;cases hd:r.d with|tup es=>rw[hd]at j i;cases i;rw[Rep]at j;obtain⟨a,xs,rfl,h1,q⟩:=j;exact⟨a,rfl,.inr ⟨⟨xs,aH.gJ s2.gs.sub h1⟩,k _ _ _ s2 λk u w f l=>CQ (aH.gJ l (aH.gJ f h1)) (q.mono f) l k⟩⟩|lst es=>rw[hd]at j i;cases i;rw[Rep]at j;obtain⟨a,xs,rfl,h1,q⟩:=j;exact⟨a,rfl,.inl ⟨⟨xs,s2.gs.sub.seq h1⟩,k _ _ _ s2 λk u w f l=>qj (l.seq (f.seq h1)) (q.mono f) l k⟩⟩|_=>rw[hd]at i;cases i
theorem Ht{K:PySem.W.Frag}{F1:Hp}(i j:Int):WalkN K (Yk i (j-i).toNat) ((dS (j-i).toNat).map λ(k:Nat)=>D.int (i+(k:Int))) F1:=by
 refine λk g u _ sm=>⟨λd hd=>?_,λh=>?_⟩;.rw[fk]at hd;obtain⟨m,l,q⟩:=map_some hd;obtain⟨h1,f⟩:=dD l;rw[List.getElem_range]at f;subst f;subst q;rw[kq]at h1;refine⟨h1,?_⟩;rintro x v⟨r,t⟩;subst r;subst t;exact⟨g,.refl sm,cj _⟩
 .rw[dV,kq]at h;exact h
theorem K5{x:Str}{q:Pos}(t:x="range")(u:Gl X x)(w:X.mg x=ci)(y:SX X c a pa)(hs:cx [a] X.env=[(a_,eA a X.env)]:=by rfl):SIN X c tg (.Call (.Name x q) [a] [] pos) (.xn (.con (.int 0)) pa):=by
 subst t;obtain⟨O,h1,z⟩:=y.cJ;refine⟨mD (uB u w (bZ h1 dZ hs) hs) ?_⟩;rintro σ H R⟨F,ρ,r,A,Q,g,l,B,k⟩;rw[_H.E20]at l;obtain⟨U,C,E,f⟩:=ak l;have G:=aC f;clear f;obtain⟨f,I⟩:=G;subst I;obtain⟨W,J,L,h⟩:=ak E;cases h;obtain⟨i,f1,f⟩:=cG f;obtain⟨j,f2,f⟩:=cG f;obtain⟨⟨b1,b2,b3,b4⟩,f⟩:=bI f;have f1:i=0:=by cases f1;rfl
 subst f1;subst f;cases B;cases dj f2;refine z g L λv m M s N=>⟨j,by rw[N.int],by lia,by lia,?_⟩;have:=Ht (K:=X.K) (F1:=m) 0 j;rw[rS]at this;refine k _ m M s ?_;rw[rS];exact this
theorem Ej{g:TG}{is:List Nat}{one:Bool}(hp:l8 (cS X.prog X.w) X.A X.env X.xe)(hc:X.calm=b_)(hi:SIN X c tg iter p)(hg:PG X tg g)(ag:Od X.K (λρ d=>cL ρ is one d) g)(hb:Za X c n x body ss)(hs:∀x,fe iter X.env x=fg x:=by intro _;rfl):SSN X c n x (.For tg iter body [] pos) (.Hx p is one ss):=by
 refine⟨eN (Iv hp hc hi.p hg hb.p hs) ?_⟩;rintro D σ H⟨F0,G,I,H0,F,ρ,q,as,rows,fl,U,nb,e,k⟩;rw[_H.X21]at e;obtain⟨r,W,e1,e⟩:=ak e;obtain⟨j,am,e9,e2⟩:=ak e;have zz:=aC e9;clear e9;obtain⟨e9,ah⟩:=zz;subst ah;refine⟨F,ρ,r,W,j,nb.stp.gs,e1,e9,λJ F1 H1 s1 w=>?_⟩;refine⟨λi m u Hi=>∃E f Q,NB X.K x q as F0 G I H0 E f u Hi Q/\aH F1 E/\m=j.length-i/\i<=j.length/\jf is one (iM c n ss) (j.drop i) f=.ok fl U,⟨_,F1,W,rows,nb.step s1,.refl _,rfl,tU,e2⟩,?_⟩;rintro i m u Hi⟨E,f,Q,t,L,rfl,ap,l⟩;obtain⟨w1,w2⟩:=w i E Hi L t.stp.gs.sub;by_cases B:i<j.length
 . right;have hd:j[i]?=aU j[i]:=by simp[B]
   obtain⟨go,step⟩:=w1 _ hd;refine⟨go,λY Z=>∃m',m'<j.length-i/\∃E f Q,NB X.K x q as F0 G I H0 E f Y Z Q/\aH F1 E/\m'=j.length-(i+1)/\i+1<=j.length/\jf is one (iM c n ss) (j.drop (i+1)) f=.ok fl U,λY Z z=>z,λy Z yy=>?_⟩;obtain⟨F2,ext,rx⟩:=step y Z yy;have t2:=ext.stp t.stp.gs;rw[fN B,BV]at l;cases hbd:cL f is one j[i]with|none=>rw[hbd]at l;cases l|some ac=>rw[hbd]at l;obtain⟨ae,M,eb,l⟩:=ak l;refine ag y _ F2 f ac u Z _ t2.gs rx hbd λar sb=>?_;have t3:=t2.trans sb;refine⟨F0,G,I,H0,F2,ac,q,as,Q,ae,M,t.step t3,eb,λF4 af H4 s4 ai N=>?_⟩;have C:aH F1 F4:=L.trans (ext.fs.trans ai);cases ae with|next=>obtain⟨Nj,O⟩:=N (λr z=>by cases z);exact⟨_,by lia,F4,M,Nj,O,C,rfl,B,l⟩|cont=>obtain⟨Nj,O⟩:=N (λr z=>by cases z);exact⟨_,by lia,F4,M,Nj,O,C,rfl,B,l⟩|brk=>cases l;exact k F4 af H4 s4 (s1.cB.trans C) λ_=>N (λr z=>by cases z)|ret r=>cases l;exact λv rr=>k F4 af H4 s4 (s1.cB.trans C) (λh=>(h r rfl).elim) v rr
 . left;have al:j.drop i=[]:=by rw[lf];lia
   rw[al,Jv]at l;cases l;exact⟨w2 (by lia),k E u Hi t.stp (s1.cB.trans L) λ_=>⟨Q,t⟩⟩
end
section
variable{X:Cx}{c:Call}{n:Nat}{e a b d i j:dy}{p pa pb pd pi pj:P}{pos:Pos}
theorem Ph{ρ f:List Sl}{x:Nat}{o:Option (List (List D))}{fl:Fl}(h:vz ρ x o=.ok fl f):∃rows,o=aU rows/\fl=.next/\f=ρ.set x (.hold rows):=by cases o with|none=>cases h|some rows=>cases h;exact⟨rows,rfl,rfl,rfl⟩
section
variable{K:PySem.W.Frag}{F H F0 H0:Hp}{ρ ρ0:List Sl}{σ σ0:_L.St}{x:Nat}{q:cq}{as:List cq}{rows oZ:List (List D)}
theorem NB.hold(f:NB K x q as F0 ρ0 σ0 H0 F ρ σ H rows)(h:jh ρ x=aU oZ):oZ=rows:=by have:=JR h;rw[f.nw.slot]at this;cases this;rfl
theorem NB.at{k:Int}{r:Nat}{row:List D}(f:NB K x q as F0 ρ0 σ0 H0 F ρ σ H rows)(h1:_H.ik rows.length k=aU r)(h:rows[r]?=aU row):∃a ys,as[r]?=aU a/\LC (as.map V.ref) k=aU (.ref a)/\H a=aU (.lst ys)/\aG K F ys row:=by
 have g:r<as.length:=by rw[f.nw.len];exact(dD h).1
 obtain⟨⟨ys,l,r1⟩,_⟩:=f.nw.row r as[r] row (by simp[g]) h;refine⟨as[r],ys,by simp[g],?_,l.1,r1⟩;unfold LC;rw[dV,f.nw.len];rw[show _L.ik rows.length k=aU r from h1];simp[g]
theorem NB.wz{g:D}{row:List D}(l:NB K x q as F0 ρ0 σ0 H0 F ρ σ H rows)(h:_H.wz ρ x g=aU row):∃k a,(∃r:Nat,as[r]?=aU a)/\LC (as.map V.ref) k=aU (.ref a)/\g=.int k/\∃ys,H a=aU (.lst ys)/\aG K F ys row:=by unfold _H.wz at h;obtain⟨f,h1,h⟩:=cG h;cases l.hold h1;obtain⟨k,m,h⟩:=cG h;obtain⟨r,s,t⟩:=cG h;obtain⟨a,ys,u,v,w,y⟩:=l.at s t;exact⟨k,a,⟨r,u⟩,v,dj m,ys,w,y⟩
end
theorem Hn{l:List (List D)}{k:Int}{f:List D->Option (List D)}(h:jP rows k f=aU l):∃r row g,_H.ik rows.length k=aU r/\rows[r]?=aU row/\f row=aU g/\l=rows.set r g:=by unfold jP at h;obtain⟨r,h1,h⟩:=cG h;obtain⟨row,m,h⟩:=cG h;obtain⟨g,q,h⟩:=map_some h;exact⟨r,row,g,h1,m,q,h.symm⟩
theorem Ky{x:Str}{k:Nat}{u f h g:Pos}(hN:X.N[k]?=aU x)(hv:yZ X.env.scope x)(hi:SX X c i pi)(he:SX X c e p)(I:vB i:=by intro _ _;rfl)(l:(h.endLine==g.line)=b_:=by rfl)(hs:cx [e] X.env=(a_,eA e X.env)::cx [] X.env:=by rfl)(s:jS (.Subscript (.Name x u) i f) "append" X.env (eA (.Subscript (.Name x u) i f) X.env)=eA (.Subscript (.Name x u) i f) X.env:=by rfl)(w:((i7 g (cx [e] X.env)).all (λx=>!x.1)&&(sh g (nS [] X.env)).all (λx=>x.1.isSome)&&decide ([e].length+([]:List l9).length+(if([]:List l9).isEmpty then 0 else 1)<30))=b_:=by rfl)(J:gi (.Call (.Attribute (.Subscript (.Name x u) i f) "append" h) [e] [] g) ci pos.line X.env=fg a_:=by rfl)(hd:(x==("__debug__":Str))=a_:=by decide)(L:(x==("__classdict__":Str))=a_:=by decide):SSN X c n k (.Expr (.Call (.Attribute (.Subscript (.Name x u) i f) "append" h) [e] [] g) pos) (.Nb k pi p):=by obtain⟨ti,M,O⟩:=hi.cJ;refine⟨eN (Dp (Th PySem.F.plainAttrs_list PySem.F.slot_list_append PySem.F.type_list_append nQ (RJ FT (gh hN hv hd L) M I) (bZ he.ev dZ hs) s w l hs) J) ?_⟩;rintro E σ H⟨F0,al,am,H0,F,ρ,q,as,rows,fl,ap,Q,e,kk⟩;rw[_H.X20]at e;obtain⟨dk,U,e2,e⟩:=ak e;obtain⟨ah,ai,C,e⟩:=ak e;have zz:=aC C;clear C;obtain⟨C,W⟩:=zz;subst W;obtain⟨r,Y,e3,e⟩:=ak e;obtain⟨rs,y,rfl,rfl⟩:=Ph e;refine⟨.ref q,Q.nw.val,O Q.stp.gs e2 λvi F1 H1 s1 pi=>?_⟩;have G:=Q.step s1;obtain⟨k0,a,g1,g2,g0,ys,g3,g4⟩:=G.wz C;rw[g0]at pi;refine⟨q,_,k0,_,rfl,pi.int,dO.of G.nw.out.kp.1,g2,.inl ⟨rfl,ys,dO.of g3⟩,F1,U,r,Y,G.stp.gs,e3,λv F2 H2 s2 rr=>?_⟩;obtain⟨F3,s3,_,rp⟩:=s2.dB rr;have t:=G.step s3;obtain⟨Z,e5,y⟩:=cG y;cases t.hold e5;obtain⟨k1,e6,y⟩:=cG y;obtain⟨m,row,kj,f1,f2,f3,rfl⟩:=Hn y;obtain⟨ac,rfl⟩:=bI f3;have:=dj e6;rw[g0]at this;cases this;obtain⟨a',ae,af,z,ag,A⟩:=t.at f1 f2;rw[g2]at z;cases z;have B:=t.mut af f2 (A.append (.cons rp .nil));exact⟨a,ae,v,rfl,rfl,ag,by rw[A.length];exact ac,kk F3 σ _ B.stp (s1.cB.trans s3.cB) λ_=>⟨_,B⟩⟩
end
section
variable{K:PySem.W.Frag}{F H F1 H1:Hp}{ρ ρ1:List Sl}{σ σ1:_L.St}
theorem az.since{b:cq}(s:az K F ρ σ H F1 ρ1 σ1 H1)(h:H1 b=ci):Own ρ σ b\/H b=ci:=by
 by_cases ho:Own ρ σ b;.exact .inl ho
 .right;cases e:H b with|none=>rfl|some o=>rw[s.keep b o e ho]at h;cases h
theorem NB.mk'{x:Nat}{q:cq}{as:List cq}{s1:Sl}(s:az K F ρ σ H F1 ρ1 σ1 H1)(e:ρ1[x]?=aU s1)(g:uA s1=a_)(h:Xy F1 ρ1 σ1 H1 q (as.map V.ref))(nd:(q::as).Nodup)(len:as.length=rows.length)(row:∀(k:Nat)(a:cq)(c:List D),as[k]?=aU a->rows[k]?=aU c->Wt K F1 ρ1 σ1 H1 a c)(fr:∀b,b∈q::as->Own ρ σ b\/H b=ci):NB K x q as F ρ σ H F1 (ρ1.set x (.hold rows)) (σ1.set x (aU (.ref q))) H1 rows:=by
 have hi:x<ρ1.length:=(dD e).1;have f:x<σ1.length:=by rw[<-s.gs.len];exact hi
 exact⟨s.Es rfl (s.free e g),fr,s.free e g,⟨cp hi,cp f,⟨DR rfl h.kp,h.fr⟩,nd,len,λk a c h1 i=>Rj rfl (row k a c h1 i)⟩⟩
end
theorem MJ{K:PySem.W.Frag}{F H:Hp}{ρ e l:List Sl}{σ:_L.St}{ul:List Sl->List Sl}{ti:TI}{is:List Nat}{one:Bool}{c:Call}{el:Ev}{g:TG}{Q:VK}{f:List D}{m n:Nat}(hm:σ.length=m)(ax:lQ K m is one g)(ay:∀R:It->Hp->Prop,(∀J F1 Y,Walk K F ρ σ H ul J f F1 e Y->R J Y)->ti σ H R)(bi:f.length<=lim)(e2:gO is one el f [] (e++cr n .aO)=.ok rows l)(k:∀ q as F' H',az K F ρ σ H F' (ul (l.take e.length)) σ H'->Xy F' (ul (l.take e.length)) σ H' q (as.map V.ref)->(q::as).Nodup->as.length=rows.length->(∀(k:Nat)(a:cq)(f:List D),as[k]?=aU a->rows[k]?=aU f->Wt K F' (ul (l.take e.length)) σ H' a f)->(∀b,b∈q::as->Own ρ σ b\/H b=ci)->Q (.ref q) H'):u9 n ti g (HS K (o6 c ci)) (xm K el) σ H Q:=by
 refine ay _ λJ F1 Y w Da Gb=>?_;have aE:e.length=σ.length:=w.gs.len;have gm:=w.gs.more (n:=n) (τ:=cr n ci) (by simp);have fD:F1 Da=ci:=by cases q:F1 Da with|none=>rfl|some o=>rw[w.gs.sub Da o q]at Gb;cases Gb
 have nO:¬ Own (e++cr n .aO) (σ++cr n ci) Da:=λ⟨i,⟨t,dt,q1,q2⟩,q3⟩=>by obtain⟨a,ys,z1,z2,_⟩:=gm.own i t dt q1 q2;rw[q3]at z1;cases z1;rw[Gb]at z2;cases z2
 refine⟨λi mm ys j N=>∃O u B as,az K F1 (e++cr n .aO) (σ++cr n ci) Y O u j N/\j.take m=σ/\ys=as.map V.ref/\N Da=aU (.lst ys)/\O Da=ci/\¬ Own u j Da/\(Da::as).Nodup/\as.length=B.length/\(∀(k:Nat)(a:cq)(f:List D),as[k]?=aU a->B[k]?=aU f->Wt K O u j N a f/\(Own (e++cr n .aO) (σ++cr n ci) a\/Y a=ci))/\B.length<=i/\mm=f.length-i/\i<=f.length/\gO is one el (f.drop i) B u=.ok rows l,⟨_,F1,_,[],[],(az.refl gm).IW Gb fD nO,by rw[mI (by lia),n9 (by lia)],rfl,aP,fD,nO,by simp,rfl,λk a f h=>by simp at h,tU,rfl,tU,e2⟩,?_⟩;rintro i mm ys j N⟨O,u,B,as,si,ap,ac,hD,hF,hO,ae,C,I,bm,rfl,bn,G⟩;refine⟨hD,?_⟩;have stay:∀{F2 H2:Hp}{af:List Sl}{L:_L.St},az K O u j N F2 af L H2->H2 Da=aU (.lst ys)/\F2 Da=ci/\¬ Own af L Da:=λ{F2 H2 af L}s=>by have:=(Xy.stp (xs:=ys) ⟨⟨hD,hO⟩,hF⟩ s);exact⟨this.kp.1,this.fr,this.kp.2⟩
 obtain⟨s1,s2⟩:=w.src n i O u j N si;by_cases ag:i<f.length
 . right;have hd:f[i]?=aU f[i]:=by simp[ag]
   obtain⟨go,step⟩:=s1 _ hd;refine⟨go,λx H2 y=>?_⟩;obtain⟨F2,ext,rx⟩:=step x H2 y;have t2:=ext.stp si.gs;rw[fN ag,Ly]at G;cases hbd:cL u is one f[i]with|none=>rw[hbd]at G;cases G|some X=>rw[hbd]at G;obtain⟨re,ah,ee,G⟩:=ak G;cases re with|val _=>cases G|own ai=>
     replace G:gO is one el (f.drop (i+1)) (B++[ai]) ah=.ok rows l:=G;refine ax x _ F2 u X j H2 _ t2.gs rx hbd λL sb aI=>?_;have t3:=t2.trans sb;refine⟨F2,X,b_,X,t3.gs,by rw[o6],λF4 H4 s4=>?_⟩;have t4:=t3.trans s4;refine(show xm K el L H4 _ from⟨F4,X,.own ai,ah,t4.gs,ee,λv F5 H5 s5 rr=>?_⟩);have t6:=t4.trans s5;obtain⟨y1,y2,y3⟩:=stay t6;obtain⟨z1,z2,z3⟩:=stay t4;have al:ys.length<sizeLine:=by have U:lim=sizeLine:=rfl;rw[ac,dV];lia
     obtain⟨A,xs,rfl,a1,a2,a3,a4,a5⟩:=rr;have ar:A≠Da:=by
      rintro rfl;rcases a5 with z|z;.exact z3 z
      .rw[z1]at z;cases z
     have nA:A∉as:=λhA=>by
      obtain⟨M,E⟩:=k4 hA;have am:M<B.length:=by rw[<-C];exact(dD E).1
      obtain⟨⟨zs,Z,_⟩,_⟩:=(I M A B[M] E (by simp[am])).1.stp t4;rcases a5 with z|z;.exact Z.2 z
      .rw[Z.1]at z;cases z
     have fA:Own (e++cr n .aO) (σ++cr n ci) A\/Y A=ci:=by
      have t:=si.trans t4;rcases a5 with z|z;.exact t.xq A z
      .exact t.since z
     refine⟨y1,al,_,by lia,F5,ah,B++[ai],as++[A],(si.trans t6).IW Gb y2 y3,aI.trans ap,by rw[ac];simp,aP,y2,y3,?_,by simp[C],λM a0 aS h1 U=>?_,by simp;lia,rfl,ag,G⟩
     . rw[<-kb,i5];refine⟨ae,by simp,λp hp r hr=>?_⟩;simp at hr;subst hr;rcases cK.mp hp with rfl|hp;.exact λz=>ar z.symm
       .rintro rfl;exact nA hp
     . by_cases E:M<as.length
       . rw[du E]at h1;rw[du (by lia)]at U;obtain⟨w0,f0⟩:=I M a0 aS h1 U;obtain⟨⟨zs,Z,r1⟩,g1⟩:=w0.stp t6;have na:a0≠Da:=by rintro rfl;exact(ez.mp ae).1 (dl h1)
         exact⟨⟨⟨zs,⟨by rw[aB na];exact Z.1,Z.2⟩,r1⟩,g1⟩,f0⟩
       . rw[gN (by lia)]at h1;rw[gN (by lia)]at U;have:M-as.length=0:=by have:=(dD h1).1;simp at this;exact this
         rw[this]at h1;rw[<-C,this]at U;cases h1;cases U;exact⟨⟨⟨xs,⟨by rw[aB ar];exact a1,a4⟩,a3⟩,a2⟩,fA⟩
 . left;have aT:f.drop i=[]:=by rw[lf];lia
   rw[aT,Mr]at G;cases G;refine⟨s2 (by lia),?_⟩;have hst:j.take e.length=σ:=by rw[aE,hm];exact ap
   obtain⟨l1,l2⟩:=az.less (m:=e.length) rfl w.gs (by simp) si;rw[hst]at l1;obtain⟨z1,z2⟩:=w.fin _ _ _ _ l1--the outer list:with nothing in it,it is like any new one
   have a8:=si.IW (o:=.lst []) Gb hF hO;obtain⟨av,ZK⟩:=az.less (m:=e.length) rfl w.gs (by simp) a8;rw[hst]at av;obtain⟨bo,a9⟩:=w.fin _ _ _ _ av;have rr:cZ K O l j (upd N Da (.lst [])) (e++cr n .aO) (σ++cr n ci) Y (.ref Da) (.own []):=⟨Da,[],rfl,aP,hF,.nil,hO,.inr Gb⟩;have TJ:=ZK _ _ rr;rw[hst]at TJ;obtain⟨_,_,q0,_,q3,_,q5,q6⟩:=a9 _ _ TJ;cases q0;have aw:∀(k:Nat)(a:cq)(f:List D),as[k]?=aU a->rows[k]?=aU f->Wt K O (ul (l.take e.length)) σ N a f/\(Own ρ σ a\/H a=ci):=λk a f h1 U=>by obtain⟨⟨⟨xs,Z,r1⟩,f1⟩,f2⟩:=I k a f h1 U;have rr:cZ K O l j N (e++cr n .aO) (σ++cr n ci) Y (.ref a) (.own f):=⟨a,xs,rfl,Z.1,f1,r1,Z.2,f2⟩;have TJ:=l2 _ _ rr;rw[hst]at TJ;obtain⟨a',ba,q0,q2,q3,q4,q5,q6⟩:=z2 _ _ TJ;cases q0;exact⟨⟨⟨ba,⟨q2,q5⟩,q4⟩,q3⟩,q6⟩
   refine k Da as O N z1 ⟨⟨by rw[hD,ac],q5⟩,q3⟩ ae C (λk a f h1 U=>(aw k a f h1 U).1) λb hb=>?_;rcases cK.mp hb with rfl|hb;.exact q6
   . obtain⟨M,E⟩:=k4 hb;have am:M<rows.length:=by rw[<-C];exact(dD E).1
     exact(aw M b rows[M] E (by simp[am])).2
section
variable{X:Cx}{c:Call}{nn n:Nat}{tg iter elt:dy}{ps pe:P}{pos:Pos}{sts:List eL}{ss:List S}{scope:kf}{N':List Str}
theorem QQ{i:Nat}{x:Str}{b f:Pos}{g:TG}{is:List Nat}{one:Bool}(hc:X.calm=b_)(A:X.N.Nodup)(m:X.N[i]?=aU x)(B:Loc X.env.scope x)(ok:fH X scope N' n)(hi:SI X c tg iter ps)(E:∀cl C s₀ H₀ ex,PG (rC X scope N' cl C s₀ H₀ ex) tg g)(r:lQ X.K X.N.length is one g)(ht:∀cl C s₀ H₀ ex,SQ (rC X scope N' cl C s₀ H₀ ex) c [] ci)(he:∀cl C s₀ H₀ ex,SX (rC X scope N' cl C s₀ H₀ ex) c elt pe)(G:SBT X c nn i sts ss)(t:gi (.ListComp elt [⟨tg,iter,[],0⟩] scope pos) (aU (.Name x b)) f.line X.env=fg b_:=by rfl)(hs:∀x,fe iter X.env x=fg x:=by intro _;rfl)(J:X.fn x=b_\/X.env.scope.names.lookup x=aU .local:=by first|(left;rfl)|(right;rfl)|assumption):SB X c nn (.Assign [.Name x b] (.ListComp elt [⟨tg,iter,[],0⟩] scope pos) f::sts) (.M9 i ps n is one pe::ss):=by
 have h0:=vm (tt:=HS X.K (o6 c ci)) (te:=xm X.K (_H.ev c pe)) hc A m B ok hi E ht (λcl C s₀ H₀ ex=>(he cl C s₀ H₀ ex).ev) t hs J;refine λj s σ H D I q=>lR h0 G.p j s σ H D I ?_;have L:σ.length=X.N.length:=I.len;obtain⟨F,ρ,fl,u,M,e,O⟩:=q;rw[Xj]at e;obtain⟨f1,Q,a,e⟩:=ak e;rw[_H.X19]at a;obtain⟨U,w,W,a⟩:=ak a;split at a;.rename_i k;obtain⟨rows,Y,Z,a⟩:=ak a;obtain⟨ac,z,l,a⟩:=ak a;cases a;have zz:=aC l;clear l;obtain⟨l,_⟩:=zz;obtain⟨s1,h1,h2,rfl⟩:=wG l;refine(show u9 n (tIt X.K (isVar ps) (_H.ev c ps)) g (HS X.K (o6 c ci)) (xm X.K (_H.ev c pe)) σ H (λv H1=>jq i v σ H1 (aag X.K i (iM c nn ss) D))from MJ (c:=c) (ul:=aW ρ (isVar ps)) L r (λR h=>⟨F,ρ,U,w,M,W,h⟩) k Z λq as F' H' s wq nd len row fr=>?_);exact⟨F,ρ,σ,H,F',_,q,as,rows,fl,u,NB.mk' s h1 h2 wq nd len row fr,e,λF2 y H2 s2=>O F2 y H2 s2⟩
 .cases a
end
end _H
namespace _H
open PySem _L Spec PyProof.Rows Calls W
variable{i:Nat}{x:Str}
section
variable{K:PySem.W.Frag}{F F1 H H1:Hp}{ρ ρ1 ρ2:List Sl}{σ σ1:_L.St}
theorem GS.afr{x:Nat}{kvs f:List (Int×D)}{a:cq}{w:HO}(g:GS K F ρ σ H)(e:ρ[x]?=aU (.cM kvs))(p:σ[x]?=aU (aU (.ref a)))(r:kO K F w (.v f)):az K F ρ σ H F (ρ.set x (.cM f)) σ (upd H a w):=by
 have hi:x<ρ.length:=(dD e).1;have y:aX ρ σ x a:=⟨⟨_,_,e,rfl⟩,p⟩;obtain⟨L,M,h1,N,z,O⟩:=g.own x _ _ e rfl;rw[p]at h1;cases h1;have h:∀{j:Nat}{c:cq},aX (ρ.set x (.cM f)) σ j c->aX ρ σ j c:=λ{j c}⟨⟨t,dt,m,s⟩,q3⟩=>by
  by_cases b:j=x;.subst b;exact⟨⟨_,_,e,rfl⟩,q3⟩
  .rw[fC b]at m;exact⟨⟨t,dt,m,s⟩,q3⟩
 refine⟨⟨λc o q=>?_,by simp[g.len],λj B d q=>?_,λj t dt q u=>?_,λj k c m s=>g.dis j k c (h m) (h s)⟩,.refl _,λc n C=>absurd n C,λc o q n=>?_,λc⟨j,q⟩=>.inl ⟨j,h q⟩,by simp,λj t q l=>⟨rfl,?_⟩⟩
 . have:c≠a:=by rintro rfl;rw[z]at q;cases q
   rw[aB this];exact g.sub c o q
 . by_cases b:j=x;.subst b;rw[cp hi]at q;cases q
   .rw[fC b]at q;exact g.val j B d q
 . by_cases b:j=x;.subst b;rw[cp hi]at q;cases q;cases u;exact⟨a,_,p,aP,z,r⟩
   . rw[fC b]at q;obtain⟨c,E,A,G,I,J⟩:=g.own j t dt q u;have:c≠a:=by rintro rfl;exact b (g.dis j x c ⟨⟨t,dt,q,u⟩,A⟩ y)
     exact⟨c,E,A,by rw[aB this];exact G,I,J⟩
 . have:c≠a:=by rintro rfl;exact n ⟨x,y⟩
   rw[aB this];exact q
 . by_cases b:j=x;.subst b;rw[e]at q;cases q;cases l
   .exact⟨t,by rw[fC b];exact q,.refl t⟩
theorem GS.newV{kvs:List (Int×D)}{a:cq}{A:HO}{s0:Sl}(g:GS K F ρ σ H)(e:ρ[i]?=aU s0)(y:uA s0=a_)(r:kO K F A (.v kvs))(s:H a=ci):az K F ρ σ H F (ρ.set i (.cM kvs)) (σ.set i (aU (.ref a))) (upd H a A):=by
 have hi:i<ρ.length:=(dD e).1;have u:i<σ.length:=by rw[<-g.len];exact hi
 have B:F a=ci:=by cases q:F a with|none=>rfl|some o=>rw[g.sub a o q]at s;cases s
 have f:∀{j:Nat}{c:cq},j≠i->aX (ρ.set i (.cM kvs)) (σ.set i (aU (.ref a))) j c->aX ρ σ j c:=λ{j c}b⟨⟨t,ds,e1,e2⟩,e3⟩=>by rw[fC b]at e1 e3;exact⟨⟨t,ds,e1,e2⟩,e3⟩
 have h:∀{c:cq},aX (ρ.set i (.cM kvs)) (σ.set i (aU (.ref a))) i c->c=a:=λ{c}⟨_,e3⟩=>by rw[cp u]at e3;cases e3;rfl
 have no:∀{j:Nat},¬ aX ρ σ j a:=λ{j}⟨⟨t,ds,e1,e2⟩,e3⟩=>by obtain⟨c,o,m,p,_⟩:=g.own j t ds e1 e2;rw[e3]at m;cases m;rw[s]at p;cases p
 refine⟨⟨λc o q=>?_,by simp[g.len],λj E d q=>?_,λj t dt q C=>?_,λj k c m p=>?_⟩,.refl _,λc n G=>absurd n G,λc o q n=>?_,λc⟨j,q⟩=>?_,by simp,λj t q l=>?_⟩
 . have:c≠a:=by rintro rfl;rw[B]at q;cases q
   rw[aB this];exact g.sub c o q
 . by_cases b:j=i;.subst b;rw[cp hi]at q;cases q
   .rw[fC b]at q ⊢;exact g.val j E d q
 . by_cases b:j=i;.subst b;rw[cp hi]at q;cases q;cases C;exact⟨a,_,cp u,aP,B,r⟩
   . rw[fC b]at q ⊢;obtain⟨c,o,I,z,J,L⟩:=g.own j t dt q C;have:c≠a:=by rintro rfl;rw[s]at z;cases z
     exact⟨c,o,I,by rw[aB this];exact z,J,L⟩
 . by_cases b:j=i
   . by_cases w:k=i;.rw[b,w]
     .subst b;rw[h m]at p;exact absurd (f w p) no
   . by_cases w:k=i;.subst w;rw[h p]at m;exact absurd (f b m) no
     .exact g.dis j k c (f b m) (f w p)
 . have:c≠a:=by rintro rfl;rw[s]at q;cases q
   rw[aB this];exact q
 . by_cases b:j=i;.subst b;rw[h q];exact .inr s
   .exact .inl ⟨j,f b q⟩
 . have b:j≠i:=by rintro rfl;rw[e]at q;cases q;rw[y]at l;cases l
   exact⟨by rw[fC b],t,by rw[fC b];exact q,.refl t⟩
end
section
variable{X:Cx}{c:Call}{n:Nat}{a b e:dy}{pa pb p:P}{pos:Pos}
theorem Dw{f p2:Pos}(m:X.N.Nodup)(hi:X.N[i]?=aU x)(o:Loc X.env.scope x)(hs:gi (.Dict [] [] p2) (aU (.Name x f)) pos.line X.env=fg a_:=by rfl)(r:X.fn x=b_\/X.env.scope.names.lookup x=aU .local:=by first|(left;rfl)|(right;rfl)|assumption):SS X c n (.Assign [.Name x f] (.Dict [] [] p2) pos) (.Hy i):=by
 refine eN (vR m hi o ym hs r) ?_;rintro D σ H⟨F,ρ,fl,h,g,e,k⟩;rw[_H.X23]at e;have go:∀s0,ρ[i]?=aU s0->uA s0=a_->fl=.next->h=ρ.set i (.cM [])->∀a,H a=ci->D.nx (σ.set i (aU (.ref a))) (upd H a (.dK [])):=λs0 q s j l a t=>by subst j l;exact k F _ _ (g.newV (kvs:=[]) q s (KR.oc .nil) t)
 split at e;.rename_i q;cases e;exact go _ q rfl rfl rfl
 .rename_i q;cases e;exact go _ q rfl rfl rfl
 .rename_i q;cases e;exact go _ q rfl rfl rfl
 .cases e
theorem pX{w f:Pos}{pk:P}(hu:X.A.units+8<f_)(C:X.N[i]?=aU x)(E:yZ X.env.scope x)(G:SX X c a pk)(he:SX X c e p)(hs:gi e (aU (.Subscript (.Name x w) a f)) pos.line X.env=fg a_:=by rfl)(hd:(x==("__debug__":Str))=a_:=by decide)(m:(x==("__classdict__":Str))=a_:=by decide):SS X c n (.Assign [.Subscript (.Name x w) a f] e pos) (.gq i pk p):=by
 obtain⟨ta,h1,I⟩:=G.cJ;refine eN (Dn (by lia) (gh C E hd m) h1 he.ev hs) ?_;rintro D σ H⟨F,ρ,fl,J,g,e,k⟩;rw[_H.X25]at e;obtain⟨r,o,L,l⟩:=ak e;clear e;refine⟨F,ρ,r,o,g,L,λv F1 H1 s1 M=>?_⟩;obtain⟨F2,s2,_,O⟩:=s1.dB M;split at l
 . rename_i Q U;obtain⟨kd,W,Y,h⟩:=ak l;clear l;obtain⟨s,o0,t,w2,w3,w4⟩:=s2.gs.own i _ _ U rfl;refine⟨.ref s,t,I s2.gs Y λy Z H3 s3 py=>?_⟩;split at h
   . rename_i kvs j q;split at h;.rename_i hl;cases h;obtain⟨a1,o1,z,y2,y3,y4⟩:=s3.gs.own i _ _ q rfl;rw[t]at z;cases z;obtain⟨es,rfl,B⟩:=KR.Wx y4;have u:=B.put (k:=j) (O.mono s3.cB);refine⟨s,upd H3 s (.dK (putK es (dQ j:Key) v)),rfl,?_,k Z σ _ ((s2.trans s3).trans (s3.gs.afr q t u.oc))⟩;rw[py.int];exact .inl ⟨es,dQ j,y2,rfl,by rw[B.len,fb];exact hl,rfl⟩
     .cases h
   .cases h
 .cases l
theorem Aq{y:Pos}{pk:P}(hu:X.A.units+8<f_)(z:X.N[i]?=aU x)(B:yZ X.env.scope x)(C:SX X c a pk)(hs:QF a)(hd:(x==("__debug__":Str))=a_:=by decide)(l:(x==("__classdict__":Str))=a_:=by decide):SX X c (.Subscript (.Name x y) a pos) (.Tv i pk):=by
 obtain⟨ta,h1,E⟩:=C.cJ;refine⟨eU (PX (by lia) (gh z B hd l) h1 hs) ?_,λi h=>by cases h⟩;rintro σ H Q⟨F,ρ,r,G,g,e,k⟩;rw[_H.E25]at e;split at e
 . rename_i I q;obtain⟨kd,J,L,f⟩:=ak e;clear e;obtain⟨m,o0,o,w2,w3,w4⟩:=g.own i _ _ q rfl;refine⟨.ref m,o,E g L λv F1 M s1 s=>?_⟩;split at f;.rename_i kvs O;obtain⟨t,U⟩:=aC f;clear f;subst U;obtain⟨j,W,Y⟩:=cG t;clear t;obtain⟨d,Z,e6⟩:=map_some Y;subst e6;rw[dj W]at s;obtain⟨a1,o1,u,y2,y3,y4⟩:=s1.gs.own i _ _ O rfl;rw[o]at u;cases u;obtain⟨es,rfl,kr⟩:=KR.Wx y4;obtain⟨w,g1,g2⟩:=kr.get Z;rw[s.int];exact⟨m,w,rfl,.inl ⟨es,dQ j,.inl y2,rfl,g1.symm⟩,k w F1 M s1 (show Rep X.K F1 _ _ from g2)⟩
   .cases f
 .cases e
theorem Vl{G:Pos}{pk:P}{neg:Bool}{op:nV}(t:(op=.In/\neg=a_)\/(op=.NotIn/\neg=b_))(hu:X.A.units+8<f_)(w:X.N[i]?=aU x)(z:yZ X.env.scope x)(J:SX X c a pk)(hd:(x==("__debug__":Str))=a_:=by decide)(m:(x==("__classdict__":Str))=a_:=by decide):PC X op a (.Name x G) (xm X.K (_H.ev c (.Tw i pk neg))):=by
 obtain⟨L,h1,M⟩:=J.cJ;have l:∀{σ:_L.St}{H:Hp}{Q:VK},xm X.K (_H.ev c (.Tw i pk neg)) σ H Q->L σ H λy u=>Vg i σ u λx B=>∃a o,x=.ref a/\nT B a y o/\Q (.bl (if neg then !o.isSome else o.isSome)) B:=λ{σ H Q}⟨F,ρ,r,ρ',g,e,k⟩=>by
  rw[_H.E26]at e;obtain⟨kd,O,U,q⟩:=ak e;clear e;refine M g U λv F1 u s1 C=>?_;split at q;.rename_i kvs W;obtain⟨Y,Z⟩:=aC q;clear q;subst Z;obtain⟨j,e4,e5⟩:=map_some Y;subst e5;rw[dj e4]at C;obtain⟨E,o1,y1,y2,y3,y4⟩:=s1.gs.own i _ _ W rfl;obtain⟨es,rfl,kr⟩:=KR.Wx y4;rw[C.int];refine⟨.ref E,y1,E,_,rfl,.inl ⟨es,dQ j,.inl y2,rfl,rfl⟩,?_⟩;rw[kr.has j];exact k _ F1 u s1 (show Rep X.K F1 _ _ from gK _)
  .cases q
 rcases t with⟨rfl,rfl⟩|⟨rfl,rfl⟩;.exact λf s σ H Q I h=>Uv (by lia) h1 (gh w z hd m) f s σ H Q I (l h)
 .exact λf s σ H Q I h=>Hl (by lia) h1 (gh w z hd m) f s σ H Q I (l h)
end
theorem oR{P:df}{w:er}:∀{ks:List Int}{es:List (Key×V)}{vs:List (Key×bx)}{a:List bx},es.map (·.1)=ks.map (dQ:Int->Key)->KV es vs->a.length=vs.length->(∀(j:Nat)(v:bx),a[j]?=aU v->∃(k:Key)(x:bx),vs[j]?=aU (k,x)/\(bB P w).is k v=b_)->hJ a ks
 |[],es,_,a,he,r,h,_=>by cases es with
   |nil=>cases r;cases a with|nil=>exact .nil|cons _ _=>simp at h
   |cons _ _=>simp at he
 |i::ks,es,_,a,he,r,h,k=>by cases es with|nil=>simp at he|cons p es=>cases r with|@cons _ q _ _ r t=>rw[c_,c_]at he;cases a with|nil=>simp at h|cons v a=>
         obtain⟨f,x,c,g⟩:=k 0 v rfl;simp at c;have l:f=dQ i:=by have z:=r.1;rw[c]at z;rw[<-(List.cons.inj he).1];exact z.symm
         subst l;obtain⟨n,m,b,rfl⟩|⟨_,_,b,_⟩:=bM (show oW (dQ i) v=b_ from g);.cases b;exact .cons _ m (oR (List.cons.inj he).2 t (by simpa using h) λj v e=>k (j+1) v (by simpa using e))
         .cases b
section
variable{X:Cx}{c:Call}{n:Nat}{a b e:dy}{pa pb p:P}{pos:Pos}
theorem abi(hc:X.calm=b_):fj X (.type "list") (S8 X.K λx=>blt .ZF [x]):=by rintro t s σ H xs us Q I r⟨x,A,F,d,B,sm,C,he,k⟩;cases d with|dv ks ds=>
   obtain⟨E,he⟩:=bI (show(if ks.length<=16777216 then aU (R.own (ks.map D.int))else ci)=aU B from he);subst he;obtain⟨q,G,g,rfl,J,L,M⟩:=C.dv sm;subst A;obtain⟨u,rfl,N⟩:=r.one;cases N;obtain⟨ho,hz,O,vs,y,l⟩:=(show bQ X.prog X.w H s.heap q (.dB G (.dK (ent ks g)))from I.hok q _ J);obtain⟨ep,l⟩:=l.dictAt;have z:=sW (ks:=ks) (vs:=g) (by rw[L.length];exact M);have m:vs.length=ks.length:=by rw[<-Paired.length y];have:=congrArg kX z;simpa using this
   refine kdl_call (kdl_dict (knd:=bB X.prog X.w) (kvs:=vs) (ep:=ep) O) (I.ok.hd hc) l (by rw[m,fb];lia) λh' U h W kp Y f=>?_;have Z:hJ h.toList ks:=oR (P:=X.prog) (w:=X.w) z y (by rw[jR];exact f.1) λj v e=>f.2 j v (by rw[<-Array.getElem?_toList];exact e);refine⟨.ref s.heap.objs.size,_,I.laid (t':=U) (o:=.lst (ks.map V.int)) (h':=h') kp (cN) ⟨by rw[dV,fb];lia,h.toList,W,lN Z,by rw[Array.toArray_toList];exact Y⟩,rfl,?_⟩;exact xH sm (uw ks) (I.hok.fresh (cN)) k|_=>cases he
theorem K4{f:Pos}(g:x="list")(hc:X.calm=b_)(j:Gl X x)(k:X.mg x=ci)(l:SX X c a pa)(hs:cx [a] X.env=(a_,eA a X.env)::cx [] X.env:=by rfl):SX X c (.Call (.Name x f) [a] [] pos) (.blt .ZF [pa]):=by subst g;exact rZ (λh=>nH (abi hc) j k (by decide+kernel) h (he:=hs)) l (λρ=>rfl) rfl hs
theorem QH{neg:Bool}{op:nV}(f:(op=.In/\neg=a_)\/(op=.NotIn/\neg=b_))(J:X.A.units+8<f_):fY X (dY op) (rD X.K (yK neg)):=by rintro m s σ H x y v u Q I h o⟨F,d,e,r,sm,t,w,he,k⟩;cases d with
 |int j=>cases e with|dv ks L=>
     cases he;obtain⟨q,z,vs,rfl,B,C,E⟩:=w.dv sm;have G:=KR.zip C E;rw[t.int]at h;obtain rfl:u=ec q:=o;have g:nT H q (.int j) (jk (ent ks vs) (dQ j:Key)):=.inl ⟨_,dQ j,.inr ⟨z,B⟩,rfl,rfl⟩;have hh:(jk (ent ks vs) (dQ j:Key)).isSome=ks.contains j:=by rw[G.has j];congr 1;rw[List.map_fst_zip (by lia)]
     rcases f with⟨rfl,rfl⟩|⟨rfl,rfl⟩;.refine aa4 (by lia) I g h λs3 l=>⟨.bl (jk (ent ks vs) (dQ j:Key)).isSome,H,l,rfl,?_⟩;rw[hh];exact cH.dg sm (gK _) k
     .refine DW (by lia) I g h λs3 l=>⟨.bl (!(jk (ent ks vs) (dQ j:Key)).isSome),H,l,rfl,?_⟩;rw[hh];exact cH.dg sm (gK _) k|_=>cases he
 |_=>cases he
end
end _H
namespace PySem
section
variable{prog:df}{w:er}{A:ew}{E:bx->cn->Prop}{s:cn}
theorem wj{Q:List bx->cn->Prop}{I l:cq}{items:Array bx}(hh:A.handled=ci)(f:s.heap.IsRevIter I l ((items.size:Int)-1))(n:s.heap.IsList l items)(k:l≠I)(g:items.size<=2^24)(t:∀h' m c,(∀b o,b≠I->s.heap.get? b=aU o->h'.get? b=aU o)->s.heap.objs.size<h'.objs.size->ItemsOf (λi v=>items[items.size-1-i]?=aU v) c items.size->Q c.toList {s with heap:=h',toks:=m}):
 cE (cS prog w) A (collect (.ref I)) Q E s:=by have h:I<s.heap.objs.size:=let⟨_,ho,_⟩:=f;dc ho;have u:l<s.heap.objs.size:=let⟨_,ho,_⟩:=n;dc ho;unfold collect;refine bdq (wpAny_runValue (lg F.entry_proto_collect ?_));rw[i4 F.plain_proto_collect _];show cE _ A.in1 (newList []>>=λl=>again (.builtin "list.__iadd__" ⟨[l,.ref I],[]⟩)) _ _ s;refine bdq (ey ?_);refine cv ⟨mn F.plain_list_iadd _,lg F.entry_list_iadd ?_⟩;rw[i4 F.plain_list_iadd _];show cE _ A.in1 (i6 (.ref s.heap.objs.size) (.ref I) (.ref s.heap.objs.size)) _ _ _;refine gY (A:=A) (R:=λr p=>match r with
  |.ok (.ret v)=>cE (cS prog w) A (match v with
   |.ref a=>do let o<-load a match o.data with|.seq xs _=>fg xs.toList|_=>nI "internal:collect"
   |_=>nI "internal:collect") Q E p|.ok _=>False|.error e=>E e p) (s:={s with heap:=s.heap.push {cls:=.type "list",data:=.seq #[]}}) hh (f.at λo e=>dF e) (n.at λo e=>dF e) k g s.heap.objs.size (fx (dE h)) (fx (dE u)) _ 0 (cw _ rfl) λh' m c z x q j=>?_;refine bdq (wpAny_load q ?_);exact cv (t h' m c (λb o y e=>x b o (dE (dc e)) y (dF e)) (dc q) j)
end
theorem jK(I l:cq)(items:Array bx)(i:l≠I)(hsz:items.size<=2^24):m5 (iE.«tuple.__new__» ⟨[.type "tuple",.ref I],[]⟩) (λA R s=>A.handled=ci/\s.heap.IsRevIter I l ((items.size:Int)-1)/\s.heap.IsList l items/\∀(h':eF)(p:Nat),(∀b o,b≠I->s.heap.get? b=aU o->h'.get? b=aU o)->s.heap.objs.size<h'.objs.size->∀a:Array bx,a=items.reverse->R (.ok (.ret (.ref h'.objs.size))) {s with heap:=h'.push {cls:=.type "tuple",data:=.seq a},toks:=p}):=.of_wp λprog w A R s h=>by
  obtain⟨hh,f,r,h⟩:=h;have q:=sub_tuple_self;have k:=init_tuple_lookup;have t:=madeHere_tuple;have u:Shared.TypeIs s (.ref I) "list_reverseiterator":=f.typeIs;obtain⟨o,ho,hc,hd⟩:=id f;obtain⟨B,g,d,p,os⟩:=s;wp_walk using AutoSeq1.wpAny_loadPart' ho,k7 u,wj (A:=A.in1) hh f r i hsz;intro h' m a x n c;show cE _ _ (i_ a.toList.toArray>>=λv=>ret v) _ _ _;have e:a.toList.toArray=a:=by simp
  have y:a=items.reverse:=by refine Array.ext (by rw[c.1,Array.size_reverse]) λj h1 C=>?_;have:=c.2 j _ (nv h1);rw[Array.getElem_reverse];have z:=nh.mp this;exact z.2.symm
  rw[e];unfold i_;refine bdq (ey ?_ (by show a.size<=sizeLine;rw[c.1,fb];lia));exact cv ⟨_,rfl,h h' m x n a y⟩
section
variable{prog:df}{w:er}{A:ew}{E:bx->cn->Prop}{s:cn}
theorem o4{I l:cq}{items:Array bx}{Q:bx->cn->Prop}(hh:A.handled=ci)(a:s.heap.IsRevIter I l ((items.size:Int)-1))(i:s.heap.IsList l items)(c:l≠I)(hsz:items.size<=2^24)(h:∀(h':eF)(f:Nat),(∀b o,b≠I->s.heap.get? b=aU o->h'.get? b=aU o)->s.heap.objs.size<h'.objs.size->Q (.ref h'.objs.size) {s with heap:=h'.push {cls:=.type "tuple",data:=.seq items.reverse},toks:=f}):cE (cS prog w) A (call (.type "tuple") [.ref I]) Q E s:=kw F.called_tuple (by decide) (F.typeCall_tuple_1 _) (F.newCall_tuple_1 _) (λobj=>F.args_object_init_2 obj _) F.entry_tuple_new (jK I l items c hsz) ⟨hh,a,i,λh' f j g k e=>by subst e;exact⟨⟨_,cw _ rfl,rfl⟩,h h' f j g⟩⟩
end
end PySem
namespace _L
open PySem Spec PyProof.Rows
section
variable{X:Cx}{pins:List (cq×Obj)}{σ:St}{H:Hp}{s:cn}{E:bx->cn->Prop}
theorem Bh{a:dy}{z:TE}{p pos p2 g:Pos}(hc:X.calm=b_)(C:Gl X "tuple")(G:X.mg "tuple"=ci)(J:Gl X "reversed")(L:X.mg "reversed"=ci)(M:PE X a z)(hs:cx [a] X.env=[(a_,eA a X.env)]:=by rfl)(i:cx [.Call (.Name "reversed" p) [a] [] pos] X.env=[(a_,eA (.Call (.Name "reversed" p) [a] [] pos) X.env)]:=by rfl):PE X (.Call (.Name "tuple" p2) [.Call (.Name "reversed" p) [a] [] pos] [] g) (λσ H Q=>z σ H λx f=>∃ad xs,x=.ref ad/\dO X.K f ad xs/\∀l,f l=ci->Q (.ref l) (upd f l (.tup xs.reverse))):=by
 intro pins s σ H Q I h;refine qr (gM I C G yf (eg ?_ i rfl));rw[i];show cE _ _ (spliced ((a_,eA (.Call (.Name "reversed" p) [a] [] pos) X.env)::[])) _ _ _;refine iB (qr (gM I J L jo (eg (cA ((bZ M dZ hs) pos pins s σ H (λvs f=>match vs with|[x]=>∃ad xs,x=.ref ad/\dO X.K f ad xs/\∀l,f l=ci->Q (.ref l) (upd f l (.tup xs.reverse))|_=>False) I h) ?_) hs rfl)));rintro us s1⟨vs,f,m,r1,n⟩;obtain⟨ad,xs,N,q,t⟩:∃ad xs,dO X.K f ad xs/\(∀l,f l=ci->Q (.ref l) (upd f l (.tup xs.reverse)))/\vs=[.ref ad]:=by cases vs with|nil=>cases n|cons x r=>cases r with|nil=>obtain⟨ad,xs,rfl,q,O⟩:=n;exact⟨ad,xs,q,O,rfl⟩|cons _ _=>cases n
 subst t;obtain⟨u,rfl,U⟩:=r1.one;cases U;obtain⟨c,A,v,hz⟩:=m.list N;have hsz:c.toArray.size=xs.length:=by rw[cy,<-A.length]
 refine call_reversed_list v.isList (kn ?_);have w:ad≠s1.heap.objs.size:=dE (let⟨_,ho,_⟩:=v.isList;dc ho);have y:(s1.heap.push (revObj ad ((c.toArray.size:Int)-1))).IsList ad c.toArray:=v.isList.at λo e=>dF e;refine o4 (m.ok.hd hc) (I:=s1.heap.objs.size) (l:=ad) (items:=c.toArray) ⟨_,cw _ rfl,rfl,rfl⟩ y w (by rw[hsz];exact ic hz (by decide)) λh' W B j=>?_;have k:(s1.heap.push (revObj ad ((c.toArray.size:Int)-1))).objs.size=s1.heap.objs.size+1:=ej ..;dsimp only at B j ⊢;rw[k]at j;have Y:c.toArray.reverse=c.reverse.toArray:=by simp
 rw[Y];refine⟨.ref h'.objs.size,_,m.laid (t':=W) (o:=.tup xs.reverse) (h':=h'.push {cls:=.type "tuple",data:=.seq c.reverse.toArray}) (λb o e=>dF (B b o (dE (dc e)) (dF e))) (by lia) ?_,rfl,q _ (m.hok.fresh (by lia))⟩;exact⟨by rw[List.length_reverse];exact hz,_,A.reverse,k5 _ _⟩
end
end _L
namespace _H
open PySem _L Spec PyProof.Rows
section
variable{X:Cx}{c:Call}{a:dy}{pa:P}{pos:Pos}
theorem zM{x y:Str}{j n b:Pos}(o:y="tuple")(p:x="reversed")(hc:X.calm=b_)(q:Gl X y)(t:X.mg y=ci)(u:Gl X x)(w:X.mg x=ci)(z:SX X c a pa)(hs:cx [a] X.env=[(a_,eA a X.env)]:=by rfl)(m:cx [.Call (.Name x j) [a] [] pos] X.env=[(a_,eA (.Call (.Name x j) [a] [] pos) X.env)]:=by rfl):SX X c (.Call (.Name y n) [.Call (.Name x j) [a] [] pos] [] b) (.blt .rvT [pa]):=by subst p o;obtain⟨Y,h1,A⟩:=z.cJ;refine⟨eU (Bh hc q t u w h1 hs m) ?_,λi h=>by cases h⟩;rintro σ H Q⟨F,ρ,r,B,g,e,k⟩;rw[_H.E16]at e;obtain⟨d,C,E,f⟩:=ak e;have G:=aC f;clear f;obtain⟨f,I⟩:=G;subst I;cases d with|lst Z=>cases f;refine A g E ?_;rintro v F' H' s J;obtain⟨ad,xs,rfl,L,M⟩:=J.lst s.gs.sub;exact⟨ad,xs,rfl,L,λl N=>BJ s.gs.sub (aG.rev M) N λv F2 O U W=>k v F2 O (s.trans (U.stp s.gs)) (.later s (W.nu s.gs))⟩|_=>cases f
end
end _H
namespace _L
open PySem Spec PyProof.Rows Calls
section
variable{X:Cx}
theorem Kv:aa9 X (aaj X.K):=by
 intro a s σ H x y v u Q I g k h;obtain⟨p,xs,i,z,rfl,rfl,l,he,q⟩:=h;cases g;obtain⟨t,rfl⟩:=k;obtain⟨b,r,e,hz⟩:=I.list l;obtain⟨j,h1,m,C,n,o⟩:=v8 he;obtain⟨w,f,A⟩:=r.get m;have B:=r.length;have E:=sU;have fin:EP X a σ Q w s:=⟨z,H,I,A,q⟩;by_cases h0:0<=i
 . have c:i.toNat=j:=by rw[nN h0 o]at h1;exact eJ h1
   exact wpAny_getItem_list e.isList h0 (by lia) (by rw[c];simpa using f) fin
 . have c:(i+(b.toArray.size:Int)).toNat=j:=by rw[mP (by lia) n]at h1;rw[cy,<-B];exact eJ h1
   exact qS e.isList (by lia) (by rw[cy]<;>lia) (by lia) (by rw[c];simpa using f) fin
end
end _L
namespace _H
open PySem _L Spec PyProof.Rows Calls W
section
variable{X:Cx}{c:Call}{n:Nat}{a b e:dy}{pa pb p:P}{pos:Pos}
set_option maxHeartbeats 800000 in
theorem Dr{k e:Int}{t1 t2 p1 p2 p3}:SX X c (.Dict [aU (.Constant (.int k) t1 p1)] [.Constant (.int e) t2 p2] p3) (.Ck k e):=by
 refine⟨?_,λi h=>by cases h⟩;intro f s σ H Q I h;obtain⟨F,ρ,r,x,g,m,y⟩:=h;rw[_H.E27]at m;cases m;have A:oE [] [((dQ k:Key),V.int e)]=ent [k] [.int e]:=rfl;have B:=Fv (X:=X) (pos:=p3) (xT (qX (i:=k) (j:=t1) (pos:=p1)) (qX (i:=e) (j:=t2) (pos:=p2)) FP) rfl rfl (by simp) (by simp);refine cA (B f s σ H (λv C=>∃q,v=.ref q/\H q=ci/\C=upd H q (Eo [k] [.int e])) I ?_) λu s1⟨v,H1,I1,r1,q,e1,hn,e2⟩=>?_;.intro q E;refine⟨aP,[(dQ k,.int e)],rfl,by simp,q,rfl,E,?_⟩;rw[vI,A];rfl
 subst e1 e2;obtain⟨o,t⟩:=Inv.Jo I1 (a:=q) (kvs:=ent [k] [.int e]) aP;rw[vI]at t;have G:F q=ci:=by cases z:F q with|none=>rfl|some o=>rw[g.sub q o z]at hn;cases hn
 have sm:aH F (upd F q (.dB o (Eo [k] [.int e]))):=aH.cV G;refine⟨.ref q,_,t,r1,y _ (upd F q (.dB o (Eo [k] [.int e]))) _ (Ext.stp g ⟨aH.cV hn,sm,λb o e=>?_,λb n w=>?_⟩) ?_⟩
 . by_cases l:b=q;.subst l;rw[aP]at e ⊢;exact e
   .rw[aB l]at e ⊢;exact g.sub b o e
 . by_cases l:b=q;.subst l;exact jY hn
   .rw[aB l]at w;exact absurd n w
 .show Rep X.K _ _ (.dv [k] [.int e]);rw[Rep];exact⟨q,o,[.int e],rfl,aP,.cons (cj _) .nil,rfl⟩
theorem Fb{x:Str}{k:Nat}{px o:Pos}{op:lP}{sub:Bool}(ho:R4 X op (Yd λi j=>if sub then i-j else i+j))(hN:X.N[k]?=aU x)(hv:yZ X.env.scope x)(hi:SX X c b pb)(he:SX X c e p)(ha:∀A iv f,augStore b A iv f=(do kL [f,A,iv] (n5 A iv f);release [f,A,iv] [];fg .next):=by intros;rfl)(hd:(x==("__debug__":Str))=a_:=by decide)(E:(x==("__classdict__":Str))=a_:=by decide):SS X c n (.AugAssign (.Subscript (.Name x px) b o) op e pos) (.Hw k pb sub p):=by
 obtain⟨ti,G,I⟩:=hi.cJ;obtain⟨te,J,L⟩:=he.cJ;refine eN (Q7 (gh hN hv hd E) G Kv J ho set_list ha) ?_;rintro D σ H⟨F,ρ,fl,ac,g,e,kk⟩;rw[_H.X16]at e;obtain⟨x0,ae,r,Z⟩:=ak e;clear e;obtain⟨e0,Hz⟩:=aC r;clear r;subst Hz;obtain⟨dk,M,e1,eB⟩:=ak Z;clear Z;obtain⟨l,af,h,eC⟩:=ak eB;clear eB;obtain⟨B,O⟩:=aC h;clear h;subst O;obtain⟨ra,ag,s,eD⟩:=ak eC;clear eC;obtain⟨e3,Q⟩:=aC s;clear s;subst Q;obtain⟨db,ah,e4,t⟩:=ak eD;clear eD;obtain⟨U,Xj,m,_⟩:=CW g e0;refine⟨.ref U,m,I g e1 λvi F1 H1 s1 pi=>?_⟩;split at t
 . rename_i u v bb ds kz q;split at t
   . rename_i j hj;cases t;obtain⟨C,f3,f5⟩:=cG e3;have W:C=kz:=by cases f3;rfl
     subst W;have h:pk M k=aU (.lst l):=by
      unfold HX at B;split at B;.rename_i z;cases B;exact z
      .cases B
     obtain⟨o',y,po⟩:=s1.gs.pk h;rw[m]at y;cases y;obtain⟨ad,xs,hr,hL,rs⟩:=po.lst s1.gs.sub;cases hr;obtain⟨j0,h1,h2⟩:=Kw f5;obtain⟨w,h3,h4⟩:=rs.get h2;have Y:LC xs C=aU w:=by unfold LC;rw[rs.length,h1];exact h3
     have hw:w=.int u:=by rw[Rep]at h4;exact h4
     subst hw;refine⟨U,xs,C,.int u,rfl,pi.int,hL,Y,L s1.gs e4 λvb F2 H2 s2 pb=>⟨u,v,rfl,pb.int,?_⟩⟩;obtain⟨ai,zs,z1,z2,z3,z4⟩:=s2.gs.mW k _ ds q rfl;rw[m]at z1;cases z1;refine⟨U,zs,C,j,rfl,pi.int,z2,by rw[z4.length];exact hj,?_⟩;exact kk F2 σ _ ((s1.trans s2).trans (s2.gs.mut q m (z4.set (cj _) j)))
   .cases t
 .cases t
end
section
variable{X:Cx}{c:Call}{n:Nat}{a b e:dy}{pa pb p:P}{pos:Pos}
theorem Pj{neg:Bool}{o:Op}{op:nV}(h:(op=.In/\neg=a_)\/(op=.NotIn/\neg=b_))(j:tQ o=yK neg)(l:X.A.units+8<f_)(m:SX X c a pa)(y:SX X c b pb)(B:ga op b=a_):ST X c (.Compare a [op] [b] pos) (.bin o pa pb):=by obtain⟨C,E,h1,G,I⟩:=m.iG y;refine uQ (DN (QH h l) h1 G B) λσ H Q q=>nP (t:=Wg (rD X.K (yK neg)) C E) (λQ z=>?_) q;obtain⟨F,ρ,r,J,g,e,k⟩:=z;rw[_H.E3]at e;obtain⟨i,L,M,f⟩:=ak e;have N:=aC f;clear f;obtain⟨f,O⟩:=N;subst O;rw[j]at f;refine I g M λv u U H' s W Y=>⟨U,i.1,i.2,r,s.gs.sub,W,Y,f,λw F2 Z x rn=>?_⟩;exact k w F2 Z (s.trans (x.stp s.gs)) (.later s (rn.nu s.gs))
theorem Xk(f:X.A.units+8<f_)(g:SX X c a pa)(h:SX X c b pb)(i:ga .In b=a_):ST X c (.Compare a [.In] [b] pos) (.bin .din pa pb):=Pj (.inl ⟨rfl,rfl⟩) rfl f g h i
theorem Ul{i:Nat}{x:Str}{h:Pos}{pk:P}{neg:Bool}{op:nV}(f:(op=.In/\neg=a_)\/(op=.NotIn/\neg=b_))(j:X.A.units+8<f_)(k:X.N[i]?=aU x)(l:yZ X.env.scope x)(m:SX X c a pk)(o:ga op (.Name x h)=a_)(hd:(x==("__debug__":Str))=a_:=by decide)(g:(x==("__classdict__":Str))=a_:=by decide):ST X c (.Compare a [op] [.Name x h] pos) (.Tw i pk neg):=uQ (Wq (Vl f j k l m hd g) o) λσ H Q q=>nP (λ_ z=>z) q
end
end _H
namespace _H
open PySem _L Spec PyProof.Rows
section
variable{X:Cx}{c:Call}{n:Nat}{pos:Pos}
noncomputable def agW(k e:Int):TE:=λ_ H Q=>∀p,H p=ci->Q (.ref p) (upd H p (.dK [(dQ k,.int e)]))
theorem T6{k e:Int}{t1 t2 p1 p2 p3}:PE X (.Dict [aU (.Constant (.int k) t1 p1)] [.Constant (.int e) t2 p2] p3) (agW k e):=by refine eU (Fv (X:=X) (pos:=p3) (xT (qX (i:=k) (j:=t1) (pos:=p1)) (qX (i:=e) (j:=t2) (pos:=p2)) FP) rfl rfl (by simp) (by simp)) ?_;intro σ H Q h q a;refine⟨aP,[(dQ k,.int e)],rfl,by simp,?_⟩;rw[vI];exact h q a
set_option maxHeartbeats 1000000 in
theorem Oj{i:Nat}{x:Str}{k e:Int}{t1 t2 p1 p2 p3}{b:Pos}(m:X.N.Nodup)(hi:X.N[i]?=aU x)(o:Loc X.env.scope x)(hs:gi (.Dict [aU (.Constant (.int k) t1 p1)] [.Constant (.int e) t2 p2] p3) (aU (.Name x b)) pos.line X.env=fg a_:=by rfl)(p:X.fn x=b_\/X.env.scope.names.lookup x=aU .local:=by first|(left;rfl)|(right;rfl)|assumption):SS X c n (.Assign [.Name x b] (.Dict [aU (.Constant (.int k) t1 p1)] [.Constant (.int e) t2 p2] p3) pos) (.Nf i k e):=by
 have h0:=vR m hi o (T6 (X:=X) (k:=k) (e:=e) (t1:=t1) (t2:=t2) (p1:=p1) (p2:=p2) (p3:=p3)) hs p;show PS X _ _;refine eN h0 ?_;rintro D σ H⟨F,ρ,fl,h,g,f,r⟩;rw[_H.X24]at f;have go:∀s0,ρ[i]?=aU s0->uA s0=a_->fl=.next->h=ρ.set i (.cM [(k,.int e)])->∀a,H a=ci->D.nx (σ.set i (aU (.ref a))) (upd H a (.dK [(dQ k,.int e)])):=λs0 q s j l a t=>by subst j l;exact r F _ _ (g.newV (kvs:=[(k,.int e)]) q s (KR.oc (.cons (cj _) .nil)) t)
 split at f;.rename_i q;cases f;exact go _ q rfl rfl rfl
 .rename_i q;cases f;exact go _ q rfl rfl rfl
 .rename_i q;cases f;exact go _ q rfl rfl rfl
 .cases f
end
end _H
noncomputable section
set_option maxHeartbeats 4000000
namespace _T
open PySem _L Spec PyProof.Rows _H
local macro_rules|`(term|⇑$n)=>`(P.con (.int $n))
local macro_rules|`(term|↑$n)=>`(P.var $n)
local macro_rules|`(tactic|ac_rfl)=>`(tactic|first|exact eT rfl|exact eR (eT rfl))
set_option hygiene false
local macro_rules|`(term|↥($a,$b,$d))=>`(oF Pg w K mg base JL (k+1) f fd $a (Rm K $b (λargs=>enter c n $d args)))
local macro_rules|`(term|↥($a,$b,$d,0))=>`(aQ Pg w K mg base k c $a $b $d)
set_option hygiene true
local macro_rules|`(term|⇑($x))=>`(λ_ _ _ _ _=>$x)
local macro_rules|`(tactic|exists$e)=>`(tactic|with_reducible refine$e)
local macro_rules|`(tactic|rfl')=>`(tactic|with_reducible refine aN ?_ ?_)
set_option hygiene false
local macro_rules|`(tactic|exists$i,$e)=>`(tactic|((with_reducible refine iT (i:=$i) ?_ ?_ ?_ ?_ ?_ ?_);exact nd;exact rfl;exact oi;rotate_left;rfl;exact oi;exact$e))
local macro_rules|`(tactic|exists$i,$e,0)=>`(tactic|((with_reducible refine Ql (i:=$i) ?_ ?_ ?_ ?_ ?_ ?_ ?_ ?_ ?_);exact ei;exact hc;exact nd;exact rfl;exact oi;exact$e;rotate_left;(· intro _;rfl);exact oi))
local macro_rules|`(tactic|exists$a,$b,0,0)=>`(tactic|(refine abw $a $b rfl rfl λcdv A outer s H E hr=>?_;have nd:=($b).nd))
local macro_rules|`(tactic|exists(),$e)=>`(tactic|((with_reducible refine Xi ?_);exact$e))
set_option hygiene true
local macro_rules|`(term|‹$l›)=>`((show(($l):List Str).Nodup by decide+kernel))
theorem hc:b_=b_:=rfl
theorem oi{b:Type}{a:b}{p:Prop}:a=a\/p:=.inl rfl
theorem bC{X:Cx}{c:Call}{a:dy}{es:List dy}{b:P}{ps:List P}(e:SX X c a b)(hr:SG X c es ps)(h:nst a=b_):SG X c (a::es) (b::ps):=Rf e hr (iZ h)
theorem dJ{X:Cx}{c:Call}{a:dy}{es:List dy}{b:P}{ps:List P}(e:SX X c a b)(hr:SA X c es ps)(h:nst a=b_):SA X c (a::es) (b::ps):=Ew e hr (iZ h)
variable{Pg:df}{w:er}{K:PySem.W.Frag}{mg:Str->Option bx}{base:eF}{f:cq}{fd:ii}{k n:Nat}{c:Call}{cl:Nat->cq}
noncomputable def top(i:Nat):eL:=PySem.Challenge.pw_hourhaul_k38_best_rounds.main.body.getD i (.Pass ⟨0,0,0,0⟩)
noncomputable abbrev s0:eL:=top 5
noncomputable def b0:List S:=[.asg 2 (.idx (.idx ↑0 ⇑1) (.idx ↑1 ⇑0)),.ret (.Tu (.idx ↑1 ⇑1) (.tup [.idx ↑2 ⇑0,.idx ↑2 ⇑1]) (.tup [.idx ↑2 ⇑1,.idx ↑2 ⇑0]))]
noncomputable def f0:Fd:=⟨2,3,b0⟩
theorem sc0:aJ ["net","step","way"] ["net","step"] (au s0):={}
include cl in
theorem d0(a:gn K "step_places" "step_places" s0 f fd):↥(["net","step"],2,f0):=by
 exists a,sc0,0,0;refine aN ?_ ?_;.exists 2,ao (ao (sv 0) aa) (ao (sv 1) aa)
 rfl';.exists(),vV (eY (ao (sv 1) aa)) (cF (dJ (ao (sv 2) aa) (dJ (ao (sv 2) aa) aR rfl) rfl)) (cF (dJ (ao (sv 2) aa) (dJ (ao (sv 2) aa) aR rfl) rfl))
 exact aq
noncomputable abbrev s1:eL:=top 6
noncomputable def b1:List S:=[.asg 2 (.idx (.idx (.idx ↑0 ⇑1) (.idx ↑1 ⇑0)) ⇑3),.ret (.Tu (.idx ↑1 ⇑1) ↑2 (.neg ↑2))]
noncomputable def f1:Fd:=⟨2,3,b1⟩
theorem sc1:aJ ["net","step","hours"] ["net","step"] (au s1):={}
include cl in
theorem d1(a:gn K "step_hours" "step_hours" s1 f fd):↥(["net","step"],2,f1):=by
 exists a,sc1,0,0;refine aN ?_ ?_;.exists 2,ao (ao (ao (sv 0) aa) (ao (sv 1) aa)) aa
 rfl';.exists(),vV (eY (ao (sv 1) aa)) (sv 2) (qH (sv 2))
 exact aq
noncomputable abbrev s2:eL:=top 7
noncomputable def b2:List S:=[.asg 3 (.idx ↑1 (.idx ↑2 ⇑0)),.ret (.Tu (.idx ↑2 ⇑1) (.bin .sub (.idx (.idx (.idx ↑0 ⇑1) (.idx ↑2 ⇑0)) ⇑2) ↑3) ↑3)]
noncomputable def f2:Fd:=⟨3,4,b2⟩
theorem sc2:aJ ["net","stream","step","loads"] ["net","stream","step"] (au s2):={}
include cl in
theorem d2(a:gn K "step_room" "step_room" s2 f fd):↥(["net","stream","step"],3,f2):=by
 exists a,sc2,0,0;refine aN ?_ ?_;.exists 3,ao (sv 1) (ao (sv 2) aa)
 rfl';.exists(),vV (eY (ao (sv 2) aa)) (aA dz (ao (ao (ao (sv 0) aa) (ao (sv 2) aa)) aa) (sv 3)) (sv 3)
 exact aq
noncomputable abbrev s3:eL:=top 8
noncomputable def b3:List S:=[.ret (.blt .sum [.comp ↑1 1 [2] b_ ci (.call 1 [↑0,↑2])])]
noncomputable def f3:Fd:=⟨2,2,b3⟩
theorem sc3:aJ ["net","steps"] ["net","steps"] (au s3):={}
include cl in
theorem d3(a:gn K "steps_hours" "steps_hours" s3 f fd)(fu:mg "sum"=ci)(b:↥(1,"step_hours",2,0)):↥(["net","steps"],2,f3):=by
 exists a,sc3,0,0;refine aN ?_ ?_;.exists(),lD rfl hc (by rfl) fu (cP (N':=["net","steps","step"]) hc (vZ rfl (by rfl)) (bL (sv 1)) ⇑(aM (i:=2) ‹["net","steps","step"]› rfl (eT rfl) (eR rfl)) (cI (cN)) ⇑(dw) ⇑((dR b hr (bC (sv 0) (bC (sv 2) aD rfl) rfl))))
 exact aq
noncomputable abbrev s4:eL:=top 9
noncomputable def b4:List S:=[.M9 2 (.xn ⇑0 (.idx ↑0 ⇑0)) 1 [5] b_ (.lst []),.Hx (.xn ⇑0 (.blt .len [.idx ↑0 ⇑1])) [3] b_ [.Hx (.tup [.tup [↑3,.con (.bl b_)],.tup [↑3,.con (.bl a_)]]) [4] b_ [.ifs (.cmp .gt (.call 2 [↑0,↑1,↑4]) ⇑0) [.Nb 2 (.idx (.call 0 [↑0,↑4]) ⇑0) ↑4] []]],.dB 2,.ret ↑2]
noncomputable def f4:Fd:=⟨2,5,b4⟩
theorem sc4:aJ ["net","stream","steps","number","step"] ["net","stream"] (au s4):={}
include cl in
theorem d4(a:gn K "open_steps" "open_steps" s4 f fd)(dq:mg "len"=ci)(bY:mg "range"=ci)(b:↥(0,"step_places",2,0))(e:↥(2,"step_room",3,0)):↥(["net","stream"],2,f4):=by exists a,sc4,0,0;exact(by(refine QQ (i:=2) (N':=["net","stream","steps","number","step","place"]) (g:=jq 5) ?_ ?_ ?_ ?_ ?_ ?_ ?_ ?_ ?_ ?_ ?_ ?_ ?_ ?_);exact hc;exact nd;exact rfl;exact oi;exact vZ rfl (by rfl);exact my rfl (by rfl) bY (ao (sv 0) aa);exact ⇑(aM (i:=5) ‹["net","stream","steps","number","step","place"]› rfl (eT rfl) (eR rfl));exact cI (cN);exact ⇑(dw);exact ⇑((cT aR));(· exists Ku ?_ ?_;(· exists Ej (g:=jq 3) ?_ ?_ ?_ ?_ ?_ ?_ ?_;exact ei;exact hc;(· exists K5 ?_ ?_ ?_ ?_ ?_;exact rfl;rfl;exact bY;exact je rfl (by rfl) dq (ao (sv 0) aa);rfl);exact aM (i:=3) nd rfl oi oi;(· rw[nW];exact wC 3);(· exists sy ?_ ?_;(· exists Ej (g:=jq 4) ?_ ?_ ?_ ?_ ?_ ?_ ?_;exact ei;exact hc;exact Qg (cF (dJ (cF (dJ (sv 3) (dJ fW aR rfl) rfl)) (dJ (cF (dJ (sv 3) (dJ fW aR rfl) rfl)) aR rfl) rfl));exact aM (i:=4) nd rfl oi oi;(· rw[nW];exact wC 4);(· exists sy ?_ ?_;(· exists Wr ?_ ?_ ?_;exact bF gf (dR e hr (bC (sv 0) (bC (sv 1) (bC (sv 4) aD rfl) rfl) rfl)) aa (bj _);(· exists sy ?_ ?_;(· exists Ky (k:=2) ?_ ?_ ?_ ?_ ?_ ?_ ?_ ?_ ?_ ?_ ?_ ?_;exact rfl;(· first|exact eT rfl|exact eR (eT rfl));exact ao (dR b hr (bC (sv 0) (bC (sv 4) aD rfl) rfl)) aa;exact sv 4;(· intro _ _;rfl);rfl;rfl;rfl;rfl;rfl;rfl;rfl);exact p6);exact p6);exact p6);(· intro _;rfl));exact p6);(· intro _;rfl));(· exists Qm ?_;(· rfl';(· exists(),sv 2);exact aq)));rfl;(· intro _;rfl);exact oi)
noncomputable abbrev s5:eL:=top 10
noncomputable def b5:List S:=[.asg 3 (.call 4 [↑0,↑1]),.Hy 4,.fX (.blt .keys [↑2]) [5] b_ [.gq 4 ↑5 (.tup [.bin .Ci ↑2 ↑5,⇑0,.con .non])],.asg 6 (.blt .ZF [↑2]),.whl (.cmp .gt (.blt .len [↑6]) ⇑0) [.Hy 7,.fX ↑6 [5] b_ [.fX (.idx ↑3 ↑5) [8] b_ [.asg 9 (.idx (.call 0 [↑0,↑8]) ⇑1),.asg 10 (.tup [.bin .add (.idx (.Tv 4 ↑5) ⇑0) (.call 1 [↑0,↑8]),.bin .add (.idx (.Tv 4 ↑5) ⇑1) ⇑1]),.ifs (.or (.Tw 4 ↑9 b_) (.cmp .lt ↑10 (.slice (.Tv 4 ↑9) (.con .non) ⇑2))) [.gq 4 ↑9 (.bin .add ↑10 (.tup [↑8])),.gq 7 ↑9 (.con (.bl b_))] []]],.asg 6 (.blt .ZF [.vw 7])],.ret ↑4]
noncomputable def f5:Fd:=⟨3,11,b5⟩
theorem sc5:aJ ["net","stream","begun","steps","come","place","row","changed","step","to","found"] ["net","stream","begun"] (au s5):={}
include cl in
theorem d5(a:gn K "shortest_come" "shortest_come" s5 f fd)(dq:mg "len"=ci)(dh:mg "list"=ci)(b:↥(4,"open_steps",2,0))(e:↥(1,"step_hours",2,0))(g:↥(0,"step_places",2,0)):↥(["net","stream","begun"],3,f5):=by
 exists a,sc5,0,0;refine aN ?_ ?_;.exists 3,dR b hr (bC (sv 0) (bC (sv 1) aD rfl) rfl)
 rfl';.exact(Dw (i:=4) nd rfl oi (by rfl) (eT rfl))
 rfl';.exists 5,Qs (sv 2),0;(· rfl';exact pX (i:=4) (bJ hr) rfl (by ac_rfl) (sv 5) (cF (dJ (pW (bJ hr) (sv 2) (sv 5) (λ_ _=>rfl)) (dJ aa (dJ lC aR rfl) rfl) rfl)) (by rfl);exact aq)
 rfl';.exists 6,K4 rfl hc (by rfl) dh (sv 2)
 rfl';.exact(nC ei (bF gf (je rfl (by rfl) dq (sv 6)) aa (bj _)) (by rfl';exact Dw (i:=7) nd rfl oi (by rfl) (eT rfl);(· rfl';(· exists 5,bL (sv 6),0;(· rfl';(· exists 8,bL (ao (sv 3) (sv 5)),0;(· rfl';(· exists 9,ao (dR g hr (bC (sv 0) (bC (sv 8) aD rfl) rfl)) aa);(· rfl';(· exists 10,cF (dJ (aA aZ (ao (Aq (i:=4) (bJ hr) rfl (by ac_rfl) (sv 5) (λ_ _=>rfl)) aa) (dR e hr (bC (sv 0) (bC (sv 8) aD rfl) rfl))) (dJ (aA aZ (ao (Aq (i:=4) (bJ hr) rfl (by ac_rfl) (sv 5) (λ_ _=>rfl)) aa) aa) aR rfl) rfl));(· rfl';(· exists fc ?_ ?_ ?_;exact SW.st (kW (Ul (i:=4) (eR ⟨rfl,rfl⟩) (bJ hr) rfl (by ac_rfl) (sv 9) (by with_unfolding_all rfl)) (jM (bF (nY (bJ hr)) (sv 10) (rF (Aq (i:=4) (bJ hr) rfl (by ac_rfl) (sv 9) (λ_ _=>rfl)) vM (wH aa)) (bj _))));(· rfl';exact pX (i:=4) (bJ hr) rfl (by ac_rfl) (sv 9) (aA aZ (sv 10) (cF (dJ (sv 8) aR rfl))) (by rfl);(· rfl';exact pX (i:=7) (bJ hr) rfl (by ac_rfl) (sv 9) fW (by rfl);exact aq));exact aq);exact aq))));exact aq));(· rfl';(· exists 6,K4 rfl hc (by rfl) dh (Iu (i:=7) rfl (by ac_rfl)));exact aq))))
 rfl';.exists(),sv 4
 exact aq
noncomputable abbrev s6:eL:=top 11
noncomputable def b6:List S:=[.asg 3 (.lst []),.asg 4 ↑2,.whl (.cmp .Hv (.idx (.bin .Ci ↑1 ↑4) ⇑2) (.con .non)) [.asg 5 (.idx (.bin .Ci ↑1 ↑4) ⇑2),.app 3 ↑5,.asg 4 (.idx (.call 0 [↑0,↑5]) ⇑0)],.ret (.blt .rvT [↑3])]
noncomputable def f6:Fd:=⟨3,6,b6⟩
theorem sc6:aJ ["net","come","place","steps","here","step"] ["net","come","place"] (au s6):={}
include cl in
theorem d6(a:gn K "steps_to" "steps_to" s6 f fd)(fK:mg "reversed"=ci)(bO:mg "tuple"=ci)(b:↥(0,"step_places",2,0)):↥(["net","come","place"],3,f6):=by
 exists a,sc6,0,0;refine aN ?_ ?_;.exists 3,cT aR
 rfl';.exists 4,sv 2
 rfl';.exact(nC ei (bF wN (ao (pW (bJ hr) (sv 1) (sv 4) (λ_ _=>rfl)) aa) lC (bj _)) (by rfl';(· exists 5,ao (pW (bJ hr) (sv 1) (sv 4) (λ_ _=>rfl)) aa);(· rfl';exact cX (k:=3) rfl (by ac_rfl) (sv 5);(· rfl';(· exists 4,ao (dR b hr (bC (sv 0) (bC (sv 5) aD rfl) rfl)) aa);exact aq))))
 rfl';.exists(),zM rfl rfl hc (by rfl) bO (by rfl) fK (sv 3)
 exact aq
noncomputable abbrev s7:eL:=top 12
noncomputable def b7:List S:=[.asg 3 (.blt .list [↑0]),.fX ↑1 [4,5] a_ [.Hw 3 ↑4 a_ (.Tu ↑5 ↑2 (.neg ↑2))],.ret ↑3]
noncomputable def f7:Fd:=⟨3,6,b7⟩
theorem sc7:aJ ["stream","steps","loads","changed","number","forth"] ["stream","steps","loads"] (au s7):={}
include cl in
theorem d7(a:gn K "stream_with" "stream_with" s7 f fd)(dh:mg "list"=ci):↥(["stream","steps","loads"],3,f7):=by
 exists a,sc7,0,0;refine aN ?_ ?_;.exists 3,vg rfl (by rfl) dh (sv 0)
 rfl';.exact(jO ei hc (bL (sv 1)) (fZ hc (aV (aM (i:=4) nd rfl oi oi) (aV (aM (i:=5) nd rfl oi oi) dX))) (lF rfl (cO _ _ (cO _ _ iW 5) 4)) (by rfl';exact Fb (k:=3) (sub:=a_) Qz rfl (by ac_rfl) (sv 4) (vV (eY (sv 5)) (sv 2) (qH (sv 2)));exact aq))
 rfl';.exists(),sv 3
 exact aq
noncomputable abbrev s8:eL:=top 13
noncomputable def b8:List S:=[.asg 1 (.bin .sub (.idx ↑0 ⇑0) ⇑1),.asg 2 (.bin .mul (.lst [⇑0]) (.blt .len [.idx ↑0 ⇑1])),.asg 3 (.lst []),.asg 4 (.call 5 [↑0,↑2,.Ck 0 0]),.whl (.bin .din ↑1 ↑4) [.asg 5 (.call 6 [↑0,↑4,↑1]),.asg 6 (.blt .Cj [.comp ↑5 1 [7] b_ ci (.call 2 [↑0,↑2,↑7])]),.app 3 (.tup [↑5,↑6]),.asg 2 (.call 7 [↑2,↑5,↑6]),.asg 4 (.call 5 [↑0,↑2,.Ck 0 0])],.ret ↑3]
noncomputable def f8:Fd:=⟨1,7,b8⟩
theorem sc8:aJ ["net","end","stream","chains","come","steps","loads"] ["net"] (au s8):={}
include cl in
theorem d8(b:gn K "chains_to_end" "chains_to_end" s8 f fd)(dq:mg "len"=ci)(ji:mg "min"=ci)(a:↥(5,"shortest_come",3,0))(e:↥(2,"step_room",3,0))(g:↥(6,"steps_to",3,0))(h:↥(7,"stream_with",3,0)):↥(["net"],1,f8):=by
 exists b,sc8,0,0;refine aN ?_ ?_;.exists 1,aA dz (ao (sv 0) aa) aa
 rfl';.exists iT (i:=2) ?_ ?_ ?_ ?_ ?_ ?_;exact nd;exact rfl;exact eR rfl;rotate_left;rfl;exact oi;exact aA dW (cT (dJ aa aR rfl)) (je rfl (by rfl) dq (ao (sv 0) aa))
 rfl';.exists 3,cT aR
 rfl';.exists 4,dR a hr (bC (sv 0) (bC (sv 2) (bC Dr aD rfl) rfl) rfl)
 rfl';.exact(nC ei (Xk (bJ hr) (sv 1) (sv 4) (by with_unfolding_all rfl)) (by rfl';(· exists 5,dR g hr (bC (sv 0) (bC (sv 4) (bC (sv 1) aD rfl) rfl) rfl));(· rfl';(· exists 6,wL rfl hc (by rfl) ji (cP (N':=["net","end","stream","chains","come","steps","loads","step"]) hc (vZ rfl (by rfl)) (bL (sv 5)) ⇑(aM (i:=7) ‹["net","end","stream","chains","come","steps","loads","step"]› rfl (eT rfl) (eR rfl)) (cI (cN)) ⇑(dw) ⇑((dR e hr (bC (sv 0) (bC (sv 2) (bC (sv 7) aD rfl) rfl) rfl)))));(· rfl';exact cX (k:=3) rfl (by ac_rfl) (cF (dJ (sv 5) (dJ (sv 6) aR rfl) rfl));(· rfl';(· exists iT (i:=2) ?_ ?_ ?_ ?_ ?_ ?_;exact nd;exact rfl;exact eR rfl;rotate_left;rfl;exact oi;exact dR h hr (bC (sv 2) (bC (sv 5) (bC (sv 6) aD rfl) rfl) rfl));(· rfl';(· exists 4,dR a hr (bC (sv 0) (bC (sv 2) (bC Dr aD rfl) rfl) rfl));exact aq))))))
 rfl';.exists(),sv 3
 exact aq
noncomputable abbrev s9:eL:=top 14
noncomputable def b9:List S:=[.asg 2 (.lst []),.asg 3 ↑1,.fX ↑0 [4,5] a_ [.asg 6 (.blt .min2 [↑3,↑5]),.app 2 (.tup [↑4,↑6]),.aug 3 b_ ↑6],.ifs (.cmp .gt ↑3 ⇑0) [.bad] [],.ret ↑2]
noncomputable def f9:Fd:=⟨2,7,b9⟩
theorem sc9:aJ ["pairs","rate","cut","left","first","loads","taken"] ["pairs","rate"] (au s9):={}
include cl in
theorem d9(a:gn K "cut_to_rate" "cut_to_rate" s9 f fd)(ji:mg "min"=ci):↥(["pairs","rate"],2,f9):=by
 exists a,sc9,0,0;refine aN ?_ ?_;.exists 2,cT aR
 rfl';.exists 3,sv 1
 rfl';.exact(jO ei hc (bL (sv 0)) (fZ hc (aV (aM (i:=4) nd rfl oi oi) (aV (aM (i:=5) nd rfl oi oi) dX))) (lF rfl (cO _ _ (cO _ _ iW 5) 4)) (by rfl';(· exists 6,Pa rfl hc (by rfl) ji (dJ (sv 3) (dJ (sv 5) aR rfl) rfl));(· rfl';exact cX (k:=2) rfl (by ac_rfl) (cF (dJ (sv 4) (dJ (sv 6) aR rfl) rfl));(· rfl';exact JN (i:=3) (sub:=b_) wD nd rfl oi (sv 6) (eT rfl);exact aq))))
 rfl';.exists fc ?_ ?_ ?_;exact bF gf (sv 3) aa (bj _);(· rfl';exact Ah;exact aq);exact aq
 rfl';.exists(),sv 2
 exact aq
noncomputable abbrev gA:eL:=top 16
noncomputable def b10:List S:=[.M8 1 a_,.fX (.call 8 [↑0]) [2,3] a_ [.asg 4 (.call 3 [↑0,↑2]),.dput 1 ↑4 (.bin .add (.ZJ 1 ↑4 ⇑0) ↑3)],.ret (.blt .M7 [.vw 1])]
noncomputable def f10:Fd:=⟨1,5,b10⟩
theorem ae7:aJ ["net","bends","steps","loads","length"] ["net"] (au gA):={}
include cl in
theorem d10(a:gn K "bends_of" "bends_of" gA f fd)(sX:mg "sorted"=ci)(b:↥(8,"chains_to_end",1,0))(e:↥(3,"steps_hours",2,0)):↥(["net"],1,f10):=by
 exists a,ae7,0,0;refine aN ?_ ?_;.exact(Ov (i:=1) nd rfl oi (by rfl) (eT rfl))
 rfl';.exact(jO ei hc (bL (dR b hr (bC (sv 0) aD rfl))) (fZ hc (aV (aM (i:=2) nd rfl oi oi) (aV (aM (i:=3) nd rfl oi oi) dX))) (lF rfl (cO _ _ (cO _ _ iW 3) 2)) (by rfl';(· exists 4,dR e hr (bC (sv 0) (bC (sv 2) aD rfl) rfl));(· rfl';exact O4 (i:=1) (bJ hr) rfl (by ac_rfl) (sv 4) (aA aZ (Vj (i:=1) (bJ hr) rfl (by ac_rfl) (sv 4) aa ⟨rfl,rfl,rfl,rfl⟩) (sv 3)) (by rfl);exact aq)))
 rfl';.exists(),Oe rfl hc (by rfl) sX rfl (Iu (i:=1) rfl (by ac_rfl))
 exact aq
noncomputable abbrev s11:eL:=top 18
noncomputable def b11:List S:=[.ret (.comp (.ZG (.idx ↑0 ⇑1)) 2 [2,3] a_ (aU (.cmp .eq (.idx ↑3 ⇑0) ↑1)) ↑2)]
noncomputable def f11:Fd:=⟨2,2,b11⟩
theorem agU:aJ ["net","place"] ["net","place"] (au s11):={}
include cl in
theorem d11(a:gn K "ways_out" "ways_out" s11 f fd)(eO:mg "enumerate"=ci):↥(["net","place"],2,f11):=by
 exists a,agU,0,0;refine aN ?_ ?_;.exists(),cP (N':=["net","place","number","way"]) hc (vZ rfl (by rfl)) (Ln rfl (by rfl) eO (ao (sv 0) aa)) ⇑(fZ hc (aV (aM (i:=2) ‹["net","place","number","way"]› rfl (eT rfl) (eR rfl)) (aV (aM (i:=3) ‹["net","place","number","way"]› rfl (eT rfl) (eR rfl)) dX))) (mX rfl (dN (show 2<=2 by decide) (dN (show 2<=3 by decide) mV))) ⇑(mY (bF (sO (bJ hr)) (ao (sv 3) aa) (sv 1) (bj _))) ⇑((sv 2))
 exact aq
noncomputable abbrev s12:eL:=top 19
noncomputable def b12:List S:=[.ret (.comp (.ZG (.idx ↑0 ⇑1)) 2 [2,3] a_ (aU (.cmp .eq (.idx ↑3 ⇑1) ↑1)) ↑2)]
noncomputable def f12:Fd:=⟨2,2,b12⟩
theorem aeS:aJ ["net","place"] ["net","place"] (au s12):={}
include cl in
theorem d12(a:gn K "ways_in" "ways_in" s12 f fd)(eO:mg "enumerate"=ci):↥(["net","place"],2,f12):=by
 exists a,aeS,0,0;refine aN ?_ ?_;.exists(),cP (N':=["net","place","number","way"]) hc (vZ rfl (by rfl)) (Ln rfl (by rfl) eO (ao (sv 0) aa)) ⇑(fZ hc (aV (aM (i:=2) ‹["net","place","number","way"]› rfl (eT rfl) (eR rfl)) (aV (aM (i:=3) ‹["net","place","number","way"]› rfl (eT rfl) (eR rfl)) dX))) (mX rfl (dN (show 2<=2 by decide) (dN (show 2<=3 by decide) mV))) ⇑(mY (bF (sO (bJ hr)) (ao (sv 3) aa) (sv 1) (bj _))) ⇑((sv 2))
 exact aq
noncomputable abbrev s13:eL:=top 20
noncomputable def b13:List S:=[.asg 1 (.bin .sub (.idx ↑0 ⇑0) ⇑1),.asg 2 (.comp (.idx ↑0 ⇑1) 1 [3] b_ ci (.tup [.bin .sub ↑1 (.idx ↑3 ⇑1),.bin .sub ↑1 (.idx ↑3 ⇑0),.idx ↑3 ⇑2,.idx ↑3 ⇑3])),.ret (.tup [.idx ↑0 ⇑0,.blt .tuple [↑2]])]
noncomputable def f13:Fd:=⟨1,3,b13⟩
theorem afv:aJ ["net","end","ways"] ["net"] (au s13):={}
include cl in
theorem d13(a:gn K "turned_net" "turned_net" s13 f fd)(bO:mg "tuple"=ci):↥(["net"],1,f13):=by
 exists a,afv,0,0;refine aN ?_ ?_;.exists iT (i:=1) ?_ ?_ ?_ ?_ ?_ ?_;exact nd;exact rfl;exact eR rfl;rotate_left;rfl;exact oi;exact aA dz (ao (sv 0) aa) aa
 rfl';.exact(Qx (i:=2) (N':=["net","end","ways","way"]) hc nd rfl oi (vZ rfl (by rfl)) (bL (ao (sv 0) aa)) ⇑(aM (i:=3) ‹["net","end","ways","way"]› rfl (eT rfl) (eR rfl)) (cI (cN)) ⇑(dw) ⇑((cF (dJ (aA dz (sv 1) (ao (sv 3) aa)) (dJ (aA dz (sv 1) (ao (sv 3) aa)) (dJ (ao (sv 3) aa) (dJ (ao (sv 3) aa) aR rfl) rfl) rfl) rfl))) (by rfl) (by intro _;rfl) (eT rfl))
 rfl';.exists(),cF (dJ (ao (sv 0) aa) (dJ (jA rfl (by rfl) bO (sv 2)) aR rfl) rfl)
 exact aq
noncomputable abbrev s14:eL:=top 22
noncomputable def b14:List S:=[.asg 2 (.bin .mul (.lst [.con .non]) (.idx ↑0 ⇑0)),.wW 2 ↑1 ⇑0,.asg 3 (.con (.bl b_)),.whl ↑3 [.asg 3 (.con (.bl a_)),.fX (.idx ↑0 ⇑1) [4] b_ [.ifs (.and (.cmp .gt (.idx ↑4 ⇑2) ⇑0) (.cmp .Hv (.idx ↑2 (.idx ↑4 ⇑0)) (.con .non))) [.asg 5 (.bin .add (.idx ↑2 (.idx ↑4 ⇑0)) (.idx ↑4 ⇑3)),.ifs (.or (.cmp .isN (.idx ↑2 (.idx ↑4 ⇑1)) (.con .non)) (.cmp .lt ↑5 (.idx ↑2 (.idx ↑4 ⇑1)))) [.wW 2 (.idx ↑4 ⇑1) ↑5,.asg 3 (.con (.bl b_))] []] []]],.ret ↑2]
noncomputable def f14:Fd:=⟨2,6,b14⟩
theorem agI:aJ ["net","start","hours","changed","way","come"] ["net","start"] (au s14):={}
include cl in
theorem d14(a:gn K "hours_from" "hours_from" s14 f fd):↥(["net","start"],2,f14):=by
 exists a,agI,0,0;refine aN ?_ ?_;.exists 2,aA dW (cT (dJ lC aR rfl)) (ao (sv 0) aa)
 rfl';.exact(j7 (k:=2) rfl (by ac_rfl) (sv 1) aa)
 rfl';.exists 3,fW
 rfl';.exact(nC ei (eY (sv 3)) (by rfl';(· exists 3,fW);(· rfl';(· exists 4,bL (ao (sv 0) aa),0;(· rfl';(· exists fc ?_ ?_ ?_;exact SW.st (Ag (bF gf (ao (sv 4) aa) aa (bj _)) (wy (bF wN (ao (sv 2) (ao (sv 4) aa)) lC (bj _))));(· rfl';(· exists 5,aA aZ (ao (sv 2) (ao (sv 4) aa)) (ao (sv 4) aa));(· rfl';(· exists fc ?_ ?_ ?_;exact SW.st (kW (bF JM (ao (sv 2) (ao (sv 4) aa)) lC (bj _)) (jM (bF (nY (bJ hr)) (sv 5) (ao (sv 2) (ao (sv 4) aa)) (bj _))));(· rfl';exact j7 (k:=2) rfl (by ac_rfl) (ao (sv 4) aa) (sv 5);(· rfl';(· exists 3,fW);exact aq));exact aq);exact aq));exact aq);exact aq));exact aq)))
 rfl';.exists(),sv 2
 exact aq
noncomputable abbrev s15:eL:=top 23
noncomputable def b15:List S:=[.ret (.blt .Ru [.call 14 [.call 13 [↑0],.bin .sub (.bin .sub (.idx ↑0 ⇑0) ⇑1) ↑1]])]
noncomputable def f15:Fd:=⟨2,2,b15⟩
theorem afd:aJ ["net","place"] ["net","place"] (au s15):={}
include cl in
theorem d15(a:gn K "hours_to" "hours_to" s15 f fd)(dh:mg "list"=ci)(fK:mg "reversed"=ci)(b:↥(14,"hours_from",2,0))(e:↥(13,"turned_net",1,0)):↥(["net","place"],2,f15):=by
 exists a,afd,0,0;refine aN ?_ ?_;.exists(),Aw rfl rfl hc (by rfl) dh (by rfl) fK (dR b hr (bC (dR e hr (bC (sv 0) aD rfl)) (bC (aA dz (aA dz (ao (sv 0) aa) aa) (sv 1)) aD rfl) rfl))
 exact aq
noncomputable abbrev s16:eL:=top 24
noncomputable def b16:List S:=[.ret (.and (.cmp .gt (.idx ↑0 ⇑2) ⇑0) (.and (.cmp .Hv (.idx ↑1 (.idx ↑0 ⇑1)) (.con .non)) (.cmp .eq (.bin .add (.idx ↑0 ⇑3) (.idx ↑1 (.idx ↑0 ⇑1))) (.idx ↑1 (.idx ↑0 ⇑0)))))]
noncomputable def Wd:Fd:=⟨2,2,b16⟩
theorem agC:aJ ["way","left"] ["way","left"] (au s16):={}
include cl in
theorem d16(a:gn K "is_soonest_step" "is_soonest_step" s16 f fd):↥(["way","left"],2,Wd):=by
 exists a,agC,0,0;refine aN ?_ ?_;.exists(),JF (qe gf (ao (sv 0) aa) aa (bj _)) (JF (qe wN (ao (sv 1) (ao (sv 0) aa)) lC (bj _)) (Qc (qe (sO (bJ hr)) (aA aZ (ao (sv 0) aa) (ao (sv 1) (ao (sv 0) aa))) (ao (sv 1) (ao (sv 0) aa)) (bj _)))).ev
 exact aq
noncomputable abbrev s17:eL:=top 25
noncomputable def b17:List S:=[.ifs (.not (.chain .le .lt ⇑0 ↑1 (.idx ↑0 ⇑0))) [.bad] [],.asg 2 (.call 15 [↑0,↑1]),.ifs (.cmp .isN (.idx ↑2 ⇑0) (.con .non)) [.bad] [],.asg 3 (.lst []),.asg 4 ⇑0,.whl (.cmp .ne ↑4 ↑1) [.asg 5 (.blt .Cj [.comp (.call 11 [↑0,↑4]) 1 [6] b_ (aU (.call 16 [.idx (.idx ↑0 ⇑1) ↑6,↑2])) ↑6]),.app 3 ↑5,.asg 4 (.idx (.idx (.idx ↑0 ⇑1) ↑5) ⇑1)],.ret (.blt .tuple [↑3])]
noncomputable def f17:Fd:=⟨2,6,b17⟩
theorem ag0:aJ ["net","place","left","walk","here","step"] ["net","place"] (au s17):={}
include cl in
theorem d17(a:gn K "soonest_walk" "soonest_walk" s17 f fd)(ji:mg "min"=ci)(bO:mg "tuple"=ci)(b:↥(15,"hours_to",2,0))(e:↥(16,"is_soonest_step",2,0))(g:↥(11,"ways_out",2,0)):↥(["net","place"],2,f17):=by
 exists a,ag0,0,0;refine aN ?_ ?_;.exists fc ?_ ?_ ?_;exact jN (Ka vX (nY (bJ hr)) aa (sv 1) (ao (sv 0) aa));(· rfl';exact Ah;exact aq);exact aq
 rfl';.exists iT (i:=2) ?_ ?_ ?_ ?_ ?_ ?_;exact nd;exact rfl;exact eR rfl;rotate_left;rfl;exact oi;exact dR b hr (bC (sv 0) (bC (sv 1) aD rfl) rfl)
 rfl';.exists fc ?_ ?_ ?_;exact bF JM (ao (sv 2) aa) lC (bj _);(· rfl';exact Ah;exact aq);exact aq
 rfl';.exists 3,cT aR
 rfl';.exists 4,aa
 rfl';.exact(nC ei (bF (v7 (bJ hr)) (sv 4) (sv 1) (bj _)) (by rfl';(· exists 5,wL rfl hc (by rfl) ji (cP (N':=["net","place","left","walk","here","step","number"]) hc (vZ rfl (by rfl)) (bL (dR g hr (bC (sv 0) (bC (sv 4) aD rfl) rfl))) ⇑(aM (i:=6) ‹["net","place","left","walk","here","step","number"]› rfl (eT rfl) (eR rfl)) (cI (cN)) ⇑(mY (eY (dR e hr (bC (ao (ao (sv 0) aa) (sv 6)) (bC (sv 2) aD rfl) rfl)))) ⇑((sv 6))));(· rfl';exact cX (k:=3) rfl (by ac_rfl) (sv 5);(· rfl';(· exists 4,ao (ao (ao (sv 0) aa) (sv 5)) aa);exact aq))))
 rfl';.exists(),jA rfl (by rfl) bO (sv 3)
 exact aq
noncomputable abbrev s18:eL:=top 27
noncomputable def b18:List S:=[.asg 3 (.blt .sum [.comp (.call 12 [↑0,↑2]) 1 [4] b_ ci (.idx ↑1 ↑4)]),.ret (.bin .sub ↑3 (.blt .sum [.comp (.call 11 [↑0,↑2]) 1 [4] b_ ci (.idx ↑1 ↑4)]))]
noncomputable def Y5:Fd:=⟨3,4,b18⟩
theorem agS:aJ ["net","stream","place","come"] ["net","stream","place"] (au s18):={}
include cl in
theorem d18(a:gn K "stays_at" "stays_at" s18 f fd)(fu:mg "sum"=ci)(b:↥(12,"ways_in",2,0))(e:↥(11,"ways_out",2,0)):↥(["net","stream","place"],3,Y5):=by
 exists a,agS,0,0;refine aN ?_ ?_;.exists 3,lD rfl hc (by rfl) fu (cP (N':=["net","stream","place","come","number"]) hc (vZ rfl (by rfl)) (bL (dR b hr (bC (sv 0) (bC (sv 2) aD rfl) rfl))) ⇑(aM (i:=4) ‹["net","stream","place","come","number"]› rfl (eT rfl) (eR rfl)) (cI (cN)) ⇑(dw) ⇑((ao (sv 1) (sv 4))))
 rfl';.exists(),aA dz (sv 3) (lD rfl hc (by rfl) fu (cP (N':=["net","stream","place","come","number"]) hc (vZ rfl (by rfl)) (bL (dR e hr (bC (sv 0) (bC (sv 2) aD rfl) rfl))) ⇑(aM (i:=4) ‹["net","stream","place","come","number"]› rfl (eT rfl) (eR rfl)) (cI (cN)) ⇑(dw) ⇑((ao (sv 1) (sv 4)))))
 exact aq
noncomputable abbrev s19:eL:=top 28
noncomputable def b19:List S:=[.ret (.neg (.call 18 [↑0,↑1,⇑0]))]
noncomputable def YH:Fd:=⟨2,2,b19⟩
theorem ael:aJ ["net","stream"] ["net","stream"] (au s19):={}
include cl in
theorem d19(a:gn K "stream_rate" "stream_rate" s19 f fd)(b:↥(18,"stays_at",3,0)):↥(["net","stream"],2,YH):=by
 exists a,ael,0,0;refine aN ?_ ?_;.exists(),qH (dR b hr (bC (sv 0) (bC (sv 1) (bC aa aD rfl) rfl) rfl))
 exact aq
noncomputable abbrev s20:eL:=top 29
noncomputable def b20:List S:=[.asg 2 (.zg 1 (.idx ↑0 ⇑1) 2 [3,4] a_ ci (.tup [.idx ↑3 ⇑0,.idx ↑3 ⇑1,↑4,.idx ↑3 ⇑3])),.ret (.tup [.idx ↑0 ⇑0,.blt .tuple [↑2]])]
noncomputable def f20:Fd:=⟨2,3,b20⟩
theorem afp:aJ ["net","rooms","ways"] ["net","rooms"] (au s20):={}
include cl in
theorem d20(a:gn K "with_rooms" "with_rooms" s20 f fd)(bO:mg "tuple"=ci)(Nk:mg "zip"=ci):↥(["net","rooms"],2,f20):=by
 exists a,afp,0,0;refine aN ?_ ?_;.exact(Qv (i:=2) (N':=["net","rooms","ways","way","room"]) hc nd rfl oi (vZ rfl (by rfl)) (Qd (i:=1) rfl (by rfl) Nk rfl (ao (sv 0) aa) (sv 1)) ⇑(fZ hc (aV (aM (i:=3) ‹["net","rooms","ways","way","room"]› rfl (eT rfl) (eR rfl)) (aV (aM (i:=4) ‹["net","rooms","ways","way","room"]› rfl (eT rfl) (eR rfl)) dX))) (mX rfl (dN (show 3<=3 by decide) (dN (show 3<=4 by decide) mV))) ⇑(dw) ⇑((cF (dJ (ao (sv 3) aa) (dJ (ao (sv 3) aa) (dJ (sv 4) (dJ (ao (sv 3) aa) aR rfl) rfl) rfl) rfl))) (by rfl) (by intro _;rfl) (eT rfl))
 rfl';.exists(),cF (dJ (ao (sv 0) aa) (dJ (jA rfl (by rfl) bO (sv 2)) aR rfl) rfl)
 exact aq
noncomputable abbrev s21:eL:=top 30
noncomputable def b21:List S:=[.asg 2 (.blt .list [↑1]),.asg 3 (.call 19 [↑0,↑1]),.asg 4 (.lst []),.whl (.cmp .gt ↑3 ⇑0) [.asg 5 (.call 17 [.call 20 [↑0,↑2],.bin .sub (.idx ↑0 ⇑0) ⇑1]),.asg 6 (.blt .Cj [.bin .add (.lst [↑3]) (.comp ↑5 1 [8] b_ ci (.idx ↑2 ↑8))]),.fX ↑5 [7] b_ [.Hw 2 ↑7 b_ ↑6],.aug 3 b_ ↑6,.app 4 (.tup [↑5,↑6])],.ret ↑4]
noncomputable def f21:Fd:=⟨2,8,b21⟩
theorem afb:aJ ["net","stream","left","rate","rounds","walk","loads","number"] ["net","stream"] (au s21):={}
include cl in
theorem d21(a:gn K "stream_rounds" "stream_rounds" s21 f fd)(dh:mg "list"=ci)(ji:mg "min"=ci)(b:↥(17,"soonest_walk",2,0))(e:↥(19,"stream_rate",2,0))(g:↥(20,"with_rooms",2,0)):↥(["net","stream"],2,f21):=by
 exists a,afb,0,0;refine aN ?_ ?_;.exists iT (i:=2) ?_ ?_ ?_ ?_ ?_ ?_;exact nd;exact rfl;exact eR rfl;rotate_left;rfl;exact oi;exact vg rfl (by rfl) dh (sv 1)
 rfl';.exists 3,dR e hr (bC (sv 0) (bC (sv 1) aD rfl) rfl)
 rfl';.exists 4,cT aR
 rfl';.exact(nC ei (bF gf (sv 3) aa (bj _)) (by rfl';(· exists 5,dR b hr (bC (dR g hr (bC (sv 0) (bC (sv 2) aD rfl) rfl)) (bC (aA dz (ao (sv 0) aa) aa) aD rfl) rfl));(· rfl';(· exists 6,wL rfl hc (by rfl) ji (aA aZ (cT (dJ (sv 3) aR rfl)) (cP (N':=["net","stream","left","rate","rounds","walk","loads","number#7","number"]) hc (vZ rfl (by rfl)) (bL (sv 5)) ⇑(aM (i:=8) ‹["net","stream","left","rate","rounds","walk","loads","number#7","number"]› rfl (eT rfl) (eR rfl)) (cI (cN)) ⇑(dw) ⇑((ao (sv 2) (sv 8))))));(· rfl';(· exists 7,bL (sv 5),0;(· rfl';exact Fb (k:=2) (sub:=b_) wD rfl (by ac_rfl) (sv 7) (sv 6);exact aq));(· rfl';exact JN (i:=3) (sub:=b_) wD nd rfl oi (sv 6) (eT rfl);(· rfl';exact cX (k:=4) rfl (by ac_rfl) (cF (dJ (sv 5) (dJ (sv 6) aR rfl) rfl));exact aq))))))
 rfl';.exists(),sv 4
 exact aq
noncomputable abbrev s22:eL:=top 32
noncomputable def b22:List S:=[.asg 2 (.blt .sum [.comp (.idx ↑0 ⇑1) 1 [6] b_ ci (.idx ↑6 ⇑3)]),.Nf 3 0 0,.fX (.xn ⇑1 (.idx ↑0 ⇑0)) [4] b_ [.gq 3 ↑4 ↑2],.asg 5 (.call 5 [↑0,↑1,.vw 3]),.ret (.comp (.xn ⇑0 (.idx ↑0 ⇑0)) 1 [6] b_ ci (.idx (.bin .Ci ↑5 ↑6) ⇑0))]
noncomputable def f22:Fd:=⟨2,6,b22⟩
theorem agj:aJ ["net","stream","late","begun","place","come"] ["net","stream"] (au s22):={}
include cl in
theorem d22(a:gn K "found_clocks" "found_clocks" s22 f fd)(bY:mg "range"=ci)(fu:mg "sum"=ci)(b:↥(5,"shortest_come",3,0)):↥(["net","stream"],2,f22):=by
 exists a,agj,0,0;refine aN ?_ ?_;.exists 2,lD rfl hc (by rfl) fu (cP (N':=["net","stream","late","begun","place","come","way"]) hc (vZ rfl (by rfl)) (bL (ao (sv 0) aa)) ⇑(aM (i:=6) ‹["net","stream","late","begun","place","come","way"]› rfl (eT rfl) (eR rfl)) (cI (cN)) ⇑(dw) ⇑((ao (sv 6) aa)))
 rfl';.exact(Oj (i:=3) nd rfl oi (by rfl) (eT rfl))
 rfl';.exists 4,Er rfl (by rfl) bY aa (ao (sv 0) aa),0;(· rfl';exact pX (i:=3) (bJ hr) rfl (by ac_rfl) (sv 4) (sv 2) (by rfl);exact aq)
 rfl';.exists iT (i:=5) ?_ ?_ ?_ ?_ ?_ ?_;exact nd;exact rfl;exact eR rfl;rotate_left;rfl;exact oi;exact dR b hr (bC (sv 0) (bC (sv 1) (bC (Iu (i:=3) rfl (by ac_rfl)) aD rfl) rfl) rfl)
 rfl';.exists(),cP (N':=["net","stream","late","begun","place#4","come","place"]) hc (vZ rfl (by rfl)) (my rfl (by rfl) bY (ao (sv 0) aa)) ⇑(aM (i:=6) ‹["net","stream","late","begun","place#4","come","place"]› rfl (eT rfl) (eR rfl)) (cI (cN)) ⇑(dw) ⇑((ao (pW (bJ hr) (sv 5) (sv 6) (λ_ _=>rfl)) aa))
 exact aq
noncomputable abbrev s23:eL:=top 33
noncomputable def b23:List S:=[.asg 2 (.bin .mul (.lst [⇑0]) (.blt .len [.idx ↑0 ⇑1])),.fX (.call 9 [.call 8 [↑0],↑1]) [3,4] a_ [.asg 2 (.call 7 [↑2,↑3,↑4])],.ret (.tup [↑2,.call 22 [↑0,↑2]])]
noncomputable def f23:Fd:=⟨2,5,b23⟩
theorem af0:aJ ["net","rate","stream","steps","loads"] ["net","rate"] (au s23):={}
include cl in
theorem d23(a:gn K "light_stream" "light_stream" s23 f fd)(dq:mg "len"=ci)(b:↥(8,"chains_to_end",1,0))(e:↥(9,"cut_to_rate",2,0))(g:↥(22,"found_clocks",2,0))(h:↥(7,"stream_with",3,0)):↥(["net","rate"],2,f23):=by
 exists a,af0,0,0;refine aN ?_ ?_;.exists 2,aA dW (cT (dJ aa aR rfl)) (je rfl (by rfl) dq (ao (sv 0) aa))
 rfl';.exact(jO ei hc (bL (dR e hr (bC (dR b hr (bC (sv 0) aD rfl)) (bC (sv 1) aD rfl) rfl))) (fZ hc (aV (aM (i:=3) nd rfl oi oi) (aV (aM (i:=4) nd rfl oi oi) dX))) (lF rfl (cO _ _ (cO _ _ iW 4) 3)) (by rfl';(· exists 2,dR h hr (bC (sv 2) (bC (sv 3) (bC (sv 4) aD rfl) rfl) rfl));exact aq))
 rfl';.exists(),cF (dJ (sv 2) (dJ (dR g hr (bC (sv 0) (bC (sv 2) aD rfl) rfl)) aR rfl) rfl)
 exact aq
noncomputable abbrev s24:eL:=top 35
noncomputable def b24:List S:=[.ret (.comp (.call 10 [↑0]) 1 [2] b_ (aU (.cmp .le (.idx ↑2 ⇑0) ↑1)) ↑2)]
noncomputable def f24:Fd:=⟨2,2,b24⟩
theorem afz:aJ ["net","last"] ["net","last"] (au s24):={}
include cl in
theorem d24(a:gn K "bends_by" "bends_by" s24 f fd)(b:↥(10,"bends_of",1,0)):↥(["net","last"],2,f24):=by
 exists a,afz,0,0;refine aN ?_ ?_;.exists(),cP (N':=["net","last","bend"]) hc (vZ rfl (by rfl)) (bL (dR b hr (bC (sv 0) aD rfl))) ⇑(aM (i:=2) ‹["net","last","bend"]› rfl (eT rfl) (eR rfl)) (cI (cN)) ⇑(mY (bF vX (ao (sv 2) aa) (sv 1) (bj _))) ⇑((sv 2))
 exact aq
noncomputable abbrev s25:eL:=top 36
noncomputable def b25:List S:=[.ret (.blt .sum [.comp ↑0 2 [2,3] a_ (aU (.cmp .le ↑2 ↑1)) (.bin .mul ↑3 (.bin .add (.bin .sub ↑1 ↑2) ⇑1))])]
noncomputable def f25:Fd:=⟨2,2,b25⟩
theorem ae6:aJ ["bends","last"] ["bends","last"] (au s25):={}
include cl in
theorem d25(a:gn K "most_of" "most_of" s25 f fd)(fu:mg "sum"=ci):↥(["bends","last"],2,f25):=by
 exists a,ae6,0,0;refine aN ?_ ?_;.exists(),lD rfl hc (by rfl) fu (cP (N':=["bends","last","length","loads"]) hc (vZ rfl (by rfl)) (bL (sv 0)) ⇑(fZ hc (aV (aM (i:=2) ‹["bends","last","length","loads"]› rfl (eT rfl) (eR rfl)) (aV (aM (i:=3) ‹["bends","last","length","loads"]› rfl (eT rfl) (eR rfl)) dX))) (mX rfl (dN (show 2<=2 by decide) (dN (show 2<=3 by decide) mV))) ⇑(mY (bF vX (sv 2) (sv 1) (bj _))) ⇑((aA dW (sv 3) (aA aZ (aA dz (sv 1) (sv 2)) aa))))
 exact aq
noncomputable abbrev s26:eL:=top 37
noncomputable def b26:List S:=[.ret (.call 25 [.call 10 [↑0],↑1])]
noncomputable def f26:Fd:=⟨2,2,b26⟩
theorem aeD:aJ ["net","last"] ["net","last"] (au s26):={}
include cl in
theorem d26(a:gn K "most_by" "most_by" s26 f fd)(b:↥(10,"bends_of",1,0))(e:↥(25,"most_of",2,0)):↥(["net","last"],2,f26):=by
 exists a,aeD,0,0;refine aN ?_ ?_;.exists(),dR e hr (bC (dR b hr (bC (sv 0) aD rfl)) (bC (sv 1) aD rfl) rfl)
 exact aq
noncomputable abbrev s27:eL:=top 38
noncomputable def b27:List S:=[.ret (.blt .sum [.comp (.call 24 [↑0,↑1]) 2 [2,3] a_ ci ↑3])]
noncomputable def f27:Fd:=⟨2,2,b27⟩
theorem ae3:aJ ["net","last"] ["net","last"] (au s27):={}
include cl in
theorem d27(a:gn K "rate_by" "rate_by" s27 f fd)(fu:mg "sum"=ci)(b:↥(24,"bends_by",2,0)):↥(["net","last"],2,f27):=by
 exists a,ae3,0,0;refine aN ?_ ?_;.exists(),lD rfl hc (by rfl) fu (cP (N':=["net","last","length","loads"]) hc (vZ rfl (by rfl)) (bL (dR b hr (bC (sv 0) (bC (sv 1) aD rfl) rfl))) ⇑(fZ hc (aV (aM (i:=2) ‹["net","last","length","loads"]› rfl (eT rfl) (eR rfl)) (aV (aM (i:=3) ‹["net","last","length","loads"]› rfl (eT rfl) (eR rfl)) dX))) (mX rfl (dN (show 2<=2 by decide) (dN (show 2<=3 by decide) mV))) ⇑(dw) ⇑((sv 3)))
 exact aq
noncomputable abbrev s28:eL:=top 39
noncomputable def b28:List S:=[.ret (.idx (.call 23 [↑0,.call 27 [↑0,↑1]]) ⇑0)]
noncomputable def YB:Fd:=⟨2,2,b28⟩
theorem afV:aJ ["net","last"] ["net","last"] (au s28):={}
include cl in
theorem d28(a:gn K "stream_by" "stream_by" s28 f fd)(b:↥(23,"light_stream",2,0))(e:↥(27,"rate_by",2,0)):↥(["net","last"],2,YB):=by
 exists a,afV,0,0;refine aN ?_ ?_;.exists(),ao (dR b hr (bC (sv 0) (bC (dR e hr (bC (sv 0) (bC (sv 1) aD rfl) rfl)) aD rfl) rfl)) aa
 exact aq
noncomputable abbrev s29:eL:=top 41
noncomputable def b29:List S:=[.ret (.call 21 [↑0,.call 28 [↑0,↑1]])]
noncomputable def f29:Fd:=⟨2,2,b29⟩
theorem afC:aJ ["net","last"] ["net","last"] (au s29):={}
include cl in
theorem d29(a:gn K "best_rounds" "best_rounds" s29 f fd)(b:↥(28,"stream_by",2,0))(e:↥(21,"stream_rounds",2,0)):↥(["net","last"],2,f29):=by
 exists a,afC,0,0;refine aN ?_ ?_;.exists(),dR e hr (bC (sv 0) (bC (dR b hr (bC (sv 0) (bC (sv 1) aD rfl) rfl)) aD rfl) rfl)
 exact aq
noncomputable abbrev s30:eL:=top 43
noncomputable def b30:List S:=[.ret (.lst [.blt .max2 [⇑0,.bin .sub ↑0 (.bin .pow ⇑10 ⇑18)],.bin .mod ↑0 (.bin .pow ⇑10 ⇑18),⇑0])]
noncomputable def f30:Fd:=⟨1,1,b30⟩
theorem aeH:aJ ["cell"] ["cell"] (au s30):={}
include cl in
theorem d30(a:gn K "_law_pool" "_law_pool" s30 f fd)(Nm:mg "max"=ci):↥(["cell"],1,f30):=by
 exists a,aeH,0,0;refine aN ?_ ?_;.exists(),cT (dJ (O9 rfl hc (by rfl) Nm (dJ aa (dJ (aA dz (sv 0) (aA lO aa aa)) aR rfl) rfl)) (dJ (aA gw (sv 0) (aA lO aa aa)) (dJ aa aR rfl) rfl) rfl)
 exact aq
noncomputable abbrev s31:eL:=top 44
noncomputable def b31:List S:=[.ifs (.cmp .gt (.idx ↑0 ⇑0) ⇑0) [.asg 2 (.bin .mod (.idx ↑0 ⇑0) ↑1),.wW 0 ⇑0 (.bin .fdiv (.idx ↑0 ⇑0) ↑1),.ret ↑2] [],.wW 0 ⇑2 (.bin .add (.idx ↑0 ⇑2) ⇑1),.asg 3 (.bin .mod (.bin .add (.idx ↑0 ⇑1) (.bin .mul ⇑7919 (.idx ↑0 ⇑2))) ⇑1000000007),.asg 4 (.bin .mod (.bin .mul (.bin .add ↑3 ⇑11) (.bin .add ↑3 ⇑48271)) ⇑998244353),.ret (.bin .mod (.bin .fdiv (.bin .mod (.bin .mul ↑4 ↑4) ⇑2147483647) ⇑8) ↑1)]
noncomputable def f31:Fd:=⟨2,5,b31⟩
theorem aeL:aJ ["pool","base","digit","mixed","stir"] ["pool","base"] (au s31):={}
include cl in
theorem d31(a:gn K "_law_next" "_law_next" s31 f fd):↥(["pool","base"],2,f31):=by
 exists a,aeL,0,0;refine aN ?_ ?_;.exists fc ?_ ?_ ?_;exact bF gf (ao (sv 0) aa) aa (bj _);(· rfl';(· exists 2,aA gw (ao (sv 0) aa) (sv 1));(· rfl';exact j7 (k:=0) rfl (by ac_rfl) aa (aA yE (ao (sv 0) aa) (sv 1));(· rfl';(· exists(),sv 2);exact aq)));exact aq
 rfl';.exact(j7 (k:=0) rfl (by ac_rfl) aa (aA aZ (ao (sv 0) aa) aa))
 rfl';.exists 3,aA gw (aA aZ (ao (sv 0) aa) (aA dW aa (ao (sv 0) aa))) aa
 rfl';.exists 4,aA gw (aA dW (aA aZ (sv 3) aa) (aA aZ (sv 3) aa)) aa
 rfl';.exists(),aA gw (aA yE (aA gw (aA dW (sv 4) (sv 4)) aa) aa) (sv 1)
 exact aq
noncomputable abbrev s32:eL:=top 45
noncomputable def b32:List S:=[.asg 2 (.blt .list [.slice ↑0 (.con .non) ↑1]),.fX (.xn ↑1 (.blt .len [↑0])) [3] b_ [.wW 2 (.bin .mod ↑3 ↑1) (.bin .add (.bin .mul (.idx ↑2 (.bin .mod ↑3 ↑1)) ⇑31) (.idx ↑0 ↑3))],.ret ↑2]
noncomputable def f32:Fd:=⟨2,4,b32⟩
theorem ags:aJ ["script","most","cells","k"] ["script","most"] (au s32):={}
include cl in
theorem d32(a:gn K "_law_cells" "_law_cells" s32 f fd)(dq:mg "len"=ci)(dh:mg "list"=ci)(bY:mg "range"=ci):↥(["script","most"],2,f32):=by
 exists a,ags,0,0;refine aN ?_ ?_;.exists 2,vg rfl (by rfl) dh (rF (sv 0) vM (wH (sv 1)))
 rfl';.exists 3,Er rfl (by rfl) bY (sv 1) (je rfl (by rfl) dq (sv 0)),0;(· rfl';exact j7 (k:=2) rfl (by ac_rfl) (aA gw (sv 3) (sv 1)) (aA aZ (aA dW (ao (sv 2) (aA gw (sv 3) (sv 1))) aa) (ao (sv 0) (sv 3)));exact aq)
 rfl';.exists(),sv 2
 exact aq
noncomputable abbrev s33:eL:=top 46
noncomputable def b33:List S:=[.asg 3 (.call 31 [↑0,↑1]),.asg 4 (.bin .mod (.bin .add (.bin .add ↑3 ⇑1) (.call 31 [↑0,.bin .sub ↑1 ⇑1])) ↑1),.ifs (.and (.cmp .lt (.bin .add ↑2 ⇑1) ↑1) (.cmp .gt (.call 31 [↑0,⇑3]) ⇑0)) [.par 3 4 ↑2 (.bin .add ↑2 ⇑1)] [.ifs (.and (.cmp .gt ↑3 ↑4) (.cmp .gt (.call 31 [↑0,⇑3]) ⇑0)) [.par 3 4 ↑4 ↑3] []],.asg 5 (.idx (.lst [⇑1,⇑2,⇑3,⇑5,⇑0,⇑1,⇑4,.bin .add ⇑1 (.call 31 [↑0,⇑9])]) (.call 31 [↑0,⇑8])),.ret (.tup [↑3,↑4,↑5,.idx (.lst [⇑1,⇑1,⇑1,⇑2,⇑2,⇑3,⇑1,⇑4]) (.call 31 [↑0,⇑8])])]
noncomputable def f33:Fd:=⟨3,6,b33⟩
theorem agM:aJ ["pool","many","k","begin","end","room"] ["pool","many","k"] (au s33):={}
include cl in
theorem d33(b:gn K "_law_way" "_law_way" s33 f fd)(a:↥(31,"_law_next",2,0)):↥(["pool","many","k"],3,f33):=by
 exists b,agM,0,0;refine aN ?_ ?_;.exists 3,dR a hr (bC (sv 0) (bC (sv 1) aD rfl) rfl)
 rfl';.exists 4,aA gw (aA aZ (aA aZ (sv 3) aa) (dR a hr (bC (sv 0) (bC (aA dz (sv 1) aa) aD rfl) rfl))) (sv 1)
 rfl';.exists fc ?_ ?_ ?_;exact SW.st (Ag (bF (nY (bJ hr)) (aA aZ (sv 2) aa) (sv 1) (bj _)) (wy (bF gf (dR a hr (bC (sv 0) (bC aa aD rfl) rfl)) aa (bj _))));(· rfl';exact Ig (i:=3) (j:=4) hc nd rfl rfl (by decide) rfl rfl (sv 2) (aA aZ (sv 2) aa);exact aq);(· rfl';(· exists fc ?_ ?_ ?_;exact SW.st (Ag (bF gf (sv 3) (sv 4) (bj _)) (wy (bF gf (dR a hr (bC (sv 0) (bC aa aD rfl) rfl)) aa (bj _))));(· rfl';exact Ig (i:=3) (j:=4) hc nd rfl rfl (by decide) rfl rfl (sv 4) (sv 3);exact aq);exact aq);exact aq)
 rfl';.exists 5,ao (cT (lW [1,2,3,5,0,1,4] rfl (dJ (aA aZ aa (dR a hr (bC (sv 0) (bC aa aD rfl) rfl))) aR rfl))) (dR a hr (bC (sv 0) (bC aa aD rfl) rfl))
 rfl';.exists(),cF (dJ (sv 3) (dJ (sv 4) (dJ (sv 5) (dJ (ao (cT (lW [1,1,1,2,2,3,1,4] rfl aR)) (dR a hr (bC (sv 0) (bC aa aD rfl) rfl))) aR rfl) rfl) rfl) rfl)
 exact aq
noncomputable abbrev s34:eL:=top 47
noncomputable def b34:List S:=[.asg 1 (.idx (.lst [⇑3,⇑4,⇑3,⇑4,⇑2,⇑5,⇑6,⇑4]) (.call 31 [↑0,⇑8])),.asg 2 (.idx (.lst [⇑5,⇑3,⇑4,⇑6,⇑2,⇑7,⇑8,⇑10,⇑12,⇑1,⇑0,⇑5]) (.call 31 [↑0,⇑12])),.ret (.tup [↑1,.blt .tuple [.comp (.xn ⇑0 ↑2) 1 [3] b_ ci (.call 33 [↑0,↑1,↑3])]])]
noncomputable def f34:Fd:=⟨1,3,b34⟩
theorem aeY:aJ ["pool","many","count"] ["pool"] (au s34):={}
include cl in
theorem d34(b:gn K "_law_net" "_law_net" s34 f fd)(bY:mg "range"=ci)(bO:mg "tuple"=ci)(a:↥(31,"_law_next",2,0))(e:↥(33,"_law_way",3,0)):↥(["pool"],1,f34):=by
 exists b,aeY,0,0;refine aN ?_ ?_;.exists iT (i:=1) ?_ ?_ ?_ ?_ ?_ ?_;exact nd;exact rfl;exact eR rfl;rotate_left;rfl;exact oi;exact ao (cT (lW [3,4,3,4,2,5,6,4] rfl aR)) (dR a hr (bC (sv 0) (bC aa aD rfl) rfl))
 rfl';.exists 2,ao (cT (lW [5,3,4,6,2,7,8,10,12,1,0,5] rfl aR)) (dR a hr (bC (sv 0) (bC aa aD rfl) rfl))
 rfl';.exists(),cF (dJ (sv 1) (dJ (jA rfl (by rfl) bO (cP (N':=["pool","many","count","k"]) hc (vZ rfl (by rfl)) (my rfl (by rfl) bY (sv 2)) ⇑(aM (i:=3) ‹["pool","many","count","k"]› rfl (eT rfl) (eR rfl)) (cI (cN)) ⇑(dw) ⇑((dR e hr (bC (sv 0) (bC (sv 1) (bC (sv 3) aD rfl) rfl) rfl))))) aR rfl) rfl)
 exact aq
noncomputable abbrev s35:eL:=top 48
noncomputable def b35:List S:=[.asg 3 (.lst [⇑0]),.fX ↑1 [4] b_ [.ifs (.or (.cmp .lt ↑4 ⇑0) (.or (.cmp .ge ↑4 (.blt .len [.idx ↑0 ⇑1])) (.cmp .ne (.idx (.idx (.idx ↑0 ⇑1) ↑4) ⇑0) (.idx ↑3 (.neg ⇑1))))) [.ret (.con (.bl a_))] [],.ifs (.or (.cmp .eq (.idx (.idx (.idx ↑0 ⇑1) ↑4) ⇑2) ⇑0) (.cmp .inn (.idx (.idx (.idx ↑0 ⇑1) ↑4) ⇑1) ↑3)) [.ret (.con (.bl a_))] [],.app 3 (.idx (.idx (.idx ↑0 ⇑1) ↑4) ⇑1)],.ret (.cmp .eq (.idx ↑3 (.neg ⇑1)) ↑2)]
noncomputable def f35:Fd:=⟨3,5,b35⟩
theorem ae1:aJ ["net","walk","end","places","way"] ["net","walk","end"] (au s35):={}
include cl in
theorem d35(a:gn K "_law_walk_to" "_law_walk_to" s35 f fd)(dq:mg "len"=ci):↥(["net","walk","end"],3,f35):=by
 exists a,ae1,0,0;refine aN ?_ ?_;.exists 3,cT (dJ aa aR rfl)
 rfl';.exists 4,bL (sv 1),0;(· rfl';(· exists fc ?_ ?_ ?_;exact SW.st (kW (bF (nY (bJ hr)) (sv 4) aa (bj _)) (kW (bF Xa (sv 4) (je rfl (by rfl) dq (ao (sv 0) aa)) (bj _)) (jM (bF (v7 (bJ hr)) (ao (ao (ao (sv 0) aa) (sv 4)) aa) (ao (sv 3) (qH aa)) (bj _)))));(· rfl';(· exists(),fW);exact aq);exact aq);(· rfl';(· exists fc ?_ ?_ ?_;exact SW.st (kW (bF (sO (bJ hr)) (ao (ao (ao (sv 0) aa) (sv 4)) aa) aa (bj _)) (jM (bF Pk (ao (ao (ao (sv 0) aa) (sv 4)) aa) (sv 3) (by with_unfolding_all rfl))));(· rfl';(· exists(),fW);exact aq);exact aq);(· rfl';exact cX (k:=3) rfl (by ac_rfl) (ao (ao (ao (sv 0) aa) (sv 4)) aa);exact aq)))
 rfl';.exists(),qe (sO (bJ hr)) (ao (sv 3) (qH aa)) (sv 2) (bj _)
 exact aq
noncomputable abbrev s36:eL:=top 49
noncomputable def b36:List S:=[.ret (.blt .sum [.comp ↑1 1 [2] b_ ci (.idx (.idx (.idx ↑0 ⇑1) ↑2) ⇑3)])]
noncomputable def f36:Fd:=⟨2,2,b36⟩
theorem afA:aJ ["net","walk"] ["net","walk"] (au s36):={}
include cl in
theorem d36(a:gn K "_law_length" "_law_length" s36 f fd)(fu:mg "sum"=ci):↥(["net","walk"],2,f36):=by
 exists a,afA,0,0;refine aN ?_ ?_;.exists(),lD rfl hc (by rfl) fu (cP (N':=["net","walk","way"]) hc (vZ rfl (by rfl)) (bL (sv 1)) ⇑(aM (i:=2) ‹["net","walk","way"]› rfl (eT rfl) (eR rfl)) (cI (cN)) ⇑(dw) ⇑((ao (ao (ao (sv 0) aa) (sv 2)) aa)))
 exact aq
noncomputable abbrev s37:eL:=top 50
noncomputable def b37:List S:=[.asg 2 (.bin .mul (.lst [⇑0]) (.blt .len [.idx ↑0 ⇑1])),.fX ↑1 [3,4] a_ [.ifs (.or (.cmp .lt ↑4 ⇑1) (.not (.call 35 [↑0,↑3,.bin .sub (.idx ↑0 ⇑0) ⇑1]))) [.ret (.con (.bl a_))] [],.fX ↑3 [5] b_ [.wW 2 ↑5 (.bin .add (.idx ↑2 ↑5) ↑4)]],.ret (.blt .all [.comp (.xn ⇑0 (.blt .len [↑2])) 1 [6] b_ ci (.cmp .le (.idx ↑2 ↑6) (.idx (.idx (.idx ↑0 ⇑1) ↑6) ⇑2))])]
noncomputable def f37:Fd:=⟨2,6,b37⟩
theorem ago:aJ ["net","rounds","gone","walk","loads","way"] ["net","rounds"] (au s37):={}
include cl in
theorem d37(a:gn K "_law_fit" "_law_fit" s37 f fd)(Np:mg "all"=ci)(dq:mg "len"=ci)(bY:mg "range"=ci)(b:↥(35,"_law_walk_to",3,0)):↥(["net","rounds"],2,f37):=by
 exists a,ago,0,0;refine aN ?_ ?_;.exists iT (i:=2) ?_ ?_ ?_ ?_ ?_ ?_;exact nd;exact rfl;exact eR rfl;rotate_left;rfl;exact oi;exact aA dW (cT (dJ aa aR rfl)) (je rfl (by rfl) dq (ao (sv 0) aa))
 rfl';.exact(jO ei hc (bL (sv 1)) (fZ hc (aV (aM (i:=3) nd rfl oi oi) (aV (aM (i:=4) nd rfl oi oi) dX))) (lF rfl (cO _ _ (cO _ _ iW 4) 3)) (by rfl';(· exists fc ?_ ?_ ?_;exact SW.st (kW (bF (nY (bJ hr)) (sv 4) aa (bj _)) (jM (jN (eY (dR b hr (bC (sv 0) (bC (sv 3) (bC (aA dz (ao (sv 0) aa) aa) aD rfl) rfl) rfl))))));(· rfl';(· exists(),fW);exact aq);exact aq);(· rfl';(· exists 5,bL (sv 3),0;(· rfl';exact j7 (k:=2) rfl (by ac_rfl) (sv 5) (aA aZ (ao (sv 2) (sv 5)) (sv 4));exact aq));exact aq)))
 rfl';.exists(),Wo rfl hc (by rfl) Np (cP (N':=["net","rounds","gone","walk","loads","way#5","way"]) hc (vZ rfl (by rfl)) (my rfl (by rfl) bY (je rfl (by rfl) dq (sv 2))) ⇑(aM (i:=6) ‹["net","rounds","gone","walk","loads","way#5","way"]› rfl (eT rfl) (eR rfl)) (cI (cN)) ⇑(dw) ⇑((qe vX (ao (sv 2) (sv 6)) (ao (ao (ao (sv 0) aa) (sv 6)) aa) (bj _))))
 exact aq
noncomputable abbrev s38:eL:=top 51
noncomputable def b38:List S:=[.ifs (.cmp .gt (.call 31 [↑0,⇑3]) ⇑0) [.ret ↑1] [],.asg 2 (.bin .add ⇑1 (.call 31 [↑0,⇑249000])),.asg 3 (.bin .add ⇑1 (.call 31 [↑0,.bin .pow ⇑10 ⇑8])),.asg 4 (.lst []),.fX (.idx ↑1 ⇑1) [5,6,7,8] a_ [.asg 7 (.bin .add (.bin .mul ↑7 ↑3) (.call 31 [↑0,.bin .add ↑7 ⇑1])),.asg 8 (.bin .add (.bin .mul ↑8 ↑2) (.call 31 [↑0,⇑1000])),.app 4 (.tup [↑5,↑6,↑7,↑8])],.ret (.tup [.idx ↑1 ⇑0,.blt .tuple [↑4]])]
noncomputable def f38:Fd:=⟨2,9,b38⟩
theorem aen:aJ ["pool","net","by","more","ways","begin","end","room","hours"] ["pool","net"] (au s38):={}
include cl in
theorem d38(b:gn K "_law_widened" "_law_widened" s38 f fd)(bO:mg "tuple"=ci)(a:↥(31,"_law_next",2,0)):↥(["pool","net"],2,f38):=by
 exists b,aen,0,0;refine aN ?_ ?_;.exists fc ?_ ?_ ?_;exact bF gf (dR a hr (bC (sv 0) (bC aa aD rfl) rfl)) aa (bj _);(· rfl';(· exists(),sv 1);exact aq);exact aq
 rfl';.exists 2,aA aZ aa (dR a hr (bC (sv 0) (bC aa aD rfl) rfl))
 rfl';.exists 3,aA aZ aa (dR a hr (bC (sv 0) (bC (aA lO aa aa) aD rfl) rfl))
 rfl';.exists 4,cT aR
 rfl';.exact(jO ei hc (bL (ao (sv 1) aa)) (fZ hc (aV (aM (i:=5) nd rfl oi oi) (aV (aM (i:=6) nd rfl oi oi) (aV (aM (i:=7) nd rfl oi oi) (aV (aM (i:=8) nd rfl oi oi) dX))))) (lF rfl (cO _ _ (cO _ _ (cO _ _ (cO _ _ iW 8) 7) 6) 5)) (by rfl';(· exists 7,aA aZ (aA dW (sv 7) (sv 3)) (dR a hr (bC (sv 0) (bC (aA aZ (sv 7) aa) aD rfl) rfl)));(· rfl';(· exists 8,aA aZ (aA dW (sv 8) (sv 2)) (dR a hr (bC (sv 0) (bC aa aD rfl) rfl)));(· rfl';exact cX (k:=4) rfl (by ac_rfl) (cF (dJ (sv 5) (dJ (sv 6) (dJ (sv 7) (dJ (sv 8) aR rfl) rfl) rfl) rfl));exact aq))))
 rfl';.exists(),cF (dJ (ao (sv 1) aa) (dJ (jA rfl (by rfl) bO (sv 4)) aR rfl) rfl)
 exact aq
noncomputable abbrev s39:eL:=top 52
noncomputable def b39:List S:=[.ifs (.not (.inst [.list] ↑0)) [.ret (.con (.bl a_))] [],.fX ↑0 [1] b_ [.ifs (.or (.not (.inst [.tuple] ↑1)) (.or (.cmp .ne (.blt .len [↑1]) ⇑2) (.not (.inst [.tuple] (.idx ↑1 ⇑0))))) [.ret (.con (.bl a_))] [],.fX (.bin .add (.idx ↑1 ⇑0) (.slice ↑1 ⇑1 (.con .non))) [2] b_ [.ifs (.or (.not (.inst [.int] ↑2)) (.inst [.bool] ↑2)) [.ret (.con (.bl a_))] []]],.ret (.con (.bl b_))]
noncomputable def f39:Fd:=⟨1,3,b39⟩
theorem ae0:aJ ["found","one","number"] ["found"] (au s39):={}
include cl in
theorem d39(a:gn K "_law_shaped" "_law_shaped" s39 f fd)(CJ:mg "bool"=ci)(Nq:mg "int"=ci)(di:mg "isinstance"=ci)(dq:mg "len"=ci)(dh:mg "list"=ci)(bO:mg "tuple"=ci):↥(["found"],1,f39):=by
 exists a,ae0,0,0;refine aN ?_ ?_;.exists fc ?_ ?_ ?_;exact jN (eY (jw .list rfl (by rfl) di (sv 0) (by rfl) dh (by kernel_rfl) (by decide) (by rfl)));(· rfl';(· exists(),fW);exact aq);exact aq
 rfl';.exists 1,bL (sv 0),0;(· rfl';(· exists fc ?_ ?_ ?_;exact SW.st (kW (jN (eY (jw .tuple rfl (by rfl) di (sv 1) (by rfl) bO (by kernel_rfl) (by decide) (by rfl)))) (kW (bF (v7 (bJ hr)) (je rfl (by rfl) dq (sv 1)) aa (bj _)) (jM (jN (eY (jw .tuple rfl (by rfl) di (ao (sv 1) aa) (by rfl) bO (by kernel_rfl) (by decide) (by rfl)))))));(· rfl';(· exists(),fW);exact aq);exact aq);(· rfl';(· exists 2,bL (aA aZ (ao (sv 1) aa) (rF (sv 1) (wH aa) vM)),0;(· rfl';(· exists fc ?_ ?_ ?_;exact SW.st (kW (jN (eY (jw .int rfl (by rfl) di (sv 2) (by rfl) Nq (by kernel_rfl) (by decide) (by rfl)))) (jM (eY (jw .bool rfl (by rfl) di (sv 2) (by rfl) CJ (by kernel_rfl) (by decide) (by rfl)))));(· rfl';(· exists(),fW);exact aq);exact aq);exact aq));exact aq))
 rfl';.exists(),fW
 exact aq
noncomputable abbrev s40:eL:=top 53
noncomputable def b40:List S:=[.fX (.bin .add (.lst [⇑0]) (.call 32 [↑0,⇑6])) [1] b_ [.asg 2 (.call 30 [↑1]),.asg 3 (.call 38 [↑2,.call 34 [↑2]]),.fX (.lst [⇑13,.bin .pow ⇑10 ⇑7,.bin .pow ⇑10 ⇑18]) [4] b_ [.asg 5 (.call 31 [↑2,↑4]),.fX (.xn ⇑0 ⇑2) [6] b_ [.asg 7 (.call 29 [↑3,↑5]),.ifs (.or (.not (.call 39 [↑7])) (.not (.call 37 [↑3,↑7]))) [.ret (.con (.bl a_))] [],.asg 8 ⇑0,.fX ↑7 [9,10] a_ [.ifs (.cmp .gt (.call 36 [↑3,↑9]) ↑5) [.ret (.con (.bl a_))] [],.asg 8 (.bin .add ↑8 (.bin .mul ↑10 (.bin .add (.bin .sub ↑5 (.call 36 [↑3,↑9])) ⇑1)))],.ifs (.cmp .ne ↑8 (.call 26 [↑3,↑5])) [.ret (.con (.bl a_))] [],.app 7 (.tup [.tup [],⇑1])]]],.ret (.con (.bl b_))]
noncomputable def f40:Fd:=⟨1,11,b40⟩
theorem aeu:aJ ["script","cell","pool","net","hours","last","turn","found","due","walk","loads"] ["script"] (au s40):={}
include cl in
theorem d40(b:gn K "law" "law" s40 f fd)(bY:mg "range"=ci)(e:↥(32,"_law_cells",2,0))(g:↥(37,"_law_fit",2,0))(a:↥(36,"_law_length",2,0))(h:↥(34,"_law_net",1,0))(j:↥(31,"_law_next",2,0))(l:↥(30,"_law_pool",1,0))(m:↥(39,"_law_shaped",1,0))(o:↥(38,"_law_widened",2,0))(p:↥(29,"best_rounds",2,0))(q:↥(26,"most_by",2,0)):↥(["script"],1,f40):=by
 exists b,aeu,0,0;refine aN ?_ ?_;.exists 1,bL (aA aZ (cT (dJ aa aR rfl)) (dR e hr (bC (sv 0) (bC aa aD rfl) rfl))),0;(· rfl';(· exists 2,dR l hr (bC (sv 1) aD rfl));(· rfl';(· exists 3,dR o hr (bC (sv 2) (bC (dR h hr (bC (sv 2) aD rfl)) aD rfl) rfl));(· rfl';(· exists 4,bL (cT (dJ aa (dJ (aA lO aa aa) (dJ (aA lO aa aa) aR rfl) rfl) rfl)),0;(· rfl';(· exists 5,dR j hr (bC (sv 2) (bC (sv 4) aD rfl) rfl));(· rfl';(· exists 6,my rfl (by rfl) bY aa,0;(· rfl';(· exists 7,dR p hr (bC (sv 3) (bC (sv 5) aD rfl) rfl));(· rfl';(· exists fc ?_ ?_ ?_;exact SW.st (kW (jN (eY (dR m hr (bC (sv 7) aD rfl)))) (jM (jN (eY (dR g hr (bC (sv 3) (bC (sv 7) aD rfl) rfl))))));(· rfl';(· exists(),fW);exact aq);exact aq);(· rfl';(· exists 8,aa);(· rfl';exact jO ei hc (bL (sv 7)) (fZ hc (aV (aM (i:=9) nd rfl oi oi) (aV (aM (i:=10) nd rfl oi oi) dX))) (lF rfl (cO _ _ (cO _ _ iW 10) 9)) (by rfl';(· exists fc ?_ ?_ ?_;exact bF gf (dR a hr (bC (sv 3) (bC (sv 9) aD rfl) rfl)) (sv 5) (bj _);(· rfl';(· exists(),fW);exact aq);exact aq);(· rfl';(· exists 8,aA aZ (sv 8) (aA dW (sv 10) (aA aZ (aA dz (sv 5) (dR a hr (bC (sv 3) (bC (sv 9) aD rfl) rfl))) aa)));exact aq));(· rfl';(· exists fc ?_ ?_ ?_;exact bF (v7 (bJ hr)) (sv 8) (dR q hr (bC (sv 3) (bC (sv 5) aD rfl) rfl)) (bj _);(· rfl';(· exists(),fW);exact aq);exact aq);(· rfl';exact cX (k:=7) rfl (by ac_rfl) (cF (dJ (cF aR) (dJ aa aR rfl) rfl));exact aq)))))));exact aq)));exact aq)))
 rfl';.exists(),fW
 exact aq
end _T
end
noncomputable section
namespace _T
open PySem _L Spec PyProof.Rows _H
noncomputable def Γ:Tab:=λi=>[f0,f1,f2,f3,f4,f5,f6,f7,f8,f9,f10,f11,f12,f13,f14,f15,Wd,f17,Y5,YH,f20,f21,f22,f23,f24,f25,f26,f27,YB,f29,f30,f31,f32,f33,f34,f35,f36,f37,f38,f39,f40][i]?
end _T
end
noncomputable section
namespace _T
open _H
variable{w n j N l:Nat}{z m a b i p g h k a0:Int}{Q:R->List Sl->Prop}{ns ch ls ps:List Int}{f:Bool}{F q:Int->Int}{ρ:List Sl}{kvs r:List (Int×Int)}{ks:List Nat}
local macro_rules|`(tactic|symm)=>`(tactic|first|apply aj|apply Gk)
noncomputable abbrev big:Int:=1606938044258990275541962092341162602522202993782792835301376
theorem cu{x y:Int}(h0:0<m)(c:m<big)(k:∀d x z:Int,0<=d->d<m->Q (.val (.int d)) [.own b_ [.int x,.int y,.int z],.val a_ (.int m)]):(run Γ w (n+1) 31 [.own b_ [.int x,.int y,.int z],.val a_ (.int m)]).sat Q:=by
 have e:m<1606938044258990275541962092341162602522202993782792835301376:=c;refine aK (d:=f31) rfl rfl (by decide) ?_;symm;simp[f31];constructor;.intro _;symm;simp[h0];apply aj;simp[h0,e,ik];apply aj;simp;exact k _ _ _ (Int.emod_nonneg _ (by lia)) (Int.emod_lt_of_pos _ h0)
 . intro _;symm;simp[ik];apply aj;simp;generalize t:(y+7919*(z+1))%1000000007=q;have u:0<=q/\q<1000000007:=by lia
   have o:-18446744073709551616<q+11/\q+11<18446744073709551616:=by lia
   symm;simp[o];generalize hs:(q+11)*(q+48271)%998244353=st;have s:-18446744073709551616<st/\st<18446744073709551616:=by lia
   symm;simp[s,h0];exact k _ _ _ (Int.emod_nonneg _ (by lia)) (Int.emod_lt_of_pos _ h0)
theorem LQ{x:Int}(k:∀a b c:Int,Q (.own [.int a,.int b,.int c]) [.val a_ (.int x)]):(run Γ w (n+1) 30 [.val a_ (.int x)]).sat Q:=by refine aK (d:=f30) rfl rfl (by decide) ?_;symm;simp[f30];exact k _ _ _
theorem Al{cs:List Int}{k m:Nat}{x:Int}(e:0<m)(o:cs.length=m):∃c:Int,at' (cs.map D.int) ((k:Int)%(m:Int))=aU (.int c)/\ik (cs.map D.int).length ((k:Int)%(m:Int))=aU (k%m):=by
 have h:k%m<cs.length:=by rw[o];exact Nat.mod_lt _ e
 rw[show(k:Int)%(m:Int)=((k%m:Nat):Int)by simp];exact⟨cs[k%m],cY (by simp[h]),J0 (by simpa using h)⟩
inductive JC(ns:List Int)(m:Nat)(_:Nat)(ρ:List Sl):Prop where|mk(cs:List Int)(s:Sl)(q0:ρ=[.val a_ (.lst (ns.map D.int)),.val a_ (.int m),.own a_ (cs.map D.int),s])(q1:fr s=b_)(q2:cs.length=min m ns.length)
theorem Gy{m:Nat}(o:0<m)(v:m<=63)(B:ns.length<=63)(k:∀cs:List Int,cs.length<=m->Q (.own (cs.map D.int)) [.val a_ (.lst (ns.map D.int)),.val a_ (.int m)]):(run Γ w (n+1) 32 [.val a_ (.lst (ns.map D.int)),.val a_ (.int m)]).sat Q:=by
 refine aK (d:=f32) rfl rfl (by decide) ?_;symm;simp[f32,Ob,part,Jh];apply aj;simp;refine⟨by lia,?_⟩;refine mL (JC ns m) ?_ ?_ ⟨ns.take m,.aO,?_,rfl,by simp⟩
 . rintro i _ hi⟨cs,s,rfl,hs,t⟩;have e:cs.length=m:=by lia
   obtain⟨c,y,u⟩:=Al (cs:=cs) (k:=i) (x:=0) o e;obtain⟨x,A⟩:∃x:Int,at' (ns.map D.int) ((m:Int)+(i:Int))=aU (.int x):=by rw[show(m:Int)+(i:Int)=((m+i:Nat):Int)by simp];exact⟨ns[m+i]'(by lia),cY (by simp)⟩
   simp[hs];apply aj;rw[dV]at u;simp[o,y,u,A];exact⟨cs.set (i%m) (c*31+x),.val a_ (.int (m+i)),by simp,rfl,by simpa using t⟩
 .rintro _⟨cs,s,rfl,hs,t⟩;symm;simp;exact k cs (by lia)
 .simp[cut,dM,List.map_take]
theorem zV{m:Nat}{M:Int}(e:M=(m:Int))(o:0<m)(c:m<=63)(s:ns.length<=63)(k:∀cs:List Int,cs.length<=m->Q (.own (cs.map D.int)) [.val a_ (.lst (ns.map D.int)),.val a_ (.int M)]):(run Γ w (n+1) 32 [.val a_ (.lst (ns.map D.int)),.val a_ (.int M)]).sat Q:=by subst e;exact Gy o c s k
structure Wy where(s t r h:Int)
variable{ws:List Wy}{v:Wy}
noncomputable def Wy.d(w:Wy):D:=.tup [.int w.s,.int w.t,.int w.r,.int w.h]
structure Wy.Ok(m:Int)(w:Wy):Prop where
 s0:0<=w.s
 s1:w.s<m
 t0:0<=w.t
 t1:w.t<m
 ne:w.s≠w.t
 r0:0<=w.r
 r1:w.r<=1000000000
 h0:1<=w.h
 h1:w.h<=1000000
theorem other(h1:0<=a)(c:a<m)(o:0<=b)(s:b<m-1):0<=(a+1+b)%m/\(a+1+b)%m<m/\(a+1+b)%m≠a:=by
 by_cases h:a+1+b<m;.rw[Int.emod_eq_of_lt (by lia) h];lia
 . have e:(a+1+b)%m=a+1+b-m:=by rw[<-Int.sub_emod_right,Int.emod_eq_of_lt (by lia) (by lia)]
   rw[e];lia
noncomputable def aL(m:Int)(ws:List Wy):D:=.tup [.int m,.tup (ws.map Wy.d)]
structure bh(m:Int)(ws:List Wy):Prop where
 m0:2<=m
 m1:m<=6
 len:ws.length<=12
 ok:∀w∈ws,w.Ok m
@[simp]theorem ahO{m:Int}{ws:List Wy}:GC (aL m ws) (.int 0)=aU (.val (.int m)):=rfl
@[simp]theorem aiu{m:Int}{ws:List Wy}:GC (aL m ws) (.int 1)=aU (.val (.tup (ws.map Wy.d))):=rfl
theorem Dm{lo hi:Int}(h0:0<=i)(h1:i<(ns.length:Int))(k:∀x∈ns,lo<=x/\x<=hi):∃r,at' (ns.map D.int) i=aU (.int r)/\lo<=r/\r<=hi:=by
 have c:i.toNat<ns.length:=by lia
 refine⟨ns[i.toNat],?_,k _ (ka c)⟩;rw[jQ h0 (by simpa using h1)];simp[c]
theorem wO(h:a<=1000000000000000000000):a<big:=by show _<(1606938044258990275541962092341162602522202993782792835301376:Int);lia
noncomputable abbrev Po(b:Bool)(x y z:Int):Sl:=.own b [.int x,.int y,.int z]
theorem QK{x y:Int}(h0:2<=m)(H:m<=6)(I:0<=p)(k:∀(v:Wy)(x z:Int),v.Ok m->v.r<=9->v.h<=4->Q (.val v.d) [.own b_ [.int x,.int y,.int z],.val a_ (.int m),.val a_ (.int p)]):(run Γ w (n+2) 33 [.own b_ [.int x,.int y,.int z],.val a_ (.int m),.val a_ (.int p)]).sat Q:=by
 refine aK (d:=f33) rfl rfl (by decide) ?_;symm;simp[f33];refine cu (by lia) (wO (by lia)) λa x z u A=>?_;simp;apply aj;simp;refine cu (by lia) (wO (by lia)) λb x z B C=>?_;obtain⟨t0,t1,J⟩:=other u A B C;simp[show 0<m by lia];generalize(a+1+b)%m=t at*;refine cQ (λρ=>∃x z s t,ρ=[.own b_ [.int x,.int y,.int z],.val a_ (.int m),.val a_ (.int p),.val a_ (.int s),.val a_ (.int t),.aO]/\0<=s/\s<m/\0<=t/\t<m/\s≠t) ?_ ?_
 . by_cases G:p+1<m
   . simp[G];refine cu (by decide) (by decide) λc x z _ _=>?_;simp;refine⟨λ_=>?_,λ_=>?_⟩;.symm;simp;exact⟨_,_,_,_,⟨⟨rfl,rfl⟩,rfl,rfl⟩,by lia⟩
     . symm;by_cases o:t<a
       . simp[o];refine cu (by decide) (by decide) λc x z _ _=>?_;simp;refine⟨λ_=>?_,λ_=>?_⟩;.symm;simp;exact⟨_,_,_,_,⟨⟨rfl,rfl⟩,rfl,rfl⟩,by lia⟩
         .exact⟨_,_,_,_,⟨⟨rfl,rfl⟩,rfl,rfl⟩,by lia⟩
       .simp[o];exact⟨_,_,_,_,⟨⟨rfl,rfl⟩,rfl,rfl⟩,by lia⟩
   . simp[G];symm;by_cases o:t<a
     . simp[o];refine cu (by decide) (by decide) λc x z _ _=>?_;simp;refine⟨λ_=>?_,λ_=>?_⟩;.symm;simp;exact⟨_,_,_,_,⟨⟨rfl,rfl⟩,rfl,rfl⟩,by lia⟩
       .exact⟨_,_,_,_,⟨⟨rfl,rfl⟩,rfl,rfl⟩,by lia⟩
     .simp[o];exact⟨_,_,_,_,⟨⟨rfl,rfl⟩,rfl,rfl⟩,by lia⟩
 rintro _⟨x,z,s,t,rfl,s0,s1,t0,t1,ne⟩;symm;simp;refine cu (by decide) (by decide) λc x z c0 c1=>?_;simp;refine cu (by decide) (by decide) λd x z d0 d1=>?_;obtain⟨r,e,r0,r1⟩:=Dm (ns:=[1,2,3,5,0,1,4,1+c]) (lo:=0) (hi:=9) d0 (by simpa using d1) (by simp;lia);simp only[c_,l6]at e;simp[e];apply aj;simp;refine cu (by decide) (by decide) λd x z d0 d1=>?_;obtain⟨h,e,E,h1⟩:=Dm (ns:=[1,1,1,2,2,3,1,4]) (lo:=1) (hi:=4) d0 (by simpa using d1) (by simp);simp only[c_,l6]at e;simp[e];exact k ⟨s,t,r,h⟩ x z ⟨s0,s1,t0,t1,ne,r0,by show r<=_;lia,E,by show h<=_;lia⟩ r1 h1
inductive FN(y m c:Int)(ρ:List Sl):Prop where|mk(x z:Int)(s:Sl)(q0:ρ=[.own b_ [.int x,.int y,.int z],.val a_ (.int m),.val a_ (.int c),s])(q1:fr s=b_)
noncomputable def WyP(m:Int)(d:D):Prop:=∃v:Wy,d=v.d/\v.Ok m/\v.r<=9/\v.h<=4
theorem wys{m:Int}:∀{xs:List D},(∀x∈xs,WyP m x)->∃ws:List Wy,xs=ws.map Wy.d/\∀v∈ws,v.Ok m/\v.r<=9/\v.h<=4|[],_=>⟨[],rfl,by simp⟩|x::xs,h=>by obtain⟨v,rfl,h1⟩:=h x (by simp);obtain⟨ws,rfl,c⟩:=wys (m:=m) (xs:=xs) λy e=>h y (by simp[e]);exact⟨v::ws,rfl,λu hu=>by
    rcases cK.mp hu with rfl|hu;.exact h1
    .exact c u hu⟩
theorem Pr{x y:Int}(k:∀(m:Int)(ws:List Wy)(x z:Int),bh m ws->(∀v∈ws,v.r<=9/\v.h<=4)->Q (.val (aL m ws)) [.own b_ [.int x,.int y,.int z]]):(run Γ w (n+3) 34 [.own b_ [.int x,.int y,.int z]]).sat Q:=by
 refine aK (d:=f34) rfl rfl (by decide) ?_;symm;simp[f34];refine cu (by decide) (by decide) λd x z d0 d1=>?_;obtain⟨m,e,m0,m1⟩:=Dm (ns:=[3,4,3,4,2,5,6,4]) (lo:=2) (hi:=6) d0 (by simpa using d1) (by simp);simp only[c_,l6]at e;simp[e];apply aj;simp;refine cu (by decide) (by decide) λd x z d0 d1=>?_;obtain⟨c,e,c0,c1⟩:=Dm (ns:=[5,3,4,6,2,7,8,10,12,1,0,5]) (lo:=0) (hi:=12) d0 (by simpa using d1) (by simp);simp only[c_,l6]at e;simp[e];apply aj;simp;refine⟨by lia,λ_=>?_,by show _<=16777216;lia⟩;refine Gi (FN y m c) (WyP m) ⟨x,z,.aO,rfl,rfl⟩ ?_ ?_;.rintro d hd _⟨x,z,s,rfl,hs⟩;obtain⟨j,_,rfl⟩:=da.mp hd;simp[hs];refine QK m0 m1 (by lia) λv x z o hr hh=>?_;simp;exact⟨⟨v,rfl,o,hr,hh⟩,_,_,_,rfl,rfl⟩
 .rintro xs _⟨x,z,s,rfl,hs⟩u A;obtain⟨ws,rfl,t⟩:=wys A;simp at u;simp;exact k m ws x z ⟨m0,m1,by lia,λv o=>(t v o).1⟩ λv o=>(t v o).2
inductive JWd(y m Nr more:Int)(net:Sl)(r:List D)(ρ:List Sl):Prop where|mk(x z:Int)(us vs:List Wy)(s5 s6 s7 s8:Sl)(q0:ρ=[.own b_ [.int x,.int y,.int z],net,.val a_ (.int Nr),.val a_ (.int more),.own a_ (vs.map Wy.d),s5,s6,s7,s8])(q1:A4 (fr s5=b_) (fr s6=b_) (fr s7=b_) (fr s8=b_))(q2:r=us.map Wy.d)(q3:(∀v∈us,v.Ok m/\v.r<=9/\v.h<=4))(q4:(∀v∈vs,v.Ok m))(q5:us.length+vs.length<=12)
theorem yF{x y:Int}(h:bh m ws)(hs:∀v∈ws,v.r<=9/\v.h<=4)(k:∀(vs:List Wy)(x z:Int),bh m vs->Q (.val (aL m vs)) [.own b_ [.int x,.int y,.int z],.val a_ (aL m ws)]):(run Γ w (n+2) 38 [.own b_ [.int x,.int y,.int z],.val a_ (aL m ws)]).sat Q:=by
 have B:=h.len;refine aK (d:=f38) rfl rfl (by decide) ?_;symm;simp[f38];refine cu (by decide) (by decide) λd x z d0 d1=>?_;simp;refine⟨λ_=>?_,λ_=>?_⟩;.symm;simp;exact k ws x z h
 symm;simp;refine cu (by decide) (by decide) λb x z b0 b1=>?_;simp;apply aj;simp;refine cu (by decide) (by decide) λc x z c0 c1=>?_;simp;apply aj;simp;apply aj;simp;obtain⟨e,O,b2,b3⟩:∃q,q=1+b/\1<=q/\q<=249000:=⟨_,rfl,by lia,by lia⟩;obtain⟨more,hc,c2,c3⟩:∃q,q=1+c/\1<=q/\q<=100000000:=⟨_,rfl,by lia,by lia⟩;rw[<-O,<-hc];refine bw (JWd y m e more _) ?_ ?_ ⟨x,z,ws,[],.aO,.aO,.aO,.aO,rfl,⟨rfl,rfl,rfl,rfl⟩,rfl,λv A=>⟨h.ok v A,hs v A⟩,by simp,by simpa using B⟩;.rintro d r _⟨x,z,us,vs,s5,s6,s7,s8,rfl,⟨H,I,J,L⟩,hr,C,A,M⟩;cases us with|nil=>cases hr|cons v us=>
     obtain⟨rfl,rfl⟩:d=v.d/\r=us.map Wy.d:=by simpa using hr
     have o:=C v (by simp);have hok:=o.1;have E:=o.2.1;have G:=o.2.2;have r0:=hok.r0;have h0:=hok.h0;have U:v.r*more<=9*more:=g9 E (by lia);have W:0<=v.r*more:=Int.mul_nonneg r0 (by lia);have X:v.h*e<=4*e:=g9 G (by lia);have Y:1*e<=v.h*e:=g9 h0 (by lia);simp[H,I,J,L,Wy.d];apply aj;simp[show v.r<18446744073709551616 by lia,show-18446744073709551616<v.r by lia];refine cu (by lia) (wO (by lia)) λd x z d0 d1=>?_;simp;apply aj;simp[show v.h<18446744073709551616 by lia,show-18446744073709551616<v.h by lia];refine cu (by decide) (by decide) λg x z Z g1=>?_;simp;apply aj;simp at M;simp[show vs.length<lim by show _<16777216;lia];refine⟨x,z,us,vs++[⟨v.s,v.t,v.r*more+d,v.h*e+g⟩],.val a_ (.int v.s),.val a_ (.int v.t),.val a_ (.int (v.r*more+d)),.val a_ (.int (v.h*e+g)),by simp[Wy.d],⟨rfl,rfl,rfl,rfl⟩,rfl,λu hu'=>C u (by simp[hu']),λu hu'=>?_,by simp;lia⟩;rcases eS.mp hu' with hu'|hu';.exact A u hu'
     .rw[dP.mp hu'];exact⟨hok.s0,hok.s1,hok.t0,hok.t1,hok.ne,by show 0<=v.r*more+d;lia,by show v.r*more+d<=_;lia,by show 1<=v.h*e+g;lia,by show v.h*e+g<=_;lia⟩
 .rintro _⟨x,z,us,vs,s5,s6,s7,s8,rfl,⟨H,I,J,L⟩,hr,C,A,M⟩;symm;simp;exact k vs x z ⟨h.m0,h.m1,by lia,A⟩
noncomputable def fO(j:Nat)(f:Bool):D:=.tup [.int j,.bl f]
noncomputable def frm(v:Wy)(f:Bool):Int:=if f then v.s else v.t
noncomputable def too(v:Wy)(f:Bool):Int:=if f then v.t else v.s
theorem lK(e:ws[j]?=aU v)(k:Q (.val (.tup [.int (frm v f),.int (too v f)])) [.val a_ (aL m ws),.val a_ (fO j f)]):(run Γ w (n+1) 0 [.val a_ (aL m ws),.val a_ (fO j f)]).sat Q:=by refine aK (d:=f0) rfl rfl (by decide) ?_;symm;simp[f0,fO,cY e];apply aj;cases f with|true=>simp[Wy.d];exact k|false=>simp[Wy.d];exact k
noncomputable def hsp(v:Wy)(f:Bool):Int:=if f then v.h else-v.h
theorem uF(e:ws[j]?=aU v)(k:Q (.val (.int (hsp v f))) [.val a_ (aL m ws),.val a_ (fO j f)]):(run Γ w (n+1) 1 [.val a_ (aL m ws),.val a_ (fO j f)]).sat Q:=by refine aK (d:=f1) rfl rfl (by decide) ?_;symm;simp[f1,fO,cY e,Wy.d];apply aj;cases f with|true=>simp;exact k|false=>simp;exact k
noncomputable def Ro(s:Sl)(fs:List Int):Prop:=s=.val a_ (.lst (fs.map D.int))\/∃b,s=.own b (fs.map D.int)
noncomputable def m8(v:Wy)(g:Int)(f:Bool):Int:=if f then v.r-g else g
theorem uV{s:Sl}{fs:List Int}(hs:Ro s fs)(e:ws[j]?=aU v)(c:fs[j]?=aU g)(k:Q (.val (.int (m8 v g f))) [.val a_ (aL m ws),s,.val a_ (fO j f)]):(run Γ w (n+1) 2 [.val a_ (aL m ws),s,.val a_ (fO j f)]).sat Q:=by refine aK (d:=f2) rfl rfl (by decide) ?_;symm;rcases hs with rfl|⟨b,rfl⟩;all_goals simp[f2,fO,cY c];apply aj;cases f with|true=>simp[cY e,Wy.d];exact k|false=>simp;exact k
@[simp]theorem acb{c:Call}{n x k:Nat}{src s:P}{is:List Nat}{one:Bool}{ρ:List Sl}:ex c n (.M9 x src k is one s) ρ=(srcOf (isVar src) (ev c src) ρ).bind λy e=>if y.length<=lim then(gO is one (ev c s) y [] (e++cr k .aO)).bind λt o=>(lift (put (aW ρ (isVar src) (o.take e.length)) x (.hold t)) ρ).bind λu _=>.ok .next u else .stuck:=(rfl)
@[simp]theorem adn{c:Call}{n:Nat}{src:P}{is:List Nat}{one:Bool}{body:List S}{ρ:List Sl}:ex c n (.Hx src is one body) ρ=(ev c src ρ).bind λr e=>(lift (items r.d) e).bind λo e=>jf is one (iM c n body) o e:=(rfl)
@[simp]theorem afx{c:Call}{n x:Nat}{ρ:List Sl}:ex c n (.dB x) ρ=match ρ[x]?with|some (.hold e)=>.ok .next (ρ.set x (.val a_ (.lst (e.map D.lst))))|_=>.stuck:=(rfl)
@[simp]theorem ac3{c:Call}{n x:Nat}{i e:P}{ρ:List Sl}:ex c n (.Nb x i e) ρ=(cJ (isVar i) (ev c i) ρ).bind λk ρ=>(lift (wz ρ x k) ρ).bind λ_ ρ=>(ev c e ρ).bind λr ρ=>vz ρ x ((jh ρ x).bind λo=>(iw k).bind λk=>jP o k λrow=>if row.length<lim then aU (row++[r.d])else ci):=(rfl)
@[simp]theorem acY{a:Sl}{l:List Sl}{x:Nat}:jh (a::l) x=match(a::l)[x]?with|some (.hold c)=>aU c|_=>ci:=rfl
@[simp]theorem Y9{ρ:List Sl}{x:Nat}{c:List (List D)}:vz ρ x (aU c)=.ok .next (ρ.set x (.hold c)):=rfl
@[simp]theorem agy{a:Sl}{l:List Sl}{x:Nat}{k:Int}:wz (a::l) x (.int k)=match(a::l)[x]?with|some (.hold c)=>rowAt c k|_=>ci:=by unfold wz jh;cases h:(a::l)[x]?with|none=>rfl|some s=>cases s<;>rfl
theorem qP{is:List Nat}{one:Bool}{s:Ev}(J:List Sl->Prop)(g:D->List D){Q:List (List D)->List Sl->Prop}:∀{u:List D}{c:List (List D)}{ρ:List Sl},J ρ->(∀d,d∈u->∀ρ,J ρ->∃o,cL ρ is one d=aU o/\(s o).sat λr t=>r=.own (g d)/\J t)->(∀ρ,J ρ->Q (c++u.map g) ρ)->(gO is one s u c ρ).sat Q|[],c,ρ,j,h,k=>by rw[Mr];simpa using k ρ j|d::r,c,ρ,j,h,k=>by obtain⟨o,e,h1⟩:=h d (by simp) ρ j;rw[Ly,e];show((s o).bind _).sat Q;rw[cC];refine h1.imp λx t⟨B,j3⟩=>?_;subst B;exact qP J g j3 (λd' y=>h d' (by simp[y])) λA C=>by simpa using k A C
@[simp]theorem agQ{c:Call}{x:Nat}{k:P}{ρ:List Sl}:ev c (.Tv x k) ρ=match ρ[x]?with
 |some (.cM _)=>(cJ (isVar k) (ev c k) ρ).bind λe ρ=>match ρ[x]?with|some (.cM kvs)=>lift ((iw e).bind λk=>(lA kvs k).map .val) ρ|_=>.stuck
 |_=>.stuck:=(rfl)
noncomputable def pI(kvs:List (Int×D))(k:Int):Bool:=(kvs.map (·.1)).contains k
noncomputable def Gd(kvs:List (Int×D)):List Int:=kvs.map (·.1)
noncomputable def dsV(kvs:List (Int×D)):List D:=kvs.map (·.2)
@[simp]theorem agX{c:Call}{x:Nat}{k:P}{neg:Bool}{ρ:List Sl}:ev c (.Tw x k neg) ρ=(cJ (isVar k) (ev c k) ρ).bind λe ρ=>match ρ[x]?with|some (.cM kvs)=>lift ((iw e).map λk=>.val (.bl (if neg then !pI kvs k else pI kvs k))) ρ|_=>.stuck:=(rfl)
@[simp]theorem ada{c:Call}{k e:Int}{ρ:List Sl}:ev c (.Ck k e) ρ=.ok (.val (.dv [k] [.int e])) ρ:=(rfl)
@[simp]theorem ahU{c:Call}{x:Nat}{ρ:List Sl}:ev c (.vw x) ρ=match ρ[x]?with|some (.gV m)=>.ok (.val (.dH m)) (ρ.set x (.val a_ (.dH m)))|some (.cM kvs)=>.ok (.val (.dv (Gd kvs) (dsV kvs))) (ρ.set x (.val a_ (.dv (Gd kvs) (dsV kvs))))|some (.own b e)=>.ok (.val (.lst e)) (ρ.set x (.val b (.lst e)))|some (.val _ d)=>.ok (.val d) ρ|_=>.stuck:=(rfl)
@[simp]theorem adF{c:Call}{n x:Nat}{ρ:List Sl}:ex c n (.Hy x) ρ=match ρ[x]?with|some .aO=>.ok .next (ρ.set x (.cM []))|some (.cM _)=>.ok .next (ρ.set x (.cM []))|some (.val a_ _)=>.ok .next (ρ.set x (.cM []))|_=>.stuck:=(rfl)
@[simp]theorem ac2{c:Call}{n x:Nat}{k e:P}{ρ:List Sl}:ex c n (.gq x k e) ρ=(ev c e ρ).bind λr ρ=>match ρ[x]?with
 |some (.cM _)=>(cJ (isVar k) (ev c k) ρ).bind λo ρ=>match ρ[x]?,o with|some (.cM kvs),.int k=>if kvs.length<lim then .ok .next (ρ.set x (.cM (gq kvs k r.d)))else .stuck|_,_=>.stuck
 |_=>.stuck:=(rfl)
@[simp]theorem acu{c:Call}{n x:Nat}{i e:P}{sub:Bool}{ρ:List Sl}:ex c n (.Hw x i sub e) ρ=(lift (HX ρ x) ρ).bind λ_ ρ=>(cJ (isVar i) (ev c i) ρ).bind λk ρ=>(lift (HX ρ x) ρ).bind λl ρ=>(lift ((iw k).bind λi=>at' l i) ρ).bind λa ρ=>(cJ (isVar e) (ev c e) ρ).bind λb ρ=>match a,b,ρ[x]?,k with
 |.int u,.int v,aU (.own s o),.int k=>match ik o.length k with|some j=>.ok .next (ρ.set x (.own s (o.set j (.int (if sub then u-v else u+v)))))|none=>.stuck
 |_,_,_,_=>.stuck:=(rfl)
@[simp]theorem YJ{x:Nat}{k:P}:isVar (.Tv x k)=ci:=rfl
@[simp]theorem Yv{x:Nat}{k:P}{b:Bool}:isVar (.Tw x k b)=ci:=rfl
@[simp]theorem aan{x:Nat}:isVar (.vw x)=ci:=rfl
@[simp]theorem Xg{k e:Int}:isVar (.Ck k e)=ci:=rfl
@[simp]theorem afh{kvs:List (Int×D)}:fr (.cM kvs)=a_:=rfl
@[simp]theorem adC{r:List (List D)}:fr (.hold r)=a_:=rfl
@[simp]theorem aa6:tQ .Ci=FJ:=rfl
@[simp]theorem adb:tQ .din=yK a_:=rfl
@[simp]theorem aaJ{ks:List Int}{c:List D}{k:Int}:FJ (.dv ks c) (.int k)=(lA (ks.zip c) k).map .val:=rfl
@[simp]theorem acq{ks:List Int}{c:List D}{k:Int}:yK a_ (.int k) (.dv ks c)=aU (.val (.bl (ks.contains k))):=rfl
@[simp]theorem Zu{ks:List Int}{c:List D}:blt .keys [.dv ks c]=aU (.val (.tup (ks.map D.int))):=rfl
@[simp]theorem adA{ks:List Int}{c:List D}:blt .ZF [.dv ks c]=if ks.length<=16777216 then aU (.own (ks.map D.int))else ci:=rfl
@[simp]theorem acD{c:List D}:blt .rvT [.lst c]=aU (.val (.tup c.reverse)):=rfl
@[simp]theorem Yt{kvs:List (Int×D)}{x:Option Sl}:eG (.cM kvs) x=.cM kvs:=by cases x<;>rfl
@[simp]theorem Vp{r:List (List D)}{x:Option Sl}:eG (.hold r) x=.hold r:=by cases x<;>rfl
structure HN(m:Int)(ws:List Wy):Prop where
 m0:2<=m
 m1:m<=6
 len:ws.length<=12
 ok:∀w∈ws,(0<=w.s/\w.s<m)/\(0<=w.t/\w.t<m)/\0<=w.h
theorem HN.of(h:bh m ws):HN m ws:=⟨h.m0,h.m1,h.len,λw c=>by have:=h.ok w c;exact⟨⟨this.s0,this.s1⟩,⟨this.t0,this.t1⟩,by have:=this.h0;lia⟩⟩
noncomputable abbrev az:=Nat×Bool
variable{s:az}{x:Nat×(Option az×Int)}{o:Option az×Int}{c:List az}{cs:List (List az×Int)}
noncomputable def sD(s:az):D:=fO s.1 s.2
noncomputable def j6(ws:List Wy)(fs:List Int)(p:Int)(s:az):Bool:=match ws[s.1]?,fs[s.1]?with|some v,aU g=>decide (frm v s.2=p)&&decide (0<m8 v g s.2)|_,_=>a_
theorem lq{fs:List Int}(e:ws[s.1]?=aU v)(t:fs[s.1]?=aU g):j6 ws fs p s=(decide (frm v s.2=p)&&decide (0<m8 v g s.2)):=by unfold j6;rw[e,t]
noncomputable def jl(ws:List Wy)(fs:List Int)(M:Nat)(l:List az):List (List az):=(dS M).map λ(p:Nat)=>l.filter (j6 ws fs (p:Int))
noncomputable def rD(l:List (List az)):List (List D):=l.map λr=>r.map sD
noncomputable def il(N:Nat):List az:=(dS N).flatMap λj=>[(j,b_),(j,a_)]
theorem uG:il (N+1)=(il N++[(N,b_)])++[(N,a_)]:=by simp[il,List.range_succ]
theorem xF:(il N).length=2*N:=by induction N with|zero=>rfl|succ N e=>rw[uG];simp[e];lia
theorem UJ(h:HN m ws)(e:ws[j]?=aU v)(f:Bool):0<=frm v f/\frm v f<m:=by have:=h.ok v (dl e);cases f<;>simp only[frm]<;>simp<;>lia
theorem Mx(h:HN m ws)(e:ws[j]?=aU v)(f:Bool):0<=too v f/\too v f<m:=by have:=h.ok v (dl e);cases f<;>simp only[too]<;>simp<;>lia
theorem Mq{fs:List Int}{M:Nat}{l:List az}(e:ws[s.1]?=aU v)(t:fs[s.1]?=aU g)(h:¬ 0<m8 v g s.2):jl ws fs M (l++[s])=jl ws fs M l:=by unfold jl;refine gu λp _=>?_;rw[lm];simp[lq e t,h]
theorem QM{fs:List Int}{l:List az}(e:ws[s.1]?=aU v)(u:fs[s.1]?=aU g)(h:0<m8 v g s.2)(y:0<=frm v s.2/\frm v s.2<m)(E:l.length<1000):(∃row,rowAt (rD (jl ws fs m.toNat l)) (frm v s.2)=aU row)/\jP (rD (jl ws fs m.toNat l)) (frm v s.2) (λrow=>if row.length<lim then aU (row++[sD s])else ci)=aU (rD (jl ws fs m.toNat (l++[s]))):=by
 have t:(rD (jl ws fs m.toNat l)).length=m.toNat:=by simp[rD,jl]
 have A:ik (rD (jl ws fs m.toNat l)).length (frm v s.2)=aU (frm v s.2).toNat:=by unfold ik;rw[t,if_pos y.1,if_pos (by lia)]
 have B:(rD (jl ws fs m.toNat l))[(frm v s.2).toNat]?=aU ((l.filter (j6 ws fs (frm v s.2))).map sD):=by simp[rD,jl,show(frm v s.2).toNat<m.toNat by lia,qq y.1]
 refine⟨⟨_,by unfold rowAt;rw[A];exact B⟩,?_⟩;unfold jP;rw[A];show((rD (jl ws fs m.toNat l))[(frm v s.2).toNat]?).bind _=_;rw[B];have C:((l.filter (j6 ws fs (frm v s.2))).map sD).length<lim:=by have:=jg (j6 ws fs (frm v s.2)) l;rw[dV];show _<16777216;lia
 show Option.map _ (if _ then _ else _)=_;rw[if_pos C];show aU _=aU _;congr 1;refine lI (by simp[rD,jl]) λi G H=>?_;rw[List.getElem_set];by_cases c:(frm v s.2).toNat=i
 . rw[if_pos c];have:(i:Int)=frm v s.2:=by lia
   simp[rD,jl,this,lm,lq e u,h]
 . rw[if_neg c];have:¬ frm v s.2=(i:Int):=by lia
   simp[rD,jl,lm,lq e u,this]
inductive JOp(m:Int)(ws:List Wy)(fs:List Int)(s:Sl)(i:Nat)(ρ:List Sl):Prop where|mk(s3 s4:Sl)(q0:ρ=[.val a_ (aL m ws),s,.hold (rD (jl ws fs m.toNat (il i))),s3,s4])(q1:fr s3=b_)(q2:fr s4=b_)
inductive JOq(m:Int)(ws:List Wy)(fs:List Int)(s:Sl)(i:Nat)(r:List D)(ρ:List Sl):Prop where|mk(l us:List az)(s4:Sl)(q0:ρ=[.val a_ (aL m ws),s,.hold (rD (jl ws fs m.toNat l)),.val a_ (.int i),s4])(q1:fr s4=b_)(q2:r=us.map sD)(q3:l++us=il (i+1))(q4:∀u∈us,u.1=i)
inductive F1n(a b c d e:Sl)(ρ:List Sl):Prop where|mk(s:Sl)(q0:ρ=[a,b,c,d,e,s])(q1:fr s=b_)
theorem JT{s:Sl}{fs:List Int}(hs:Ro s fs)(h:HN m ws)(W:fs.length=ws.length)(k:Q (.val (.lst ((rD (jl ws fs m.toNat (il ws.length))).map D.lst))) [.val a_ (aL m ws),s]):(run Γ w (n+2) 4 [.val a_ (aL m ws),s]).sat Q:=by
 have X:=h.len;have m0:=h.m0;have m1:=h.m1;refine aK (d:=f4) rfl rfl (by decide) ?_;refine cQ (λρ=>ρ=[.val a_ (aL m ws),s,.hold (rD (jl ws fs m.toNat (il 0))),.aO,.aO]) ?_ ?_
 . simp[f4,show m<=1000000000 by lia,show-1000000000<=m by lia];refine⟨λ_=>?_,by lia⟩;rw[cC];refine qP (F1n _ _ _ _ _) (λ_=>[]) ⟨.aO,rfl,rfl⟩ ?_ ?_;.rintro d hd _⟨L,rfl,t⟩;simp[t];exact⟨_,rfl,rfl⟩
   .rintro _⟨L,rfl,t⟩;simp[rD,jl,il]
 rintro _ rfl;refine cQ (JOp m ws fs s ws.length) ?_ ?_
 . simp[show(ws.length:Int)<=1000000000 by lia];refine mL (JOp m ws fs s) ?_ ?_ ⟨.aO,.aO,rfl,rfl,rfl⟩
   . rintro i _ hi⟨s3,s4,rfl,C,e⟩;have G:i<fs.length:=by lia
     have y:ws[i]?=aU ws[i]:=by simp[hi]
     have H:fs[i]?=aU fs[i]:=by simp[G]
     generalize ws[i]=v at*;generalize fs[i]=g at*;simp[C];apply aj;simp;refine bw (JOq m ws fs s i) ?_ ?_ ⟨il i,[(i,b_),(i,a_)],s4,rfl,e,rfl,by rw[uG];simp,by simp⟩;.rintro d r _⟨l,us,s4,rfl,e,hr,A,E⟩;cases us with|nil=>cases hr|cons u us=>
         obtain⟨rfl,rfl⟩:d=sD u/\r=us.map sD:=by simpa using hr
         obtain rfl:=E u (by simp);have B:(l++[u])++us=il (u.1+1):=by rw[eM];exact A
         have I:l.length<1000:=by have:=congrArg kX A;rw[xF]at this;simp at this;lia
         simp[e];apply aj;rcases hs with rfl|⟨b,rfl⟩;all_goals
          simp[sD];refine uV (by first|exact .inl rfl|exact .inr ⟨_,rfl⟩) y H ?_;simp;refine⟨λho=>?_,λho=>?_⟩;.obtain⟨⟨row,M⟩,O⟩:=QM (ws:=ws) (fs:=fs) (l:=l) y H ho (UJ h y u.2) I;symm;simp;refine lK y ?_;simp[M];have U:jP (rD (jl ws fs m.toNat l)) (frm v u.2) (λrow=>if row.length<lim then aU (row++[fO u.1 u.2])else ci)=_:=O;rw[U];simp;exact⟨l++[u],us,_,rfl,rfl,rfl,B,λx J=>E x (by simp[J])⟩
          .exact⟨l++[u],us,_,by rw[Mq y H (by lia)],rfl,rfl,B,λx J=>E x (by simp[J])⟩
     . rintro _⟨l,us,s4,rfl,e,hr,A,E⟩;have:us=[]:=by cases us with|nil=>rfl|cons _ _=>cases hr
       subst this;rw[e_]at A;subst A;simp;exact⟨_,_,rfl,rfl,e⟩
   .rintro _⟨s3,s4,rfl,C,e⟩;exact⟨rfl,_,_,rfl,C,e⟩
 rintro _⟨s3,s4,rfl,C,e⟩;symm;simp;apply aj;simp;exact k
noncomputable abbrev En:=Int×Nat×(Option az×Int)
variable{es vf:List En}
noncomputable def oS:Option az->D|none=>.non|some s=>sD s
noncomputable def zP(e:En):D:=.tup [.int e.2.2.2,.int (e.2.1:Int),oS e.2.2.1]
noncomputable def en(e:En):Int×D:=(e.1,zP e)
noncomputable def jr(es:List En):D:=.dv (es.map (·.1)) (es.map zP)
noncomputable def Am(p:Int):Int×D:=(p,.bl b_)
@[simp]theorem U6{l:List Int}:Gd (l.map Am)=l:=by simp[Gd,Am,iF]
theorem Bt{l:List En}:Gd (l.map en)=l.map (·.1):=by simp[Gd,en,iF]
theorem Ba{l:List En}:pI (l.map en) p=b_↔∃n o,(p,n,o)∈l:=by show(Gd (l.map en)).contains p=b_↔_;rw[Bt];simp
theorem kin_no{l:List En}(h:¬ ∃n o,(p,n,o)∈l):pI (l.map en) p=a_:=by cases e:pI (l.map en) p with|false=>rfl|true=>exact absurd (Ba.mp e) h
theorem vy{u:Type}{p:Int}{x y:u}:∀{l:List (Int×u)},(l.map (·.1)).Nodup->(p,x)∈l->(p,y)∈l->x=y
 |[],_,h,_=>by cases h|e::l,t,h1,h2=>by
   rw[c_,ez]at t;rcases cK.mp h1 with h1|h1<;>rcases cK.mp h2 with h2|h2;.rw[<-h2]at h1;cases h1;rfl
   .exact absurd (da.mpr ⟨_,h2,by rw[<-h1]⟩) t.1
   .exact absurd (da.mpr ⟨_,h1,by rw[<-h2]⟩) t.1
   .exact vy t.2 h1 h2
theorem pM{p:Int}{x:Nat×(Option az×Int)}:∀{l:List En},(l.map (·.1)).Nodup->(p,x)∈l->lA (l.map en) p=aU (zP (p,x))
 |[],_,h=>by cases h|e::l,t,h=>by
   have u:=t;rw[c_,ez]at t;unfold lA;rw[c_,gI];by_cases c:e.1=p;.obtain⟨q,y⟩:=e;cases c;have:=vy u h (by simp:(q,y)∈(q,y)::l);subst this;simp[en]
   . have h':(p,x)∈l:=by
      rcases cK.mp h with h|h;.exact absurd (by rw[<-h]) c
      .exact h
     simp[en,c];have:=pM t.2 h';unfold lA at this;simpa[en]using this
theorem mF{kvs:List (Int×D)}{d:D}(h:pI kvs p=a_):gq kvs p d=kvs++[(p,d)]:=by
 unfold gq;rw[if_neg];intro t;obtain⟨x,u,e⟩:=kG.mp t;have:pI kvs p=b_:=by show(kvs.map (·.1)).contains p=b_;rw[jv];exact da.mpr ⟨x,u,by simpa using e⟩
 rw[this]at h;cases h
theorem yu{kvs:List (Int×D)}{d:D}(h:pI kvs p=b_):gq kvs p d=kvs.map λe=>if e.1=p then(p,d)else e:=by
 unfold gq;rw[if_pos]
 . refine gu λe _=>?_;by_cases c:e.1=p;.simp[c]
   .simp[c]
 .have h':(kvs.map (·.1)).contains p=b_:=h;rw[jv]at h';obtain⟨x,t,e⟩:=da.mp h';exact kG.mpr ⟨x,t,by simpa using e⟩
noncomputable def yh(p:Int)(x:Nat×(Option az×Int))(e:En):En:=if e.1=p then(p,x)else e
noncomputable def pH(es:List En)(p:Int)(x:Nat×(Option az×Int)):List En:=if p∈es.map (·.1)then es.map (yh p x)else es++[(p,x)]
noncomputable def qZ(ch:List Int)(p:Int):List Int:=if p∈ch then ch else ch++[p]
theorem PQ:gq (es.map en) p (zP (p,x))=(pH es p x).map en:=by
 have t:pI (es.map en) p=b_↔p∈es.map (·.1):=by show(Gd (es.map en)).contains p=b_↔_;rw[Bt,jv]
 unfold pH;by_cases c:p∈es.map (·.1)
 . rw[if_pos c,yu (t.mpr c),eh,eh];refine gu λe _=>?_;show(if e.1=p then _ else _)=en (yh p x e);unfold yh;by_cases z:e.1=p;.rw[if_pos z,if_pos z];rfl
   .rw[if_neg z,if_neg z]
 .rw[if_neg c,mF (by cases e:pI (es.map en) p with|false=>rfl|true=>exact absurd (t.mp e) c)];simp[en]
theorem Ri:gq (ch.map Am) p (.bl b_)=(qZ ch p).map Am:=by
 have t:pI (ch.map Am) p=b_↔p∈ch:=by show(Gd (ch.map Am)).contains p=b_↔_;rw[U6,jv]
 unfold qZ;by_cases c:p∈ch
 . rw[if_pos c,yu (t.mpr c),eh];refine gu λe _=>?_;show(if e=p then _ else _)=Am e;by_cases z:e=p;.rw[if_pos z,z];rfl
   .rw[if_neg z]
 .rw[if_neg c,mF (by cases e:pI (ch.map Am) p with|false=>rfl|true=>exact absurd (t.mp e) c)];simp[Am]
theorem yt{q:Int}:q∈qZ ch p↔q∈ch\/q=p:=by
 unfold qZ;split;.exact⟨.inl,λh=>h.elim id λe=>by rw[e];assumption⟩
 .simp
theorem Dk(h:ch.Nodup):(qZ ch p).Nodup:=by
 unfold qZ;split;.exact h
 .rename_i t;rw[i5];exact⟨h,by simp,λa u b y e=>t (by rw[<-dP.mp y,<-e];exact u)⟩
theorem Gx:(pH es p x).map (·.1)=qZ (es.map (·.1)) p:=by
 unfold pH qZ;split
 . rw[eh];refine gu λe _=>?_;show(yh p x e).1=e.1;unfold yh;split;.rename_i h;exact h.symm
   .rfl
 .simp
theorem gH{q:Int}{y:Nat×(Option az×Int)}:(q,y)∈pH es p x↔(q=p/\y=x)\/(q≠p/\(q,y)∈es):=by
 unfold pH;split
 . rename_i t;obtain⟨E,u,A⟩:=da.mp t;rw[da];constructor
   . rintro⟨e,he,h⟩;unfold yh at h;split at h;.cases h;exact .inl ⟨rfl,rfl⟩
     .rename_i B;subst h;exact .inr ⟨B,he⟩
   . rintro(⟨rfl,rfl⟩|⟨h1,C⟩);.exact⟨E,u,by unfold yh;rw[if_pos A]⟩
     .exact⟨_,C,by unfold yh;rw[if_neg h1]⟩
 . rename_i t;rw[eS,dP];constructor
   . rintro(h|h);.refine .inr ⟨λe=>t ?_,h⟩;rw[<-e];exact da.mpr ⟨_,h,rfl⟩
     .cases h;exact .inl ⟨rfl,rfl⟩
   . rintro(⟨rfl,rfl⟩|⟨_,C⟩);.exact .inr rfl
     .exact .inl C
theorem iK{t:Type}[BEq t][LawfulBEq t]:∀{l l2:List t},l.Nodup->(∀a∈l,a∈l2)->l.length<=l2.length
 |[],_,_,_=>tU|a::l,l2,B,hs=>by
   have y:=hs a (by simp);have e:=ez.mp B;have:=iK (l:=l) (l2:=l2.erase a) e.2 λb A=>by
    have u:b≠a:=by rintro rfl;exact e.1 A
    exact(List.mem_erase_of_ne u).mpr (hs b (by simp[A]))
   rw[List.length_erase_of_mem y]at this;have:=n_ y;simp only[dU];lia
theorem six{l:List Int}(m1:m<=6)(e:l.Nodup)(h:∀p∈l,0<=p/\p<m):l.length<=6:=by
 have:=iK (l2:=[0,1,2,3,4,5]) e λq t=>by
  have:=h q t;have:q=0\/q=1\/q=2\/q=3\/q=4\/q=5:=by lia
  simpa using this
 simpa using this
theorem nM{fs:List Int}(h:j6 ws fs p s=b_):∃v g,ws[s.1]?=aU v/\fs[s.1]?=aU g/\frm v s.2=p/\0<m8 v g s.2:=by
 unfold j6 at h;split at h;.rename_i v g e t;simp at h;exact⟨v,g,e,t,h.1,h.2⟩
 .cases h
theorem yL(h:s.1<N):s∈il N:=by unfold il;rw[List.mem_flatMap];refine⟨s.1,by simp[h],?_⟩;obtain⟨j,f⟩:=s;cases f<;>simp
noncomputable def iy(ws:List Wy)(b:Int):List az->Int->Prop|[],a=>a=b|s::c,a=>∃v,ws[s.1]?=aU v/\frm v s.2=a/\iy ws b c (too v s.2)
noncomputable def hst(ws:List Wy)(s:az):Int:=match ws[s.1]?with|some v=>hsp v s.2|none=>0
theorem iu(e:ws[s.1]?=aU v):hst ws s=hsp v s.2:=by unfold hst;rw[e]
noncomputable def bA(ws:List Wy):List az->Int|[]=>0|s::c=>hst ws s+bA ws c
theorem j5{ws:List Wy}{c2:List az}:∀{c1:List az},bA ws (c1++c2)=bA ws c1+bA ws c2|[]=>by simp[bA]|s::c=>by rw[kb,bA,j5,bA];lia
noncomputable def tH(ws:List Wy)(fs:List Int)(c:List az):Prop:=∀s∈c,∃v,ws[s.1]?=aU v/\j6 ws fs (frm v s.2) s=b_
theorem iy.app{ws:List Wy}{b q:Int}{c2:List az}(t:iy ws b c2 q):∀{c1:List az}{a:Int},iy ws q c1 a->iy ws b (c1++c2) a|[],a,h=>by have:a=q:=h;rw[this];exact t|s::c,a,⟨v,e,u,h⟩=>⟨v,e,u,iy.app t h⟩
theorem CZ{ws:List Wy}{b:Int}{c2:List az}:∀{c1:List az}{a:Int},iy ws b (c1++c2) a->∃q,iy ws q c1 a/\iy ws b c2 q|[],a,h=>⟨a,rfl,h⟩|s::c,a,⟨v,e,t,h⟩=>by obtain⟨q,h1,u⟩:=CZ (c1:=c) h;exact⟨q,⟨v,e,t,h1⟩,u⟩
noncomputable def Pt(ws:List Wy)(fs:List Int)(F:Int->Int):Prop:=∀(s:az)(v:Wy),ws[s.1]?=aU v->j6 ws fs (frm v s.2) s=b_->F (too v s.2)<=F (frm v s.2)+hsp v s.2
theorem lu{ws:List Wy}{fs:List Int}{F:Int->Int}(h:Pt ws fs F){b:Int}:∀{c:List az}{a:Int},iy ws b c a->tH ws fs c->F b<=F a+bA ws c|[],a,t,_=>by have:a=b:=t;rw[this,bA];lia|s::c,a,⟨v,e,A,t⟩,ho=>by have h1:=lu h t λu B=>ho u (dr _ B);obtain⟨E,y,o⟩:=ho s (by simp);rw[e]at y;cases y;have C:=h s v e o;rw[A]at C;rw[bA,iu e];lia
noncomputable def qQ(ws:List Wy)(s:az):Int:=match ws[s.1]?with|some v=>too v s.2|none=>0
noncomputable def qR(ws:List Wy):List az->Int->List Int|[],a=>[a]|s::c,a=>a::qR ws c (qQ ws s)
theorem Eh{ws:List Wy}:∀{c:List az}{a:Int},(qR ws c a).length=c.length+1|[],_=>rfl|s::c,a=>by rw[qR,dU,Eh];rfl
theorem Lj{m:Int}{ws:List Wy}{b:Int}(u:HN m ws):∀{c:List az}{a:Int},iy ws b c a->0<=a/\a<m->∀q∈qR ws c a,0<=q/\q<m
 |[],a,_,t,q,hq=>by rw[qR,dP]at hq;rw[hq];exact t|s::c,a,⟨v,e,A,y⟩,t,q,hq=>by
   rw[qR,cK]at hq;rcases hq with rfl|hq;.exact t
   . have:qQ ws s=too v s.2:=by unfold qQ;rw[e]
     rw[this]at hq;exact Lj u y (Mx u e s.2) q hq
theorem Dh{ws:List Wy}{b q:Int}:∀{c:List az}{a:Int},iy ws b c a->q∈qR ws c a->∃c1 c2,c=c1++c2/\iy ws q c1 a/\iy ws b c2 q
 |[],a,h,hq=>by rw[qR,dP]at hq;exact⟨[],[],rfl,hq.symm,by rw[hq];exact h⟩|s::c,a,h,hq=>by
   rw[qR,cK]at hq;rcases hq with rfl|hq;.exact⟨[],s::c,rfl,rfl,h⟩
   . obtain⟨v,e,t,u⟩:=h;have:qQ ws s=too v s.2:=by unfold qQ;rw[e]
     rw[this]at hq;obtain⟨c1,c2,rfl,h1,y⟩:=Dh u hq;exact⟨s::c1,c2,rfl,⟨v,e,t,h1⟩,y⟩
theorem Dv{ws:List Wy}{b:Int}:∀{c:List az}{a:Int},iy ws b c a->¬(qR ws c a).Nodup->∃c1 c2 c3 q,c=c1++(c2++c3)/\0<c2.length/\iy ws q c1 a/\iy ws q c2 q/\iy ws b c3 q
 |[],a,_,t=>absurd (by simp[qR]) t|s::c,a,⟨v,e,y,A⟩,t=>by
   have C:qQ ws s=too v s.2:=by unfold qQ;rw[e]
   rw[qR,C,ez]at t;by_cases B:a∈qR ws c (too v s.2);.obtain⟨c1,c2,rfl,h1,u⟩:=Dh A B;exact⟨[],s::c1,c2,a,rfl,by simp,rfl,⟨v,e,y,h1⟩,u⟩
   .obtain⟨c1,c2,c3,q,rfl,h0,h1,u,E⟩:=Dv A λz=>t ⟨B,z⟩;exact⟨s::c1,c2,c3,q,rfl,h0,⟨v,e,y,h1⟩,u,E⟩
noncomputable def Le(h:Int)(n:Nat)(h':Int)(e:Nat):Prop:=h<h'\/(h=h'/\n<=e)
theorem Le.refl:Le h n h n:=.inr ⟨rfl,cN⟩
theorem Le.trans{c:Int}{k:Nat}(h1:Le a k b l)(e:Le b l c n):Le a k c n:=by unfold Le at*;lia
theorem Le.add{k:Nat}(x:Int)(h1:Le a k b l):Le (a+x) (k+1) (b+x) (l+1):=by unfold Le at*;lia
theorem short{fs:List Int}(A:HN m ws)(h:Pt ws fs F)(B:0<=a/\a<m):∀(n:Nat){c:List az},c.length<=n->iy ws b c a->tH ws fs c->∃e,iy ws b e a/\tH ws fs e/\e.length<=5/\Le (bA ws e) e.length (bA ws c) c.length/\(qR ws e a).Nodup:=by
 intro n;have done:∀{c:List az},iy ws b c a->(qR ws c a).Nodup->c.length<=5:=λt u=>by have:=six A.m1 u (Lj A t B);rw[Eh]at this;lia
 induction n with|zero=>intro c hc t ho;have:c=[]:=hB (by lia);subst this;exact⟨[],t,ho,by simp,.refl,by simp[qR]⟩|succ n C=>
   intro c hc t ho;by_cases u:(qR ws c a).Nodup;.exact⟨c,t,ho,done t u,.refl,u⟩
   .obtain⟨c1,c2,c3,q,rfl,h0,h1,E,G⟩:=Dv t u;have y:tH ws fs c2:=λs hs=>ho s (by simp[hs]);have hr:=lu h E y;simp only[ek]at hc;obtain⟨e,H,I,J,L,M⟩:=C (c:=c1++c3) (by simp only[ek];lia) (iy.app G h1) λs hs=>ho s (by rcases eS.mp hs with hs|hs<;>simp[hs]);refine⟨e,H,I,J,L.trans ?_,M⟩;rw[j5,j5,j5];simp only[ek];unfold Le;lia
structure G7(m:Int)(ws:List Wy)(fs:List Int)(bs:List (Int×Int))(es:List En):Prop where
 nd:(es.map (·.1)).Nodup
 inm:∀p l o,(p,l,o)∈es->0<=p/\p<m
 z:(0,0,(ci,0))∈es
 wk:∀p l o,(p,l,o)∈es->∃a b c,(a,b)∈bs/\iy ws p c a/\tH ws fs c/\c.length=l/\b+bA ws c=o.2
 stp:∀p l o,(p,l,o)∈es->(o.1=ci/\(p,o.2)∈bs/\l=0)\/∃(s:az)(v:Wy)(l':Nat)(o':Option az×Int),o.1=aU s/\ws[s.1]?=aU v/\too v s.2=p/\j6 ws fs (frm v s.2) s=b_/\(frm v s.2,l',o')∈es/\Le (o'.2+hsp v s.2) (l'+1) o.2 l
theorem G7.len{fs:List Int}{bs:List (Int×Int)}(h:G7 m ws fs bs es)(m1:m<=6):es.length<=6:=by
 have:=six m1 h.nd λp e=>by obtain⟨⟨p,l,o⟩,he,rfl⟩:=da.mp e;exact h.inm p l o he
 simpa using this
theorem ju{l:List En}{a b:Nat}{u:Option az×Int}(e:(l.map (·.1)).Nodup)(h1:(p,a,o)∈l)(t:(p,b,u)∈l):a=b/\o=u:=by have:=vy e h1 t;cases this;exact⟨rfl,rfl⟩
noncomputable def At(es:List En)(p h:Int)(n:Nat):Prop:=∃l o,(p,l,o)∈es/\Le o.2 l h n
theorem At.le{h':Int}{e:Nat}(a:At es p h n)(z:Le h n h' e):At es p h' e:=by obtain⟨l,o,h1,t⟩:=a;exact⟨l,o,h1,t.trans z⟩
structure Wh(m:Int)(ws:List Wy)(fs:List Int)(bs:List (Int×Int))(n:Nat)(R:List Int)(es:List En):Prop where
 cm:G7 m ws fs bs es
 row:∀p∈R,∃l o,(p,l,o)∈es
 nr:R.Nodup
 wl:∀a b c p,(a,b)∈bs->iy ws p c a->tH ws fs c->c.length<=n->At es p (b+bA ws c) c.length
 cl:∀l o(s:az)v,ws[s.1]?=aU v->frm v s.2∉R->(frm v s.2,l,o)∈es->j6 ws fs (frm v s.2) s=b_->At es (too v s.2) (o.2+hsp v s.2) (l+1)few:6<=n->R=[]
structure In(m:Int)(ws:List Wy)(fs:List Int)(bs:List (Int×Int))(n:Nat)(R:List Int)(vf:List En)(K:az->Prop)(es:List En)(ch:List Int):Prop where
 wh:Wh m ws fs bs n R vf
 cm:G7 m ws fs bs es
 le:∀p l o,(p,l,o)∈vf->At es p o.2 l
 out:∀p l o,p∉ch->(p,l,o)∈es->(p,l,o)∈vf
 chg:∀p∈ch,∃l o,(p,l,o)∈es
 nc:ch.Nodup
 dn:∀s,K s->∀v,ws[s.1]?=aU v->∀l o,(frm v s.2,l,o)∈vf->At es (too v s.2) (o.2+hsp v s.2) (l+1)few:5<=n->ch=[]
theorem In.row{m:Int}{ws:List Wy}{fs:List Int}{bs:List (Int×Int)}{n:Nat}{R:List Int}{vf:List En}{K:az->Prop}{es:List En}{ch:List Int}(h:In m ws fs bs n R vf K es ch){p:Int}(e:p∈R):∃l o,(p,l,o)∈es:=by obtain⟨l,o,z⟩:=h.wh.row p e;obtain⟨l,o,z,_⟩:=h.le _ _ _ z;exact⟨l,o,z⟩
theorem In.keep{fs:List Int}{bs:List (Int×Int)}{R:List Int}{K:az->Prop}(h:In m ws fs bs n R vf K es ch)(e:ws[s.1]?=aU v)(A:(frm v s.2,l,o)∈es)(B:At es (too v s.2) (o.2+hsp v s.2) (l+1)):In m ws fs bs n R vf (λu=>K u\/u=s) es ch:=by
 refine⟨h.wh,h.cm,h.le,h.out,h.chg,h.nc,λu t=>?_,h.few⟩;rcases t with t|rfl;.exact h.dn u t
 .intro G y H I h0;rw[e]at y;cases y;obtain⟨J,L,C,E⟩:=h.le _ _ _ h0;obtain⟨rfl,rfl⟩:=ju h.cm.nd A C;exact B.le (E.add _)
theorem In.put{fs:List Int}{bs:List (Int×Int)}{R:List Int}{K:az->Prop}(h:In m ws fs bs n R vf K es ch)(J:HN m ws)(hF:Pt ws fs F)(hb:∀a b,(a,b)∈bs->0<=a/\a<m)(hZ:∀a b c,(a,b)∈bs->iy ws 0 c a->tH ws fs c->0<=b+bA ws c)(e:ws[s.1]?=aU v)(L:(frm v s.2,l,o)∈es)(ho:j6 ws fs (frm v s.2) s=b_)(M:¬ At es (too v s.2) (o.2+hsp v s.2) (l+1)):In m ws fs bs n R vf (λu=>K u\/u=s) (pH es (too v s.2) (l+1,(aU s,o.2+hsp v s.2))) (qZ ch (too v s.2)):=by
 have m0:=J.m0;obtain⟨a0,b0,c,c0,c1,c2,c3,c4⟩:=h.cm.wk _ _ _ L;have G:iy ws (too v s.2) (c++[s]) a0:=iy.app (c2:=[s]) ⟨v,e,rfl,rfl⟩ c1;have O:tH ws fs (c++[s]):=λu hu=>by
  rcases eS.mp hu with hu|hu;.exact c2 u hu
  .rw[dP.mp hu];exact⟨v,e,ho⟩
 have Z:(c++[s]).length=l+1:=by simp[c3]
 have U:b0+bA ws (c++[s])=o.2+hsp v s.2:=by rw[j5,<-c4,bA,bA,iu e];lia
 have A:(too v s.2,l+1,(aU s,o.2+hsp v s.2))∈pH es (too v s.2) (l+1,(aU s,o.2+hsp v s.2)):=gH.mpr (.inl ⟨rfl,rfl⟩);have mono:∀{q l2 t},(q,l2,t)∈es->At (pH es (too v s.2) (l+1,(aU s,o.2+hsp v s.2))) q t.2 l2:=λ{q l2 t}z=>by
  by_cases c:q=too v s.2;.subst c;refine⟨_,_,A,?_⟩;have:¬ Le t.2 l2 (o.2+hsp v s.2) (l+1):=λy=>M ⟨_,_,z,y⟩;unfold Le at this ⊢;simp only;lia
  .exact⟨l2,t,gH.mpr (.inr ⟨c,z⟩),.refl⟩
 have TV:∀{q h n},At es q h n->At (pH es (too v s.2) (l+1,(aU s,o.2+hsp v s.2))) q h n:=λ⟨l2,t,E,W⟩=>(mono E).le W;refine⟨h.wh,⟨by rw[Gx];exact Dk h.cm.nd,λp l o z=>?_,?_,λp l2 t z=>?_,λp l2 t z=>?_⟩,λp l o z=>TV (h.le p l o z),λp l o hc z=>?_,λp hc=>?_,Dk h.nc,λu hu=>?_,λh5=>?_⟩
 . rcases gH.mp z with⟨rfl,_⟩|⟨_,z⟩;.exact Mx J e s.2
   .exact h.cm.inm p l o z
 .refine gH.mpr (.inr ⟨λz=>M ?_,h.cm.z⟩);have:=hZ a0 b0 _ c0 (by rw[<-z]at G;exact G) O;rw[U]at this;rw[<-z];exact⟨_,_,h.cm.z,by unfold Le;simp only;lia⟩
 . rcases gH.mp z with⟨rfl,y⟩|⟨_,z⟩;.cases y;exact⟨a0,b0,_,c0,G,O,Z,U⟩
   .exact h.cm.wk p l2 t z
 . rcases gH.mp z with⟨rfl,y⟩|⟨_,z⟩;.cases y;obtain⟨l',o',B,C⟩:=mono L;exact .inr ⟨s,v,l',o',rfl,e,rfl,ho,B,C.add _⟩
   . rcases h.cm.stp p l2 t z with z|⟨s',H,l',o',E,z3,z4,z5,z6,z7⟩;.exact .inl z
     .obtain⟨X,Y,B,C⟩:=mono z6;exact .inr ⟨s',H,X,Y,E,z3,z4,z5,B,(C.add _).trans z7⟩
 . rw[yt,not_or]at hc;rcases gH.mp z with⟨rfl,_⟩|⟨_,z⟩;.exact absurd rfl hc.2
   .exact h.out p l o hc.1 z
 . rcases yt.mp hc with hc|rfl;.obtain⟨l2,t,z⟩:=h.chg p hc;obtain⟨X,Y,z,_⟩:=mono z;exact⟨X,Y,z⟩
   .exact⟨_,_,A⟩
 . rcases hu with hu|rfl;.exact λH I l0 o0 h0=>TV (h.dn u hu H I l0 o0 h0)
   .intro H I l0 o0 h0;rw[e]at I;cases I;obtain⟨l1,o1,B,C⟩:=h.le _ _ _ h0;obtain⟨rfl,rfl⟩:=ju h.cm.nd L B;exact⟨_,_,A,C.add _⟩
 .obtain⟨c',B,C,q3,q4,_⟩:=short J hF (hb a0 b0 c0) _ (cN) G O;obtain⟨l1,o1,E,W⟩:=h.wh.wl a0 b0 c' _ c0 B C (by lia);rw[Z]at q4;refine absurd ((h.le _ _ _ E).le (W.trans ?_)) M;rw[<-U];unfold Le at q4 ⊢;lia
noncomputable def bE(p:Int×Int):En:=(p.1,0,(ci,p.2))
theorem Wh.start{fs:List Int}{bs:List (Int×Int)}(A:∀a b,(a,b)∈bs->0<=a/\a<m)(h0:(0,0)∈bs)(y:(bs.map (·.1)).Nodup):Wh m ws fs bs 0 (bs.map (·.1)) (bs.map bE):=by
 have B:(bs.map bE).map (·.1)=bs.map (·.1):=by rw[eh];rfl
 have un:∀{p l o},(p,l,o)∈bs.map bE->l=0/\o.1=ci/\(p,o.2)∈bs:=λ{p l o}z=>by obtain⟨⟨a,b⟩,h1,e⟩:=da.mp z;cases e;exact⟨rfl,rfl,h1⟩
 have to:∀{a b},(a,b)∈bs->(a,0,(ci,b))∈bs.map bE:=λh=>da.mpr ⟨_,h,rfl⟩;refine⟨⟨by rw[B];exact y,λp l o z=>A _ _ (un z).2.2,to h0,λp l o z=>?_,λp l o z=>.inl ⟨(un z).2.1,(un z).2.2,(un z).1⟩⟩,λp t=>?_,y,λa b c p u t _ hc=>?_,λl o s v _ C z=>?_,λh=>by lia⟩;.exact⟨p,o.2,[],(un z).2.2,rfl,λs hs=>(by cases hs),(un z).1.symm,by rw[bA];lia⟩
 .obtain⟨⟨a,b⟩,h1,rfl⟩:=da.mp t;exact⟨_,_,to h1⟩
 .cases c with|nil=>have:a=p:=t;subst this;exact⟨0,(ci,b),to u,by unfold Le bA;simp⟩|cons _ _=>simp at hc
 .exact absurd (da.mpr ⟨_,(un z).2.2,rfl⟩) C
theorem Wh.to{fs:List Int}{bs:List (Int×Int)}{R:List Int}(h:Wh m ws fs bs n R es):In m ws fs bs n R es (λ_=>False) es []:=⟨h,h.cm,λp l o z=>⟨l,o,z,.refl⟩,λp l o _ z=>z,λp e=>(by cases e),.nil,λs hs=>hs.elim,λ_=>rfl⟩
theorem In.out'{fs:List Int}{bs:List (Int×Int)}{R:List Int}(h:In m ws fs bs n R vf (λs=>∃p∈R,j6 ws fs p s=b_) es ch):Wh m ws fs bs (n+1) ch es:=by
 have t:∀{p h' k},At vf p h' k->At es p h' k:=λ⟨l,o,A,B⟩=>(h.le _ _ _ A).le B;have G:∀(s:az)v l o,ws[s.1]?=aU v->(frm v s.2,l,o)∈vf->j6 ws fs (frm v s.2) s=b_->At es (too v s.2) (o.2+hsp v s.2) (l+1):=λs v l o e z ho=>by
  by_cases c:frm v s.2∈R;.exact h.dn s ⟨_,c,ho⟩ v e l o z
  .exact t (h.wh.cl l o s v e c z ho)
 refine⟨h.cm,h.chg,h.nc,λa b c p y H ho hc=>?_,λl o s v e hc z hs=>G s v l o e (h.out _ _ _ hc z) hs,λO=>h.few (by lia)⟩;rcases oN c with rfl|⟨C,s,rfl⟩;.exact t (h.wh.wl a b [] p y H ho (tU))
 . rw[oQ]at*;obtain⟨q,h1,v,e,rfl,E⟩:=CZ H;have E:too v s.2=p:=E;subst E;obtain⟨U,I,J⟩:=ho s (by simp);rw[e]at I;cases I;simp only[ek,dU,mx]at hc;obtain⟨l,o,A,B⟩:=h.wh.wl a b C _ y h1 (λu L=>ho u (by simp[L])) (by lia);refine(G s v l o e A J).le ?_;have:=B.add (hsp v s.2);have M:bA ws (C++[s])=bA ws C+hsp v s.2:=by rw[j5,bA,bA,iu e];lia
   rw[M,<-n4];simpa using this
structure xW(m:Int)(ws:List Wy)(fs:List Int)(bs:List (Int×Int))(es:List En):Prop where
 cm:G7 m ws fs bs es
 cl:∀l o(s:az)v,ws[s.1]?=aU v->(frm v s.2,l,o)∈es->j6 ws fs (frm v s.2) s=b_->At es (too v s.2) (o.2+hsp v s.2) (l+1)bg:∀a b,(a,b)∈bs->At es a b 0
theorem Wh.fin{fs:List Int}{bs:List (Int×Int)}(h:Wh m ws fs bs n [] es):xW m ws fs bs es:=⟨h.cm,λl o s v e z ho=>h.cl l o s v e (by simp) z ho,λa b t=>by have:=h.wl a b [] a t rfl (λs hs=>by cases hs) (tU);simpa[bA]using this⟩
noncomputable abbrev Cme(m:Int)(ws:List Wy)(fs:List Int)(es:List En):Prop:=G7 m ws fs [(0,0)] es
noncomputable abbrev iU(m:Int)(ws:List Wy)(fs:List Int)(es:List En):Prop:=xW m ws fs [(0,0)] es
theorem In.imp{fs:List Int}{bs:List (Int×Int)}{R:List Int}{K e:az->Prop}(h:In m ws fs bs n R vf K es ch)(z:∀s,e s->K s):In m ws fs bs n R vf e es ch:=⟨h.wh,h.cm,h.le,h.out,h.chg,h.nc,λs hs=>h.dn s (z s hs),h.few⟩
theorem Vy{fs:List Int}{l:List az}(e:0<=p/\p<m):at' ((rD (jl ws fs m.toNat l)).map D.lst) p=aU (.lst ((l.filter (j6 ws fs p)).map sD)):=by rw[jQ e.1 (by simp[rD,jl];lia)];simp[rD,jl,show p.toNat<m.toNat by lia,qq e.1]
@[simp]theorem cut3{a b c:D}:Ob (.tup [a,b,c]) (part (.con .non) .non) (part (.con (.int 2)) (.int 2))=aU (.val (.tup [a,b])):=rfl
theorem Xu{j:Int}:cm .lt (.tup [.int a,.int i]) (.tup [.int b,.int j])=aU (bK [a,i] [b,j]):=rfl
theorem lex_lt{i:Nat}:bK [a,(i:Int)] [b,(j:Int)]=b_↔¬ Le b j a i:=by unfold Le;simp[bK];lia
noncomputable def xj(bs:List (Int×Int)):Sl:=.val a_ (.dv (bs.map (·.1)) (bs.map λp=>.int p.2))
noncomputable abbrev bg:Sl:=xj [(0,0)]
inductive JC2(m:Int)(ws:List Wy)(fs:List Int)(bs:List (Int×Int))(a0 a1 a2 a3 a6:Sl)(n:Nat)(R:List Int)(vf:List En)(pre:List Int)(p:Int)(r:List D)(ρ:List Sl):Prop where|mk(es:List En)(ch:List Int)(bf us:List az)(s8 s9 gA:Sl)(q0:ρ=[a0,a1,a2,a3,.cM (es.map en),.val a_ (.int p),a6,.cM (ch.map Am),s8,s9,gA])(q1:A3 (fr s8=b_) (fr s9=b_) (fr gA=b_))(q2:r=us.map sD)(q3:bf++us=(il ws.length).filter (j6 ws fs p))(q4:In m ws fs bs n R vf (λs=>(∃q∈pre,j6 ws fs q s=b_)\/s∈bf) es ch)
inductive JC1(m:Int)(ws:List Wy)(fs:List Int)(bs:List (Int×Int))(a0 a1 a2 a3 a6:Sl)(n:Nat)(R:List Int)(vf:List En)(r:List D)(ρ:List Sl):Prop where|mk(es:List En)(ch pre qs:List Int)(s5 s8 s9 gA:Sl)(q0:ρ=[a0,a1,a2,a3,.cM (es.map en),s5,a6,.cM (ch.map Am),s8,s9,gA])(q1:A4 (fr s5=b_) (fr s8=b_) (fr s9=b_) (fr gA=b_))(q2:r=qs.map D.int)(q3:pre++qs=R)(q4:In m ws fs bs n R vf (λs=>∃q∈pre,j6 ws fs q s=b_) es ch)
inductive JCw(m:Int)(ws:List Wy)(fs:List Int)(bs:List (Int×Int))(a0 a1 a2 a3:Sl)(M:Nat)(ρ:List Sl):Prop where|mk(n:Nat)(R:List Int)(es:List En)(s5 s7 s8 s9 gA:Sl)(q0:ρ=[a0,a1,a2,a3,.cM (es.map en),s5,.own a_ (R.map D.int),s7,s8,s9,gA])(q1:A4 (fr s5=b_) (fr s8=b_) (fr s9=b_) (fr gA=b_))(q2:(s7=.aO\/∃d,s7=.val a_ d))(q3:Wh m ws fs bs n R es)(q4:7<=n+M)
inductive JC0(a0 a1 a2 a3:Sl)(bs:List (Int×Int))(r:List D)(ρ:List Sl):Prop where|mk(bf us:List (Int×Int))(s5:Sl)(q0:ρ=[a0,a1,a2,a3,.cM ((bf.map bE).map en),s5,.aO,.aO,.aO,.aO,.aO])(q1:fr s5=b_)(q2:r=(us.map (·.1)).map D.int)(q3:bf++us=bs)
theorem DK{a b:Int}:∀{bs:List (Int×Int)},(bs.map (·.1)).Nodup->(a,b)∈bs->lA ((bs.map (·.1)).zip (bs.map λp=>D.int p.2)) a=aU (.int b)
 |[],_,h=>by cases h|p::bs,e,h=>by
   rw[c_,ez]at e;unfold lA;rw[c_,c_,List.zip_cons_cons,gI];rcases cK.mp h with h|h;.subst h;simp
   .have t:p.1≠a:=λz=>e.1 (by rw[z];exact da.mpr ⟨_,h,rfl⟩);have:=DK e.2 h;unfold lA at this;simpa[t]using this
theorem uW{s:Sl}{fs:List Int}{bs:List (Int×Int)}(hw:100<=w)(hF:Pt ws fs F)(hb:∀a b,(a,b)∈bs->0<=a/\a<m)(h0:(0,0)∈bs)(I:(bs.map (·.1)).Nodup)(hZ:∀a b c,(a,b)∈bs->iy ws 0 c a->tH ws fs c->0<=b+bA ws c)(hs:Ro s fs)(h:HN m ws)(hf:fs.length=ws.length)(k:∀es,xW m ws fs bs es->Q (.val (jr es)) [.val a_ (aL m ws),s,xj bs]):(run Γ w (n+3) 5 [.val a_ (aL m ws),s,xj bs]).sat Q:=by
 have hn:=h.len;have m0:=h.m0;have m1:=h.m1;refine aK (d:=f5) rfl rfl (by decide) ?_;refine cQ (λρ=>ρ=[.val a_ (aL m ws),s,xj bs,.val a_ (.lst ((rD (jl ws fs m.toNat (il ws.length))).map D.lst)),.aO,.aO,.aO,.aO,.aO,.aO,.aO]) ?_ ?_;.have aw:=hs;rcases hs with rfl|⟨b,rfl⟩;all_goals simp[f5,xj];refine JT (by first|exact .inl rfl|exact .inr ⟨_,rfl⟩) h hf ?_;simp
 rintro _ rfl;generalize hA:((rD (jl ws fs m.toNat (il ws.length))).map D.lst)=A;have ax:bs.length<=6:=by
  have:=six m1 I λp hp=>by obtain⟨⟨a,b⟩,h1,rfl⟩:=da.mp hp;exact hb a b h1
  simpa using this
 apply aj;simp;apply aj;simp[xj];refine bw (JC0 (.val a_ (aL m ws)) s (xj bs) (.val a_ (.lst A)) bs) ?_ ?_ ⟨[],bs,.aO,rfl,rfl,by rw[eh],rfl⟩;.rintro d r _⟨E,us,s5,rfl,O,hr,hd⟩;cases us with|nil=>cases hr|cons u us=>
     obtain⟨rfl,rfl⟩:d=.int u.1/\r=(us.map (·.1)).map D.int:=by simpa using hr
     have al:(E++[u])++us=bs:=by rw[eM];exact hd
     have hg:=DK (a:=u.1) (b:=u.2) I (by rw[<-hd];simp);have hk:pI ((E.map bE).map en) u.1=a_:=kin_no λ⟨l,o,z⟩=>by obtain⟨⟨a,b⟩,h1,e⟩:=da.mp z;cases e;rw[<-hd,gy,i5]at I;exact I.2.2 u.1 (da.mpr ⟨_,h1,rfl⟩) u.1 (by simp) rfl
     have hp:gq ((E.map bE).map en) u.1 (.tup [.int u.2,.int 0,.non])=((E++[u]).map bE).map en:=by rw[mF hk,gy,gy];rfl
     have ay:E.length<=bs.length:=by rw[<-hd];simp
     simp[O];apply aj;rw[eh]at hp;simp[xj,hg];refine⟨λ_=>⟨E++[u],us,.val a_ (.int u.1),by rw[hp],rfl,(eh ..).symm,al⟩,by show _<16777216;lia⟩
 rintro _⟨E,us,s5,rfl,O,hr,hd⟩;have:us=[]:=by cases us with|nil=>rfl|cons _ _=>cases hr
 subst this;rw[e_]at hd;obtain rfl:bs=E:=hd.symm;simp;apply aj;simp[xj,show bs.length<=16777216 by lia];apply aj;simp;rw[show map (en ∘ bE) bs=(bs.map bE).map en from(eh ..).symm,show map (D.int ∘ λx=>x.1) bs=(bs.map (·.1)).map D.int from(eh ..).symm];refine fP (JCw m ws fs bs _ _ _ _) ?_ (k:=w) (m:=50) (by lia) ⟨0,bs.map (·.1),bs.map bE,s5,.aO,.aO,.aO,.aO,rfl,⟨O,rfl,rfl,rfl⟩,.inl rfl,Wh.start hb h0 I,by lia⟩;rintro M _⟨Z,R,es,s5,s7,s8,s9,gA,rfl,⟨O,U,W,C⟩,h7,hW,hM⟩;by_cases hR:R=[];.subst hR;simp;apply aj;simp;have:=k es hW.fin;simp[iF,en];exact this
 . have am:0<R.length:=by cases R with|nil=>exact absurd rfl hR|cons _ _=>simp
   simp[am];refine cQ (λρ=>ρ=[.val a_ (aL m ws),s,xj bs,.val a_ (.lst A),.cM (es.map en),s5,.own a_ (R.map D.int),.cM [],s8,s9,gA]) ?_ ?_
   . rcases h7 with rfl|⟨d,rfl⟩;.simp[xj]
     .simp[xj]
   rintro _ rfl;symm;simp;refine bw (JC1 m ws fs bs _ _ _ _ _ Z R es) ?_ ?_ ⟨es,[],[],R,s5,s8,s9,gA,rfl,⟨O,U,W,C⟩,rfl,rfl,hW.to.imp λs hs=>by obtain⟨q,hq,_⟩:=hs;cases hq⟩;.rintro d r _⟨t,ch,pre,qs,s5,s8,s9,gA,rfl,⟨O,U,W,C⟩,hr,J,B⟩;cases qs with|nil=>cases hr|cons p qs=>
       obtain⟨rfl,rfl⟩:d=.int p/\r=qs.map D.int:=by simpa using hr
       have af:p∈R:=by rw[<-J];simp
       have ap:0<=p/\p<m:=by obtain⟨l,o,ho⟩:=B.row af;exact B.cm.inm _ _ _ ho
       have Y:=Vy (ws:=ws) (fs:=fs) (l:=il ws.length) ap;rw[hA]at Y;simp[O];apply aj;simp[Y];refine bw (JC2 m ws fs bs _ _ _ _ _ Z R es pre p) ?_ ?_ ⟨t,ch,[],_,s8,s9,gA,rfl,⟨U,W,C⟩,rfl,rfl,B.imp λs hs=>by rcases hs with hs|hs;exact hs;cases hs⟩;.rintro d r _⟨t,ch,E,us,s8,s9,gA,rfl,⟨U,W,C⟩,hr,L,B⟩;cases us with|nil=>cases hr|cons u us=>
           obtain⟨rfl,rfl⟩:d=sD u/\r=us.map sD:=by simpa using hr
           have hu:j6 ws fs p u=b_:=by
            have:u∈(il ws.length).filter (j6 ws fs p):=by rw[<-L];simp
            exact(hX.mp this).2
           obtain⟨v,g,e1,e2,e3,e4⟩:=nM hu;have ag:(E++[u])++us=(il ws.length).filter (j6 ws fs p):=by rw[eM];exact L
           obtain⟨H,op,ac⟩:=B.row af;subst e3;have gp:=pM B.cm.nd ac;have av:=B.cm.len m1;have ar:ch.length<=6:=six m1 B.nc λq hq=>by obtain⟨l,o,z⟩:=B.chg q hq;exact B.cm.inm _ _ _ z
           have ah:∀s,((∃q∈pre,j6 ws fs q s=b_)\/s∈E++[u])->((∃q∈pre,j6 ws fs q s=b_)\/s∈E)\/s=u:=λs hs=>by
            rcases hs with hs|hs;.exact .inl (.inl hs)
            . rcases eS.mp hs with hs|hs;.exact .inl (.inr hs)
              .exact .inr (by simpa using hs)
           simp[U];apply aj;simp[sD];refine lK e1 ?_;simp[W];apply aj;simp[gp,zP];refine uF e1 ?_;simp[gp,zP,C];apply aj;have keep:At t (too v u.2) (op.2+hsp v u.2) (H+1)->JC2 m ws fs bs (.val a_ (aL m ws)) s (xj bs) (.val a_ (.lst A)) (.lent (R.map D.int)) Z R es pre (frm v u.2) (us.map sD) [.val a_ (aL m ws),s,xj bs,.val a_ (.lst A),.cM (t.map en),.val a_ (.int (frm v u.2)),.lent (R.map D.int),.cM (ch.map Am),.val a_ (fO u.1 u.2),.val a_ (.int (too v u.2)),.val a_ (.tup [.int (op.2+hsp v u.2),.int ((H:Int)+1)])]:=λG=>⟨t,ch,E++[u],us,_,_,_,rfl,⟨rfl,rfl,rfl⟩,rfl,ag,(B.keep e1 ac G).imp ah⟩;have ai:¬ At t (too v u.2) (op.2+hsp v u.2) (H+1)->JC2 m ws fs bs (.val a_ (aL m ws)) s (xj bs) (.val a_ (.lst A)) (.lent (R.map D.int)) Z R es pre (frm v u.2) (us.map sD) [.val a_ (aL m ws),s,xj bs,.val a_ (.lst A),.cM ((pH t (too v u.2) (H+1,(aU u,op.2+hsp v u.2))).map en),.val a_ (.int (frm v u.2)),.lent (R.map D.int),.cM ((qZ ch (too v u.2)).map Am),.val a_ (fO u.1 u.2),.val a_ (.int (too v u.2)),.val a_ (.tup [.int (op.2+hsp v u.2),.int ((H:Int)+1)])]:=λG=>⟨_,_,E++[u],us,_,_,_,rfl,⟨rfl,rfl,rfl⟩,rfl,ag,(B.put h hF hb hZ e1 ac hu G).imp ah⟩;have p1:gq (t.map en) (too v u.2) (.tup [.int (op.2+hsp v u.2),.int ((H:Int)+1),fO u.1 u.2])=(pH t (too v u.2) (H+1,(aU u,op.2+hsp v u.2))).map en:=by rw[<-PQ];simp[zP,oS,sD]
           have p2:gq (ch.map Am) (too v u.2) (.bl b_)=(qZ ch (too v u.2)).map Am:=Ri;by_cases hq:∃l o,(too v u.2,l,o)∈t
           . obtain⟨l,o,X⟩:=hq;have gt:=pM B.cm.nd X;have kt:pI (t.map en) (too v u.2)=b_:=Ba.mpr ⟨l,o,X⟩;have ae:=lex_lt (a:=op.2+hsp v u.2) (i:=H+1) (b:=o.2) (j:=l);rw[show((H+1:Nat):Int)=(H:Int)+1 by lia]at ae;simp[kt,gt,zP,Xu];refine⟨λz=>?_,λz=>?_⟩
             . have G:¬ At t (too v u.2) (op.2+hsp v u.2) (H+1):=λ⟨l2,o2,y1,y2⟩=>by obtain⟨rfl,rfl⟩:=ju B.cm.nd X y1;exact ae.mp z y2
               symm;simp[p1];refine⟨by decide,λ_=>?_,by show _<16777216;lia⟩;symm;simp[p2];refine⟨λ_=>ai G,by show _<16777216;lia⟩
             . have G:At t (too v u.2) (op.2+hsp v u.2) (H+1):=by
                refine⟨l,o,X,?_⟩;by_cases y:Le o.2 l (op.2+hsp v u.2) (H+1);.exact y
                .rw[ae.mpr y]at z;cases z
               exact keep G
           .have kt:pI (t.map en) (too v u.2)=a_:=kin_no hq;simp[kt];apply aj;simp[p1];refine⟨by decide,λ_=>?_,by show _<16777216;lia⟩;symm;simp[p2];exact⟨λ_=>ai λ⟨l2,o2,y1,_⟩=>hq ⟨l2,o2,y1⟩,by show _<16777216;lia⟩
       . rintro _⟨t,ch,E,us,s8,s9,gA,rfl,⟨U,W,C⟩,hr,L,B⟩;have:us=[]:=by cases us with|nil=>rfl|cons _ _=>cases hr
         subst this;rw[e_]at L;simp;refine⟨t,ch,pre++[p],qs,_,_,_,_,rfl,⟨rfl,U,W,C⟩,rfl,by rw[eM];exact J,B.imp λs hs=>?_⟩;obtain⟨q,hq,hs⟩:=hs;rcases eS.mp hq with hq|hq;.exact .inl ⟨q,hq,hs⟩
         . obtain rfl:q=p:=by simpa using hq
           refine .inr ?_;rw[L];obtain⟨v,g,e1,_⟩:=nM hs;exact hX.mpr ⟨yL (dD e1).1,hs⟩
   . rintro _⟨t,ch,pre,qs,s5,s8,s9,gA,rfl,⟨O,U,W,C⟩,hr,J,B⟩;have:qs=[]:=by cases qs with|nil=>rfl|cons _ _=>cases hr
     subst this;rw[e_]at J;subst J;have ar:ch.length<=6:=six m1 B.nc λq hq=>by obtain⟨l,o,z⟩:=B.chg q hq;exact B.cm.inm _ _ _ z
     have hO:=B.out';have aE:Z<6:=by
      by_cases c:6<=Z;.exact absurd (hW.few c) hR
      .lia
     simp;apply aj;simp[show ch.length<=16777216 by lia];exact⟨M-1,by lia,Z+1,ch,t,_,_,_,_,_,rfl,⟨O,U,W,C⟩,.inr ⟨_,rfl⟩,hO,by lia⟩
theorem yJ{s:Sl}{fs:List Int}(u:100<=w)(t:Pt ws fs F)(hs:Ro s fs)(h:HN m ws)(y:fs.length=ws.length)(k:∀es,iU m ws fs es->Q (.val (jr es)) [.val a_ (aL m ws),s,bg]):(run Γ w (n+3) 5 [.val a_ (aL m ws),s,bg]).sat Q:=by
 have m0:=h.m0;have one:∀{a b:Int},(a,b)∈[((0:Int),(0:Int))]->a=0/\b=0:=λe=>by have:=dP.mp e;cases this;exact⟨rfl,rfl⟩
 refine uW u t (λa b e=>by obtain⟨rfl,rfl⟩:=one e;lia) (by simp) (by simp) (λa b c e A ho=>?_) hs h y k;obtain⟨rfl,rfl⟩:=one e;have:=lu t A ho;lia
theorem iU.all{m:Int}{ws:List Wy}{fs:List Int}{es:List En}(h:iU m ws fs es){b:Int}:∀{c:List az}{a:Int}{l:Nat}{o:Option az×Int},iy ws b c a->tH ws fs c->(a,l,o)∈es->At es b (o.2+bA ws c) (l+c.length)|[],a,l,o,t,_,z=>by have:a=b:=t;subst this;exact⟨l,o,z,by unfold Le bA;simp⟩|s::c,a,l,o,⟨v,e,A,t⟩,ho,z=>by subst A;obtain⟨J,y,B⟩:=ho s (by simp);rw[e]at y;cases y;obtain⟨L,M,C,O⟩:=h.cl l o s v e z B;obtain⟨l2,E,G,H⟩:=iU.all h t (λu I=>ho u (dr _ I)) C;refine⟨l2,E,G,H.trans ?_⟩;rw[bA,iu e,dU];unfold Le at*;lia
theorem iU.l5{fs:List Int}(h:iU m ws fs es)(t:HN m ws)(u:Pt ws fs F)(z:(p,l,o)∈es):l<=5:=by
 have m0:=t.m0;obtain⟨a,b,c,e,c1,c2,c3,c4⟩:=h.cm.wk p l o z;obtain⟨rfl,rfl⟩:a=0/\b=0:=by have:=dP.mp e;cases this;exact⟨rfl,rfl⟩
 obtain⟨G,y,A,H,B,_⟩:=short t u ⟨by lia,by lia⟩ _ (cN) c1 c2;obtain⟨l2,I,C,E⟩:=h.all y A h.cm.z;obtain⟨rfl,rfl⟩:=ju h.cm.nd z C;rw[Int.zero_add]at c4;rw[c3,c4]at B;unfold Le at*;simp only at E;lia
theorem iU.on{fs:List Int}(h:iU m ws fs es)(z:(p,l,o)∈es):(o=(ci,0)/\p=0/\l=0)\/∃(s:az)(v:Wy)(t:Nat)(e:Option az×Int),o=(aU s,e.2+hsp v s.2)/\l=t+1/\ws[s.1]?=aU v/\too v s.2=p/\j6 ws fs (frm v s.2) s=b_/\(frm v s.2,t,e)∈es:=by
 rcases h.cm.stp p l o z with⟨h1,u,rfl⟩|⟨s,v,t,e,h1,y,rfl,A,B,E⟩
 . obtain⟨rfl,_⟩:p=0/\o.2=0:=by have:=dP.mp u;exact⟨congrArg Prod.fst this,congrArg Prod.snd this⟩
   exact .inl ⟨(ju h.cm.nd z h.cm.z).2,rfl,rfl⟩
 . obtain⟨l2,G,C,H⟩:=h.cl t e s v y B A;obtain⟨rfl,rfl⟩:=ju h.cm.nd z C;refine .inr ⟨s,v,t,e,?_,?_,y,rfl,A,B⟩;.exact Prod.ext_iff.mpr ⟨h1,by show _=e.2+hsp v s.2;unfold Le at*;lia⟩
   .unfold Le at*;lia
structure R9(ws:List Wy)(fs:List Int)(es:List En)(p:Int)(L:Nat)(H:Int)(a:Int)(l:Nat)(h:Int)(c:List az):Prop where
 Nt:iy ws p c a
 jl:tH ws fs c
 nd:(c.map (·.1)).Nodup
 lv:∀s∈c,∀v,ws[s.1]?=aU v->∃l1 o1 o2,(frm v s.2,l1,o1)∈es/\(too v s.2,l1+1,o2)∈es/\l<=l1
 len:c.length+l=L
 hrs:bA ws c+h=H
theorem jZ{g:Bool}(h:g≠f):frm v g=too v f/\too v g=frm v f:=by cases f<;>cases g<;>first|exact absurd rfl h|exact⟨rfl,rfl⟩
theorem R9.cons{m:Int}{ws:List Wy}{fs:List Int}{es:List En}{p:Int}{L l:Nat}{H x:Int}{c:List az}{s:az}{v:Wy}{o I:Option az×Int}(hc:Cme m ws fs es)(h:R9 ws fs es p L H (too v s.2) (l+1) (x+hsp v s.2) c)(e:ws[s.1]?=aU v)(h1:(too v s.2,l+1,o)∈es)(B:(frm v s.2,l,I)∈es)(ho:j6 ws fs (frm v s.2) s=b_):R9 ws fs es p L H (frm v s.2) l x (s::c):=by
 refine⟨⟨v,e,rfl,h.Nt⟩,λu hu=>?_,?_,λu hu x ex=>?_,by have:=h.len;simp only[dU];lia,by have:=h.hrs;rw[bA,iu e];lia⟩
 . rcases cK.mp hu with rfl|hu;.exact⟨v,e,ho⟩
   .exact h.jl u hu
 . rw[c_,ez];refine⟨λJ=>?_,h.nd⟩;obtain⟨t,ht,M⟩:=da.mp J;obtain⟨C,E,G,y,A,O⟩:=h.lv t ht v (by rw[M];exact e);by_cases z:t.2=s.2;.rw[z]at y;have:=(ju hc.nd y B).1;lia
   .rw[(jZ z).2]at A;have:=(ju hc.nd A B).1;lia
 . rcases cK.mp hu with rfl|hu;.rw[e]at ex;cases ex;exact⟨l,_,_,B,h1,cN⟩
   .obtain⟨C,E,G,y,A,O⟩:=h.lv u hu x ex;exact⟨C,E,G,y,A,by lia⟩
theorem yO(e:(es.map (·.1)).Nodup)(h:(p,x)∈es):lA ((es.map (·.1)).zip (es.map zP)) p=aU (zP (p,x)):=by
 have:(es.map (·.1)).zip (es.map zP)=es.map en:=by rw[List.zip_map'];rfl
 rw[this];exact pM e h
inductive JSt(m:Int)(ws:List Wy)(fs:List Int)(es:List En)(p:Int)(L:Nat)(H:Int)(a0 a1 a2:Sl)(M:Nat)(ρ:List Sl):Prop where|mk(a:Int)(l:Nat)(o:Option az×Int)(c:List az)(s5:Sl)(q0:ρ=[a0,a1,a2,.own a_ (c.reverse.map sD),.val a_ (.int a),s5])(q1:fr s5=b_)(q2:(a,l,o)∈es)(q3:R9 ws fs es p L H a l o.2 c)(q4:l<=M)
theorem Ge{L:Nat}{fs:List Int}(H:100<=w)(h:iU m ws fs es)(I:L<=5)(C:(p,L,o)∈es)(k:∀c,R9 ws fs es p L o.2 0 0 0 c->Q (.val (.tup (c.map sD))) [.val a_ (aL m ws),.val a_ (jr es),.val a_ (.int p)]):(run Γ w (n+2) 6 [.val a_ (aL m ws),.val a_ (jr es),.val a_ (.int p)]).sat Q:=by
 refine aK (d:=f6) rfl rfl (by decide) ?_;symm;simp[f6];apply aj;simp;apply aj;simp;refine fP (JSt m ws fs es p L o.2 _ _ _) ?_ (k:=w) (m:=L) (by lia) ⟨p,L,o,[],.aO,rfl,rfl,C,⟨rfl,λs hs=>(by cases hs),by simp,by simp,by simp,by rw[bA];lia⟩,cN⟩;rintro M _⟨a,l,J,c,s5,rfl,E,t,hc,O⟩;have u:=yO h.cm.nd t;rcases h.on t with⟨rfl,rfl,rfl⟩|⟨s,v,A,G,rfl,rfl,e,rfl,ho,B⟩;.simp[jr,u,zP,oS];symm;simp;exact k c hc
 . simp[jr,u,zP,oS,sD,fO];symm;simp[u,zP,oS,E];apply aj;have y:c.length<16777216:=by have:=hc.len;lia
   simp[y];apply aj;simp[sD];refine lK e ?_;simp;exact⟨A,by lia,frm v s.2,A,G,s::c,.val a_ (fO s.1 s.2),by simp[jr,sD],rfl,B,hc.cons h.cm e t B ho,cN⟩
noncomputable def sg(x:Int)(f:Bool):Int:=if f then x else-x
noncomputable def gB(x:Int)(fs:List Int)(s:az):List Int:=fs.set s.1 ((fs[s.1]?.getD 0)+sg x s.2)
noncomputable def aug(x:Int)(fs:List Int)(c:List az):List Int:=c.foldl (gB x) fs
@[simp]theorem xu{x:Int}{fs:List Int}{s:az}:(gB x fs s).length=fs.length:=by simp[gB]
theorem gW{x:Int}:∀{c:List az}{fs:List Int},(aug x fs c).length=fs.length|[],_=>rfl|s::c,fs=>by show(aug x (gB x fs s) c).length=_;rw[gW,xu]
theorem gZ{x:Int}{j:Nat}:∀{c:List az}{fs:List Int},j∉c.map (·.1)->(aug x fs c)[j]?=fs[j]?|[],_,_=>rfl|s::c,fs,h=>by rw[c_,cK,not_or]at h;show(aug x (gB x fs s) c)[j]?=_;rw[gZ h.2];unfold gB;rw[eI (λz=>h.1 z.symm)]
theorem nj{x:Int}:∀{c:List az}{fs:List Int}{s:az}{g:Int},(c.map (·.1)).Nodup->s∈c->fs[s.1]?=aU g->(aug x fs c)[s.1]?=aU (g+sg x s.2)
 |[],_,_,_,_,h,_=>by cases h|t::c,fs,s,g,u,h,e=>by
   rw[c_,ez]at u;show(aug x (gB x fs t) c)[s.1]?=_;have y:=(dD e).1;rcases cK.mp h with rfl|h;.rw[gZ u.1];unfold gB;rw[cp y,e];rfl
   .refine nj u.2 h ?_;unfold gB;rw[eI (λz=>u.1 (by rw[z];exact da.mpr ⟨s,h,rfl⟩))];exact e
inductive JWt(x:Int)(fs:List Int)(c:List az)(a0 a1 a2:Sl)(r:List D)(ρ:List Sl):Prop where|mk(bf us:List az)(s4 s5:Sl)(q0:ρ=[a0,a1,a2,.own a_ ((aug x fs bf).map D.int),s4,s5])(q1:fr s4=b_)(q2:fr s5=b_)(q3:r=us.map sD)(q4:bf++us=c)
theorem yc{s:Sl}{x:Int}{fs:List Int}(hs:Ro s fs)(hc:∀s∈c,s.1<fs.length)(k:Q (.own ((aug x fs c).map D.int)) [s,.val a_ (.tup (c.map sD)),.val a_ (.int x)]):(run Γ w (n+1) 7 [s,.val a_ (.tup (c.map sD)),.val a_ (.int x)]).sat Q:=by
 refine aK (d:=f7) rfl rfl (by decide) ?_;refine cQ (λρ=>ρ=[s,.val a_ (.tup (c.map sD)),.val a_ (.int x),.own a_ (fs.map D.int),.aO,.aO]) ?_ ?_;.rcases hs with rfl|⟨b,rfl⟩;all_goals simp[f7]
 rintro _ rfl;symm;simp;refine bw (JWt x fs c _ _ _) ?_ ?_ ⟨[],c,.aO,.aO,rfl,rfl,rfl,rfl,rfl⟩;.rintro d r _⟨e,us,s4,s5,rfl,A,B,hr,hd⟩;cases us with|nil=>cases hr|cons u us=>
     obtain⟨rfl,rfl⟩:d=sD u/\r=us.map sD:=by simpa using hr
     have E:u.1<(aug x fs e).length:=by rw[gW];exact hc u (by rw[<-hd];simp)
     have y:(aug x fs e)[u.1]?=aU (aug x fs e)[u.1]:=by simp[E]
     have C:ik (aug x fs e).length (u.1:Int)=aU u.1:=by unfold ik;rw[if_pos (by lia),if_pos (by lia)];simp
     have he:aug x fs (e++[u])=(aug x fs e).set u.1 ((aug x fs e)[u.1]+sg x u.2):=by unfold aug;rw[k9];show gB x (aug x fs e) u=_;unfold gB;rw[y];rfl
     have t:(e++[u])++us=c:=by rw[eM];exact hd
     generalize(aug x fs e)[u.1]=g at*;simp[sD,fO,A,B];apply aj;obtain⟨j,f⟩:=u;cases f with|true=>simp[cY y,C];exact⟨e++[(j,b_)],us,_,_,by rw[he,rf];rfl,rfl,rfl,rfl,t⟩|false=>simp[cY y,C];exact⟨e++[(j,a_)],us,_,_,by rw[he,rf];rfl,rfl,rfl,rfl,t⟩
 . rintro _⟨e,us,s4,s5,rfl,A,B,hr,hd⟩;have:us=[]:=by cases us with|nil=>rfl|cons _ _=>cases hr
   subst this;rw[e_]at hd;subst hd;simp;apply aj;simp;exact k
noncomputable def Hh(F:Int->Int)(D:Int):List En->Int->Int|[],p=>F p+D|e::es,p=>if e.1=p then e.2.2.2 else Hh F D es p
theorem iz{F:Int->Int}{D p:Int}{l:Nat}{o:Option az×Int}:∀{es:List En},(es.map (·.1)).Nodup->(p,l,o)∈es->Hh F D es p=o.2
 |[],_,h=>by cases h|e::es,t,h=>by
   rw[c_,ez]at t;rw[Hh];rcases cK.mp h with rfl|h;.rw[if_pos rfl]
   .rw[if_neg (λz=>t.1 (by rw[z];exact da.mpr ⟨_,h,rfl⟩))];exact iz t.2 h
theorem pY{F:Int->Int}{D p:Int}:∀{es:List En},(¬ ∃l o,(p,l,o)∈es)->Hh F D es p=F p+D|[],_=>rfl|e::es,h=>by rw[Hh,if_neg (λz=>h ⟨e.2.1,e.2.2,by rw[<-z];simp⟩)];exact pY λ⟨l,o,z⟩=>h ⟨l,o,dr _ z⟩
theorem Di(F:Int->Int):∀(es:List En),∃D,∀p l o,(p,l,o)∈es->o.2<=F p+D
 |[]=>⟨0,λ_ _ _ h=>by cases h⟩|e::es=>by
   obtain⟨D,h⟩:=Di F es;refine⟨max D (e.2.2.2-F e.1),λp l o z=>?_⟩;rcases cK.mp z with rfl|z;.simp only;lia
   .have:=h p l o z;lia
theorem iU.pt{fs:List Int}{D:Int}(h:iU m ws fs es)(t:Pt ws fs F)(u:∀p l o,(p,l,o)∈es->o.2<=F p+D):Pt ws fs (Hh F D es):=λs v e ho=>by
 by_cases c:∃l o,(frm v s.2,l,o)∈es;.obtain⟨l,o,c⟩:=c;obtain⟨l2,y,c2,c3⟩:=h.cl l o s v e c ho;rw[iz h.cm.nd c,iz h.cm.nd c2];unfold Le at c3;lia
 . rw[pY c];have h1:=t s v e ho;by_cases c2:∃l o,(too v s.2,l,o)∈es;.obtain⟨l2,y,c2⟩:=c2;rw[iz h.cm.nd c2];have:=u _ _ _ c2;lia
   .rw[pY c2];lia
theorem Ml{fs:List Int}{G:Int->Int}(d:Int)(t:Pt ws fs F)(u:Pt ws fs G):Pt ws fs (λp=>min (F p) (G p+d)):=λs v e ho=>by have h1:=t s v e ho;have y:=u s v e ho;simp only;lia
theorem uO{ws:List Wy}{fs:List Int}{F:Int->Int}(h:Pt ws fs F){b:Int}:∀{c:List az}{a:Int},iy ws b c a->tH ws fs c->F b=F a+bA ws c->∀s∈c,∀v,ws[s.1]?=aU v->F (too v s.2)=F (frm v s.2)+hsp v s.2
 |[],_,_,_,_,s,hs,_,_=>by cases hs|s::c,a,⟨v,e,y,A⟩,ho,he,u,hu,x,ex=>by
   have t:tH ws fs c:=λu hu=>ho u (dr _ hu);have h1:=lu h A t;obtain⟨E,B,o⟩:=ho s (by simp);rw[e]at B;cases B;have C:=h s v e o;rw[y]at C;rw[bA,iu e]at he;rcases cK.mp hu with rfl|hu;.rw[e]at ex;cases ex;rw[y];lia
   .exact uO h A t (by lia) u hu x ex
theorem qz{fs:List Int}{x:Int}{t:az}(hc:tH ws fs c)(e:ws[t.1]?=aU v)(h:j6 ws (aug x fs c) (frm v t.2) t=b_):j6 ws fs (frm v t.2) t=b_\/∃s∈c,s.1=t.1/\t.2≠s.2:=by
 by_cases z:t.1∈c.map (·.1)
 . obtain⟨s,hs,es⟩:=da.mp z;by_cases q:t.2=s.2;.have:t=s:=Prod.ext_iff.mpr ⟨es.symm,q⟩;subst this;obtain⟨y,u,o⟩:=hc t hs;rw[e]at u;cases u;exact .inl o
   .exact .inr ⟨s,hs,es,q⟩
 .refine .inl ?_;unfold j6 at h ⊢;rwa[gZ z]at h
theorem Pt.aug{ws:List Wy}{fs:List Int}{F:Int->Int}(h:Pt ws fs F){a b x:Int}{c:List az}(y:iy ws b c a)(ho:tH ws fs c)(he:F b=F a+bA ws c):Pt ws (aug x fs c) F:=λt v e o=>by
 rcases qz ho e o with o|⟨u,A,B,ne⟩;.exact h t v e o
 . have:=uO h y ho he u A v (by rw[B];exact e);rw[(jZ ne).1,(jZ ne).2];have:hsp v t.2=-hsp v u.2:=by cases h1:t.2<;>cases h2:u.2<;>simp[hsp]<;>(rw[h1,h2]at ne;exact absurd rfl ne)
   lia
noncomputable def dC(G:Wy->Int):List Wy->List Int->Int|v::ws,g::fs=>G v*g+dC G ws fs|_,_=>0
noncomputable def lr(H:Wy->Int):List Wy->Int|[]=>0|v::ws=>H v+lr H ws
theorem vO{G H:Wy->Int}:∀{ws:List Wy}{fs:List Int},fs.length=ws.length->(∀(j:Nat)v g,ws[j]?=aU v->fs[j]?=aU g->G v*g<=H v)->dC G ws fs<=lr H ws|[],[],_,_=>d_ _|[],_::_,h,_=>by simp at h|_::_,[],h,_=>by simp at h|v::ws,g::fs,h,k=>by have h1:=k 0 v g rfl rfl;have u:=vO (G:=G) (H:=H) (ws:=ws) (fs:=fs) (by simpa using h) λj v g e t=>k (j+1) v g (by simpa using e) (by simpa using t);rw[dC,lr];lia
theorem Mp{G H:Wy->Int}:∀{ws:List Wy}{fs:List Int},fs.length=ws.length->(∀(j:Nat)v g,ws[j]?=aU v->fs[j]?=aU g->H v<=G v*g)->lr H ws<=dC G ws fs|[],[],_,_=>d_ _|[],_::_,h,_=>by simp at h|_::_,[],h,_=>by simp at h|v::ws,g::fs,h,k=>by have h1:=k 0 v g rfl rfl;have u:=Mp (G:=G) (H:=H) (ws:=ws) (fs:=fs) (by simpa using h) λj v g e t=>k (j+1) v g (by simpa using e) (by simpa using t);rw[dC,lr];lia
theorem DG{G:Wy->Int}{v:Wy}{g y:Int}:∀{j:Nat}{ws:List Wy}{fs:List Int},ws[j]?=aU v->fs[j]?=aU g->dC G ws (fs.set j (g+y))=dC G ws fs+G v*y|_,[],_,e,_=>by simp at e|_,_::_,[],_,e=>by simp at e|0,u::ws,f::fs,t,A=>by simp at t A;subst t A;rw[ml,dC,dC,mT];lia|j+1,u::ws,f::fs,t,A=>by rw[jx,dC,dC,DG (j:=j) (by simpa using t) (by simpa using A)];lia
noncomputable def gap(k:Int)(q:Int->Int)(v:Wy):Int:=q v.t-q v.s-k*v.h
theorem JH{x:Int}:gap k q v*sg x f=x*(q (too v f)-q (frm v f)-k*hsp v f):=by cases f with|true=>show(q v.t-q v.s-k*v.h)*x=x*(q v.t-q v.s-k*v.h);exact kR _ _|false=>show(q v.t-q v.s-k*v.h)*(-x)=x*(q v.s-q v.t-k*(-v.h));rw[n8,n8 k,show q v.s-q v.t- -(k*v.h)=-(q v.t-q v.s-k*v.h)by lia,n8,kR]
theorem pZ{k x:Int}{q:Int->Int}{ws:List Wy}{b:Int}:∀{c:List az}{fs:List Int}{a:Int},fs.length=ws.length->iy ws b c a->dC (gap k q) ws (aug x fs c)=dC (gap k q) ws fs+x*(q b-q a-k*bA ws c)
 |[],fs,a,_,h=>by have:a=b:=h;subst this;show _=_+x*(q a-q a-k*0);simp;rfl|s::c,fs,a,u,⟨v,e,A,B⟩=>by
   show dC (gap k q) ws (aug x (gB x fs s) c)=_;have t:s.1<fs.length:=by rw[u];exact(dD e).1
   have y:fs[s.1]?=aU fs[s.1]:=by simp[t]
   rw[pZ (by rw[xu];exact u) B];have:gB x fs s=fs.set s.1 (fs[s.1]+sg x s.2):=by unfold gB;rw[y];rfl
   rw[this,DG e y,JH,A,n4,<-mT,bA,iu e,mT k];congr 2;lia
structure N6(ws:List Wy)(fs:List Int):Prop where
 len:fs.length=ws.length
 ok:∀(j:Nat)v g,ws[j]?=aU v->fs[j]?=aU g->0<=g/\g<=v.r
theorem N6.aug{ws:List Wy}{fs:List Int}{c:List az}{x:Int}(h:N6 ws fs)(B:(c.map (·.1)).Nodup)(C:0<x)(hc:∀s∈c,∃v g,ws[s.1]?=aU v/\fs[s.1]?=aU g/\x<=m8 v g s.2):N6 ws (aug x fs c):=by
 refine⟨by rw[gW];exact h.len,λj v g t e=>?_⟩;by_cases z:j∈c.map (·.1);.obtain⟨s,hs,rfl⟩:=da.mp z;obtain⟨E,g',u,y,A⟩:=hc s hs;rw[t]at u;cases u;rw[nj B hs y]at e;cases e;have:=h.ok _ _ _ t y;cases hf:s.2<;>rw[hf]at A<;>simp[m8,sg]at A ⊢<;>lia
 .rw[gZ z]at e;exact h.ok _ _ _ t e
noncomputable def rR(q:Int->Int)(v:Wy):Int:=v.r*max 0 (q v.t-q v.s-v.h)
noncomputable def Bb(q:Int->Int)(ws:List Wy):Int:=lr (rR q) ws
theorem QV:gap 1 q v=q v.t-q v.s-v.h:=by unfold gap;lia
theorem Fp{fs:List Int}(h:N6 ws fs):dC (gap 1 q) ws fs<=Bb q ws:=vO h.len λj v g e u=>by
 have:=h.ok _ _ _ e u;rw[QV];unfold rR;generalize q v.t-q v.s-v.h=y;by_cases c:0<=y;.rw[Int.max_eq_right c,kR];exact g9 this.2 c
 .rw[max_eq_left (by lia),r8];exact Int.mul_nonpos_of_nonpos_of_nonneg (by lia) this.1
theorem Oh{fs:List Int}(h:N6 ws fs)(A:Pt ws fs q):Bb q ws=dC (gap 1 q) ws fs:=by
 refine Int.le_antisymm (Mp h.len λj v g e u=>?_) (Fp h);have E:=h.ok _ _ _ e u;have C:0<v.r-g->q v.t<=q v.s+v.h:=λz=>A (j,b_) v e (by rw[lq (s:=(j,b_)) e u];simp[frm,m8];lia);have B:0<g->q v.s<=q v.t+-v.h:=λz=>A (j,a_) v e (by rw[lq (s:=(j,a_)) e u];simp[frm,m8];lia);rw[QV];unfold rR;generalize G:q v.t-q v.s-v.h=y;by_cases c:g=v.r
 . subst c;by_cases c0:0<v.r;.have:=B c0;rw[Int.max_eq_right (by lia),kR];exact d_ _
   . have:v.r=0:=by lia
     rw[this];simp
 . have:=C (by lia);rw[max_eq_left (by lia),r8];by_cases c0:0<g;.have:=B c0;rw[show y=0 by lia];simp
   .rw[show g=0 by lia];simp
noncomputable def oJ(fs:List Int)(x:List az×Int):List Int:=aug x.2 fs x.1
noncomputable def flow(N:Nat)(cs:List (List az×Int)):List Int:=cs.foldl oJ (cr N 0)
theorem qy{x:List az×Int}:flow N (cs++[x])=aug x.2 (flow N cs) x.1:=by unfold flow;rw[k9];rfl
noncomputable def bu(H:List az×Int->Int):List (List az×Int)->Int|[]=>0|x::cs=>H x+bu H cs
theorem jm{H:List az×Int->Int}{x:List az×Int}:∀{cs:List (List az×Int)},bu H (cs++[x])=bu H cs+H x|[]=>by simp[bu]|y::cs=>by rw[kb,bu,bu,jm];lia
theorem dI{H K:List az×Int->Int}:∀{cs:List (List az×Int)},(∀x∈cs,H x=K x)->bu H cs=bu K cs|[],_=>rfl|x::cs,h=>by rw[bu,bu,h x (by simp),dI λy e=>h y (by simp[e])]
theorem IK{H:List az×Int->Int}:∀{cs:List (List az×Int)},(∀x∈cs,1<=H x)->(cs.length:Int)<=bu H cs|[],_=>by simp[bu]|x::cs,h=>by have h1:=h x (by simp);have t:=IK (H:=H) (cs:=cs) λy e=>h y (by simp[e]);rw[bu,dU];lia
noncomputable def Ol(ws:List Wy)(T:Int)(x:List az×Int):Int:=if bA ws x.1<=T then x.2*(T-bA ws x.1+1)else 0
noncomputable def val(ws:List Wy)(T:Int)(cs:List (List az×Int)):Int:=bu (Ol ws T) cs
structure kI(m:Int)(ws:List Wy)(T v:Int):Prop where
 ex:∃q:Int->Int,q 0=0/\q (m-1)=T+1/\Bb q ws=v
 le:∀q:Int->Int,q 0=0->q (m-1)=T+1->v<=Bb q ws
theorem xZ{T:Int}{fs:List Int}{G:Int->Int}(fit:N6 ws fs)(dt:∀k q,dC (gap k q) ws fs=bu (λx=>x.2*(q (m-1)-q 0-k*bA ws x.1)) cs)(B:∀x∈cs,bA ws x.1<=T+1)(C:Pt ws fs G)(u:G 0=0)(y:G (m-1)=T+1):kI m ws T (val ws T cs):=by
 have A:∀q:Int->Int,q 0=0->q (m-1)=T+1->dC (gap 1 q) ws fs=val ws T cs:=λq e t=>by
  rw[dt,e,t];refine dI λx E=>?_;have:=B x E;unfold Ol;split;.congr 1;lia
  .rw[show T+1-0-1*bA ws x.1=0 by lia,r8]
 exact⟨⟨G,u,y,by rw[Oh fit C,A G u y]⟩,λq e t=>by rw[<-A q e t];exact Fp fit⟩
structure zy(m:Int)(ws:List Wy)(cs:List (List az×Int))(fs:List Int)(F:Int->Int)(d:Int):Prop where
 fit:N6 ws fs
 pt:Pt ws fs F
 z:F 0=0
 e:F (m-1)=d
 d0:0<=d
 nn:(∀v∈ws,1<=v.h)->1<=d/\∀x∈cs,1<=bA ws x.1
 ch:∀x∈cs,bA ws x.1<=d/\0<x.2/\∀s∈x.1,s.1<ws.length
 dt:∀k q,dC (gap k q) ws fs=bu (λx=>x.2*(q (m-1)-q 0-k*bA ws x.1)) cs
 lst:∀T,0<=T->T+1<=d->kI m ws T (val ws T cs)
theorem p7{G:Wy->Int}:∀{ws:List Wy}{n:Nat},dC G ws (cr n 0)=0|[],n=>by unfold dC;rfl|v::ws,0=>rfl|v::ws,n+1=>by rw[hV,dC,p7];simp
theorem wJ(h:(cr n (0:Int))[j]?=aU g):g=0:=(List.mem_replicate.mp (dl h)).2
noncomputable def F01(b p:Int):Int:=if p=0 then 0 else b
theorem zy.zero(m0:2<=m)(hh:∀v∈ws,0<=v.h)(hr:∀v∈ws,0<=v.r):∃b,zy m ws [] (cr ws.length 0) (F01 b) b:=by
 have fit:N6 ws (cr ws.length 0):=⟨by simp,λj v g t u=>by rw[wJ u];exact⟨d_ _,hr v (dl t)⟩⟩;have pt:∀b:Int,0<=b->(∀v∈ws,b<=v.h)->Pt ws (cr ws.length 0) (F01 b):=λb b0 A s v e ho=>by obtain⟨C,g,t,u,_,y⟩:=nM ho;rw[e]at t;cases t;have:=wJ u;subst this;have:=A v (dl e);cases hf:s.2<;>rw[hf]at y<;>simp[m8,hsp,F01]at y ⊢;split<;>split<;>lia
 have dt:∀k q,dC (gap k q) ws (cr ws.length 0)=bu (λx=>x.2*(q (m-1)-q 0-k*bA ws x.1)) []:=λk q=>by rw[p7];rfl
 have t:∀b,F01 b (m-1)=b:=λb=>by unfold F01;rw[if_neg (by lia)]
 by_cases c:∀v∈ws,1<=v.h;.exact⟨1,fit,pt 1 (by lia) c,rfl,t 1,by lia,λ_=>⟨d_ _,by simp⟩,by simp,dt,λT h1 B=>xZ fit dt (by simp) (pt 1 (by lia) c) rfl (by rw[t];lia)⟩
 .exact⟨0,fit,pt 0 (by lia) hh,rfl,t 0,by lia,λz=>absurd z c,by simp,dt,λT h1 B=>by lia⟩
theorem zy.at{d T:Int}{fs:List Int}{G:Int->Int}(h:zy m ws cs fs F d)(e:d<=T+1)(t:Pt ws fs G)(u:G 0=0)(y:G (m-1)=T+1):kI m ws T (val ws T cs):=xZ h.fit h.dt (λx A=>oT (h.ch x A).1 e) t u y
theorem zy.more{d:Int}{fs:List Int}{x:Int}(h:zy m ws cs fs F d)(t:iU m ws fs es)(u:(m-1,l,o)∈es)(hc:R9 ws fs es (m-1) l o.2 0 0 0 c)(A:0<x)(hr:∀s∈c,∃v g,ws[s.1]?=aU v/\fs[s.1]?=aU g/\x<=m8 v g s.2):∃G,zy m ws (cs++[(c,x)]) (aug x fs c) G o.2:=by
 obtain⟨D,H⟩:=Di F es;have B:=t.pt h.pt H;have J:bA ws c=o.2:=by have:=hc.hrs;lia
 have C:Hh F D es 0=0:=iz t.cm.nd t.cm.z;have E:Hh F D es (m-1)=o.2:=iz t.cm.nd u;have hd:d<=o.2:=by have:=lu h.pt hc.Nt hc.jl;rw[h.e,h.z]at this;lia
 refine⟨Hh F D es,h.fit.aug hc.nd A hr,B.aug hc.Nt hc.jl (by rw[C,E];lia),C,E,by have:=h.d0;lia,λz=>⟨by have:=(h.nn z).1;lia,λy hy=>?_⟩,λy hy=>?_,λk q=>?_,λT h0 h1=>?_⟩
 . rcases eS.mp hy with hy|hy;.exact(h.nn z).2 y hy
   .rw[dP.mp hy];show 1<=bA ws c;have:=(h.nn z).1;lia
 . rcases eS.mp hy with hy|hy;.have:=h.ch y hy;exact⟨by lia,this.2⟩
   .rw[dP.mp hy];refine⟨by show bA ws c<=_;lia,A,λs hs=>?_⟩;obtain⟨v,g,e,_⟩:=hr s hs;exact(dD e).1
 .rw[pZ h.fit.len hc.Nt,jm,h.dt]
 . have I:val ws T (cs++[(c,x)])=val ws T cs:=by unfold val;rw[jm];show _+(if bA ws c<=T then _ else 0)=_;rw[if_neg (by lia)];lia
   rw[I];by_cases q:T+1<=d;.exact h.lst T h0 q
   . refine h.at (by lia) (Ml (T+1-d) B h.pt) ?_ ?_;.have:=h.z;lia
     .have:=h.e;lia
theorem zy.least{d T:Int}{fs:List Int}(h:zy m ws cs fs F d)(t:iU m ws fs es)(u:¬ ∃l o,(m-1,l,o)∈es)(h0:0<=T):kI m ws T (val ws T cs):=by
 by_cases q:T+1<=d;.exact h.lst T h0 q
 . obtain⟨D,y⟩:=Di F es;have A:=t.pt (D:=max D (T+1-d)) h.pt λp l o z=>by have:=y p l o z;lia
   have B:Hh F (max D (T+1-d)) es 0=0:=iz t.cm.nd t.cm.z;have C:Hh F (max D (T+1-d)) es (m-1)=F (m-1)+max D (T+1-d):=pY u;refine h.at (by lia) (Ml (T+1-d) A h.pt) ?_ ?_;.have:=h.z;lia
   .have:=h.e;lia
noncomputable def HW(v:Wy)(f:Bool):Int:=7*hsp v f+1
noncomputable def S7(ws:List Wy)(fs:List Int)(P:Int->Int):Prop:=∀(s:az)(v:Wy),ws[s.1]?=aU v->j6 ws fs (frm v s.2) s=b_->P (too v s.2)<=P (frm v s.2)+HW v s.2
noncomputable def zu(ws:List Wy)(c:List az):Int:=7*bA ws c+c.length
theorem rP(e:ws[s.1]?=aU v):zu ws (s::c)=HW v s.2+zu ws c:=by unfold zu HW;rw[bA,iu e,dU];lia
theorem Br{ws:List Wy}{fs:List Int}{P:Int->Int}(h:S7 ws fs P){b:Int}:∀{c:List az}{a:Int},iy ws b c a->tH ws fs c->P b<=P a+zu ws c|[],a,t,_=>by have:a=b:=t;rw[this];simp[zu,bA]|s::c,a,⟨v,e,A,t⟩,ho=>by have h1:=Br h t λu B=>ho u (dr _ B);obtain⟨E,y,o⟩:=ho s (by simp);rw[e]at y;cases y;have C:=h s v e o;rw[A]at C;rw[rP e];lia
theorem uz{ws:List Wy}{fs:List Int}{P:Int->Int}(h:S7 ws fs P){b:Int}:∀{c:List az}{a:Int},iy ws b c a->tH ws fs c->P b=P a+zu ws c->∀s∈c,∀v,ws[s.1]?=aU v->P (too v s.2)=P (frm v s.2)+HW v s.2
 |[],_,_,_,_,s,hs,_,_=>by cases hs|s::c,a,⟨v,e,y,A⟩,ho,he,u,hu,x,ex=>by
   have t:tH ws fs c:=λu hu=>ho u (dr _ hu);have h1:=Br h A t;obtain⟨E,B,o⟩:=ho s (by simp);rw[e]at B;cases B;have C:=h s v e o;rw[y]at C;rw[rP e]at he;rcases cK.mp hu with rfl|hu;.rw[e]at ex;cases ex;rw[y];lia
   .exact uz h A t (by lia) u hu x ex
noncomputable def tgt(ws:List Wy)(fs:List Int)(P:Int->Int)(s:az):Bool:=match ws[s.1]?with|some v=>j6 ws fs (frm v s.2) s&&decide (P (too v s.2)=P (frm v s.2)+HW v s.2)|none=>a_
theorem JP{fs:List Int}{P:Int->Int}(e:ws[s.1]?=aU v):tgt ws fs P s=(j6 ws fs (frm v s.2) s&&decide (P (too v s.2)=P (frm v s.2)+HW v s.2)):=by unfold tgt;rw[e]
noncomputable def Km(ws:List Wy)(fs:List Int)(P:Int->Int):Nat:=((il ws.length).filter (tgt ws fs P)).length
theorem DQ{fs:List Int}{P:Int->Int}(h:ws.length<=12):Km ws fs P<=24:=by have:=jg (tgt ws fs P) (il ws.length);rw[xF]at this;unfold Km;lia
theorem Ja{p q:az->Bool}(h:∀t,q t=b_->p t=b_):∀(l:List az),(l.filter q).length<=(l.filter p).length|[]=>cN|t::l=>by have e:=Ja h l;cases hq:q t with|true=>simp[hq,h t hq,e]|false=>cases hp:p t with|true=>simp[hq,hp];lia|false=>simp[hq,hp,e]
theorem Ii{p q:az->Bool}{s:az}(h:∀t,q t=b_->p t=b_)(e:p s=b_)(u:q s=a_):∀{l:List az},s∈l->(l.filter q).length<(l.filter p).length
 |[],hs=>by cases hs|t::l,hs=>by
   have le:=Ja h l;rcases cK.mp hs with rfl|hs;.simp[e,u];lia
   .have y:=Ii h e u hs;cases hq2:q t with|true=>simp[hq2,h t hq2,y]|false=>cases hp2:p t with|true=>simp[hq2,hp2];lia|false=>simp[hq2,hp2,y]
theorem Ms{fs:List Int}(t:(c.map (·.1)).Nodup)(hs:s∈c)(e:ws[s.1]?=aU v)(u:fs[s.1]?=aU g):j6 ws (aug (m8 v g s.2) fs c) p s=a_:=by
 rw[lq e (nj t hs u)];have:m8 v (g+sg (m8 v g s.2) s.2) s.2=0:=by cases s.2<;>simp[m8,sg]<;>lia
 rw[this];simp
theorem S7.aug{ws:List Wy}{fs:List Int}{P:Int->Int}(h:S7 ws fs P){a b:Int}{c:List az}{s:az}{v:Wy}{g:Int}(G:iy ws b c a)(ho:tH ws fs c)(H:(c.map (·.1)).Nodup)(he:P b=P a+zu ws c)(hs:s∈c)(e:ws[s.1]?=aU v)(I:fs[s.1]?=aU g):S7 ws (aug (m8 v g s.2) fs c) P/\Km ws (aug (m8 v g s.2) fs c) P<Km ws fs P:=by
 have B:=uz h G ho he;have back:∀(t u:az)(x:Wy),u∈c->u.1=t.1->t.2≠u.2->ws[t.1]?=aU x->P (too x t.2)<P (frm x t.2)+HW x t.2:=λt u x y A ne ex=>by
  have h1:=B u y x (by rw[A];exact ex);rw[(jZ ne).1,(jZ ne).2];have C:hsp x t.2=-hsp x u.2:=by cases h1:t.2<;>cases C:u.2<;>simp[hsp]<;>(rw[h1,C]at ne;exact absurd rfl ne)
  unfold HW at*;lia
 refine⟨λt x ex o=>?_,?_⟩
 . rcases qz ho ex o with o|⟨u,y,A,ne⟩;.exact h t x ex o
   .have:=back t u x y A ne ex;lia
 . obtain⟨J,E,o⟩:=ho s hs;rw[e]at E;cases E;refine Ii (s:=s) (λt ht=>?_) (by rw[JP e,o,B s hs v e];simp) (by rw[JP e,Ms H hs e I];rfl) (yL (dD e).1);unfold tgt at ht ⊢;split at ht
   . rename_i x ex;simp only[eW,decide_eq_true_eq]at ht ⊢;refine⟨?_,ht.2⟩;rcases qz ho ex ht.1 with o|⟨u,y,A,ne⟩;.exact o
     .have:=back t u x y A ne ex;lia
   .cases ht
noncomputable abbrev Sh:=List (Option Bool)
noncomputable def kh:List Wy->Sh->Int|v::ws,aU f::es=>HW v f+kh ws es|_::ws,ci::es=>kh ws es|_,_=>0
noncomputable def Hk(N:Nat):List az->Sh|[]=>cr N ci|s::c=>(Hk N c).set s.1 (aU s.2)
theorem vD{N:Nat}:∀{c:List az},(Hk N c).length=N|[]=>by simp[Hk]|s::c=>by rw[Hk,ow,vD]
theorem Ea{N j:Nat}:∀{c:List az},j<N->j∉c.map (·.1)->(Hk N c)[j]?=aU ci|[],h,_=>by simp[Hk,h]|s::c,h,e=>by rw[c_,cK,not_or]at e;rw[Hk,eI (λz=>e.1 z.symm)];exact Ea h e.2
theorem xG{v:Wy}{f:Bool}:∀{j:Nat}{ws:List Wy}{es:Sh},ws[j]?=aU v->es[j]?=aU ci->kh ws (es.set j (aU f))=kh ws es+HW v f|_,[],_,e,_=>by simp at e|_,_::_,[],_,e=>by simp at e|0,u::ws,x::es,t,y=>by simp at t y;subst t y;rw[ml,kh,kh];lia|j+1,u::ws,x::es,t,y=>by have A:=xG (f:=f) (j:=j) (ws:=ws) (es:=es) (by simpa using t) (by simpa using y);rw[jx];cases x with|none=>rw[kh,kh,A]|some g=>rw[kh,kh,A];lia
theorem uq:∀{ws:List Wy}{n:Nat},kh ws (cr n ci)=0|[],n=>by unfold kh;rfl|v::ws,0=>rfl|v::ws,n+1=>by rw[hV,kh,uq]
theorem vL{ws:List Wy}{b:Int}:∀{c:List az}{a:Int},iy ws b c a->(c.map (·.1)).Nodup->kh ws (Hk ws.length c)=zu ws c|[],_,_,_=>by rw[Hk,uq];simp[zu,bA]|s::c,a,⟨v,e,_,u⟩,t=>by rw[c_,ez]at t;rw[Hk,xG e (Ea (dD e).1 t.1),vL u t.2,rP e];lia
noncomputable def tK:Nat->List Sh|0=>[[]]|n+1=>(tK n).map (ci::·)++((tK n).map (aU b_::·)++(tK n).map (aU a_::·))
theorem rM:∀{n:Nat},(tK n).length=3^n|0=>rfl|n+1=>by rw[tK,ek,ek,dV,dV,dV,rM,Nat.pow_succ];lia
theorem qu:∀{e:Sh},e∈tK e.length|[]=>by simp[tK]|x::e=>by have t:=qu (e:=e);rw[dU,tK,eS,eS];cases x with|none=>exact .inl (da.mpr ⟨e,t,rfl⟩)|some f=>cases f with|true=>exact .inr (.inl (da.mpr ⟨e,t,rfl⟩))|false=>exact .inr (.inr (da.mpr ⟨e,t,rfl⟩))
structure Rh(m:Int)(ws:List Wy)(k:Nat)(fs:List Int)(P:Int->Int)(lam:Int)(seen:List Sh):Prop where
 pt:S7 ws fs P
 z:P 0=0
 e:P (m-1)=lam
 nd:seen.Nodup
 sl:∀e∈seen,e.length=ws.length/\kh ws e<=lam
 cnt:k+Km ws fs P<=25*(seen.length+1)
theorem Rh.few{t:Int}{k:Nat}{fs:List Int}{P:Int->Int}{seen:List Sh}(h:Rh m ws k fs P t seen)(u:ws.length<=12):k<=13286050:=by
 have h1:=iK (l2:=tK ws.length) h.nd λe he=>by rw[<-(h.sl e he).1];exact qu
 rw[rM]at h1;have y:3^ws.length<=3^12:=p_ (by decide) u;have A:(3:Nat)^12=531441:=by decide
 have:=h.cnt;lia
theorem Rh.zero(y:ws.length<=12)(hh:∀v∈ws,0<=v.h):Rh m ws 0 (cr ws.length 0) (λ_=>0) 0 []:=by refine⟨λs v e ho=>?_,rfl,rfl,.nil,by simp,by have:=DQ (fs:=cr ws.length 0) (P:=λ_=>0) y;simp;lia⟩;obtain⟨B,g,t,A,_,u⟩:=nM ho;rw[e]at t;cases t;have:=wJ A;subst this;have:=hh v (dl e);cases hf:s.2<;>rw[hf]at u<;>simp[m8,HW,hsp]at u ⊢;lia
noncomputable def N7(F:Int->Int)(D:Int):List En->Int->Int|[],p=>F p+D|e::es,p=>if e.1=p then 7*e.2.2.2+(e.2.1:Int)else N7 F D es p
theorem nD{F:Int->Int}{D p:Int}{l:Nat}{o:Option az×Int}:∀{es:List En},(es.map (·.1)).Nodup->(p,l,o)∈es->N7 F D es p=7*o.2+l
 |[],_,h=>by cases h|e::es,t,h=>by
   rw[c_,ez]at t;rw[N7];rcases cK.mp h with rfl|h;.rw[if_pos rfl]
   .rw[if_neg (λz=>t.1 (by rw[z];exact da.mpr ⟨_,h,rfl⟩))];exact nD t.2 h
theorem wB{F:Int->Int}{D p:Int}:∀{es:List En},(¬ ∃l o,(p,l,o)∈es)->N7 F D es p=F p+D|[],_=>rfl|e::es,h=>by rw[N7,if_neg (λz=>h ⟨e.2.1,e.2.2,by rw[<-z];simp⟩)];exact wB λ⟨l,o,z⟩=>h ⟨l,o,dr _ z⟩
theorem Kd(F:Int->Int):∀(es:List En),∃D,∀p l o,(p,l,o)∈es->7*o.2+(l:Int)<=F p+D
 |[]=>⟨0,λ_ _ _ h=>by cases h⟩|e::es=>by
   obtain⟨D,h⟩:=Kd F es;refine⟨max D (7*e.2.2.2+(e.2.1:Int)-F e.1),λp l o z=>?_⟩;rcases cK.mp z with rfl|z;.simp only;lia
   .have:=h p l o z;lia
theorem iU.pts{fs:List Int}{P:Int->Int}{D:Int}(h:iU m ws fs es)(t:HN m ws)(u:Pt ws fs F)(y:S7 ws fs P)(A:∀p l o,(p,l,o)∈es->7*o.2+(l:Int)<=P p+D):S7 ws fs (N7 P D es):=λs v e ho=>by
 by_cases c:∃l o,(frm v s.2,l,o)∈es;.obtain⟨l,o,c⟩:=c;obtain⟨l2,B,c2,c3⟩:=h.cl l o s v e c ho;rw[nD h.cm.nd c,nD h.cm.nd c2];have:=h.l5 t u c2;unfold Le at c3;unfold HW;lia
 . rw[wB c];have h1:=y s v e ho;by_cases c2:∃l o,(too v s.2,l,o)∈es;.obtain⟨l2,B,c2⟩:=c2;rw[nD h.cm.nd c2];have:=A _ _ _ c2;lia
   .rw[wB c2];lia
theorem Rh.more{t:Int}{k:Nat}{fs:List Int}{P:Int->Int}{seen:List Sh}(h:Rh m ws k fs P t seen)(B:HN m ws)(I:Pt ws fs F)(u:iU m ws fs es)(y:(m-1,l,o)∈es)(hc:R9 ws fs es (m-1) l o.2 0 0 0 c)(hs:s∈c)(e:ws[s.1]?=aU v)(C:fs[s.1]?=aU g):∃J L M,Rh m ws (k+1) (aug (m8 v g s.2) fs c) J L M:=by
 have O:bA ws c=o.2:=by have:=hc.hrs;lia
 have U:c.length=l:=by have:=hc.len;lia
 have W:zu ws c=7*o.2+l:=by unfold zu;rw[O,U]
 have X:t<=zu ws c:=by have:=Br h.pt hc.Nt hc.jl;rw[h.e,h.z]at this;lia
 by_cases q:t=zu ws c;.have A:=h.pt.aug hc.Nt hc.jl hc.nd (by rw[h.e,h.z];lia) hs e C;exact⟨P,t,seen,A.1,h.z,h.e,h.nd,h.sl,by have:=h.cnt;lia⟩
 . obtain⟨D,Y⟩:=Kd P es;have Z:=u.pts B I h.pt Y;have E:N7 P D es 0=0:=by rw[nD u.cm.nd u.cm.z];rfl
   have G:N7 P D es (m-1)=zu ws c:=by rw[nD u.cm.nd y,W]
   have A:=Z.aug hc.Nt hc.jl hc.nd (by rw[E,G];lia) hs e C;have H:=vL hc.Nt hc.nd;refine⟨N7 P D es,zu ws c,seen++[Hk ws.length c],A.1,E,G,?_,λx hx=>?_,?_⟩;.rw[i5];refine⟨h.nd,by simp,λa ha b hb ab=>?_⟩;have:=(h.sl a ha).2;rw[ab,dP.mp hb,H]at this;lia
   . rcases eS.mp hx with hx|hx;.have:=h.sl x hx;exact⟨this.1,by lia⟩
     .rw[dP.mp hx];exact⟨vD,by rw[H];exact d_ _⟩
   .have h1:=DQ (fs:=fs) (P:=N7 P D es) B.len;have h2:=h.cnt;rw[ek,iX];lia
noncomputable def cD(x:List az×Int):D:=.tup [.tup (x.1.map sD),.int x.2]
theorem Jj(h:ns≠[]):∃i,ns.min?=aU i/\i∈ns/\∀j∈ns,i<=j:=by cases e:ns.min? with|none=>rw[oI]at e;exact absurd e h|some i=>have:=oC.mp e;exact⟨i,rfl,this.1,this.2⟩
noncomputable def unS:D->az|.tup [.int j,.bl f]=>(j.toNat,f)|_=>(0,b_)
@[simp]theorem Jm{s:az}:unS (sD s)=s:=rfl
noncomputable def R1(ws:List Wy)(fs:List Int)(s:az):Int:=match ws[s.1]?,fs[s.1]?with|some v,aU g=>m8 v g s.2|_,_=>0
noncomputable def rmD(ws:List Wy)(fs:List Int)(d:D):D:=.int (R1 ws fs (unS d))
@[simp]theorem aaF{es:List En}{p:Int}:yK a_ (.int p) (jr es)=aU (.val (.bl (pI (es.map en) p))):=by show aU (R.val (.bl ((es.map (·.1)).contains p)))=aU (R.val (.bl ((Gd (es.map en)).contains p)));rw[Bt]
noncomputable def Chk(m:Int)(ws:List Wy)(x:List az×Int):Prop:=x.1.length<=5/\(∀s∈x.1,s.1<ws.length)/\iy ws (m-1) x.1 0/\(x.1.map (·.1)).Nodup
structure Stg(m:Int)(ws:List Wy)(bf:List (List az×Int))(x:List az×Int):Prop where
 iv:∃F d,zy m ws bf (flow ws.length bf) F d
 ht:∃F,Pt ws (flow ws.length bf) F/\F 0=0/\F (m-1)=bA ws x.1
 op:tH ws (flow ws.length bf) x.1
 rm:∀s∈x.1,∃v g,ws[s.1]?=aU v/\(flow ws.length bf)[s.1]?=aU g/\x.2<=m8 v g s.2
theorem zy.ht{d:Int}{fs:List Int}(h:zy m ws cs fs F d)(t:iU m ws fs es)(u:(m-1,l,o)∈es)(hc:R9 ws fs es (m-1) l o.2 0 0 0 c):(∃F,Pt ws fs F/\F 0=0/\F (m-1)=bA ws c)/\d<=bA ws c:=by
 obtain⟨D,y⟩:=Di F es;have A:bA ws c=o.2:=by have:=hc.hrs;lia
 refine⟨⟨Hh F D es,t.pt h.pt y,iz t.cm.nd t.cm.z,by rw[iz t.cm.nd u,A]⟩,?_⟩;have:=lu h.pt hc.Nt hc.jl;rw[h.e,h.z]at this;lia
noncomputable def Gh(m:Int)(ws:List Wy)(cs:List (List az×Int)):Prop:=cs.Pairwise (λa b=>bA ws a.1<=bA ws b.1)/\∀t x e,cs=t++x::e->Stg m ws t x
theorem Gh.snoc{y:List az×Int}(h:Gh m ws cs)(h1:∀x∈cs,bA ws x.1<=bA ws y.1)(A:Stg m ws cs y):Gh m ws (cs++[y]):=by
 refine⟨?_,λu x t e=>?_⟩;.rw[kU];exact⟨h.1,by simp,λa B b C=>by rw[dP.mp C];exact h1 a B⟩
 . rcases oN t with rfl|⟨r,z,rfl⟩;.obtain⟨E,G⟩:=List.append_inj' e rfl;cases G;subst E;exact A
   . rw[oQ]at e;have H:cs++[y]=(u++x::r)++[z]:=by rw[e];simp
     exact h.2 u x r (List.append_inj' H rfl).1
structure Ends(m:Int)(ws:List Wy)(cs:List (List az×Int))(fs:List Int)(F:Int->Int)(d:Int)(es:List En):Prop where
 fl:fs=flow ws.length cs
 iv:zy m ws cs fs F d
 cm:iU m ws fs es
 no:¬ ∃l o,(m-1,l,o)∈es
 ck:∀x∈cs,Chk m ws x
 st:Gh m ws cs
inductive FcE(a0 a1 a2 a3 a4 a5 a6:Sl)(ρ:List Sl):Prop where|mk(s:Sl)(q0:ρ=[a0,a1,a2,a3,a4,a5,a6,s])(q1:fr s=b_)
inductive JE(m:Int)(ws:List Wy)(M:Nat)(ρ:List Sl):Prop where|mk(cs:List (List az×Int))(fs:List Int)(es:List En)(F:Int->Int)(d:Int)(s5 s6:Sl)(q0:ρ=[.val a_ (aL m ws),.val a_ (.int (m-1)),.own a_ (fs.map D.int),.own a_ (cs.map cD),.val a_ (jr es),s5,s6])(q1:(fr s5=b_/\fr s6=b_))(q2:fs=flow ws.length cs)(q3:zy m ws cs fs F d)(q4:iU m ws fs es)(q5:(∃P lam seen,Rh m ws cs.length fs P lam seen))(q6:cs.length+M=13286050)(q7:(∀x∈cs,Chk m ws x))(q8:Gh m ws cs)
theorem xU(hw:13286250<=w)(h:HN m ws)(hr:∀v∈ws,0<=v.r)(k:∀cs fs F d es,cs.length<=13286050->Ends m ws cs fs F d es->Q (.own (cs.map cD)) [.val a_ (aL m ws)]):(run Γ w (n+4) 8 [.val a_ (aL m ws)]).sat Q:=by
 have hn:=h.len;have m0:=h.m0;have m1:=h.m1;refine aK (d:=f8) rfl rfl (by decide) ?_;symm;simp[f8];refine cQ (λρ=>ρ=[.val a_ (aL m ws),.val a_ (.int (m-1)),.own a_ ((flow ws.length []).map D.int),.aO,.aO,.aO,.aO]) ?_ ?_;.simp[flow];show _<=16777216;lia
 rintro _ rfl;have hh:∀v∈ws,0<=v.h:=λv hv=>(h.ok v hv).2.2;obtain⟨b0,I0⟩:∃b,zy m ws [] (flow ws.length []) (F01 b) b:=zy.zero m0 hh hr;symm;simp;apply aj;simp;refine yJ (by lia) I0.pt (.inr ⟨b_,rfl⟩) h I0.fit.len λes t=>?_;simp;apply aj;simp;refine fP (JE m ws) ?_ (k:=w) (m:=13286050) (by lia) ⟨[],flow ws.length [],es,F01 b0,b0,.aO,.aO,rfl,⟨rfl,rfl⟩,rfl,I0,t,⟨_,_,_,Rh.zero hn hh⟩,by simp,by simp,by simp,λbf x ax e=>by cases bf<;>cases e⟩;rintro M _⟨cs,fs,es,F,d,s5,s6,rfl,⟨h5,h6⟩,G,H,t,⟨P,ay,seen,hS⟩,hM,O,hst⟩;have ac:=H.fit.len;by_cases hq:∃l o,(m-1,l,o)∈es
 . obtain⟨l,o,A⟩:=hq;have kt:pI (es.map en) (m-1)=b_:=Ba.mpr ⟨l,o,A⟩;have ae:=t.l5 h H.pt A;simp[kt];apply aj;simp;refine Ge (by lia) t ae A λc hc=>?_;simp[h5];apply aj;have af:c.length<=5:=by have:=hc.len;lia
   have RB:∀s∈c,∃v g,ws[s.1]?=aU v/\fs[s.1]?=aU g/\0<m8 v g s.2:=λs hs=>by obtain⟨v,e,o⟩:=hc.jl s hs;obtain⟨v',g,B,E,_,e4⟩:=nM o;exact⟨v',g,B,E,e4⟩
   simp[show c.length<=16777216 by lia];refine cg (FcE _ _ _ _ _ _ _) (rmD ws fs) ⟨.aO,rfl,rfl⟩ ?_ ?_;.rintro d hd _⟨s',rfl,U⟩;obtain⟨s,hs,rfl⟩:=da.mp hd;obtain⟨v,g,B,E,_⟩:=RB s hs;simp[U,sD];refine uV (.inr ⟨b_,rfl⟩) B E ?_;simp;refine⟨?_,_,rfl,rfl⟩;show D.int (R1 ws fs (unS (sD s)))=_;rw[Jm];unfold R1;rw[B,E]
   rintro _⟨s',rfl,U⟩;have W:(c.map sD).map (rmD ws fs)=(c.map (R1 ws fs)).map D.int:=by rw[eh,eh];rfl
   rw[W];have ag:c≠[]:=by rintro rfl;have:(0:Int)=m-1:=hc.Nt;lia
   obtain⟨x,ah,ai,ZQ⟩:=Jj (ns:=c.map (R1 ws fs)) (by simpa using ag);obtain⟨s,hs,al⟩:=da.mp ai;obtain⟨v,g,B,E,e3⟩:=RB s hs;have am:m8 v g s.2=x:=by rw[<-al];unfold R1;rw[B,E]
   have ap:0<x:=by lia
   have I:∀s∈c,∃v g,ws[s.1]?=aU v/\fs[s.1]?=aU g/\x<=m8 v g s.2:=λu L=>by obtain⟨v,g,B,E,_⟩:=RB u L;refine⟨v,g,B,E,?_⟩;have:=ZQ _ (da.mpr ⟨u,L,rfl⟩);unfold R1 at this;rw[B,E]at this;exact this
   have X:∀s∈c,s.1<ws.length:=λu L=>by obtain⟨v,g,B,_⟩:=RB u L;exact(dD B).1
   obtain⟨F',J⟩:=H.more t A hc ap I;have Y:Gh m ws (cs++[(c,x)]):=by obtain⟨g1,g2⟩:=H.ht t A hc;refine hst.snoc (λy hy=>oT (H.ch y hy).1 g2) ?_;have Z:=H;rw[G]at Z g1 I;exact⟨⟨_,_,Z⟩,g1,by rw[<-G];exact hc.jl,I⟩
   have C:=hS.more h H.pt t A hc hs B E;rw[am]at C;obtain⟨P',XS,Nu,C⟩:=C;have aE:=C.few hn;generalize c.map (R1 ws fs)=ns at*;simp[fV,ah,h6];apply aj;simp[show cs.length<16777216 by lia];apply aj;simp;refine yc (.inr ⟨b_,rfl⟩) (λu L=>by rw[ac];exact X u L) ?_;simp;apply aj;have ar:aug x fs c=flow ws.length (cs++[(c,x)]):=by rw[qy,<-G]
   simp;refine yJ (by lia) J.pt (.inr ⟨b_,rfl⟩) h J.fit.len λav aw=>?_;simp;refine⟨M-1,by lia,cs++[(c,x)],aug x fs c,av,F',o.2,.val a_ (.tup (c.map sD)),.val a_ (.int x),by simp[cD],⟨rfl,rfl⟩,ar,J,aw,⟨P',XS,Nu,by rw[ek];exact C⟩,by simp;lia,λy hy=>?_,Y⟩;rcases eS.mp hy with hy|hy;.exact O y hy
   . obtain rfl:y=(c,x):=by simpa using hy
     exact⟨af,X,hc.Nt,hc.nd⟩
 .have kt:pI (es.map en) (m-1)=a_:=kin_no hq;simp[kt];apply aj;simp;exact k cs fs F d es (by lia) ⟨G,H,t,hq,O,hst⟩
theorem Wj{c:Call}{x:Nat}{k d:P}:ev c (.ZJ x k d) ρ=match ρ[x]?with
 |some (.gV _)=>(cJ (isVar k) (ev c k) ρ).bind λe ρ=>(cJ (isVar d) (ev c d) ρ).bind λt ρ=>match ρ[x]?with|some (.gV m)=>lift ((m.get e).bind λo=>(iw t).map λv=>.val (.int (o.getD v))) ρ|_=>.stuck
 |_=>.stuck:=(rfl)
theorem Qf{c:Call}{x:Nat}:ex c n (.M8 x a_) ρ=match ρ[x]?with|some .aO=>.ok .next (ρ.set x (.gV (.k [])))|_=>.stuck:=(rfl)
theorem Oz{c:Call}{x:Nat}{k e:P}:ex c n (.dput x k e) ρ=(ev c e ρ).bind λr ρ=>match ρ[x]?with
 |some (.gV _)=>(cJ (isVar k) (ev c k) ρ).bind λt ρ=>match ρ[x]?,r with
   |some (.gV m),.val (.int v)=>match m.put t v with|some u=>.ok .next (ρ.set x (.gV u))|none=>.stuck
   |_,_=>.stuck
 |_=>.stuck:=(rfl)
@[simp]theorem Yi{x:Nat}{k d:P}:isVar (.ZJ x k d)=ci:=rfl
@[simp]theorem aaw{kvs:List (Int×Int)}:blt .M7 [.dH (.k kvs)]=if kvs.length<=16777216/\kvs.Pairwise (λa b=>a.1<b.1)then aU (.own (kvs.map jC))else ci:=rfl
theorem Xr:(Dc.get (.k kvs) (.int i))=aU ((kvs.find? λe=>decide (e.1=i)).map (·.2)):=rfl
theorem aa8{v:Int}(h:kvs.length<lim):Dc.put (.k kvs) (.int i) v=aU (.k (putD kvs i v)):=by show(if _ then _ else _)=_;rw[if_pos h]
noncomputable def hsD(ws:List Wy)(d:D):D:=.int (hst ws (unS d))
theorem Et{ws:List Wy}:∀{c:List az},(c.map (hst ws)).sum=bA ws c|[]=>rfl|s::c=>by rw[c_,hU,Et,bA]
inductive F2s(a b:Sl)(ρ:List Sl):Prop where|mk(s:Sl)(q0:ρ=[a,b,s])(q1:fr s=b_)
theorem Cg(hc:∀s∈c,s.1<ws.length)(C:c.length<=1000)(k:Q (.val (.int (bA ws c))) [.val a_ (aL m ws),.val a_ (.tup (c.map sD))]):(run Γ w (n+2) 3 [.val a_ (aL m ws),.val a_ (.tup (c.map sD))]).sat Q:=by
 refine aK (d:=f3) rfl rfl (by decide) ?_;symm;simp[f3,show c.length<=16777216 by lia];refine cg (F2s _ _) (hsD ws) ⟨.aO,rfl,rfl⟩ ?_ ?_
 . rintro d hd _⟨B,rfl,t⟩;obtain⟨s,hs,rfl⟩:=da.mp hd;have A:=hc s hs;have e:ws[s.1]?=aU ws[s.1]:=by simp[A]
   simp[t,sD];refine uF e ?_;simp;refine⟨?_,_,rfl,rfl⟩;show D.int (hst ws (unS (sD s)))=_;rw[Jm,iu e]
 rintro _⟨B,rfl,t⟩;have u:(c.map sD).map (hsD ws)=(c.map (hst ws)).map D.int:=by rw[eh,eh];rfl
 rw[u];have y:=Et (ws:=ws) (c:=c);generalize c.map (hst ws)=ns at*;simp[fV,y];exact k
noncomputable def gv(kvs:List (Int×Int))(k:Int):Int:=((kvs.find? λe=>decide (e.1=k)).map (·.2)).getD 0
noncomputable def Lin(W:Int->Int->Int):Prop:=∀k a b,W k (a+b)=W k a+W k b
noncomputable def tG(W:Int->Int->Int):List (Int×Int)->Int|[]=>0|kv::r=>W kv.1 kv.2+tG W r
theorem Ep{W:Int->Int->Int}{b:List (Int×Int)}:∀{a:List (Int×Int)},tG W (a++b)=tG W a+tG W b|[]=>by simp[tG]|x::a=>by rw[kb,tG,tG,Ep];lia
theorem CT{k v:Int}:∀{r:List (Int×Int)},k∉r.map (·.1)->(r.map λe=>if e.1=k then(e.1,v)else e)=r|[],_=>rfl|x::r,h=>by rw[c_,cK,not_or]at h;rw[c_,CT h.2,if_neg (λz=>h.1 z.symm)]
theorem Dt{W:Int->Int->Int}(A:Lin W){k x:Int}:∀{r:List (Int×Int)},(r.map (·.1)).Nodup->k∈r.map (·.1)->tG W (r.map λe=>if e.1=k then(e.1,gv r k+x)else e)=tG W r+W k x
 |[],_,h=>by cases h|y::r,t,h=>by
   rw[c_,ez]at t;by_cases c:y.1=k
   . have u:gv (y::r) k=y.2:=by unfold gv;rw[gI];simp[c]
     rw[u,c_,if_pos c,CT (by rw[<-c];exact t.1),tG,tG];show W y.1 (y.2+x)+_=_;rw[A,c];lia
   . have u:gv (y::r) k=gv r k:=by unfold gv;rw[gI];simp[c]
     have B:k∈r.map (·.1):=by
      rcases cK.mp h with h|h;.exact absurd h.symm c
      .exact h
     rw[u,c_,if_neg c,tG,tG,Dt A t.2 B];lia
theorem WX(h:k∉r.map (·.1)):gv r k=0:=by
 unfold gv;rw[List.find?_eq_none.mpr];.rfl
 .intro x t;simp;intro e;exact h (da.mpr ⟨x,t,e⟩)
theorem abD(h:∀t∈r,0<t.2):0<=gv r k:=by unfold gv;cases e:r.find? λt=>decide (t.1=k)with|none=>simp|some x=>have:=h x (List.mem_of_find?_eq_some e);simp;lia
theorem wG{x:Int}(A:(r.map (·.1)).Nodup):((putD r k (gv r k+x)).map (·.1)).Nodup/\(putD r k (gv r k+x)).length<=r.length+1/\(∀t∈putD r k (gv r k+x),t=(k,gv r k+x)\/t∈r)/\∀W,Lin W->tG W (putD r k (gv r k+x))=tG W r+W k x:=by
 have C:(r.any λt=>decide (t.1=k))=b_↔k∈r.map (·.1):=by rw[kG,da];exact⟨λ⟨y,h1,B⟩=>⟨y,h1,by simpa using B⟩,λ⟨y,h1,B⟩=>⟨y,h1,by simpa using B⟩⟩
 unfold putD;by_cases c:k∈r.map (·.1)
 . rw[if_pos (C.mpr c)];have e:(r.map λt=>if t.1=k then(t.1,gv r k+x)else t).map (·.1)=r.map (·.1):=by rw[eh];refine gu λy _=>?_;show(if y.1=k then _ else _:Int×Int).1=y.1;split<;>rfl
   refine⟨by rw[e];exact A,by simp,λt u=>?_,λW E=>Dt E A c⟩;obtain⟨y,G,rfl⟩:=da.mp u;by_cases z:y.1=k;.rw[if_pos z,z];exact .inl rfl
   .rw[if_neg z];exact .inr G
 . rw[if_neg λz=>c (C.mp z),WX c,Int.zero_add];refine⟨?_,by simp,λt u=>?_,λW _=>?_⟩;.rw[gy,i5];exact⟨A,by simp,λa H b I e=>c (by
      have:b=k:=by simpa using I
      rw[<-this,<-e];exact H)⟩
   . rcases eS.mp u with hj|hj;.exact .inr hj
     .exact .inl (dP.mp hj)
   .rw[Ep];simp[tG]
theorem W5{v:Int}(h:r.Pairwise (λa b=>a.1<b.1))(u:∀y∈r,y.1<=k):(putD r k v).Pairwise (λa b=>a.1<b.1):=by
 unfold putD;split;.rw[List.pairwise_map];refine h.imp λ{a b}e=>?_;split<;>split<;>exact e
 .rename_i A;rw[kU];refine⟨h,by simp,λa t b B=>?_⟩;have h1:=u a t;have C:a.1≠k:=λz=>A (kG.mpr ⟨a,t,by simpa using z⟩);rw[dP.mp B];show a.1<k;lia
noncomputable def Xb:D->Int×Int|.tup [.int a,.int b]=>(a,b)|_=>(0,0)
@[simp]theorem ahV{a b:Int}:Xb (.tup [.int a,.int b])=(a,b):=rfl
structure Tn(ws:List Wy)(cs:List (List az×Int))(kvs:List (Int×Int)):Prop where
 nd:(kvs.map (·.1)).Nodup
 len:kvs.length<=cs.length
 nn:∀kv∈kvs,1<=kv.1/\0<kv.2
 key:∀kv∈kvs,∃x∈cs,kv.1=bA ws x.1
 so:kvs.Pairwise (λa b=>a.1<b.1)sm:∀W,Lin W->tG W kvs=bu (λx=>W (bA ws x.1) x.2) cs
theorem Tn.put(h:Tn ws cs kvs){x:List az×Int}(h0:1<=bA ws x.1)(h1:0<x.2)(C:∀y∈cs,bA ws y.1<=bA ws x.1):Tn ws (cs++[x]) (putD kvs (bA ws x.1) (gv kvs (bA ws x.1)+x.2)):=by
 obtain⟨p1,p2,p3,E⟩:=wG (k:=bA ws x.1) (x:=x.2) h.nd;have G:=h.len;refine⟨p1,by simp;lia,λu t=>?_,λu t=>?_,W5 h.so λu t=>?_,λW B=>?_⟩
 . rcases p3 u t with e|e;.have:=abD (k:=bA ws x.1) λu t=>(h.nn u t).2;rw[e];exact⟨h0,by show 0<_+_;lia⟩
   .exact h.nn u e
 . rcases p3 u t with e|e;.exact⟨x,by simp,by rw[e]⟩
   .obtain⟨y,A,e⟩:=h.key u e;exact⟨y,by simp[A],e⟩
 .obtain⟨y,A,e⟩:=h.key u t;rw[e];exact C y A
 .rw[E W B,h.sm W B,jm]
theorem Kz{ws:List Wy}{b:Int}(h0:∀v∈ws,0<=v.h)(hh:∀v∈ws,v.h<=1000000):∀{c:List az}{a:Int},iy ws b c a->bA ws c<=1000000*(c.length:Int)
 |[],_,_=>by simp[bA]|s::c,a,⟨v,e,_,t⟩=>by
   have h1:=Kz h0 hh t;have u:=hh v (dl e);have y:=h0 v (dl e);have A:hst ws s<=1000000:=by rw[iu e];unfold hsp;split<;>lia
   rw[bA,dU];lia
theorem Tn.few(h:Tn ws cs kvs)(y:∀x∈cs,Chk m ws x)(A:ws.length<=12):kvs.length<=531441:=by
 have h1:=iK (l2:=(tK ws.length).map λe=>kh ws e/7) h.nd λk t=>by obtain⟨B,u,rfl⟩:=da.mp t;obtain⟨x,C,e⟩:=h.key B u;obtain⟨c1,c2,c3,c4⟩:=y x C;refine da.mpr ⟨Hk ws.length x.1,by have:=qu (e:=Hk ws.length x.1);rwa[vD]at this,?_⟩;rw[vL c3 c4,e];unfold zu;lia
 rw[dV,dV,rM]at h1;have E:3^ws.length<=3^12:=p_ (by decide) A;have G:(3:Nat)^12=531441:=by decide
 lia
inductive JBn(m:Int)(ws:List Wy)(cs:List (List az×Int))(r:List D)(ρ:List Sl):Prop where|mk(bf us:List (List az×Int))(kvs:List (Int×Int))(s2 s3 s4:Sl)(q0:ρ=[.val a_ (aL m ws),.gV (.k kvs),s2,s3,s4])(q1:A3 (fr s2=b_) (fr s3=b_) (fr s4=b_))(q2:r=us.map cD)(q3:bf++us=cs)(q4:Tn ws bf kvs)
theorem uC(Y:13286250<=w)(h:bh m ws)(k:∀cs fs F d es kvs,kvs.length<=531441->Ends m ws cs fs F d es->Tn ws cs kvs->kvs.Pairwise (λa b=>a.1<b.1)->(∀G∈kvs,G.1<=5000000)->Q (.own (kvs.map jC)) [.val a_ (aL m ws)]):(run Γ w (n+5) 10 [.val a_ (aL m ws)]).sat Q:=by
 refine aK (d:=f10) rfl rfl (by decide) ?_;symm;simp[f10,Qf];apply aj;simp;refine xU Y (HN.of h) (λv B=>(h.ok v B).r0) λcs fs F d es hl A=>?_;simp;refine bw (JBn m ws cs) ?_ ?_ ⟨[],cs,[],.aO,.aO,.aO,rfl,⟨rfl,rfl,rfl⟩,rfl,rfl,⟨by simp,by simp,by simp,by simp,by simp,λW _=>rfl⟩⟩;.rintro d r _⟨C,us,kvs,s2,s3,s4,rfl,⟨H,O,U⟩,hr,hd,t⟩;cases us with|nil=>cases hr|cons u us=>
     obtain⟨rfl,rfl⟩:d=cD u/\r=us.map cD:=by simpa using hr
     have I:u∈cs:=by rw[<-hd];simp
     have E:=A.ck u I;have Z:C.length<=cs.length:=by rw[<-hd];simp
     have J:=t.len;have L:(C++[u])++us=cs:=by rw[eM];exact hd
     simp[cD,H,O];apply aj;simp;refine Cg E.2.1 (by have:=E.1;lia) ?_;simp[U];apply aj;simp[Oz,Wj,Xr];rw[aa8 (by show _<16777216;lia)];simp;refine⟨C++[u],us,_,_,_,_,rfl,⟨rfl,rfl,rfl⟩,rfl,L,t.put ((A.iv.nn λv B=>(h.ok v B).h0).2 u I) (A.iv.ch u I).2.1 λy hy=>?_⟩;have hst:=A.st.1;rw[<-hd,kU]at hst;exact hst.2.2 y hy u (by simp)
 . rintro _⟨C,us,kvs,s2,s3,s4,rfl,⟨H,O,U⟩,hr,hd,t⟩;have:us=[]:=by cases us with|nil=>rfl|cons _ _=>cases hr
   subst this;rw[e_]at hd;subst hd;have J:=t.len;simp;apply aj;simp[show kvs.length<=16777216 by lia,t.so];refine k C fs F d es kvs (t.few A.ck (HN.of h).len) A t t.so λG M=>?_;obtain⟨x,X,e⟩:=t.key G M;have h1:=Kz (λv B=>((HN.of h).ok v B).2.2) (λv B=>(h.ok v B).h1) (A.ck x X).2.2.1;have H:=(A.ck x X).1;rw[e];lia
noncomputable def vt(T k v:Int):Int:=if k<=T then v*(T-k+1)else 0
noncomputable def gt(T k v:Int):Int:=if k<=T then v else 0
theorem Vw{T:Int}:Lin (vt T):=λk a b=>by
 unfold vt;split;.exact qb ..
 .rfl
theorem Xh{T:Int}:Lin (gt T):=λk a b=>by unfold gt;split<;>rfl
noncomputable def cU(m:Int)(ws:List Wy)(cs:List (List az×Int)):Prop:=(∀v∈ws,1<=v.h)/\∃fs F d es,Ends m ws cs fs F d es
noncomputable def Rt(ws:List Wy)(cs:List (List az×Int))(T:Int):Int:=bu (λx=>gt T (bA ws x.1) x.2) cs
noncomputable def yM(cs:List (List az×Int)):Int:=bu (λx=>x.2) cs
theorem kI.uniq{T v e:Int}(h:kI m ws T v)(h':kI m ws T e):v=e:=by obtain⟨q,t,u,y⟩:=h.ex;obtain⟨r,r0,r1,A⟩:=h'.ex;have:=h.le r r0 r1;have:=h'.le q t u;lia
theorem cU.least{m:Int}{ws:List Wy}{cs:List (List az×Int)}(h:cU m ws cs){T:Int}(h0:0<=T):kI m ws T (val ws T cs):=by obtain⟨t,fs,F,d,es,e⟩:=h;exact e.iv.least e.cm e.no h0
theorem mZ{H K:List az×Int->Int}:∀{cs:List (List az×Int)},bu (λx=>H x-K x) cs=bu H cs-bu K cs|[]=>rfl|x::cs=>by rw[bu,bu,bu,mZ];lia
theorem vK{H K:List az×Int->Int}:∀{cs:List (List az×Int)},(∀x∈cs,H x<=K x)->bu H cs<=bu K cs|[],_=>d_ _|x::cs,h=>by have h1:=h x (by simp);have t:=vK (H:=H) (K:=K) (cs:=cs) λy e=>h y (by simp[e]);rw[bu,bu];lia
theorem vp{T:Int}:Rt ws cs T=val ws T cs-val ws (T-1) cs:=by
 unfold Rt val;rw[<-mZ];refine dI λx _=>?_;show gt T (bA ws x.1) x.2=vt T (bA ws x.1) x.2-vt (T-1) (bA ws x.1) x.2;unfold gt vt;by_cases c:bA ws x.1<=T-1;.rw[if_pos (by lia),if_pos (by lia),if_pos c,<-qa,show T-bA ws x.1+1-(T-1-bA ws x.1+1)=1 by lia,mul_one]
 . by_cases c2:bA ws x.1<=T;.rw[if_pos c2,if_pos c2,if_neg c,show T-bA ws x.1+1=1 by lia,mul_one];lia
   .rw[if_neg c2,if_neg c2,if_neg c];rfl
theorem cU.nn{m:Int}{ws:List Wy}{cs:List (List az×Int)}(h:cU m ws cs):∀x∈cs,1<=bA ws x.1/\0<x.2:=by obtain⟨e,fs,F,d,es,t⟩:=h;exact λx u=>⟨(t.iv.nn e).2 x u,(t.iv.ch x u).2.1⟩
theorem cU.dg(h:cU m ws cs){T:Int}(h0:T<=0):val ws T cs=0:=by
 have:val ws T cs=bu (λ_=>0) cs:=dI λx e=>by have:=(h.nn x e).1;show vt T (bA ws x.1) x.2=0;unfold vt;rw[if_neg (by lia)]
 rw[this];clear this h;induction cs with|nil=>rfl|cons x cs t=>rw[bu,t];rfl
theorem cU.val_eq{e:List (List az×Int)}(h:cU m ws cs)(h':cU m ws e)(T:Int):val ws T cs=val ws T e:=by
 by_cases c:0<=T;.exact(h.least c).uniq (h'.least c)
 .rw[h.dg (by lia),h'.dg (by lia)]
theorem cU.Fo{e:List (List az×Int)}(h:cU m ws cs)(h':cU m ws e)(T:Int):Rt ws cs T=Rt ws e T:=by rw[vp,vp,h.val_eq h',h.val_eq h']
theorem cU.mono(h:cU m ws cs){T U:Int}(t:T<=U):Rt ws cs T<=Rt ws cs U:=vK λx e=>by have:=(h.nn x e).2;unfold gt;split<;>split<;>lia
theorem cU.Fw(h:cU m ws cs){T:Int}:Rt ws cs T<=yM cs:=vK λx e=>by have:=(h.nn x e).2;unfold gt;split<;>lia
theorem cU.xM(h:cU m ws cs){T:Int}:0<=Rt ws cs T:=by
 have h1:=h.mono (T:=min T 0) (U:=T) (by lia);have:Rt ws cs (min T 0)=0:=by rw[vp,h.dg (by lia),h.dg (by lia)];rfl
 lia
noncomputable def moD(T:Int)(d:D):Option D:=if(Xb d).1<=T then aU (.int ((Xb d).2*(T-(Xb d).1+1)))else ci
theorem Mw{T:Int}:∀(kvs:List (Int×Int)),∃ns:List Int,(kvs.map jC).filterMap (moD T)=ns.map D.int/\ns.sum=tG (vt T) kvs
 |[]=>⟨[],rfl,rfl⟩|kv::r=>by
   obtain⟨ns,h1,t⟩:=Mw (T:=T) r;have e:moD T (jC kv)=if kv.1<=T then aU (.int (kv.2*(T-kv.1+1)))else ci:=rfl;rw[c_,gL,h1,tG,<-t,e];unfold vt;by_cases c:kv.1<=T;.rw[if_pos c,if_pos c];exact⟨_::ns,rfl,by rw[hU]⟩
   .rw[if_neg c,if_neg c];exact⟨ns,rfl,by lia⟩
inductive F2t(a b:Sl)(ρ:List Sl):Prop where|mk(s:Sl)(t:Sl)(q0:ρ=[a,b,s,t])(q1:fr s=b_)(q2:fr t=b_)
theorem Bp{T:Int}{s:Sl}(hs:s=.own a_ (kvs.map jC)\/s=.val a_ (.lst (kvs.map jC)))(C:kvs.length<=16000000)(h0:∀u∈kvs,1<=u.1/\0<u.2)(E:T<=1000000000000000000)(k:Q (.val (.int (tG (vt T) kvs))) [s,.val a_ (.int T)]):(run Γ w (n+1) 25 [s,.val a_ (.int T)]).sat Q:=by refine aK (d:=f25) rfl rfl (by decide) ?_;symm;rcases hs with rfl|rfl;all_goals
  simp[f25,show kvs.length<=16777216 by lia];refine iH (F2t _ _) (moD T) ⟨.aO,.aO,rfl,rfl,rfl⟩ ?_ ?_
  . rintro d hd _⟨s,t,rfl,hs,ht⟩;obtain⟨u,y,rfl⟩:=da.mp hd;have:=(h0 u y).1;have e:moD T (jC u)=if u.1<=T then aU (.int (u.2*(T-u.1+1)))else ci:=rfl;by_cases c:u.1<=T
    . rw[if_pos c]at e;have A:mQ (.int u.2) (.int (T-u.1+1))=aU (.val (.int (u.2*(T-u.1+1)))):=by show(if _ then _ else _)=_;rw[if_pos];right;lia
      rw[e];simp[hs,ht,jC,c,A];exact⟨_,_,rfl,rfl,rfl⟩
    .rw[if_neg c]at e;rw[e];simp[hs,ht,jC,c];exact⟨_,_,rfl,rfl,rfl⟩
  .rintro _⟨s,t,rfl,hs,ht⟩;obtain⟨ns,h1,B⟩:=Mw (T:=T) kvs;rw[h1];simp[fV,B];exact k
theorem Bl{T:Int}(t:13286250<=w)(h:bh m ws)(u:T<=1000000000000000000)(k:∀cs,cU m ws cs->Q (.val (.int (val ws T cs))) [.val a_ (aL m ws),.val a_ (.int T)]):(run Γ w (n+6) 26 [.val a_ (aL m ws),.val a_ (.int T)]).sat Q:=by refine aK (d:=f26) rfl rfl (by decide) ?_;symm;simp[f26];refine uC t h λcs fs F d es kvs B y e _ _=>?_;simp;refine Bp (.inl rfl) (by lia) e.nn u ?_;simp;rw[e.sm _ Vw];exact k cs ⟨λv A=>(h.ok v A).h0,fs,F,d,es,y⟩
noncomputable def byD(T:Int)(d:D):Option D:=if(Xb d).1<=T then aU d else ci
noncomputable def tM(T:Int)(kvs:List (Int×Int)):List (Int×Int):=kvs.filter λe=>decide (e.1<=T)
theorem Kc{T:Int}:∀{kvs:List (Int×Int)},(kvs.map jC).filterMap (byD T)=(tM T kvs).map jC
 |[]=>rfl|kv::r=>by
   have e:byD T (jC kv)=if kv.1<=T then aU (jC kv)else ci:=rfl;rw[c_,gL,Kc,e];unfold tM;rw[i3];by_cases c:kv.1<=T;.rw[if_pos c,if_pos (by simpa using c)];rfl
   .rw[if_neg c,if_neg (by simpa using c)]
theorem DX{T:Int}:∀{kvs:List (Int×Int)},((tM T kvs).map (·.2)).sum=tG (gt T) kvs
 |[]=>rfl|kv::r=>by
   have e:=DX (T:=T) (kvs:=r);unfold tM at e ⊢;rw[i3,tG];unfold gt at*;by_cases c:kv.1<=T;.rw[if_pos (by simpa using c),if_pos c,c_,hU,e]
   .rw[if_neg (by simpa using c),if_neg c,e];lia
theorem zb{T:Int}(u:13286250<=w)(h:bh m ws)(k:∀cs kvs,kvs.length<=531441->cU m ws cs->Tn ws cs kvs->Q (.own ((tM T kvs).map jC)) [.val a_ (aL m ws),.val a_ (.int T)]):(run Γ w (n+6) 24 [.val a_ (aL m ws),.val a_ (.int T)]).sat Q:=by
 refine aK (d:=f24) rfl rfl (by decide) ?_;symm;simp[f24];refine uC u h λcs fs F d es kvs y A B _ _=>?_;simp[show kvs.length<=16777216 by lia];refine iH (F2s _ _) (byD T) ⟨.aO,rfl,rfl⟩ ?_ ?_
 . rintro d hd _⟨s,rfl,hs⟩;obtain⟨t,C,rfl⟩:=da.mp hd;have e:byD T (jC t)=if t.1<=T then aU (jC t)else ci:=rfl;by_cases c:t.1<=T;.rw[if_pos c]at e;rw[e];simp[hs,jC,c];exact⟨_,rfl,rfl⟩
   .rw[if_neg c]at e;rw[e];simp[hs,jC,c];exact⟨_,rfl,rfl⟩
 .rintro _⟨s,rfl,hs⟩;rw[Kc];simp;exact k cs kvs y ⟨λv E=>(h.ok v E).h0,fs,F,d,es,A⟩ B
noncomputable def Vd(d:D):D:=.int (Xb d).2
theorem qT{T:Int}(B:13286250<=w)(h:bh m ws)(k:∀cs,cU m ws cs->Q (.val (.int (Rt ws cs T))) [.val a_ (aL m ws),.val a_ (.int T)]):(run Γ w (n+7) 27 [.val a_ (aL m ws),.val a_ (.int T)]).sat Q:=by
 refine aK (d:=f27) rfl rfl (by decide) ?_;symm;simp[f27];refine zb B h λcs kvs H C E=>?_;have u:(tM T kvs).length<=16777216:=by have:=jg (λy:Int×Int=>decide (y.1<=T)) kvs;unfold tM;lia
 simp[u];refine cg (F2t _ _) Vd ⟨.aO,.aO,rfl,rfl,rfl⟩ ?_ ?_;.rintro d hd _⟨s,t,rfl,hs,ht⟩;obtain⟨y,G,rfl⟩:=da.mp hd;simp[hs,ht,jC,Vd,Xb];exact⟨_,_,rfl,rfl,rfl⟩
 . rintro _⟨s,t,rfl,hs,ht⟩;have e:((tM T kvs).map jC).map Vd=((tM T kvs).map (·.2)).map D.int:=by rw[eh,eh];rfl
   rw[e];have A:=DX (T:=T) (kvs:=kvs);rw[E.sm _ Xh]at A;generalize(tM T kvs).map (·.2)=ns at*;simp[fV,A];exact k cs C
noncomputable def iC:List (List az×Int)->Int->List (List az×Int)|[],_=>[]|x::r,q=>(x.1,min q x.2)::iC r (q-min q x.2)
noncomputable def S9:List (List az×Int)->Int->Int|[],q=>q|x::r,q=>S9 r (q-min q x.2)
theorem Qk:∀{l:List (List az×Int)}{q:Int},(iC l q).length=l.length|[],_=>rfl|x::r,q=>by rw[iC,dU,Qk,dU]
theorem Em:∀{l:List (List az×Int)}{q:Int}{y:List az×Int},y∈iC l q->∃x∈l,y.1=x.1
 |[],_,_,h=>by cases h|x::r,q,y,h=>by
   rw[iC,cK]at h;rcases h with rfl|h;.exact⟨x,by simp,rfl⟩
   .obtain⟨z,hz,e⟩:=Em h;exact⟨z,by simp[hz],e⟩
theorem Tj:∀{l:List (List az×Int)}{q:Int},(∀x∈l,0<x.2)->0<=q->q<=yM l->S9 l q=0
 |[],q,_,h0,h1=>by have h1:q<=0:=h1;rw[S9];lia|x::r,q,h,h0,h1=>by
   have A:=h x (by simp);have h1:q<=x.2+yM r:=h1;have hr:0<=yM r:=by
    have:∀(l:List (List az×Int)),(∀x∈l,0<x.2)->0<=yM l:=λl=>by induction l with|nil=>intro _;exact d_ _|cons y l t=>intro e;have B:=t λz hz=>e z (by simp[hz]);have C:=e y (by simp);show 0<=y.2+yM l;lia
    exact this r λz hz=>h z (by simp[hz])
   rw[S9];exact Tj (λy u=>h y (by simp[u])) (by lia) (by lia)
inductive JCu(a0 a1:Sl)(N:Nat)(out:List (List az×Int))(z:Int)(r:List D)(ρ:List Sl):Prop where|mk(us bf:List (List az×Int))(q:Int)(s4 s5 s6:Sl)(q0:ρ=[a0,a1,.own a_ (bf.map cD),.val a_ (.int q),s4,s5,s6])(q1:A3 (fr s4=b_) (fr s5=b_) (fr s6=b_))(q2:r=us.map cD)(q3:bf++iC us q=out)(q4:S9 us q=z)(q5:bf.length+us.length=N)
theorem GJ{q:Int}(E:cs.length<=16000000)(hz:S9 cs q=0)(k:Q (.own ((iC cs q).map cD)) [.own a_ (cs.map cD),.val a_ (.int q)]):(run Γ w (n+1) 9 [.own a_ (cs.map cD),.val a_ (.int q)]).sat Q:=by
 refine aK (d:=f9) rfl rfl (by decide) ?_;symm;simp[f9];apply aj;simp;apply aj;simp;refine bw (JCu _ _ cs.length (iC cs q) 0) ?_ ?_ ⟨cs,[],q,.aO,.aO,.aO,rfl,⟨rfl,rfl,rfl⟩,rfl,rfl,hz,by simp⟩;.rintro d r _⟨us,e,q,s4,s5,s6,rfl,⟨t,y,A⟩,hr,ho,hz,B⟩;cases us with|nil=>cases hr|cons u us=>
     obtain⟨rfl,rfl⟩:d=cD u/\r=us.map cD:=by simpa using hr
     rw[iC]at ho;rw[S9]at hz;rw[dU]at B;simp[cD,t,y];apply aj;simp[A];apply aj;simp[show e.length<16777216 by lia];apply aj;simp;have C:(if u.2<q then u.2 else q)=min q u.2:=by split<;>lia
     rw[C];exact⟨us,e++[(u.1,min q u.2)],q-min q u.2,_,_,_,by rw[gy];rfl,⟨rfl,rfl,rfl⟩,rfl,by rw[eM];exact ho,hz,by simp;lia⟩
 . rintro _⟨us,e,q,s4,s5,s6,rfl,⟨t,y,A⟩,hr,ho,hz,B⟩;have:us=[]:=by cases us with|nil=>rfl|cons _ _=>cases hr
   subst this;rw[iC,e_]at ho;rw[S9]at hz;subst ho;subst hz;simp;apply aj;simp;apply aj;simp;exact k
theorem J1{fs:List Int}:∀{c:List az},aug 0 fs c=fs
 |[]=>rfl|s::c=>by
   show aug 0 (gB 0 fs s) c=fs;have:gB 0 fs s=fs:=by
    unfold gB;have h0:sg 0 s.2=0:=by cases s.2<;>rfl
    rw[h0,o3];refine List.ext_getElem? λi=>?_;rw[m2];split
    . rename_i e;subst e;split;.rename_i h;simp[h]
      .rename_i h;simp at h;simp[h]
    .rfl
   rw[this,J1]
structure Bq(m:Int)(ws:List Wy)(ts:List (List az×Int))(fs:List Int):Prop where
 fit:N6 ws fs
 ht:∃F,Pt ws fs F/\F 0=0
 dt:∀k q,dC (gap k q) ws fs=bu (λx=>x.2*(q (m-1)-q 0-k*bA ws x.1)) ts
theorem Dj:∀{l:List (List az×Int)}{fs:List Int}{H:List az×Int->Int},(∀x∈l,0<x.2)->(∀c,H (c,0)=0)->(iC l 0).foldl oJ fs=fs/\bu H (iC l 0)=0
 |[],_,_,_,_=>⟨rfl,rfl⟩|x::r,fs,H,h,t=>by
   have C:=h x (by simp);have u:=Dj (l:=r) (fs:=fs) (λy A=>h y (by simp[A])) t;have e:iC (x::r) 0=(x.1,0)::iC r 0:=by rw[iC,show min 0 x.2=0 by lia,Int.sub_self]
   rw[e,k8,bu,t,u.2];have B:oJ fs (x.1,0)=fs:=J1;rw[B];exact⟨u.1,rfl⟩
theorem oM{H:List az×Int->Int}{b:List (List az×Int)}:∀{a:List (List az×Int)},bu H (a++b)=bu H a+bu H b|[]=>by simp[bu]|x::a=>by rw[kb,bu,bu,oM];lia
theorem Ends.light{d:Int}{fs:List Int}(B:Ends m ws cs fs F d es):∀(t A:List (List az×Int))(q:Int),A++t=cs->0<=q->Bq m ws (A++iC t q) ((iC t q).foldl oJ (flow ws.length A)):=by
 have pos:∀x∈cs,0<x.2:=λx I=>(B.iv.ch x I).2.1;have C:∀A t,A++t=cs->Bq m ws A (flow ws.length A):=λA t e=>by cases t with|nil=>rw[e_]at e;subst e;rw[<-B.fl];exact⟨B.iv.fit,⟨F,B.iv.pt,B.iv.z⟩,B.iv.dt⟩|cons x r=>have s:=B.st.2 A x r e.symm;obtain⟨J,d0,iv⟩:=s.iv;exact⟨iv.fit,⟨J,iv.pt,iv.z⟩,iv.dt⟩
 have zero:∀(t E:List (List az×Int))(gs:List Int),(∀x∈t,0<x.2)->Bq m ws E gs->Bq m ws (E++iC t 0) ((iC t 0).foldl oJ gs):=λt E gs L h=>by have hz:=λH M=>Dj (l:=t) (fs:=gs) (H:=H) L M;rw[(hz (λ_=>0) λ_=>rfl).1];refine⟨h.fit,h.ht,λk q=>?_⟩;rw[oM,(hz (λx=>x.2*(q (m-1)-q 0-k*bA ws x.1)) λc=>by simp).2,h.dt,o3]
 intro t;induction t with|nil=>intro A q e _;rw[iC,e_];exact C A [] e|cons x r O=>
   intro A q e Y;have I:=pos x (by rw[<-e];simp);have hr:∀y∈r,0<y.2:=λy U=>pos y (by rw[<-e];simp[U]);rw[iC];by_cases c:x.2<=q
   . have G:min q x.2=x.2:=by lia
     rw[G];have:=O (A++[x]) (q-x.2) (by rw[eM];exact e) (by lia);rw[eM,qy]at this;exact this
   . have G:min q x.2=q:=by lia
     rw[G,Int.sub_self,k8];have s:=B.st.2 A x r e.symm;have ck:=B.ck x (by rw[<-e];simp);obtain⟨F1,p1,p2,p3⟩:=s.ht;obtain⟨J,d0,iv⟩:=s.iv;have g:Bq m ws (A++[(x.1,q)]) (oJ (flow ws.length A) (x.1,q)):=by
      show Bq m ws _ (aug q (flow ws.length A) x.1);refine⟨?_,⟨F1,p1.aug ck.2.2.1 s.op (by rw[p2,p3];lia),p2⟩,λk Z=>?_⟩
      . by_cases z:q=0;.subst z;rw[J1];exact iv.fit
        .refine iv.fit.aug ck.2.2.2 (by lia) λu W=>?_;obtain⟨v,g,h1,X,h3⟩:=s.rm u W;exact⟨v,g,h1,X,by lia⟩
      .rw[pZ iv.fit.len ck.2.2.1,iv.dt,jm]
     have:=zero r _ _ hr g;rw[eM]at this;exact this
theorem Ad{ws:List Wy}{T:Int}:∀{cs:List (List az×Int)},cs.Pairwise (λa b=>bA ws a.1<=bA ws b.1)->(∀x∈cs,0<x.2)->0<=Rt ws cs T/\bu (λx=>x.2*(T+1-bA ws x.1)) (iC cs (Rt ws cs T))=val ws T cs
 |[],_,_=>⟨d_ _,rfl⟩|x::r,t,h=>by
   have G:=h x (by simp);have t:=ki.mp t;obtain⟨H,e⟩:=Ad (T:=T) t.2 λy hy=>h y (by simp[hy]);have u:Rt ws (x::r) T=gt T (bA ws x.1) x.2+Rt ws r T:=rfl;have A:val ws T (x::r)=vt T (bA ws x.1) x.2+val ws T r:=rfl;by_cases c:bA ws x.1<=T
   . have B:gt T (bA ws x.1) x.2=x.2:=by unfold gt;rw[if_pos c]
     have C:vt T (bA ws x.1) x.2=x.2*(T+1-bA ws x.1):=by unfold vt;rw[if_pos c];congr 1;lia
     rw[u,A,B,C,iC,show min (x.2+Rt ws r T) x.2=x.2 by lia,show x.2+Rt ws r T-x.2=Rt ws r T by lia,bu,e];exact⟨by lia,rfl⟩
   . have z:∀y∈x::r,¬ bA ws y.1<=T:=λy hy=>by
      rcases cK.mp hy with rfl|hy;.exact c
      .have:=t.1 y hy;lia
     have r0:Rt ws (x::r) T=0:=by
      have:Rt ws (x::r) T=bu (λ_=>0) (x::r):=dI λy hy=>by unfold gt;rw[if_neg (z y hy)]
      rw[this];have:∀l:List (List az×Int),bu (λ_=>0) l=0:=λl=>by induction l with|nil=>rfl|cons y l e=>rw[bu,e];rfl
      exact this _
     have E:val ws T (x::r)=0:=by
      have:val ws T (x::r)=bu (λ_=>0) (x::r):=dI λy hy=>by unfold Ol;rw[if_neg (z y hy)]
      rw[this];have:∀l:List (List az×Int),bu (λ_=>0) l=0:=λl=>by induction l with|nil=>rfl|cons y l e=>rw[bu,e];rfl
      exact this _
     rw[r0,E];exact⟨d_ _,(Dj (fs:=[]) h λc=>by simp).2⟩
noncomputable def late(ws:List Wy):Int:=lr (λv=>v.h) ws
theorem Dy{ws:List Wy}{b:Int}{t:az}{v:Wy}(e:ws[t.1]?=aU v):∀{c:List az}{a:Int},iy ws b c a->t∈c->frm v t.2∈qR ws c a/\too v t.2∈qR ws c a
 |[],_,_,h=>by cases h|s::c,a,⟨y,u,A,B⟩,h=>by
   have C:qQ ws s=too y s.2:=by unfold qQ;rw[u]
   rw[qR,C];rcases cK.mp h with rfl|h;.rw[e]at u;cases u;refine⟨by rw[A];simp,dr _ ?_⟩;cases c<;>simp[qR]
   .have:=Dy e B h;exact⟨dr _ this.1,dr _ this.2⟩
theorem Dg{ws:List Wy}{b:Int}:∀{c:List az}{a:Int},iy ws b c a->(qR ws c a).Nodup->(c.map (·.1)).Nodup
 |[],_,_,_=>by simp|s::c,a,⟨v,e,B,C⟩,u=>by
   have E:qQ ws s=too v s.2:=by unfold qQ;rw[e]
   rw[qR,E,ez]at u;rw[c_,ez];refine⟨λG=>?_,Dg C u.2⟩;obtain⟨t,ht,A⟩:=da.mp G;have y:=Dy (t:=t) (by rw[A];exact e) C ht;by_cases z:t.2=s.2;.rw[z,B]at y;exact u.1 y.1
   .rw[(jZ z).2,B]at y;exact u.1 y.2
theorem W4(hh:∀v∈ws,0<=v.h)(u:iy ws b c a)(y:(c.map (·.1)).Nodup):0<=late ws+bA ws c:=by
 have h1:=pZ (k:=1) (x:=1) (q:=λ_=>0) (fs:=cr ws.length 0) (by simp) u;rw[p7]at h1;have C:dC (gap 1 λ_=>0) ws (aug 1 (cr ws.length 0) c)<=late ws:=by
  refine vO (by rw[gW];simp) λj v g t e=>?_;have E:=hh v (dl t);have A:g=0\/g=1\/g=-1:=by
   by_cases z:j∈c.map (·.1);.obtain⟨s,hs,rfl⟩:=da.mp z;have B:s.1<ws.length:=(dD t).1;rw[nj y hs (g:=0) (by simp[B])]at e;cases e;cases s.2<;>simp[sg]
   .rw[gZ z]at e;exact .inl (wJ e)
  unfold gap;rcases A with rfl|rfl|rfl<;>simp<;>lia
 lia
noncomputable def ue(m:Int)(L:Int)(i:Nat):List (Int×Int):=(0,0)::(dS i).map λ(j:Nat)=>(1+(j:Int),L)
theorem jX{L:Int}{i:Nat}:(a,b)∈ue m L i↔(a=0/\b=0)\/(1<=a/\a<1+(i:Int)/\b=L):=by
 unfold ue;rw[cK,da];constructor
 . rintro(h|⟨j,e,h⟩);.cases h;exact .inl ⟨rfl,rfl⟩
   .cases h;have:=iq.mp e;exact .inr ⟨by lia,by lia,rfl⟩
 . rintro(⟨rfl,rfl⟩|⟨h1,t,rfl⟩);.exact .inl rfl
   .exact .inr ⟨(a-1).toNat,iq.mpr (by lia),by rw[Prod.mk.injEq];exact⟨by lia,rfl⟩⟩
theorem Lk{L:Int}{i:Nat}:ue m L (i+1)=ue m L i++[(1+(i:Int),L)]:=by unfold ue;rw[List.range_succ,gy];rfl
theorem V8{L:Int}{i:Nat}:((ue m L i).map (·.1)).Nodup:=by
 unfold ue;rw[c_,eh,ez];refine⟨λh=>?_,?_⟩;.obtain⟨j,_,e⟩:=da.mp h;have e:1+(j:Int)=0:=e;lia
 .refine List.Pairwise.map _ (λa b(h:a≠b)=>?_) List.nodup_range;show 1+(a:Int)≠1+(b:Int);lia
noncomputable def bD(p:Int×Int):Int×D:=(p.1,.int p.2)
theorem R3{bs:List (Int×Int)}:Gd (bs.map bD)=bs.map (·.1):=by simp[Gd,bD,iF]
theorem aa1{bs:List (Int×Int)}:dsV (bs.map bD)=bs.map λp=>.int p.2:=by simp[dsV,bD,iF]
theorem aaZ{bs:List (Int×Int)}(h:p∉bs.map (·.1)):pI (bs.map bD) p=a_:=by cases e:pI (bs.map bD) p with|false=>rfl|true=>have e:(Gd (bs.map bD)).contains p=b_:=e;rw[R3,jv]at e;exact absurd e h
theorem Qu{c:Call}{x:Nat}{e:Int}:ex c n (.Nf x k e) ρ=match ρ[x]?with|some .aO=>.ok .next (ρ.set x (.cM [(k,.int e)]))|some (.cM _)=>.ok .next (ρ.set x (.cM [(k,.int e)]))|some (.val a_ _)=>.ok .next (ρ.set x (.cM [(k,.int e)]))|_=>.stuck:=(rfl)
noncomputable def hD4(d:D):D:=match d with|.tup [_,_,_,h]=>h|_=>d
@[simp]theorem ail{a b c h:D}:hD4 (.tup [a,b,c,h])=h:=rfl
theorem yW:∀{ws:List Wy},(ws.map Wy.h).sum=late ws|[]=>rfl|v::ws=>by rw[c_,hU,yW];rfl
inductive F6c(a0 a1 a2 a3 a4 a5:Sl)(ρ:List Sl):Prop where|mk(s:Sl)(q0:ρ=[a0,a1,a2,a3,a4,a5,s])(q1:fr s=b_)
inductive JFc(m:Int)(ws:List Wy)(a0 a1:Sl)(i:Nat)(ρ:List Sl):Prop where|mk(s4:Sl)(q0:ρ=[a0,a1,.val a_ (.int (late ws)),.cM ((ue m (late ws) i).map bD),s4,.aO])(q1:fr s4=b_)
noncomputable def Y6(es:List En)(p:Int):Int:=Hh (λ_=>0) 0 es p
noncomputable def lbD(es:List En):D->D|.int p=>.int (Y6 es p)|d=>d
theorem BW{s:Sl}{fs:List Int}(Z:100<=w)(hs:Ro s fs)(h:HN m ws)(E:fs.length=ws.length)(I:Pt ws fs F)(k:∀es,xW m ws fs (ue m (late ws) (m-1).toNat) es->Q (.own (((dS m.toNat).map λ(i:Nat)=>Y6 es (i:Int)).map D.int)) [.val a_ (aL m ws),s]):(run Γ w (n+4) 22 [.val a_ (aL m ws),s]).sat Q:=by
 have m0:=h.m0;have m1:=h.m1;have hn:=h.len;have hh:∀v∈ws,0<=v.h:=λv hv=>(h.ok v hv).2.2;have ac:0<=late ws:=by
  have:∀(l:List Wy),(∀v∈l,0<=v.h)->0<=late l:=λl=>by induction l with|nil=>intro _;exact d_ _|cons v l ih=>intro E;have h1:=E v (by simp);have J:=ih λu hu=>E u (by simp[hu]);show 0<=v.h+late l;lia
  exact this ws hh
 refine aK (d:=f22) rfl rfl (by decide) ?_;refine cQ (λρ=>ρ=[.val a_ (aL m ws),s,.val a_ (.int (late ws)),.aO,.aO,.aO]) ?_ ?_
 . simp[f22,show ws.length<=16777216 by lia];refine cg (F6c _ _ _ _ _ _) hD4 ⟨.aO,rfl,rfl⟩ ?_ ?_;.rintro d hd _⟨B,rfl,t⟩;obtain⟨v,_,rfl⟩:=da.mp hd;simp[t,Wy.d];exact⟨_,rfl,rfl⟩
   . rintro _⟨B,rfl,t⟩;have e:(ws.map Wy.d).map hD4=(ws.map Wy.h).map D.int:=by rw[eh,eh];rfl
     rw[e];have e2:=yW (ws:=ws);generalize ws.map Wy.h=ns at*;simp[fV,e2]
 rintro _ rfl;symm;simp[Qu];refine cQ (JFc m ws (.val a_ (aL m ws)) s (m-1).toNat) ?_ ?_
 . simp[show m<=1000000000 by lia,show-1000000000<=m by lia];rw[show m.toNat-1=(m-1).toNat by lia];refine mL (JFc m ws (.val a_ (aL m ws)) s) ?_ ?_ ⟨.aO,rfl,rfl⟩
   . rintro i _ hi⟨s4,rfl,G⟩;have L:pI ((ue m (late ws) i).map bD) (1+(i:Int))=a_:=aaZ λz=>by obtain⟨⟨a,b⟩,y,e⟩:=da.mp z;have e:a=1+(i:Int):=e;rcases jX.mp y with⟨h1,_⟩|⟨h1,J,_⟩<;>lia
     have H:gq ((ue m (late ws) i).map bD) (1+(i:Int)) (.int (late ws))=(ue m (late ws) (i+1)).map bD:=by rw[mF L,Lk,gy];rfl
     simp[G];apply aj;simp[H];refine⟨λ_=>⟨_,rfl,rfl⟩,?_⟩;have:(ue m (late ws) i).length=i+1:=by simp[ue]
     show _<16777216;lia
   .rintro _⟨s4,rfl,G⟩;exact⟨rfl,_,rfl,G⟩
 rintro _⟨s4,rfl,G⟩;have X:∀a b,(a,b)∈ue m (late ws) (m-1).toNat->0<=a/\a<m:=λa b y=>by rcases jX.mp y with⟨h1,_⟩|⟨h1,J,_⟩<;>lia
 have hZ:∀a b c,(a,b)∈ue m (late ws) (m-1).toNat->iy ws 0 c a->tH ws fs c->0<=b+bA ws c:=λa b c y H ho=>by
  obtain⟨c',Y,q2,q3,q4,q5⟩:=short h I (X a b y) _ (cN) H ho;have h1:=W4 hh Y (Dg Y q5);have J:bA ws c'<=bA ws c:=by unfold Le at q4;lia
  rcases jX.mp y with⟨rfl,rfl⟩|⟨_,_,rfl⟩;.have:=lu I H ho;lia
  .lia
 have M:∀{n:Nat}{Q:R->List Sl->Prop}(B:Sl),Ro B fs->(∀es,xW m ws fs (ue m (late ws) (m-1).toNat) es->Q (.val (jr es)) [.val a_ (aL m ws),B,xj (ue m (late ws) (m-1).toNat)])->(run Γ w (n+3) 5 [.val a_ (aL m ws),B,xj (ue m (late ws) (m-1).toNat)]).sat Q:=λB t k'=>uW Z I X (jX.mpr (.inl ⟨rfl,rfl⟩)) V8 hZ t h E k';generalize O:ue m (late ws) (m-1).toNat=bs at*;symm;rcases hs with rfl|⟨b,rfl⟩;all_goals
  simp[R3,aa1];refine M _ (by first|exact .inl rfl|exact .inr ⟨_,rfl⟩) λes A=>?_;simp;apply aj;simp[show m<=1000000000 by lia,show-1000000000<=m by lia];refine⟨λ_=>?_,by show _<=16777216;lia⟩;refine cg (F6c _ _ _ _ _ _) (lbD es) ⟨.aO,rfl,rfl⟩ ?_ ?_
  . rintro d hd _⟨B,rfl,t⟩;obtain⟨i,hi,rfl⟩:=da.mp hd;have hi:=iq.mp hi;obtain⟨l,o,z,_⟩:∃l o,((i:Int),l,o)∈es/\True:=by
     have C:∃b,((i:Int),b)∈bs:=by
      rw[<-O];by_cases c:i=0;.exact⟨0,jX.mpr (.inl ⟨by lia,rfl⟩)⟩
      .exact⟨late ws,jX.mpr (.inr ⟨by lia,by lia,rfl⟩)⟩
     obtain⟨b,U⟩:=C;obtain⟨l,o,z,_⟩:=A.bg _ _ U;exact⟨l,o,z,trivial⟩
    have gz:=yO A.cm.nd z;have W:Y6 es (i:Int)=o.2:=iz A.cm.nd z;simp[t,jr,gz,zP,lbD,W];exact⟨_,rfl,rfl⟩
  . rintro _⟨B,rfl,t⟩;have e:((dS m.toNat).map λ(k:Nat)=>D.int (k:Int)).map (lbD es)=((dS m.toNat).map λ(i:Nat)=>Y6 es (i:Int)).map D.int:=by rw[eh,eh];rfl
    rw[e];have L:=k es A;generalize((dS m.toNat).map λ(i:Nat)=>Y6 es (i:Int))=ns at*;simp;exact L
noncomputable def lgD(fs:List Int)(cl:List Int):D:=.tup [.lst (fs.map D.int),.lst (cl.map D.int)]
inductive JLi(m q:Int)(ws:List Wy)(ts:List (List az×Int))(r:List D)(ρ:List Sl):Prop where|mk(bf us:List (List az×Int))(s3 s4:Sl)(q0:ρ=[.val a_ (aL m ws),.val a_ (.int q),.own a_ ((flow ws.length bf).map D.int),s3,s4])(q1:(fr s3=b_/\fr s4=b_))(q2:r=us.map cD)(q3:bf++us=ts)
theorem Ko:(flow N cs).length=N:=by
 have:∀(cs:List (List az×Int))(fs:List Int),(cs.foldl oJ fs).length=fs.length:=λcs=>by induction cs with|nil=>intro fs;rfl|cons x cs e=>intro fs;rw[k8,e];exact gW
 unfold flow;rw[this];simp
theorem uP{q:Int}(X:13286250<=w)(h:bh m ws)(M:0<=q)(Y:∀cs,cU m ws cs->q<=yM cs)(k:∀cs fs cl,cU m ws cs->cs.Pairwise (λa b=>bA ws a.1<=bA ws b.1)->Bq m ws (iC cs q) fs->Q (.val (lgD fs cl)) [.val a_ (aL m ws),.val a_ (.int q)]):(run Γ w (n+5) 23 [.val a_ (aL m ws),.val a_ (.int q)]).sat Q:=by
 have hn:=h.len;have O:=HN.of h;refine aK (d:=f23) rfl rfl (by decide) ?_;refine cQ (λρ=>ρ=[.val a_ (aL m ws),.val a_ (.int q),.own a_ ((flow ws.length []).map D.int),.aO,.aO]) ?_ ?_;.simp[f23,flow];show _<=16777216;lia
 rintro _ rfl;symm;simp;refine xU X O (λv C=>(h.ok v C).r0) λcs fs F d es Z t=>?_;have A:cU m ws cs:=⟨λv C=>(h.ok v C).h0,fs,F,d,es,t⟩;have B:=t.light cs [] q rfl M;have E:(iC cs q).foldl oJ (flow ws.length [])=flow ws.length (iC cs q):=rfl;rw[E,mw]at B;have G:=t.ck;simp;refine GJ (by lia) (Tj (λx H=>(t.iv.ch x H).2.1) M (Y cs A)) ?_;simp;refine bw (JLi m q ws (iC cs q)) ?_ ?_ ⟨[],iC cs q,.aO,.aO,rfl,⟨rfl,rfl⟩,rfl,rfl⟩;.rintro d r _⟨I,us,s3,s4,rfl,⟨U,W⟩,hr,hd⟩;cases us with|nil=>cases hr|cons u us=>
     obtain⟨rfl,rfl⟩:d=cD u/\r=us.map cD:=by simpa using hr
     have J:(I++[u])++us=iC cs q:=by rw[eM];exact hd
     obtain⟨x,H,e⟩:=Em (l:=cs) (q:=q) (y:=u) (by rw[<-hd];simp);simp[cD,U,W];apply aj;simp;refine yc (.inr ⟨b_,rfl⟩) (λs hs=>by rw[Ko];exact(G x H).2.1 s (by rw[<-e];exact hs)) ?_;simp;exact⟨I++[u],us,_,_,by rw[qy],⟨rfl,rfl⟩,rfl,J⟩
 . rintro _⟨I,us,s3,s4,rfl,⟨U,W⟩,hr,hd⟩;have:us=[]:=by cases us with|nil=>rfl|cons _ _=>cases hr
   subst this;rw[e_]at hd;subst hd;obtain⟨F1,p1,p2⟩:=B.ht;simp;apply aj;simp;refine BW (by lia) (.inl rfl) O B.fit.len p1 λL ac=>?_;have hk:=λcl=>k cs (flow ws.length (iC cs q)) cl A t.st.1 B;generalize((dS m.toNat).map λ(i:Nat)=>Y6 L (i:Int))=ns at*;simp;exact hk ns
theorem Ou{T:Int}(y:13286250<=w)(h:bh m ws)(k:∀cs fs A,cU m ws cs->Bq m ws A fs->bu (λx=>x.2*(T+1-bA ws x.1)) A=val ws T cs->Q (.val (.lst (fs.map D.int))) [.val a_ (aL m ws),.val a_ (.int T)]):(run Γ w (n+8) 28 [.val a_ (aL m ws),.val a_ (.int T)]).sat Q:=by refine aK (d:=YB) rfl rfl (by decide) ?_;symm;simp[YB];refine qT y h λcs u=>?_;simp;refine uP y h u.xM (λt e=>by rw[u.Fo e];exact e.Fw) λt fs cl e C B=>?_;rw[u.Fo e]at B;simp[lgD];exact k t fs _ e B (Ad C λx E=>(e.nn x E).2).2
noncomputable def QC(T:Int)(q:Int->Int)(p:Int):Int:=max 0 (min (T+1) (q p))
theorem Ds{H K:Wy->Int}:∀{ws:List Wy},(∀v∈ws,H v<=K v)->lr H ws<=lr K ws|[],_=>d_ _|v::ws,h=>by have h1:=h v (by simp);have t:=Ds (H:=H) (K:=K) (ws:=ws) λu e=>h u (by simp[e]);rw[lr,lr];lia
theorem Lq{T:Int}{r:Int->Int}(h:bh m ws)(hr:∀p,0<=p->p<m->r p=QC T q p):Bb r ws<=Bb q ws:=Ds λv e=>by have ho:=h.ok v e;have h0:=ho.h0;unfold rR;refine Int.mul_le_mul_of_nonneg_left ?_ ho.r0;rw[hr _ ho.s0 ho.s1,hr _ ho.t0 ho.t1];unfold QC;lia
theorem nG{G H:Wy->Int}:∀{ws:List Wy}{fs:List Int},fs.length=ws.length->(∀(j:Nat)v g,ws[j]?=aU v->fs[j]?=aU g->G v*g<=H v)->lr H ws<=dC G ws fs->∀(j:Nat)v g,ws[j]?=aU v->fs[j]?=aU g->G v*g=H v
 |[],[],_,_,_,j,v,g,e,_=>by simp at e|[],_::_,h,_,_,_,_,_,_,_=>by simp at h|_::_,[],h,_,_,_,_,_,_,_=>by simp at h|u::ws,x::fs,h,k,ht,j,v,g,t,y=>by
   have A:fs.length=ws.length:=by simpa using h
   have C:=k 0 u x rfl rfl;have B:∀(j:Nat)v g,ws[j]?=aU v->fs[j]?=aU g->G v*g<=H v:=λj v g a b=>k (j+1) v g (by simpa using a) (by simpa using b);have E:=vO A B;rw[dC,lr]at ht;cases j with|zero=>cases t;cases y;lia|succ j=>exact nG A B (by lia) j v g (by simpa using t) (by simpa using y)
theorem aaC{fs:List Int}(h:N6 ws fs)(he:Bb q ws<=dC (gap 1 q) ws fs):Pt ws fs q:=λs v e ho=>by obtain⟨E,g,A,B,_,u⟩:=nM ho;rw[e]at A;cases A;have G:=h.ok _ _ _ e B;have ht:=nG (H:=rR q) h.len (λj v g a b=>by
  have:=h.ok _ _ _ a b;rw[QV];unfold rR;generalize q v.t-q v.s-v.h=y;by_cases c:0<=y;.rw[Int.max_eq_right c,mul_comm];exact Int.mul_le_mul_of_nonneg_right this.2 c
  .rw[max_eq_left (by omega),mul_zero];exact Int.mul_nonpos_of_nonpos_of_nonneg (by omega) this.1) he _ _ _ e B;rw[QV]at ht;unfold rR at ht;cases hf:s.2 with
 |true=>
   rw[hf]at u;simp only[m8]at u;show q v.t<=q v.s+v.h;generalize C:q v.t-q v.s-v.h=y at ht;by_cases c:0<y;.rw[Int.max_eq_right (by lia),mul_comm]at ht;have:=Int.mul_lt_mul_of_pos_right (show g<v.r by simp at u;lia) c;lia
   .lia|false=>
   rw[hf]at u;simp only[m8]at u;show q v.s<=q v.t+-v.h;generalize C:q v.t-q v.s-v.h=y at ht;by_cases c:y<0;.rw[max_eq_left (by lia),mul_zero]at ht;have:=Int.mul_neg_of_neg_of_pos c (show 0<g by simpa using u);lia
   .lia
theorem Jz{T v:Int}{fs:List Int}{e:List (List az×Int)}(t:Bq m ws e fs)(hs:bu (λx=>x.2*(T+1-bA ws x.1)) e=v)(u:q 0=0)(y:q (m-1)=T+1):dC (gap 1 q) ws fs=v:=by rw[t.dt,u,y,<-hs];exact dI λx _=>by congr 1;lia
theorem Bq.hts{T v:Int}{fs:List Int}{e:List (List az×Int)}(t:Bq m ws e fs)(h:bh m ws)(h0:0<=T)(hs:bu (λx=>x.2*(T+1-bA ws x.1)) e=v)(u:kI m ws T v):∃q,Pt ws fs q/\q 0=0/\q (m-1)=T+1/\∀p,0<=q p/\q p<=T+1:=by
 obtain⟨q,A,B,C⟩:=u.ex;have c0:QC T q 0=0:=by unfold QC;lia
 have c1:QC T q (m-1)=T+1:=by unfold QC;lia
 have y:=Lq (T:=T) (q:=q) (r:=QC T q) h λ_ _ _=>rfl;exact⟨QC T q,aaC t.fit (by rw[Jz t hs c0 c1];lia),c0,c1,λp=>by unfold QC;lia⟩
noncomputable def path(ws:List Wy):Int->List Nat->Int->Prop|p,[],q=>p=q|p,k::ks,q=>∃w,ws[k]?=aU w/\w.s=p/\path ws w.t ks q
noncomputable def dot(c:Int->Int):List Wy->List Int->Int|w::ws,f::fs=>f*(c w.s-c w.t)+dot c ws fs|_,_=>0
theorem yQ{c:Int->Int}{l:Int}{w:Wy}{f:Int}:∀{k:Nat}{ws:List Wy}{fs:List Int},ws[k]?=aU w->fs[k]?=aU f->dot c ws (fs.set k (f+l))=dot c ws fs+l*(c w.s-c w.t)|_,[],_,h,_=>by simp at h|_,_,[],_,h=>by simp at h|0,v::ws,g::fs,h,h'=>by simp at h h';subst h h';simp only[ml,dot,qb];lia|k+1,v::ws,g::fs,h,h'=>by simp at h h';simp only[jx,dot,yQ h h'];lia
noncomputable def Goes(m:Int)(ws:List Wy)(fs:List Int)(r:Int):Prop:=0<=r/\∀c:Int->Int,dot c ws fs=r*(c 0-c (m-1))
noncomputable def aF(ks:List Nat):List Int:=ks.map λ(k:Nat)=>(k:Int)
theorem Uh{k:Nat}:(aF ks).map D.int++[D.int (k:Int)]=(aF (ks++[k])).map D.int:=by simp[aF]
noncomputable def kJ(ls:List Int):D->D|.int i=>.int (ls.getD i.toNat 0)|d=>d
theorem mO:((aF ks).map D.int).map (kJ ls)=(ks.map λk=>ls.getD k 0).map D.int:=by simp only[aF,eh];apply gu;intro k _;simp[kJ]
noncomputable def lB(p:Int):Nat->List Wy->List Nat|_,[]=>[]|i,w::ws=>if w.t=p then i::lB p (i+1) ws else lB p (i+1) ws
noncomputable def gU(p:Int):Nat->List Wy->List Nat|_,[]=>[]|i,w::ws=>if w.s=p then i::gU p (i+1) ws else gU p (i+1) ws
noncomputable def inD(p:Int):D->Option D|.tup [i,.tup (_::.int t::_)]=>if t==p then aU i else ci|_=>ci
noncomputable def outD(p:Int):D->Option D|.tup [i,.tup (.int s::_)]=>if s==p then aU i else ci|_=>ci
noncomputable def zW(ws:List Wy):List D:=(ws.map Wy.d).mapIdx λi d=>D.tup [.int (i:Int),d]
theorem QZ{t:List D}{d:D}(h:d∈t.mapIdx λi d=>D.tup [.int (i:Int),d]):∃(i:Nat)(e:D),d=.tup [.int i,e]/\e∈t:=by rw[List.mem_mapIdx]at h;obtain⟨i,hi,rfl⟩:=h;exact⟨i,_,rfl,ka hi⟩
theorem xO{d:D}(h:d∈zW ws):∃(i:Nat)(w:Wy),d=.tup [.int i,w.d]/\w∈ws:=by obtain⟨i,e,rfl,he⟩:=QZ h;obtain⟨w,t,rfl⟩:=da.mp he;exact⟨i,w,rfl,t⟩
theorem rE(f:D->Option D)(t:Nat->List Wy->List Nat)(h0:∀i,t i []=[])(h1:∀(i:Nat)(w:Wy)(ws:List Wy),(match f (.tup [.int (i:Int),w.d])with|some x=>x=.int (i:Int)/\t i (w::ws)=i::t (i+1) ws|none=>t i (w::ws)=t (i+1) ws)):∀(ws:List Wy)(i:Nat),(((ws.map Wy.d).mapIdx λj d=>D.tup [.int ((i+j:Nat):Int),d]).filterMap f)=(aF (t i ws)).map D.int
 |[],i=>by rw[h0];rfl|w::ws,i=>by
   rw[c_,List.mapIdx_cons,gL];have u:=rE f t h0 h1 ws (i+1);have e:(λ(j:Nat)(d:D)=>D.tup [.int ((i+(j+1):Nat):Int),d])=λj d=>D.tup [.int ((i+1+j:Nat):Int),d]:=by funext j d;rw[show i+(j+1)=i+1+j by lia]
   rw[e,u];have:=h1 i w ws;rw[Nat.add_zero];cases hf:f (.tup [.int (i:Int),w.d])with|none=>rw[hf]at this;simp only at this;rw[this]|some x=>rw[hf]at this;simp only at this;rw[this.2,this.1];rfl
theorem UW:(zW ws).filterMap (inD p)=(aF (lB p 0 ws)).map D.int:=by have:=rE (inD p) (lB p) (λ_=>rfl) (λi w ws=>by by_cases h:w.t=p<;>simp[inD,Wy.d,lB,h]) ws 0;simpa[zW]using this
theorem QJ:(zW ws).filterMap (outD p)=(aF (gU p 0 ws)).map D.int:=by have:=rE (outD p) (gU p) (λ_=>rfl) (λi w ws=>by by_cases h:w.s=p<;>simp[outD,Wy.d,gU,h]) ws 0;simpa[zW]using this
inductive F2(a b:Sl)(ρ:List Sl):Prop where|mk(s:Sl)(t:Sl)(q0:ρ=[a,b,s,t])(q1:fr s=b_)(q2:fr t=b_)
theorem vh(h:bh m ws)(k:Q (.own ((aF (gU p 0 ws)).map D.int)) [.val a_ (aL m ws),.val a_ (.int p)]):(run Γ w (n+1) 11 [.val a_ (aL m ws),.val a_ (.int p)]).sat Q:=by
 refine aK (d:=f11) rfl rfl (by decide) ?_;symm;have u:=h.len;have h1:ws.length<=lim:=by show _<=16777216;lia
 simp[f11,h1];refine iH (F2 _ _) (outD p) ⟨.aO,.aO,rfl,rfl,rfl⟩ ?_ ?_
 . rintro d hd _⟨s,t,rfl,hs,ht⟩;obtain⟨i,w,rfl,y⟩:=xO hd;by_cases e:w.s=p;.simp[hs,ht,Wy.d,outD,e];exact⟨_,_,rfl,rfl,rfl⟩
   .simp[hs,ht,Wy.d,outD,e];exact⟨_,_,rfl,rfl,rfl⟩
 .rintro _⟨s,t,rfl,hs,ht⟩;rw[show((map Wy.d ws).mapIdx λi d=>D.tup [.int (i:Int),d])=zW ws from rfl,QJ];generalize(aF (gU p 0 ws)).map D.int=L at*;simp;exact k
theorem KJ(h:bh m ws)(k:Q (.own ((aF (lB p 0 ws)).map D.int)) [.val a_ (aL m ws),.val a_ (.int p)]):(run Γ w (n+1) 12 [.val a_ (aL m ws),.val a_ (.int p)]).sat Q:=by
 refine aK (d:=f12) rfl rfl (by decide) ?_;symm;have u:=h.len;have h1:ws.length<=lim:=by show _<=16777216;lia
 simp[f12,h1];refine iH (F2 _ _) (inD p) ⟨.aO,.aO,rfl,rfl,rfl⟩ ?_ ?_
 . rintro d hd _⟨s,t,rfl,hs,ht⟩;obtain⟨i,w,rfl,y⟩:=xO hd;by_cases e:w.t=p;.simp[hs,ht,Wy.d,inD,e];exact⟨_,_,rfl,rfl,rfl⟩
   .simp[hs,ht,Wy.d,inD,e];exact⟨_,_,rfl,rfl,rfl⟩
 .rintro _⟨s,t,rfl,hs,ht⟩;rw[show((map Wy.d ws).mapIdx λi d=>D.tup [.int (i:Int),d])=zW ws from rfl,UW];generalize(aF (lB p 0 ws)).map D.int=L at*;simp;exact k
noncomputable def pB(p:Int):List Wy->List Int->Int|w::ws,f::fs=>(if w.t=p then f else 0)+pB p ws fs|_,_=>0
noncomputable def pF(p:Int):List Wy->List Int->Int|w::ws,f::fs=>(if w.s=p then f else 0)+pF p ws fs|_,_=>0
theorem sG{p:Int}{F:List Int}:∀(ws:List Wy)(i:Nat),F.length=i+ws.length->((lB p i ws).map λk=>F.getD k 0).sum=pB p ws (F.drop i)/\∀k∈lB p i ws,k<F.length
 |[],i,_=>by simp[lB,pB]|w::ws,i,h=>by
   simp only[dU]at h;have hi:i<F.length:=by lia
   obtain⟨u,y⟩:=sG (F:=F) ws (i+1) (by lia);rw[fN hi,lB,pB];by_cases e:w.t=p
   . rw[if_pos e,if_pos e];refine⟨?_,λk hk=>?_⟩;.rw[c_,hU,u];simp[hi]
     . rcases cK.mp hk with rfl|hk;.exact hi
       .exact y k hk
   .rw[if_neg e,if_neg e];exact⟨by rw[u];lia,y⟩
theorem qO{p:Int}{F:List Int}:∀(ws:List Wy)(i:Nat),F.length=i+ws.length->((gU p i ws).map λk=>F.getD k 0).sum=pF p ws (F.drop i)/\∀k∈gU p i ws,k<F.length
 |[],i,_=>by simp[gU,pF]|w::ws,i,h=>by
   simp only[dU]at h;have hi:i<F.length:=by lia
   obtain⟨t,u⟩:=qO (F:=F) ws (i+1) (by lia);rw[fN hi,gU,pF];by_cases e:w.s=p
   . rw[if_pos e,if_pos e];refine⟨?_,λk hk=>?_⟩;.rw[c_,hU,t];simp[hi]
     . rcases cK.mp hk with rfl|hk;.exact hi
       .exact u k hk
   .rw[if_neg e,if_neg e];exact⟨by rw[t];lia,u⟩
theorem qI{p:Int}:∀(ws:List Wy)(i:Nat),(lB p i ws).length<=ws.length|[],_=>cN|w::ws,i=>by have:=qI (p:=p) ws (i+1);rw[lB];split<;>simp<;>lia
theorem qN{p:Int}:∀(ws:List Wy)(i:Nat),(gU p i ws).length<=ws.length|[],_=>cN|w::ws,i=>by have:=qN (p:=p) ws (i+1);rw[gU];split<;>simp<;>lia
inductive F4(a b c d:Sl)(ρ:List Sl):Prop where|mk(s:Sl)(q0:ρ=[a,b,c,d,s])(q1:fr s=b_)
theorem Bk{b:Bool}{fs:List Int}(h:bh m ws)(G:fs.length=ws.length)(k:Q (.val (.int (pB p ws fs-pF p ws fs))) [.val a_ (aL m ws),.own b (fs.map D.int),.val a_ (.int p)]):(run Γ w (n+2) 18 [.val a_ (aL m ws),.own b (fs.map D.int),.val a_ (.int p)]).sat Q:=by
 have H:=h.len;refine aK (d:=Y5) rfl rfl (by decide) ?_;symm;simp[Y5];refine KJ h ?_;obtain⟨t1,t2⟩:=sG (p:=p) (F:=fs) ws 0 (by lia);have A:=qI (p:=p) ws 0;generalize lB p 0 ws=ks at*;simp[show(aF ks).length<=lim by simp only[aF,dV];show _<=16777216;lia];refine cg (F4 _ _ _ _) (kJ fs) ⟨.aO,rfl,rfl⟩ ?_ ?_;.rintro d hd _⟨u,rfl,e⟩;simp only[aF,eh,da]at hd;obtain⟨k,y,rfl⟩:=hd;obtain⟨f,t⟩:∃f,fs[k]?=aU f:=⟨_,dA (t2 k y)⟩;simp[e,cY t,kJ,t];exact⟨_,rfl,rfl⟩
 rintro _⟨u,rfl,e⟩;rw[mO];generalize(ks.map λk=>fs.getD k 0)=ns at*;simp[t1];apply aj;simp;refine vh h ?_;obtain⟨B,C⟩:=qO (p:=p) (F:=fs) ws 0 (by lia);have E:=qN (p:=p) ws 0;generalize gU p 0 ws=ks at*;simp[show(aF ks).length<=lim by simp only[aF,dV];show _<=16777216;lia];refine cg (F4 _ _ _ _) (kJ fs) ⟨.aO,rfl,rfl⟩ ?_ ?_;.rintro d hd _⟨u,rfl,e⟩;simp only[aF,eh,da]at hd;obtain⟨k,y,rfl⟩:=hd;obtain⟨f,t⟩:∃f,fs[k]?=aU f:=⟨_,dA (C k y)⟩;simp[e,cY t,kJ,t];exact⟨_,rfl,rfl⟩
 rintro _⟨u,rfl,e⟩;rw[mO];generalize(ks.map λk=>fs.getD k 0)=ns at*;simp[B];exact k
theorem Az{fs:List Int}(h:bh m ws)(G:fs.length=ws.length)(k:Q (.val (.int (pB p ws fs-pF p ws fs))) [.val a_ (aL m ws),.val a_ (.lst (fs.map D.int)),.val a_ (.int p)]):(run Γ w (n+2) 18 [.val a_ (aL m ws),.val a_ (.lst (fs.map D.int)),.val a_ (.int p)]).sat Q:=by
 have H:=h.len;refine aK (d:=Y5) rfl rfl (by decide) ?_;symm;simp[Y5];refine KJ h ?_;obtain⟨t1,t2⟩:=sG (p:=p) (F:=fs) ws 0 (by lia);have A:=qI (p:=p) ws 0;generalize lB p 0 ws=ks at*;simp[show(aF ks).length<=lim by simp only[aF,dV];show _<=16777216;lia];refine cg (F4 _ _ _ _) (kJ fs) ⟨.aO,rfl,rfl⟩ ?_ ?_;.rintro d hd _⟨u,rfl,e⟩;simp only[aF,eh,da]at hd;obtain⟨k,y,rfl⟩:=hd;obtain⟨f,t⟩:∃f,fs[k]?=aU f:=⟨_,dA (t2 k y)⟩;simp[e,cY t,kJ,t];exact⟨_,rfl,rfl⟩
 rintro _⟨u,rfl,e⟩;rw[mO];generalize(ks.map λk=>fs.getD k 0)=ns at*;simp[t1];apply aj;simp;refine vh h ?_;obtain⟨B,C⟩:=qO (p:=p) (F:=fs) ws 0 (by lia);have E:=qN (p:=p) ws 0;generalize gU p 0 ws=ks at*;simp[show(aF ks).length<=lim by simp only[aF,dV];show _<=16777216;lia];refine cg (F4 _ _ _ _) (kJ fs) ⟨.aO,rfl,rfl⟩ ?_ ?_;.rintro d hd _⟨u,rfl,e⟩;simp only[aF,eh,da]at hd;obtain⟨k,y,rfl⟩:=hd;obtain⟨f,t⟩:∃f,fs[k]?=aU f:=⟨_,dA (C k y)⟩;simp[e,cY t,kJ,t];exact⟨_,rfl,rfl⟩
 rintro _⟨u,rfl,e⟩;rw[mO];generalize(ks.map λk=>fs.getD k 0)=ns at*;simp[B];exact k
theorem ou(p:Int):∀(ws:List Wy)(fs:List Int),dot (λx=>if x=p then 1 else 0) ws fs=pF p ws fs-pB p ws fs|[],_=>rfl|_::_,[]=>rfl|w::ws,f::fs=>by simp only[dot,pF,pB,ou p ws fs];by_cases e:w.s=p<;>by_cases u:w.t=p<;>simp[e,u]<;>lia
theorem Gv{b:Bool}{fs:List Int}(h:bh m ws)(e:fs.length=ws.length)(k:Q (.val (.int (dot (λx=>if x=0 then 1 else 0) ws fs))) [.val a_ (aL m ws),.own b (fs.map D.int)]):(run Γ w (n+3) 19 [.val a_ (aL m ws),.own b (fs.map D.int)]).sat Q:=by refine aK (d:=YH) rfl rfl (by decide) ?_;symm;simp[YH];refine Bk h e ?_;rw[ou]at k;simp;rw[show-(pB 0 ws fs-pF 0 ws fs)=pF 0 ws fs-pB 0 ws fs by lia];exact k
theorem Hu{fs:List Int}(h:bh m ws)(e:fs.length=ws.length)(k:Q (.val (.int (dot (λx=>if x=0 then 1 else 0) ws fs))) [.val a_ (aL m ws),.val a_ (.lst (fs.map D.int))]):(run Γ w (n+3) 19 [.val a_ (aL m ws),.val a_ (.lst (fs.map D.int))]).sat Q:=by refine aK (d:=YH) rfl rfl (by decide) ?_;symm;simp[YH];refine Az h e ?_;rw[ou]at k;simp;rw[show-(pB 0 ws fs-pF 0 ws fs)=pF 0 ws fs-pB 0 ws fs by lia];exact k
theorem Iw{s:Sl}{fs:List Int}(hs:Ro s fs)(h:bh m ws)(e:fs.length=ws.length)(k:Q (.val (.int (dot (λx=>if x=0 then 1 else 0) ws fs))) [.val a_ (aL m ws),s]):(run Γ w (n+3) 19 [.val a_ (aL m ws),s]).sat Q:=by
 rcases hs with rfl|⟨b,rfl⟩;.exact Hu h e k
 .exact Gv h e k
theorem aaB(h0:0<=k)(h1:k<(ws.length:Int)):∃v,ws[k.toNat]?=aU v/\v∈ws/\at' (ws.map Wy.d) k=aU v.d:=by
 have e:k.toNat<ws.length:=by lia
 refine⟨ws[k.toNat],by simp[e],ka e,?_⟩;rw[jQ h0 (by simpa using h1)];simp[e]
theorem GF:GC v.d (.int 0)=aU (.val (.int v.s)):=by simp[Wy.d]
theorem Bf:GC v.d (.int 1)=aU (.val (.int v.t)):=by simp[Wy.d]
theorem G6:GC v.d (.int 2)=aU (.val (.int v.r)):=by simp[Wy.d]
theorem V7:GC v.d (.int 3)=aU (.val (.int v.h)):=by simp[Wy.d]
inductive Wk(ws:List Wy)(a:Int):Int->Int->Prop where|nil:Wk ws a a 0|step{p h:Int}{v:Wy}(k:Wk ws a p h)(hv:v∈ws)(r:0<v.r)(s:v.s=p):Wk ws a v.t (h+v.h)
theorem Wk.nn(e:bh m ws)(a0:0<=a)(u:a<m)(k:Wk ws a p h):0<=h/\0<=p/\p<m:=by induction k with|nil=>lia|step k t r s y=>have h1:=e.ok _ t;have:=h1.h0;have:=h1.t0;have:=h1.t1;lia
theorem Wk.trans{q:Int}(k:Wk ws a p h)(l:Wk ws p q g):Wk ws a q (h+g):=by induction l with|nil=>simpa using k|@step u g' v l e r s t=>rw[<-n4];exact .step t e r s
theorem Wk.one(e:v∈ws)(r:0<v.r):Wk ws v.s v.t v.h:=by have:=Wk.step (.nil:Wk ws v.s v.s 0) e r rfl;simpa using this
theorem Wk.first(k:Wk ws a b h):(a=b/\h=0)\/∃v∈ws,0<v.r/\v.s=a/\∃g,Wk ws v.t b g/\h=v.h+g:=by induction k with|nil=>exact .inl ⟨rfl,rfl⟩|@step p h v k y r s A=>
   right;rcases A with⟨e,rfl⟩|⟨u,B,C,E,g,z,e⟩;.subst e;exact⟨v,y,r,s,0,.nil,by lia⟩
   .exact⟨u,B,C,E,g+v.h,.step z y r s,by lia⟩
noncomputable def qF(ws:List Wy)(a p:Int)(o:Option Int):Prop:=match o with|none=>∀h,¬ Wk ws a p h|some v=>Wk ws a p v/\∀h,Wk ws a p h->v<=h
theorem qF.uniq{o e:Option Int}(h:qF ws a p o)(h':qF ws a p e):o=e:=by cases o with
 |none=>cases e with|none=>rfl|some v=>exact absurd h'.1 (h v)
 |some u=>cases e with|none=>exact absurd h.1 (h' u)|some v=>have:=h.2 v h'.1;have:=h'.2 u h.1;congr 1;lia
theorem qF.iff{us:List Wy}{q:Int}{o:Option Int}(e:∀h,Wk us a p h↔Wk ws b q h)(k:qF us a p o):qF ws b q o:=by cases o with|none=>exact λh z=>k h ((e h).mpr z)|some v=>exact⟨(e v).mp k.1,λh z=>k.2 h ((e h).mpr z)⟩
noncomputable def oD:Option Int->D|none=>.non|some i=>.int i
noncomputable def eV(ws:List Wy)(ps:List Int)(k:Int):Option (List Int):=if 0<=k/\k<ws.length then match ws[k.toNat]?with|some v=>if v.r<1 then ci else if ps=[]then(if v.t=v.s then ci else aU [v.s,v.t])else if ps.getLast?=aU v.s/\v.t∉ps then aU (ps++[v.t])else ci|none=>ci else ci
noncomputable def oX(ws:List Wy):List Int->List Int->Option (List Int)|[],ps=>aU ps|k::r,ps=>match eV ws ps k with|some e=>oX ws r e|none=>ci
noncomputable def hh(ws:List Wy)(k:Int):Int:=match ws[k.toNat]?with|some v=>v.h|none=>0
noncomputable def tot(ws:List Wy)(l:List Int):Int:=(l.map (hh ws)).sum
theorem Ez{t:List Int}(h:eV ws ps k=aU t):0<=k/\k<(ws.length:Int)/\t.length<=ps.length+2/\t≠[]:=by
 unfold eV at h;by_cases e:0<=k/\k<(ws.length:Int)
 . rw[if_pos e]at h;refine⟨e.1,e.2,?_⟩;split at h
   . split at h;.cases h
     . split at h
       . split at h;.cases h
         .cases h;rename_i z _;rw[z];simp
       . split at h;.cases h;simp
         .cases h
   .cases h
 .rw[if_neg e]at h;cases h
noncomputable def JW:Option Int->Nat|none=>6000001|some v=>v.toNat
noncomputable def meas(hs:List (Option Int)):Nat:=(hs.map JW).sum
noncomputable def cnt(hs:List (Option Int)):Nat:=(hs.filter Option.isSome).length
theorem yG:∀{hs:List (Option Int)}{k:Nat}{o n:Option Int},hs[k]?=aU o->JW n<JW o->meas (hs.set k n)<meas hs|[],_,_,_,h,_=>by simp at h|x::hs,0,o,n,h,l=>by simp at h;subst h;simp only[meas,ml,c_,hU];lia|x::hs,k+1,o,n,h,l=>by have:=yG (hs:=hs) (k:=k) (by simpa using h) l;simp only[meas,jx,c_,hU]at this ⊢;lia
theorem Dl:∀(hs:List (Option Int)),(∀o∈hs,JW o<=6000001)->meas hs<=6000001*hs.length|[],_=>by simp[meas]|x::hs,h=>by have h1:=h x (by simp);have e:=Dl hs λo ho=>h o (by simp[ho]);simp only[meas,c_,hU,dU]at e ⊢;lia
theorem jF:∀{hs:List (Option Int)}{k:Nat}{v:Int},hs[k]?=aU ci->cnt (hs.set k (aU v))=cnt hs+1|[],_,_,h=>by simp at h|x::hs,0,v,h=>by simp at h;subst h;simp[cnt]|x::hs,k+1,v,h=>by have:=jF (hs:=hs) (k:=k) (v:=v) (by simpa using h);simp only[cnt,jx,i3]at this ⊢;split<;>simp[this]
theorem oY:∀{hs:List (Option Int)}{k:Nat}{u v:Int},hs[k]?=aU (aU u)->cnt (hs.set k (aU v))=cnt hs|[],_,_,_,h=>by simp at h|x::hs,0,u,v,h=>by simp at h;subst h;simp[cnt]|x::hs,k+1,u,v,h=>by have:=oY (hs:=hs) (k:=k) (v:=v) (by simpa using h);simp only[cnt,jx,i3]at this ⊢;split<;>simp[this]
theorem Bv(hs:List (Option Int)):cnt hs<=hs.length:=jg _ _
structure o9(m:Int)(ws:List Wy)(a0:Int)(hs:List (Option Int)):Prop where
 len:(hs.length:Int)=m
 zero:hs[a0.toNat]?=aU (aU 0)wk:∀(p:Nat)(v:Int),hs[p]?=aU (aU v)->Wk ws a0 p v/\v<=1000000*((cnt hs:Int)-1)
noncomputable def mJ(hs:List (Option Int))(v:Wy):Prop:=0<v.r->∀a:Int,hs[v.s.toNat]?=aU (aU a)->∃b:Int,hs[v.t.toNat]?=aU (aU b)/\b<=a+v.h
theorem o9.pot(t:bh m ws){hs:List (Option Int)}(h:o9 m ws a0 hs):∀o∈hs,JW o<=6000001:=by intro o ho;obtain⟨p,u,e⟩:=ly ho;cases o with|none=>exact cN|some v=>have h1:=(h.wk p v (by rw[dA u,e])).2;have y:=Bv hs;have A:=h.len;have B:=t.m1;show v.toNat<=_;lia
theorem o9.upd(A:bh m ws)(J:0<=a0)(L:a0<m){hs:List (Option Int)}(h:o9 m ws a0 hs)(H:v∈ws)(r:0<v.r){o:Option Int}(M:hs[v.s.toNat]?=aU (aU a))(ho:hs[v.t.toNat]?=aU o)(B:∀b,o=aU b->a+v.h<b):o9 m ws a0 (hs.set v.t.toNat (aU (a+v.h)))/\meas (hs.set v.t.toNat (aU (a+v.h)))<meas hs:=by
 have y:=A.ok v H;have s0:=y.s0;have t0:=y.t0;have h0:=y.h0;have h1:=y.h1;obtain⟨C,W⟩:=h.wk _ _ M;rw[show((v.s.toNat:Nat):Int)=v.s by lia]at C;have X:=(C.nn A J L).1;have O:Wk ws a0 v.t (a+v.h):=.step C H r rfl;have E:=(dD ho).1;have G:v.t.toNat≠a0.toNat:=by intro e;rw[e,h.zero]at ho;cases ho;have:=B 0 rfl;lia
 have hc:(cnt hs:Int)<=cnt (hs.set v.t.toNat (aU (a+v.h)))/\a+v.h<=1000000*((cnt (hs.set v.t.toNat (aU (a+v.h))):Int)-1):=by cases o with|none=>rw[jF ho];lia|some b=>rw[oY ho];have:=(h.wk _ _ ho).2;have:=B b rfl;lia
 refine⟨⟨by rw[ow];exact h.len,by rw[eI G];exact h.zero,λp u e=>?_⟩,yG ho ?_⟩
 . by_cases I:p=v.t.toNat;.subst I;rw[cp E]at e;cases e;refine⟨by rw[show((v.t.toNat:Nat):Int)=v.t by lia];exact O,hc.2⟩
   .rw[fC I]at e;obtain⟨U,Y⟩:=h.wk p u e;exact⟨U,by lia⟩
 .cases o with|none=>show(a+v.h).toNat<6000001;have Z:=Bv hs;have h3:=h.len;have h4:=A.m1;lia|some b=>have:=B b rfl;show(a+v.h).toNat<b.toNat;lia
theorem o9.least(B:0<=a0)(C:bh m ws){hs:List (Option Int)}(h:o9 m ws a0 hs)(hr:∀v∈ws,mJ hs v):∀(p:Nat)(o:Option Int),hs[p]?=aU o->qF ws a0 p o:=by
 have key:∀(p g:Int),Wk ws a0 p g->∃b:Int,hs[p.toNat]?=aU (aU b)/\b<=g:=by intro p g k;induction k with|nil=>exact⟨0,h.zero,d_ _⟩|@step p g v k u r s y=>obtain⟨a,A,E⟩:=y;obtain⟨b,t,G⟩:=hr v u r a (by rw[s];exact A);exact⟨b,t,by lia⟩
 intro p o e;cases o with|none=>intro g k;obtain⟨b,t,_⟩:=key _ _ k;rw[show((p:Nat):Int).toNat=p by lia,e]at t;cases t|some v=>refine⟨(h.wk p v e).1,λg k=>?_⟩;obtain⟨b,t,l⟩:=key _ _ k;rw[show((p:Nat):Int).toNat=p by lia,e]at t;cases t;exact l
theorem o9.start(u:bh m ws)(y:0<=a0)(A:a0<m):o9 m ws a0 ((cr m.toNat ci).set a0.toNat (aU 0)):=by
 have m0:=u.m0;refine⟨by rw[ow,ja];lia,cp (by rw[ja];lia),λp v e=>?_⟩;by_cases t:p=a0.toNat;.subst t;rw[cp (by rw[ja];lia)]at e;cases e;refine⟨by rw[show((a0.toNat:Nat):Int)=a0 by lia];exact .nil,?_⟩;rw[jF (by rw[h9,if_pos (by lia)])];lia
 .rw[fC t,h9]at e;split at e<;>cases e
theorem pO{e:Type}{l:List e}{f:e->D}{x:e}(h0:0<=i)(h:l[i.toNat]?=aU x):at' (l.map f) i=aU (f x):=by have:=cY (f:=f) h;rwa[show((i.toNat:Nat):Int)=i by lia]at this
theorem Li(h0:0<=i)(h:i<n):ik n i=aU i.toNat:=by have:=J0 (n:=n) (k:=i.toNat) (by lia);rwa[show((i.toNat:Nat):Int)=i by lia]at this
@[simp]theorem NZ:iD (oD ci)=b_:=rfl
@[simp]theorem NK{v:Int}:iD (oD (aU v))=a_:=rfl
inductive PJ(m:Int)(ws:List Wy)(a0:Int)(M:Nat)(r:List D)(ρ:List Sl):Prop where|mk(hs:List (Option Int))(b:Bool)(us pre:List Wy)(s4 s5:Sl)(q0:ρ=[.val a_ (aL m ws),.val a_ (.int a0),.own a_ (hs.map oD),.val a_ (.bl b),s4,s5])(q1:fr s4=b_)(q2:fr s5=b_)(q3:r=us.map Wy.d)(q4:ws=pre++us)(q5:o9 m ws a0 hs)(q6:meas hs<=M)(q7:((b=b_/\meas hs<M)\/(b=a_/\∀v∈pre,mJ hs v)))
inductive WJ(m:Int)(ws:List Wy)(a0:Int)(M:Nat)(ρ:List Sl):Prop where|mk(hs:List (Option Int))(b:Bool)(s4 s5:Sl)(q0:ρ=[.val a_ (aL m ws),.val a_ (.int a0),.own a_ (hs.map oD),.val a_ (.bl b),s4,s5])(q1:fr s4=b_)(q2:fr s5=b_)(q3:o9 m ws a0 hs)(q4:((b=b_/\meas hs<M)\/(b=a_/\∀v∈ws,mJ hs v)))
theorem K1(hw:50000000<=w)(h:bh m ws)(W:0<=a0)(z1:a0<m)(k:∀hs:List (Option Int),(hs.length:Int)=m->(∀(p:Nat)(o:Option Int),hs[p]?=aU o->qF ws a0 p o)->(∀(p:Nat)(v:Int),hs[p]?=aU (aU v)->0<=v/\v<=6000000)->Q (.own (hs.map oD)) [.val a_ (aL m ws),.val a_ (.int a0)]):(run Γ w (n+1) 14 [.val a_ (aL m ws),.val a_ (.int a0)]).sat Q:=by
 have m0:=h.m0;have m1:=h.m1;refine aK (d:=f14) rfl rfl (by decide) ?_;refine cQ (λρ=>ρ=[.val a_ (aL m ws),.val a_ (.int a0),.own a_ ((cr m.toNat (ci:Option Int)).map oD),.aO,.aO,.aO]) ?_ ?_;.simp[f14,oD];refine⟨by lia,by show _<=16777216;lia⟩
 rintro _ rfl;refine cQ (λρ=>ρ=[.val a_ (aL m ws),.val a_ (.int a0),.own a_ (((cr m.toNat (ci:Option Int)).set a0.toNat (aU 0)).map oD),.aO,.aO,.aO]) ?_ ?_;.simp[Li (n:=m.toNat) (i:=a0) W (by lia),oD]
 rintro _ rfl;have hst:=o9.start h W z1;generalize((cr m.toNat (ci:Option Int)).set a0.toNat (aU 0))=E at*;symm;simp;apply aj;simp;have af:meas E<=6000001*E.length:=Dl E (hst.pot h);have ag:=hst.len;refine fP (WJ m ws a0) ?_ (k:=w) (m:=meas E+1) (by lia) ⟨E,b_,.aO,.aO,rfl,rfl,rfl,hst,.inl ⟨rfl,Nat.lt_succ_self _⟩⟩;rintro M _⟨hs,b,s4,s5,rfl,U,I,hh,C⟩;simp;rcases C with⟨rfl,hM⟩|⟨rfl,ac⟩
 . simp;symm;simp;apply aj;simp;refine bw (PJ m ws a0 (meas hs)) ?_ ?_ ⟨hs,a_,ws,[],s4,s5,rfl,U,I,rfl,rfl,hh,cN,.inr ⟨rfl,by simp⟩⟩;.rintro d r _⟨y,b,us,pre,s4,s5,rfl,U,I,hr,G,A,H,C⟩;cases us with|nil=>cases hr|cons v us=>
       obtain⟨rfl,rfl⟩:d=v.d/\r=us.map Wy.d:=by simpa using hr
       have hv:v∈ws:=by rw[G];simp
       have hk:=h.ok v hv;have s0:=hk.s0;have s1:=hk.s1;have t0:=hk.t0;have t1:=hk.t1;have ae:=A.len;obtain⟨os,es⟩:∃o,y[v.s.toNat]?=aU o:=⟨_,dA (by lia)⟩;obtain⟨ot,et⟩:∃o,y[v.t.toNat]?=aU o:=⟨_,dA (by lia)⟩;have as:=pO (f:=oD) s0 es;have J:=pO (f:=oD) t0 et;have X:ik y.length v.t=aU v.t.toNat:=Li t0 (by lia);have Y:ws=(pre++[v])++us:=by rw[G];simp
       have stay:mJ y v->((b=b_/\meas y<meas hs)\/(b=a_/\∀u∈pre++[v],mJ y u)):=λhx=>by
        rcases C with C|⟨C,hp⟩;.exact .inl C
        . refine .inr ⟨C,λu hu=>?_⟩;rcases eS.mp hu with hu|hu;.exact hp u hu
          .rw[dP.mp hu];exact hx
       simp[U];apply aj;by_cases r0:0<v.r;.cases os with|none=>simp[Wy.d,r0,as];exact⟨y,b,us,pre++[v],_,_,rfl,rfl,I,rfl,Y,A,H,stay λ_ a Z=>by rw[es]at Z;cases Z⟩|some a=>
           have up:=λ(hl:∀b,ot=aU b->a+v.h<b)=>A.upd h W z1 hv r0 es et hl;simp[Wy.d,r0,as];apply aj;simp[as,oD,I];have vz:∀B:List (Option Int),B=y.set v.t.toNat (aU (a+v.h))->(y.map oD).set v.t.toNat (D.int (a+v.h))=B.map oD:=λB e=>by rw[e,rf];rfl
           symm;cases ot with|none=>
             obtain⟨u1,u2⟩:=up λb C=>by cases C
             have L:=vz _ rfl;generalize y.set v.t.toNat (aU (a+v.h))=B at*;simp[J];apply aj;simp[X,L];apply aj;simp;exact⟨B,b_,us,pre++[v],_,_,rfl,rfl,rfl,rfl,Y,u1,by lia,.inl ⟨rfl,by lia⟩⟩|some bb=>
             by_cases O:a+v.h<bb
             . obtain⟨u1,u2⟩:=up λb C=>by cases C;exact O
               have L:=vz _ rfl;generalize y.set v.t.toNat (aU (a+v.h))=B at*;simp[J,oD,O];apply aj;simp[X,L];apply aj;simp;exact⟨B,b_,us,pre++[v],_,_,rfl,rfl,rfl,rfl,Y,u1,by lia,.inl ⟨rfl,by lia⟩⟩
             .simp[J,oD,O];exact⟨y,b,us,pre++[v],_,_,rfl,rfl,rfl,rfl,Y,A,H,stay λ_ a' Z=>by rw[es]at Z;cases Z;exact⟨bb,et,by lia⟩⟩
       .simp[Wy.d,r0];exact⟨y,b,us,pre++[v],_,_,rfl,rfl,I,rfl,Y,A,H,stay λhx=>absurd hx r0⟩
   . rintro _⟨y,b,us,pre,s4,s5,rfl,U,I,hr,G,A,H,C⟩;have:us=[]:=by cases us with|nil=>rfl|cons _ _=>cases hr
     subst this;rw[e_]at G;subst G;simp;rcases C with⟨rfl,hl⟩|⟨rfl,hp⟩;.exact⟨meas hs,hM,y,b_,_,_,rfl,U,I,A,.inl ⟨rfl,hl⟩⟩
     .exact⟨0,by lia,y,a_,_,_,rfl,U,I,A,.inr ⟨rfl,hp⟩⟩
 .simp;symm;simp;exact k hs hh.len (hh.least W h ac) λp v e=>by have h1:=hh.wk p v e;have h2:=Bv hs;have h3:=hh.len;exact⟨(h1.1.nn h W z1).1,by lia⟩
noncomputable def Wy.turn(m:Int)(w:Wy):Wy:=⟨m-1-w.t,m-1-w.s,w.r,w.h⟩
theorem Gn:(ws.map (Wy.turn m)).map (Wy.turn m)=ws:=by
 rw[eh];have:(Wy.turn m ∘ Wy.turn m)=id:=by funext w;cases w;simp only[Function.comp,Wy.turn,id];congr 1<;>lia
 rw[this];simp
theorem Lr(h:bh m ws):bh m (ws.map (Wy.turn m)):=by refine⟨h.m0,h.m1,by simpa using h.len,λv e=>?_⟩;obtain⟨u,y,rfl⟩:=da.mp e;have o:=h.ok u y;have:=o.s0;have:=o.s1;have:=o.t0;have:=o.t1;have:=o.ne;exact⟨by show 0<=m-1-u.t;lia,by show m-1-u.t<m;lia,by show 0<=m-1-u.s;lia,by show m-1-u.s<m;lia,by show m-1-u.t≠m-1-u.s;lia,o.r0,o.r1,o.h0,o.h1⟩
theorem Wk.turned{P:Int}(k:Wk (ws.map (Wy.turn m)) (m-1-b) P h):Wk ws (m-1-P) b h:=by induction k with|nil=>rw[show m-1-(m-1-b)=b by lia];exact .nil|@step p h v k y r s e=>
   obtain⟨u,A,rfl⟩:=da.mp y;have E:m-1-u.t=p:=s;have B:m-1-p=u.t:=by lia
   rw[B]at e;have C:m-1-(Wy.turn m u).t=u.s:=by show m-1-(m-1-u.s)=u.s;lia
   rw[C];have:=(Wk.one A (show 0<u.r from r)).trans e;rw[Int.add_comm];exact this
theorem Ra:Wk (ws.map (Wy.turn m)) (m-1-b) (m-1-p) h↔Wk ws p b h:=by
 constructor;.intro k;have:=k.turned;rwa[show m-1-(m-1-p)=p by lia]at this
 . intro k;have e:Wk ((ws.map (Wy.turn m)).map (Wy.turn m)) (m-1-(m-1-p)) b h:=by rw[Gn,show m-1-(m-1-p)=p by lia];exact k
   exact e.turned
noncomputable def trD(m:Int):D->D|.tup [.int s,.int t,.int r,.int h]=>(Wy.turn m ⟨s,t,r,h⟩).d|d=>d
theorem Tf{w:Wy}:trD m w.d=(w.turn m).d:=rfl
inductive FT3(a b c:Sl)(ρ:List Sl):Prop where|mk(s:Sl)(q0:ρ=[a,b,c,s])(q1:fr s=b_)
theorem Ao(u:ws.length<=13)(q:Q (.val (aL m (ws.map (Wy.turn m)))) [.val a_ (aL m ws)]):(run Γ w (n+1) 13 [.val a_ (aL m ws)]).sat Q:=by
 refine aK (d:=f13) rfl rfl (by decide) ?_;symm;simp[f13];apply aj;have t:ws.length<=lim:=by show _<=16777216;lia
 simp[t];refine cg (FT3 _ _ _) (trD m) ⟨.aO,rfl,rfl⟩ ?_ ?_;.rintro d hd _⟨s,rfl,hs⟩;obtain⟨v,y,rfl⟩:=da.mp hd;simp[hs,GF,Bf,G6,V7,Tf];exact⟨rfl,_,rfl,rfl⟩
 rintro _⟨s,rfl,hs⟩;simp;apply aj;simp;have e:aL m (ws.map (Wy.turn m))=.tup [.int m,.tup ((ws.map Wy.d).map (trD m))]:=by simp[aL,Tf]
 rw[e]at q;simpa using q
@[simp]theorem ZX{e:List D}:blt .Ru [.lst e]=aU (.own e.reverse):=rfl
structure LOk(m:Int)(ws:List Wy)(b:Int)(L:List (Option Int)):Prop where
 len:(L.length:Int)=m
 least:∀(p:Nat)(o:Option Int),L[p]?=aU o->qF ws p b o
 bnd:∀(p:Nat)(v:Int),L[p]?=aU (aU v)->0<=v/\v<=6000000
theorem Ud(A:50000000<=w)(h:bh m ws)(b0:0<=b)(b1:b<m)(k:∀L:List (Option Int),LOk m ws b L->Q (.own (L.map oD)) [.val a_ (aL m ws),.val a_ (.int b)]):(run Γ w (n+2) 15 [.val a_ (aL m ws),.val a_ (.int b)]).sat Q:=by
 have m0:=h.m0;have E:=h.len;refine aK (d:=f15) rfl rfl (by decide) ?_;symm;simp[f15];refine Ao (by lia) ?_;simp;refine K1 A (Lr h) (by lia) (by lia) λhs h1 B C=>?_;simp;rw[<-List.map_reverse];have y:∀(p:Nat)(o:Option Int),hs.reverse[p]?=aU o->hs[hs.length-1-p]?=aU o/\p<hs.length:=λp o e=>by
  have t:p<hs.length:=by have:=(dD e).1;simpa using this
  rw[List.getElem?_reverse t]at e;exact⟨e,t⟩
 refine k hs.reverse ⟨by simpa using h1,λp o e=>?_,λp v e=>?_⟩;.obtain⟨u,t⟩:=y p o e;have:=B _ o u;rw[show((hs.length-1-p:Nat):Int)=m-1-(p:Int)by lia]at this;exact this.iff λh=>Ra
 .obtain⟨u,t⟩:=y p _ e;exact C _ v u
noncomputable def yg(L:List (Option Int))(v:Wy):Bool:=decide (0<v.r)&&match L[v.t.toNat]?with|some (aU g)=>(match L[v.s.toNat]?with|some (aU f)=>v.h+g==f|_=>a_)|_=>a_
theorem Vm:cm .eq (.int i) .non=aU a_:=rfl
theorem M3{L:List (Option Int)}(u:v.Ok m)(B:(L.length:Int)=m)(q:Q (.val (.bl (yg L v))) [.val a_ v.d,.own b_ (L.map oD)]):(run Γ w (n+1) 16 [.val a_ v.d,.own b_ (L.map oD)]).sat Q:=by
 have s0:=u.s0;have s1:=u.s1;have t0:=u.t0;have t1:=u.t1;obtain⟨os,es⟩:∃o,L[v.s.toNat]?=aU o:=⟨_,dA (by lia)⟩;obtain⟨A,y⟩:∃o,L[v.t.toNat]?=aU o:=⟨_,dA (by lia)⟩;have as:=pO (f:=oD) s0 es;have e:=pO (f:=oD) t0 y;refine aK (d:=Wd) rfl rfl (by decide) ?_;symm;unfold yg at q;rw[es,y]at q;by_cases hr:0<v.r;.cases A with|none=>simp[Wd,Bf,G6,hr,e];simpa[hr]using q|some g=>cases os with|none=>simp[Wd,GF,Bf,G6,V7,hr,e,as];simp[oD,GF,as,Vm];simpa[hr]using q|some f=>simp[Wd,GF,Bf,G6,V7,hr,e,as];simp[oD,GF,as];simpa[hr]using q
 .simp[Wd,G6,hr];simpa[hr]using q
noncomputable def outI(ws:List Wy)(p:Int):List Int:=aF (gU p 0 ws)
theorem rK{p:Int}{j:Nat}:∀{ws:List Wy}{i:Nat},j∈gU p i ws↔∃v,i<=j/\ws[j-i]?=aU v/\v.s=p
 |[],i=>by simp[gU]|w::ws,i=>by
   have y:=rK (p:=p) (j:=j) (ws:=ws) (i:=i+1);have key:(∃v,i<=j/\(w::ws)[j-i]?=aU v/\v.s=p)↔(j=i/\w.s=p)\/∃v,i+1<=j/\ws[j-(i+1)]?=aU v/\v.s=p:=by
    constructor
    . rintro⟨v,h1,t,u⟩;by_cases e:j=i;.subst e;simp at t;subst t;exact .inl ⟨rfl,u⟩
      .rw[show j-i=(j-(i+1))+1 by lia,gE]at t;exact .inr ⟨v,by lia,t,u⟩
    . rintro(⟨rfl,h⟩|⟨v,h1,t,u⟩);.exact⟨w,cN,by simp,h⟩
      .exact⟨v,by lia,by rw[show j-i=(j-(i+1))+1 by lia,gE];exact t,u⟩
   rw[key,<-y,gU];by_cases e:w.s=p;.rw[if_pos e,cK];simp[e]
   .rw[if_neg e];simp[e]
theorem vW:k∈outI ws p↔0<=k/\k<(ws.length:Int)/\∃v,ws[k.toNat]?=aU v/\v.s=p:=by
 unfold outI aF;rw[da];constructor;.rintro⟨j,u,rfl⟩;obtain⟨v,_,e,t⟩:=rK.mp u;have:=(dD e).1;exact⟨by lia,by lia,v,by simpa using e,t⟩
 .rintro⟨h0,h1,v,e,t⟩;exact⟨k.toNat,rK.mpr ⟨v,tU,by simpa using e,t⟩,by lia⟩
theorem JG{ws:List Wy}{p:Int}:∀{us:List Wy}{i:Nat},(gU p i us).length<=us.length|[],_=>cN|w::us,i=>by rw[gU];have:=JG (ws:=ws) (p:=p) (us:=us) (i:=i+1);split<;>simp<;>lia
noncomputable def isC(ws:List Wy)(L:List (Option Int))(k:Int):Bool:=match ws[k.toNat]?with|some v=>yg L v|none=>a_
noncomputable def gQ(ws:List Wy)(L:List (Option Int)):D->Option D|.int k=>if isC ws L k=b_ then aU (.int k)else ci|_=>ci
theorem U9{L:List (Option Int)}(ks:List Int):(ks.map D.int).filterMap (gQ ws L)=(ks.filter (isC ws L)).map D.int:=by induction ks with|nil=>rfl|cons k ks e=>rw[c_,gL,i3,e];rw[show gQ ws L (.int k)=if isC ws L k=b_ then aU (D.int k)else ci from rfl];by_cases h:isC ws L k=b_<;>simp[h]
theorem Ei{u:List Int}(A:ps≠[])(h:eV ws ps k=aU u):∃v,ws[k.toNat]?=aU v/\u=ps++[v.t]/\v.t∉ps/\ps.getLast?=aU v.s/\v∈ws:=by
 have e:=Ez h;obtain⟨v,y,B,C⟩:=aaB e.1 e.2.1;unfold eV at h;rw[if_pos ⟨e.1,e.2.1⟩,y]at h;simp only[if_neg A]at h;split at h;.cases h
 . split at h;.rename_i hc;cases h;exact⟨v,y,rfl,hc.2,hc.1,B⟩
   .cases h
theorem Eb(E:bh m ws)(e:ps≠[])(u:0<=k)(y:k<(ws.length:Int))(A:ws[k.toNat]?=aU v)(hr:0<v.r)(B:ps.getLast?=aU v.s)(C:v.t∉ps):eV ws ps k=aU (ps++[v.t]):=by unfold eV;rw[if_pos ⟨u,y⟩,A];simp only[if_neg e];rw[if_neg (by lia),if_pos ⟨B,C⟩]
theorem xR{ws:List Wy}{k:Int}:∀{l ps:List Int},oX ws (l++[k]) ps=match oX ws l ps with|some t=>eV ws t k|none=>ci
 |[],ps=>by rw[mw,oX,oX];show(match eV ws ps k with|some t=>oX ws [] t|none=>ci)=eV ws ps k;cases eV ws ps k with|none=>rfl|some t=>simp[oX]
 |a::l,ps=>by rw[kb,oX,oX];cases e:eV ws ps a with|none=>rfl|some t=>exact xR
theorem JS{m:Int}{ws:List Wy}(B:bh m ws):∀{l ps u:List Int},ps≠[]->ps.Nodup->(∀x∈ps,0<=x/\x<m)->oX ws l ps=aU u->u.Nodup/\(∀x∈u,0<=x/\x<m)/\u.length=ps.length+l.length|[],ps,u,_,h1,A,h=>by rw[oX]at h;cases h;exact⟨h1,A,by simp⟩|k::l,ps,u,E,h1,A,h=>by rw[oX]at h;cases e:eV ws ps k with
   |none=>rw[e]at h;cases h|some O=>rw[e]at h;obtain⟨v,U,rfl,G,_,H⟩:=Ei E e;have C:=B.ok v H;obtain⟨I,J,L⟩:=JS B (l:=l) (ps:=ps++[v.t]) (by simp) (by rw[i5];refine⟨h1,by simp,λx hx y M=>?_⟩;rw[dP.mp M];intro z;rw[z]at hx;exact G hx) (λx hx=>by
      rcases eS.mp hx with hx|hx;.exact A x hx
      .rw[dP.mp hx];exact⟨C.t0,C.t1⟩) h;refine⟨I,J,?_⟩;rw[L];simp;lia
theorem Ha(e:bh m ws){l u:List Int}(h:oX ws l [0]=aU u):l.length<=5:=by
 have m0:=e.m0;have m1:=e.m1;obtain⟨y,A,B⟩:=JS e (by simp) (by simp) (λx t=>by rw[dP.mp t];lia) h;have:=iK (l2:=[0,1,2,3,4,5]) y λx t=>by
  have:=A x t;have:x=0\/x=1\/x=2\/x=3\/x=4\/x=5:=by lia
  simpa using this
 simp at this B;lia
theorem Jb{l:List Int}:tot ws (l++[k])=tot ws l+hh ws k:=by simp[tot]
theorem G3{L:List (Option Int)}(M:bh m ws)(A:LOk m ws b L)(U:0<=p)(p1:p<m)(E:L[p.toNat]?=aU (aU g))(B:p≠b):∃(k:Int),k∈(outI ws p).filter (isC ws L):=by
 have y:=A.least _ _ E;rw[show((p.toNat:Nat):Int)=p by lia]at y;rcases y.1.first with⟨e,_⟩|⟨v,C,r,s,g',z,e⟩;.exact absurd e B
 .obtain⟨i,hi,G⟩:=ly C;have H:=M.ok v C;have t0:=H.t0;have t1:=H.t1;have I:=A.len;obtain⟨O,J⟩:∃o,L[v.t.toNat]?=aU o:=⟨_,dA (by lia)⟩;have u:=A.least _ _ J;rw[show((v.t.toNat:Nat):Int)=v.t by lia]at u;cases O with|none=>exact absurd z (u g')|some f=>
     have h1:=u.2 g' z;have W:g<=v.h+f:=by have:=(Wk.one C r).trans u.1;rw[s]at this;exact y.2 _ this
     refine⟨(i:Int),hX.mpr ⟨vW.mpr ⟨by lia,by lia,v,by rw[kN,dA hi,G],s⟩,?_⟩⟩;unfold isC;rw[kN,dA hi,G];simp only[yg,J,s,E,r,decide_true,Bool.true_and];simp;lia
inductive JSw(m:Int)(ws:List Wy)(b g0:Int)(L:List (Option Int))(M:Nat)(ρ:List Sl):Prop where|mk(l ps:List Int)(p g:Int)(s5:Sl)(q0:ρ=[.val a_ (aL m ws),.val a_ (.int b),.own a_ (L.map oD),.own a_ (l.map D.int),.val a_ (.int p),s5])(q1:fr s5=b_)(q2:0<=p)(q3:p<m)(q4:L[p.toNat]?=aU (aU g))(q5:g.toNat<=M)(q6:oX ws l [0]=aU ps)(q7:ps.getLast?=aU p)(q8:(∀x∈ps,∃gx,L[x.toNat]?=aU (aU gx)/\g<=gx))(q9:tot ws l+g=g0)
inductive FWk(a b c d e f:Sl)(ρ:List Sl):Prop where|mk(s:Sl)(q0:ρ=[a,b,c,d,e,f,s])(q1:fr s=b_)
theorem J8(h:ns≠[]):∃i,i∈ns/\ns.min?=aU i:=by cases e:ns.min? with|none=>rw[oI]at e;exact absurd e h|some i=>exact⟨i,List.min?_mem e,rfl⟩
theorem Lf{C:Int}(hw:50000000<=w)(u:bh m ws)(b0:0<=b)(b1:b<m)(ac:qF ws 0 b (aU C))(q:∀(l ps:List Int),oX ws l [0]=aU ps->ps.getLast?=aU b->Q (.val (.tup (l.map D.int))) [.val a_ (aL m ws),.val a_ (.int b)]):(run Γ w (n+3) 17 [.val a_ (aL m ws),.val a_ (.int b)]).sat Q:=by
 have m0:=u.m0;refine aK (d:=f17) rfl rfl (by decide) ?_;symm;simp[f17,b0,b1];apply aj;simp;refine Ud hw u b0 b1 λL E=>?_;have O:=E.len;have y:L[0]?=aU (aU C):=by obtain⟨o,e⟩:∃o,L[0]?=aU o:=⟨_,dA (by lia)⟩;have:=E.least 0 o e;rw[e,this.uniq ac]
 have a0:at' (L.map oD) 0=aU (.int C):=by rw[jQ (by decide) (by simp;lia)];simp[y,oD]
 simp;apply aj;simp[a0];apply aj;simp;apply aj;simp;apply aj;simp;have gb:=E.bnd 0 C y;refine fP (JSw m ws b C L) ?_ (k:=w) (m:=C.toNat) (by lia) ⟨[],[0],0,C,.aO,rfl,rfl,by decide,by lia,y,cN,rfl,rfl,λx hx=>⟨C,by rw[dP.mp hx];exact y,d_ _⟩,by simp[tot]⟩;rintro M _⟨l,ps,p,g,s5,rfl,h5,p0,p1,hg,hM,G,m6,U,ai⟩;have al:=E.bnd _ _ hg;have ae:ps≠[]:=by rintro rfl;cases m6
 have ap:=Ha u G;by_cases A:p=b;.subst A;simp;apply aj;simp;have W:=E.least _ _ hg;rw[show((p.toNat:Nat):Int)=p by lia]at W;have:=W.2 0 .nil;exact q l ps G m6
 . have am:(p==b)=a_:=by simpa using A
   simp[A];apply aj;simp;refine vh u ?_;rw[show aF (gU p 0 ws)=outI ws p from rfl];have ar:(outI ws p).length<=12:=by have h1:=u.len;have h2:=JG (ws:=ws) (p:=p) (us:=ws) (i:=0);unfold outI aF;rw[dV];lia
   simp;refine⟨λ_=>?_,by show _<=16777216;lia⟩;refine iH (FWk _ _ _ _ _ _) (gQ ws L) ⟨.aO,rfl,rfl⟩ ?_ ?_
   . rintro d hd _⟨s,rfl,hs⟩;obtain⟨k,af,rfl⟩:=da.mp hd;obtain⟨k0,k1,v,B,H⟩:=vW.mp af;have X:=u.ok v (dl B);have ha:at' (ws.map Wy.d) k=aU v.d:=by rw[jQ k0 (by simpa using k1)];simp[B]
     have hc:isC ws L k=yg L v:=by unfold isC;rw[B]
     simp[hs,ha];refine M3 X O ?_;rw[show gQ ws L (.int k)=if isC ws L k=b_ then aU (.int k)else ci from rfl,hc];cases hst:yg L v with|true=>simp;exact⟨_,rfl,rfl⟩|false=>simp;exact⟨_,rfl,rfl⟩
   rintro _⟨s,rfl,hs⟩;rw[U9];obtain⟨kx,Y⟩:=G3 u E p0 p1 hg A;obtain⟨k,I,Z⟩:=J8 (ns:=(outI ws p).filter (isC ws L)) (λz=>by rw[z]at Y;cases Y);rw[hX]at I;obtain⟨k0,k1,v,B,H⟩:=vW.mp I.1;have ag:v∈ws:=dl B;have X:=u.ok v ag;have ha:at' (ws.map Wy.d) k=aU v.d:=by rw[jQ k0 (by simpa using k1)];simp[B]
   have hst:yg L v=b_:=by have:=I.2;unfold isC at this;rwa[B]at this
   have l1:l.length<lim:=by show _<16777216;lia
   obtain⟨f,hf,hr,av⟩:∃f,L[v.t.toNat]?=aU (aU f)/\0<v.r/\v.h+f=g:=by unfold yg at hst;rw[H,hg]at hst;cases e:L[v.t.toNat]?with|none=>rw[e]at hst;simp at hst|some o=>cases o with|none=>rw[e]at hst;simp at hst|some f=>rw[e]at hst;simp at hst;exact⟨f,rfl,hst.1,hst.2⟩
   have aw:=E.bnd _ _ hf;have ax:=X.h0;have ah:v.t∉ps:=λz=>by obtain⟨gx,e1,e2⟩:=U _ z;rw[hf]at e1;cases e1;lia
   simp[Z,h5];apply aj;simp[l1];apply aj;simp[ha,Bf];have J:eV ws ps k=aU (ps++[v.t]):=Eb u ae k0 k1 B hr (by rw[m6,H]) ah;refine⟨f.toNat,by lia,l++[k],ps++[v.t],v.t,f,.val a_ (.int k),by simp,rfl,X.t0,X.t1,hf,cN,by rw[xR,G];exact J,by simp,λx hx=>?_,?_⟩
   . rcases eS.mp hx with hx|hx;.obtain⟨gx,e1,e2⟩:=U x hx;exact⟨gx,e1,by lia⟩
     .rw[dP.mp hx];exact⟨f,hf,d_ _⟩
   . have:hh ws k=v.h:=by unfold hh;rw[B]
     rw[Jb,this];lia
@[simp]theorem abB{c:Call}{i n:Nat}{a y:P}{is:List Nat}{one:Bool}{t:Option P}{ρ:List Sl}:ev c (.zg i a n is one t y) ρ=(JX i (ev c a) ρ).bind λA e=>if A.1.length<=lim then(mC c is one t y A.1 (e++cr n .aO)).bind λxs u=>.ok (.own xs) (aW A.2 (aU i) (u.take e.length))else .stuck:=(rfl)
@[simp]theorem adm{i:Nat}{f:Ev}{ρ:List Sl}:JX i f ρ=(f ρ).bind λr e=>(lift (items r.d) e).bind λes e=>match e[i]?with|some (.val _ d)=>(lift (items d) e).bind λt e=>.ok ((es.zip t).map λp=>D.tup [p.1,p.2],e) e|some (.own _ t)=>.ok ((es.zip t).map λp=>D.tup [p.1,p.2],e) (e.set i (.lent t))|some (.lent t)=>.ok ((es.zip t).map λp=>D.tup [p.1,p.2],e) e|_=>.stuck:=rfl
@[simp]theorem agi{c:Call}{n x:Nat}{sub:Bool}{e:P}{ρ:List Sl}:ex c n (.aug x sub e) ρ=(lift (pk ρ x) ρ).bind λa ρ=>(cJ (isVar e) (ev c e) ρ).bind λb ρ=>match a,b with|.int i,.int j=>(lift (put ρ x (.val a_ (.int (if sub then i-j else i+j)))) ρ).bind λt _=>.ok .next t|_,_=>.stuck:=(rfl)
noncomputable def pG:List Wy->List Int->List Wy|w::ws,l::ls=>{w with r:=l}::pG ws ls|_,_=>[]
theorem v9:∀{ws:List Wy}{ls:List Int},ls.length=ws.length->(pG ws ls).length=ws.length|[],[],_=>rfl|[],_::_,h=>by simp at h|_::_,[],h=>by simp at h|w::ws,l::ls,h=>by simp[pG,v9 (ws:=ws) (ls:=ls) (by simpa using h)]
theorem qK:∀{ws:List Wy}{ls:List Int}{k:Nat}{u:Wy},(pG ws ls)[k]?=aU u->∃v l,ws[k]?=aU v/\ls[k]?=aU l/\u={v with r:=l}|[],_,k,u,h=>by simp[pG]at h|_::_,[],k,u,h=>by simp[pG]at h|w::ws,l::ls,0,u,h=>by simp[pG]at h;exact⟨w,l,rfl,rfl,h.symm⟩|w::ws,l::ls,k+1,u,h=>by simp only[pG,gE]at h ⊢;exact qK h
theorem KD:∀{ws:List Wy}{ls:List Int}{k:Nat}{v:Wy}{l:Int},ws[k]?=aU v->ls[k]?=aU l->(pG ws ls)[k]?=aU {v with r:=l}|[],_,k,v,l,h,_=>by simp at h|_::_,[],k,v,l,_,h=>by simp at h|w::ws,x::ls,0,v,l,h,h'=>by simp at h h';subst h h';simp[pG]|w::ws,x::ls,k+1,v,l,h,h'=>by simp only[pG,gE]at h h' ⊢;exact KD h h'
noncomputable def zrD:D->D|.tup [.tup [a,b,_,e],l]=>.tup [a,b,l,e]|d=>d
@[simp]theorem ah2{a b c e l:D}:zrD (.tup [.tup [a,b,c,e],l])=.tup [a,b,l,e]:=rfl
theorem JK:∀{ws:List Wy}{ls:List Int},((((ws.map Wy.d).zip (ls.map D.int)).map λp=>D.tup [p.1,p.2]).map zrD)=(pG ws ls).map Wy.d|[],_=>by simp[pG]|_::_,[]=>by simp[pG]|w::ws,l::ls=>by have:=JK (ws:=ws) (ls:=ls);simp only[c_,List.zip_cons_cons,pG,this];rfl
inductive FY(a b c:Sl)(ρ:List Sl):Prop where|mk(s:Sl)(t:Sl)(q0:ρ=[a,b,c,s,t])(q1:fr s=b_)(q2:fr t=b_)
theorem Hm{b:Bool}(h:bh m ws)(k:Q (.val (aL m (pG ws ls))) [.val a_ (aL m ws),.own b (ls.map D.int)]):(run Γ w (n+1) 20 [.val a_ (aL m ws),.own b (ls.map D.int)]).sat Q:=by
 have A:=h.len;refine aK (d:=f20) rfl rfl (by decide) ?_;symm;simp[f20];refine⟨λ_=>?_,by show _<=16777216;lia⟩;refine cg (FY _ _ _) zrD ⟨.aO,.aO,rfl,rfl,rfl⟩ ?_ ?_;.rintro d hd _⟨s,t,rfl,hs,ht⟩;obtain⟨⟨x,y⟩,u,rfl⟩:=da.mp hd;obtain⟨v,_,rfl⟩:=da.mp (oo u).1;simp[hs,ht,Wy.d];exact⟨_,_,rfl,rfl,rfl⟩
 rintro _⟨s,t,rfl,hs,ht⟩;have e:=JK (ws:=ws) (ls:=ls);generalize(((ws.map Wy.d).zip (ls.map D.int)).map λp=>D.tup [p.1,p.2]).map zrD=X at*;subst e;simp;apply aj;simp;exact k
theorem Ww(h:bh m ws)(A:ls.length=ws.length)(B:∀(k:Nat)(v:Wy)(l:Int),ws[k]?=aU v->ls[k]?=aU l->0<=l/\l<=v.r):bh m (pG ws ls):=by refine⟨h.m0,h.m1,by rw[v9 A];exact h.len,λu C=>?_⟩;obtain⟨k,E,e⟩:=ly C;obtain⟨v,l,y,G,rfl⟩:=qK (ws:=ws) (ls:=ls) (k:=k) (u:=u) (by rw[dA E,e]);have t:=h.ok v (dl y);have:=B k v l y G;exact⟨t.s0,t.s1,t.t0,t.t1,t.ne,this.1,oT this.2 t.r1,t.h0,t.h1⟩
theorem Ec{c:Int->Int}:∀{ws:List Wy}{ls:List Int},(∀(k:Nat)(v:Wy)(l:Int),ws[k]?=aU v->ls[k]?=aU l->l*(c v.s-c v.t)<=0)->dot c ws ls<=0|[],_,_=>d_ _|_::_,[],_=>d_ _|w::ws,l::ls,h=>by have h1:=h 0 w l rfl rfl;have y:=Ec (c:=c) (ws:=ws) (ls:=ls) λk v x e u=>h (k+1) v x (by simpa using e) (by simpa using u);simp only[dot];lia
open Classical in
theorem OJ{r:Int}(B:Goes m ws ls r)(hr:0<r)(C:∀(k:Nat)(v:Wy)(l:Int),ws[k]?=aU v->ls[k]?=aU l->0<=l):∃h,Wk (pG ws ls) 0 (m-1) h:=by
 refine Classical.byContradiction λe=>?_;have hd:=B.2 λp=>if ∃h,Wk (pG ws ls) 0 p h then 1 else 0;rw[if_pos ⟨0,.nil⟩,if_neg e]at hd;have:=Ec (c:=λp=>if ∃h,Wk (pG ws ls) 0 p h then(1:Int)else 0) (ws:=ws) (ls:=ls) λk v l u y=>by
  have E:=C k v l u y;by_cases hs:∃h,Wk (pG ws ls) 0 v.s h
  . by_cases hz:l=0;.subst hz;simp
    .obtain⟨x,A⟩:=hs;have ht:∃h,Wk (pG ws ls) 0 v.t h:=⟨_,.step (v:={v with r:=l}) A (dl (KD u y)) (by show 0<l;lia) rfl⟩;rw[if_pos ⟨x,A⟩,if_pos ht];simp
  . rw[if_neg hs];by_cases ht:∃h,Wk (pG ws ls) 0 v.t h;.rw[if_pos ht];lia
    .rw[if_neg ht];simp
 lia
theorem uo{m:Int}{ws:List Wy}(e:bh m ws){p:Int}:∀(N:Nat)(h:Int),h.toNat<=N->Wk ws 0 p h->∃g,qF ws 0 p (aU g)
 |0,h,u,k=>⟨h,k,λh' t=>by have m0:=e.m0;have:=(t.nn e (by lia) (by lia)).1;have:=(k.nn e (by lia) (by lia)).1;lia⟩|N+1,h,u,k=>by
   by_cases c:∃h',h'<h/\Wk ws 0 p h';.obtain⟨h',c1,c2⟩:=c;have m0:=e.m0;have:=(c2.nn e (by lia) (by lia)).1;exact uo e N h' (by lia) c2
   .exact⟨h,k,λh' t=>by
      by_cases z:h<=h';.exact z
      .exact absurd ⟨h',by lia,t⟩ c⟩
theorem qW{u:List Int}(y:ps.getLast?=aU p)(h:eV ws ps k=aU u):0<=k/\k<(ws.length:Int)/\∃v,ws[k.toNat]?=aU v/\0<v.r/\v.s=p/\v.t∉ps/\u=ps++[v.t]:=by
 have e:ps≠[]:=by rintro rfl;cases y
 obtain⟨A,B,_⟩:=Ez h;refine⟨A,B,?_⟩;obtain⟨v,C,G,H,E,_⟩:=Ei e h;refine⟨v,C,?_,?_,H,G⟩
 . unfold eV at h;rw[if_pos ⟨A,B⟩,C]at h;dsimp only at h;split at h;.cases h
   .lia
 .rw[y]at E;cases E;rfl
theorem qD{ws:List Wy}:∀{l ps y:List Int}{p:Int},ps.getLast?=aU p->oX ws l ps=aU y->∃ks:List Nat,l=aF ks/\ks.Nodup/\(∃q,y.getLast?=aU q/\path ws p ks q)/\∀k∈ks,∃v,ws[k]?=aU v/\0<v.r/\v.t∉ps|[],ps,y,p,B,h=>by rw[oX]at h;cases h;exact⟨[],rfl,by simp,⟨p,B,rfl⟩,by simp⟩|k::l,ps,y,p,B,h=>by rw[oX]at h;cases e:eV ws ps k with|none=>rw[e]at h;cases h|some X=>
     rw[e]at h;obtain⟨Y,Z,v,C,H,I,J,rfl⟩:=qW B e;obtain⟨ks,h1,L,⟨q,M,O⟩,G⟩:=qD (p:=v.t) (by simp) h;refine⟨k.toNat::ks,?_,?_,⟨q,M,v,C,I,O⟩,λj hj=>?_⟩;.rw[h1];show k::aF ks=((k.toNat:Nat):Int)::aF ks;rw[show((k.toNat:Nat):Int)=k by lia]
     .rw[ez];refine⟨λU=>?_,L⟩;obtain⟨u,A,_,E⟩:=G _ U;rw[C]at A;cases A;exact E (by simp)
     . rcases cK.mp hj with rfl|hj;.exact⟨v,C,H,J⟩
       .obtain⟨u,A,W,E⟩:=G j hj;exact⟨u,A,W,λz=>E (by simp[z])⟩
theorem yN{m:Int}{us ws:List Wy}(B:bh m ws)(C:us.length=ws.length)(hh:∀(k:Nat)(u:Wy),us[k]?=aU u->∃v,ws[k]?=aU v/\v.s=u.s/\v.t=u.t/\u.r<=v.r):∀{l ps y:List Int}{p:Int},ps.getLast?=aU p->oX us l ps=aU y->oX ws l ps=aU y|[],ps,y,p,A,h=>h|k::l,ps,y,p,A,h=>by rw[oX]at h ⊢;cases e:eV us ps k with|none=>rw[e]at h;cases h|some J=>rw[e]at h;obtain⟨E,L,u,G,M,H,I,rfl⟩:=qW A e;obtain⟨v,f1,f2,f3,f4⟩:=hh _ _ G;rw[Eb B (by rintro rfl;cases A) E (by lia) f1 (by lia) (by rw[A,f2,H]) (by rw[f3];exact I),f3];exact yN B C hh (p:=u.t) (by simp) h
noncomputable def pP(ks:List Nat):List az:=ks.map λk=>(k,a_)
theorem qx:(pP ks).map (·.1)=ks:=by unfold pP;rw[eh];exact List.map_id _
theorem Im{c:Int->Int}{x:Int}{ws:List Wy}:∀{ks:List Nat}{ls:List Int}{p q:Int},ls.length=ws.length->path ws p ks q->dot c ws (aug x ls (pP ks))=dot c ws ls-x*(c p-c q)
 |[],ls,p,q,_,h=>by have:p=q:=h;subst this;show dot c ws ls=_;simp|k::ks,ls,p,q,u,⟨v,h1,y,A⟩=>by
   have B:=(dD h1).1;have e:ls[k]?=aU ls[k]:=by simp[u,B]
   show dot c ws (aug x (gB x ls (k,a_)) (pP ks))=_;rw[Im (by simp[u]) A];have:gB x ls (k,a_)=ls.set k (ls[k]+-x):=by unfold gB;rw[e];rfl
   rw[this,yQ h1 e,y];have:-x*(c p-c v.t)=-(x*(c p-c v.t)):=Int.neg_mul _ _;have C:x*(c p-c q)=x*(c p-c v.t)+x*(c v.t-c q):=by rw[<-mT];congr 1;lia
   lia
noncomputable def pos(ls:List Int):Nat:=(ls.filter λl=>decide (0<l)).length
theorem LK:∀{ls us:List Int},us.length=ls.length->(∀(i:Nat)(l u:Int),ls[i]?=aU l->us[i]?=aU u->0<u->0<l)->pos us<=pos ls
 |[],[],_,_=>cN|[],_::_,h,_=>by simp at h|_::_,[],h,_=>by simp at h|l::ls,u::us,h,hh=>by
   have e:=LK (ls:=ls) (us:=us) (by simpa using h) λi a b t y=>hh (i+1) a b (by simpa using t) (by simpa using y);have h0:=hh 0 l u rfl rfl;unfold pos at e ⊢;by_cases c:0<u;.simp[c,h0 c];exact e
   . by_cases d:0<l;.simp[c,d];lia
     .simp[c,d];exact e
theorem Ip:∀{ls us:List Int}{j:Nat}{a b:Int},us.length=ls.length->(∀(i:Nat)(l u:Int),ls[i]?=aU l->us[i]?=aU u->0<u->0<l)->ls[j]?=aU a->us[j]?=aU b->0<a->¬ 0<b->pos us<pos ls
 |[],[],_,_,_,_,_,e,_,_,_=>by simp at e|[],_::_,_,_,_,h,_,_,_,_,_=>by simp at h|_::_,[],_,_,_,h,_,_,_,_,_=>by simp at h|l::ls,u::us,0,a,b,h,hh,t,y,h1,B=>by simp at t y;subst t y;have A:=LK (ls:=ls) (us:=us) (by simpa using h) λi a b t y=>hh (i+1) a b (by simpa using t) (by simpa using y);unfold pos at A ⊢;simp[h1,B];lia|l::ls,u::us,j+1,a,b,h,hh,t,y,h1,B=>by
   have A:=Ip (ls:=ls) (us:=us) (j:=j) (by simpa using h) (λi a b t y=>hh (i+1) a b (by simpa using t) (by simpa using y)) (by simpa using t) (by simpa using y) h1 B;have h0:=hh 0 l u rfl rfl;unfold pos at A ⊢;by_cases c:0<u;.simp[c,h0 c];exact A
   . by_cases d:0<l;.simp[c,d];lia
     .simp[c,d];exact A
theorem QX(e:ls[j]?=aU a)(h:0<a):0<pos ls:=by unfold pos;exact n_ (hX.mpr ⟨dl e,by simpa using h⟩)
noncomputable abbrev lG:=List Nat×Int
noncomputable def sr(c:lG):D:=.tup [.tup ((aF c.1).map D.int),.int c.2]
noncomputable def u6(cs:List lG)(k:Nat):Int:=(cs.map λc=>if k∈c.1 then c.2 else 0).sum
noncomputable def Mm(m:Int)(ws:List Wy)(ks:List Nat):Prop:=∃ps,oX ws (aF ks) [0]=aU ps/\ps.getLast?=aU (m-1)
structure RI(m:Int)(ws:List Wy)(fs:List Int)(R0:Int)(ls:List Int)(r:Int)(cs:List lG):Prop where
 len:ls.length=ws.length
 nn:∀(k:Nat)(v:Wy)(l:Int),ws[k]?=aU v->ls[k]?=aU l->0<=l/\l<=v.r
 go:Goes m ws ls r
 Oa:∀c∈cs,1<=c.2/\c.1.length<=12/\Mm m ws c.1
 mka:∀(k:Nat)(f l:Int),fs[k]?=aU f->ls[k]?=aU l->u6 cs k+l=f
 sum:(cs.map (·.2)).sum+r=R0
 cnt:0<r->cs.length+pos ls<=ws.length
 ab5:cs.length<=ws.length
theorem Hs(h:bh m ws)(u:ks.Nodup)(y:∀k∈ks,∃v,ws[k]?=aU v/\0<v.r/\v.t∉[(0:Int)]):ks.length<=12:=by
 have:=iK (l2:=dS ws.length) u λk z=>by obtain⟨v,e,_⟩:=y k z;exact iq.mpr (dD e).1
 rw[kq]at this;have:=h.len;lia
theorem RI.turn{fs:List Int}{U:Int}{r x:Int}{cs:List lG}(h:RI m ws fs U ls r cs)(Y:bh m ws)(hr:0<r)(Z:oX (pG ws ls) (aF ks) [0]=aU ps)(hl:ps.getLast?=aU (m-1))(hn:ks.Nodup)(hp:path ws 0 ks (m-1))(E:∀k∈ks,∃l,ls[k]?=aU l/\0<l)(G:x=r\/∃k∈ks,ls[k]?=aU x)(ac:x<=r)(ZQ:∀k∈ks,∀l,ls[k]?=aU l->x<=l)(J:ks.length<=12)(L:ks≠[]):RI m ws fs U (aug x ls (pP ks)) (r-x) (cs++[(ks,x)])/\1<=x/\(0<r-x->pos (aug x ls (pP ks))<pos ls):=by
 have M:((pP ks).map (·.1)).Nodup:=by rw[qx];exact hn
 have W:1<=x:=by
  rcases G with rfl|⟨k,B,e⟩;.lia
  .obtain⟨l,t,X⟩:=E k B;rw[e]at t;cases t;lia
 have inn:∀(k:Nat)(l:Int),k∈ks->ls[k]?=aU l->(aug x ls (pP ks))[k]?=aU (l-x):=λk l z e=>by have:=nj (x:=x) (s:=(k,a_)) M (da.mpr ⟨k,z,rfl⟩) e;rw[this];rfl
 have out:∀(k:Nat),k∉ks->(aug x ls (pP ks))[k]?=ls[k]?:=λk z=>gZ (by rw[qx];exact z);have O:(aug x ls (pP ks)).length=ls.length:=gW;have back:∀(k:Nat)(u:Int),(aug x ls (pP ks))[k]?=aU u->∃l,ls[k]?=aU l/\u=if k∈ks then l-x else l:=λk u e=>by
  have H:=(dD e).1;rw[O]at H;have t:ls[k]?=aU ls[k]:=by simp[H]
  by_cases z:k∈ks;.rw[inn k _ z t]at e;cases e;exact⟨_,t,by rw[if_pos z]⟩
  .rw[out k z,t]at e;cases e;exact⟨_,t,by rw[if_neg z]⟩
 have pp:∀(i:Nat)(l u:Int),ls[i]?=aU l->(aug x ls (pP ks))[i]?=aU u->0<u->0<l:=λi l u A t u0=>by obtain⟨l',C,rfl⟩:=back i u t;rw[A]at C;cases C;split at u0<;>lia
 have I:0<r-x->pos (aug x ls (pP ks))<pos ls:=λz=>by
  rcases G with rfl|⟨k,B,e⟩;.lia
  .exact Ip O pp e (inn k x B e) (by lia) (by lia)
 refine⟨⟨by rw[O];exact h.len,λk v u A t=>?_,⟨by lia,λc=>?_⟩,λc hc=>?_,λk f u A t=>?_,?_,λz=>?_,?_⟩,W,I⟩
 . obtain⟨l,C,rfl⟩:=back k u t;have:=h.nn k v l A C;split;.rename_i z;have:=ZQ k z l C;lia
   .exact this
 .rw[Im h.len hp,h.go.2 c];rw[Int.sub_mul]
 . rcases eS.mp hc with hc|hc;.exact h.Oa c hc
   . obtain rfl:c=(ks,x):=by simpa using hc
     refine⟨W,J,ps,?_,hl⟩;refine yN Y (v9 h.len) (λk u e=>?_) (p:=0) rfl Z;obtain⟨v,l,A,t,rfl⟩:=qK e;exact⟨v,A,rfl,rfl,(h.nn k v l A t).2⟩
 . obtain⟨l,C,rfl⟩:=back k u t;have:=h.mka k f l A C;unfold u6 at this ⊢;rw[gy,ol];by_cases z:k∈ks;.simp[z];lia
   .simp[z];lia
 .have:=h.sum;rw[gy,ol];simp;lia
 .have:=I z;have:=h.cnt hr;simp only[ek,dU,mx];lia
 . have:=h.cnt hr;obtain⟨k,y,e⟩:∃k y,ks=k::y:=by cases ks with|nil=>exact absurd rfl L|cons k y=>exact⟨k,y,rfl⟩
   obtain⟨l,t,X⟩:=E k (by rw[e];simp);have:=QX t X;simp only[ek,dU,mx];lia
inductive FcR(a0 a1 a2 a3 a4 a5 a6 a7:Sl)(ρ:List Sl):Prop where|mk(s:Sl)(q0:ρ=[a0,a1,a2,a3,a4,a5,a6,a7,s])(q1:fr s=b_)
noncomputable def lfD(ls:List Int):D->D|.int k=>.int ((ls[k.toNat]?).getD 0)|d=>d
@[simp]theorem aim{ls:List Int}{k:Int}:lfD ls (.int k)=.int ((ls[k.toNat]?).getD 0):=rfl
inductive JRd(m:Int)(ws:List Wy)(fs:List Int)(R0:Int)(s:Sl)(M:Nat)(ρ:List Sl):Prop where|mk(ls:List Int)(r:Int)(cs:List lG)(s5 s6 s7:Sl)(q0:ρ=[.val a_ (aL m ws),s,.own a_ (ls.map D.int),.val a_ (.int r),.own a_ (cs.map sr),s5,s6,s7])(q1:A3 (fr s5=b_) (fr s6=b_) (fr s7=b_))(q2:RI m ws fs R0 ls r cs)(q3:(0<r->pos ls+1<=M))
inductive JRw(x:Int)(ls:List Int)(ks:List Nat)(a0 a1 a3 a4 a5 a6:Sl)(q:List D)(ρ:List Sl):Prop where|mk(bf us:List Nat)(s7:Sl)(q0:ρ=[a0,a1,.own a_ ((aug x ls (pP bf)).map D.int),a3,a4,a5,a6,s7])(q1:fr s7=b_)(q2:q=(aF us).map D.int)(q3:bf++us=ks)
theorem Aa{s:Sl}{J:Int}{fs:List Int}(hs:Ro s fs)(hw:50000000<=w)(h:bh m ws)(hf:fs.length=ws.length)(hb:∀(k:Nat)(v:Wy)(l:Int),ws[k]?=aU v->fs[k]?=aU l->0<=l/\l<=v.r)(hG:Goes m ws fs J)(k:∀ls r cs,RI m ws fs J ls r cs->r=0->Q (.own (cs.map sr)) [.val a_ (aL m ws),s]):(run Γ w (n+4) 21 [.val a_ (aL m ws),s]).sat Q:=by
 have hn:=h.len;have m0:=h.m0;have m1:=h.m1;refine aK (d:=f21) rfl rfl (by decide) ?_;have ac:dot (λx=>if x=0 then 1 else 0) ws fs=J:=by rw[hG.2];simp[show ¬ m-1=0 by lia]
 refine cQ (λρ=>ρ=[.val a_ (aL m ws),s,.own a_ (fs.map D.int),.aO,.aO,.aO,.aO,.aO]) ?_ ?_;.rcases hs with rfl|⟨b,rfl⟩;all_goals simp[f21]
 rintro _ rfl;refine cQ (λρ=>ρ=[.val a_ (aL m ws),s,.own a_ (fs.map D.int),.val a_ (.int J),.aO,.aO,.aO,.aO]) ?_ ?_;.rcases hs with rfl|⟨b,rfl⟩;all_goals simp;refine Iw (by first|exact .inl rfl|exact .inr ⟨_,rfl⟩) h hf ?_;rw[ac];simp
 rintro _ rfl;symm;simp;apply aj;simp;have ae:pos fs<=ws.length:=by rw[<-hf];exact jg _ _
 refine fP (JRd m ws fs J s) ?_ (k:=w) (m:=100) (by lia) ⟨fs,J,[],.aO,.aO,.aO,rfl,⟨rfl,rfl,rfl⟩,⟨hf,hb,hG,by simp,λk f l e1 A=>by rw[e1]at A;cases A;simp[u6],by simp,λ_=>by simpa using ae,by simp⟩,λ_=>by lia⟩;rintro M _⟨ls,r,cs,s5,s6,s7,rfl,⟨h5,h6,L⟩,C,hM⟩;by_cases hr:0<r
 . simp[hr];symm;simp;refine Hm h ?_;simp;have hz:=Ww h C.len C.nn;obtain⟨g,hg⟩:=OJ C.go hr λk v l e1 A=>(C.nn k v l e1 A).1;obtain⟨g0,O⟩:=uo hz g.toNat g (cN) hg;refine Lf hw hz (by lia) (by lia) O λl ps G m6=>?_;obtain⟨ks,rfl,y,⟨q,H,af⟩,I⟩:=qD (p:=0) rfl G;rw[m6]at H;cases H;have U:path ws 0 ks (m-1):=by clear y G I O;suffices hh:∀(ks:List Nat)(p q:Int),path (pG ws ls) p ks q->path ws p ks q from hh ks 0 (m-1) af;intro ks;induction ks with|nil=>intro p q z;exact z|cons a ks ih=>rintro p q⟨u,u1,u2,u3⟩;obtain⟨v,l,v1,_,rfl⟩:=qK u1;exact⟨v,v1,u2,ih _ _ u3⟩
   have B:∀k∈ks,∃l,ls[k]?=aU l/\0<l:=λk E=>by obtain⟨u,u1,u2,_⟩:=I k E;obtain⟨v,l,_,A,rfl⟩:=qK u1;exact⟨l,A,u2⟩
   have W:=Hs hz y I;have ag:ks≠[]:=by rintro rfl;have:(0:Int)=m-1:=U;lia
   simp[h5];apply aj;simp[show(aF ks).length<=16777216 by simp[aF];lia];refine cg (FcR _ _ _ _ _ _ _ _) (lfD ls) ⟨.aO,rfl,rfl⟩ ?_ ?_;.rintro d hd _⟨s,rfl,hs⟩;simp only[aF,eh,da]at hd;obtain⟨k,E,rfl⟩:=hd;obtain⟨l,e,_⟩:=B k E;simp[hs,cY e,e];exact⟨_,rfl,rfl⟩
   rintro _⟨s,rfl,hs⟩;have X:((aF ks).map D.int).map (lfD ls)=(ks.map λk=>(ls[k]?).getD 0).map D.int:=by unfold aF;rw[eh,eh,eh];refine gu λk _=>by simp
   rw[X];obtain⟨x,ah,hx2,ZQ⟩:=Jj (ns:=r::ks.map λk=>(ls[k]?).getD 0) (by simp);have ai:x<=r:=ZQ r (by simp);have al:∀k∈ks,∀l,ls[k]?=aU l->x<=l:=λk E l e=>by have:=ZQ ((ls[k]?).getD 0) (dr _ (da.mpr ⟨k,E,rfl⟩));rwa[e]at this
   have am:x=r\/∃k∈ks,ls[k]?=aU x:=by
    rcases cK.mp hx2 with rfl|hx2;.exact .inl rfl
    .obtain⟨k,E,e⟩:=da.mp hx2;obtain⟨l,A,_⟩:=B k E;rw[A]at e;exact .inr ⟨k,E,by rw[A,<-e];rfl⟩
   have ax:(ks.map λk=>(ls[k]?).getD 0).length<=12:=by simpa using W
   generalize(ks.map λk=>(ls[k]?).getD 0)=ns at*;have ap:(D.int r::ns.map D.int).mapM iw=aU (r::ns):=fV (ns:=r::ns);simp[ap,ah,h6];refine⟨by show _<=16777216;lia,?_⟩;obtain⟨Y,x1,ar⟩:=C.turn h hr G m6 y U B am ai al W ag;symm;simp;refine bw (JRw x ls ks _ _ _ _ _ _) ?_ ?_ ⟨[],ks,s7,rfl,L,rfl,rfl⟩;.rintro d q _⟨t,us,s7,rfl,L,H,hd⟩;cases us with|nil=>cases H|cons u us=>
       obtain⟨rfl,rfl⟩:d=.int (u:Int)/\q=(aF us).map D.int:=by simpa[aF]using H
       have hu:u∈ks:=by rw[<-hd];simp
       have av:u∉t:=by rw[<-hd]at y;have:=i5.mp y;exact λz=>this.2.2 u z u (by simp) rfl
       obtain⟨l,e,_⟩:=B u hu;have ea:(aug x ls (pP t))[u]?=aU l:=by rw[gZ (by rw[qx];exact av)];exact e
       have ay:u<(aug x ls (pP t)).length:=(dD ea).1;have hx:ik (aug x ls (pP t)).length (u:Int)=aU u:=by unfold ik;rw[if_pos (by lia),if_pos (by lia)];simp
       have he:aug x ls (pP (t++[u]))=(aug x ls (pP t)).set u (l-x):=by unfold pP aug;rw[gy,k9];show gB x (aug x ls (pP t)) (u,a_)=_;unfold gB;rw[ea];rfl
       have aw:(t++[u])++us=ks:=by rw[eM];exact hd
       simp[L];apply aj;simp[cY ea,hx];exact⟨t++[u],us,_,by rw[he,rf],rfl,rfl,aw⟩
   . rintro _⟨t,us,s7,rfl,L,H,hd⟩;have:us=[]:=by cases us with|nil=>rfl|cons _ _=>cases H
     subst this;rw[e_]at hd;subst hd;have aE:=C.ab5;simp;apply aj;simp;apply aj;simp[show cs.length<16777216 by lia];have aI:=hM hr;by_cases Z:0<r-x;.have:=ar Z;exact⟨pos (aug x ls (pP t))+1,by lia,aug x ls (pP t),r-x,cs++[(t,x)],.val a_ (.tup ((aF t).map D.int)),.val a_ (.int x),s7,by simp[sr],⟨rfl,rfl,L⟩,Y,λ_=>cN⟩
     .exact⟨0,by lia,aug x ls (pP t),r-x,cs++[(t,x)],.val a_ (.tup ((aF t).map D.int)),.val a_ (.int x),s7,by simp[sr],⟨rfl,rfl,L⟩,Y,λz=>absurd z Z⟩
 .simp[hr];symm;simp;exact k ls r cs C (by have:=C.go.1;lia)
theorem tO{T:Int}(y:13286250<=w)(h:bh m ws)(k:∀cs fs,cU m ws cs->cs.Pairwise (λa b=>bA ws a.1<=bA ws b.1)->Bq m ws (iC cs (Rt ws cs T)) fs->Q (.val (.lst (fs.map D.int))) [.val a_ (aL m ws),.val a_ (.int T)]):(run Γ w (n+8) 28 [.val a_ (aL m ws),.val a_ (.int T)]).sat Q:=by refine aK (d:=YB) rfl rfl (by decide) ?_;symm;simp[YB];refine qT y h λcs u=>?_;simp;refine uP y h u.xM (λt e=>by rw[u.Fo e];exact e.Fw) λt fs cl e B A=>?_;rw[u.Fo e]at A;simp[lgD];exact k t fs e B A
theorem wK:∀(l:List (List az×Int)),bu (λ_=>0) l=0|[]=>rfl|y::l=>by rw[bu,wK l];rfl
theorem Lp:∀{l:List (List az×Int)},(∀x∈l,0<x.2)->0<=yM l|[],_=>d_ _|x::l,h=>by have h1:=h x (by simp);have t:=Lp (l:=l) λy e=>h y (by simp[e]);show 0<=x.2+yM l;lia
theorem vG:∀{cs:List (List az×Int)}{q:Int},(∀x∈cs,0<x.2)->0<=q->q<=yM cs->yM (iC cs q)=q|[],q,_,h0,h1=>by have h1:q<=0:=h1;show(0:Int)=q;lia|x::r,q,h,h0,h1=>by have u:=h x (by simp);have h1:q<=x.2+yM r:=h1;have hr:=Lp (l:=r) λz hz=>h z (by simp[hz]);have e:=vG (cs:=r) (q:=q-min q x.2) (λy t=>h y (by simp[t])) (by lia) (by lia);rw[iC];show min q x.2+yM (iC r (q-min q x.2))=q;rw[e];lia
theorem De{ws:List Wy}{T:Int}:∀{cs:List (List az×Int)},cs.Pairwise (λa b=>bA ws a.1<=bA ws b.1)->(∀x∈cs,0<x.2)->0<=Rt ws cs T/\bu (λx=>x.2*(T-bA ws x.1)) (iC cs (Rt ws cs T))=val ws (T-1) cs
 |[],_,_=>⟨d_ _,rfl⟩|x::r,e,h=>by
   have G:=h x (by simp);have e:=ki.mp e;obtain⟨H,t⟩:=De (T:=T) e.2 λy hy=>h y (by simp[hy]);have u:Rt ws (x::r) T=gt T (bA ws x.1) x.2+Rt ws r T:=rfl;have A:val ws (T-1) (x::r)=vt (T-1) (bA ws x.1) x.2+val ws (T-1) r:=rfl;by_cases c:bA ws x.1<=T
   . have B:gt T (bA ws x.1) x.2=x.2:=by unfold gt;rw[if_pos c]
     have C:vt (T-1) (bA ws x.1) x.2=x.2*(T-bA ws x.1):=by
      unfold vt;split;.congr 1;lia
      .rw[show T-bA ws x.1=0 by lia,r8]
     rw[u,A,B,C,iC,show min (x.2+Rt ws r T) x.2=x.2 by lia,show x.2+Rt ws r T-x.2=Rt ws r T by lia,bu,t];exact⟨by lia,rfl⟩
   . have z:∀y∈x::r,¬ bA ws y.1<=T:=λy hy=>by
      rcases cK.mp hy with rfl|hy;.exact c
      .have:=e.1 y hy;lia
     have r0:Rt ws (x::r) T=0:=by
      have:Rt ws (x::r) T=bu (λ_=>0) (x::r):=dI λy hy=>by unfold gt;rw[if_neg (z y hy)]
      rw[this,wK]
     have E:val ws (T-1) (x::r)=0:=by
      have:val ws (T-1) (x::r)=bu (λ_=>0) (x::r):=dI λy hy=>by have:=z y hy;unfold Ol;rw[if_neg (by lia)]
      rw[this,wK]
     rw[r0,E];exact⟨d_ _,(Dj (fs:=[]) h λc=>by simp).2⟩
theorem qG{K:Int}:∀{l:List (List az×Int)},bu (λx=>x.2*K) l=yM l*K|[]=>by simp[bu,yM]|y::l=>by rw[bu,qG];show _=(y.2+yM l)*K;rw[qb]
theorem Ac{c:Int->Int}:∀{ws:List Wy}{fs:List Int},dot c ws fs=-dC (gap 0 c) ws fs
 |[],_=>rfl|_::_,[]=>rfl|v::ws,f::fs=>by
   rw[dot,dC,Ac];have:gap 0 c v*f=-(f*(c v.s-c v.t)):=by unfold gap;rw[kR,<-n8];congr 1;lia
   lia
theorem Bq.goes{t:List (List az×Int)}{fs:List Int}{R:Int}(u:Bq m ws t fs)(y:yM t=R)(h0:0<=R):Goes m ws fs R:=by
 refine⟨h0,λc=>?_⟩;have e:bu (λx=>x.2*(c (m-1)-c 0-0*bA ws x.1)) t=bu (λx=>x.2*(c (m-1)-c 0)) t:=dI λx _=>by congr 1;lia
 rw[Ac,u.dt,e,qG,y,<-n8];congr 1;lia
noncomputable def hs:List Wy->Nat->(Nat->Int)->Int|[],_,_=>0|v::ws,i,g=>v.h*g i+hs ws (i+1) g
theorem Bw{g f:Nat->Int}:∀{ws:List Wy}{i:Nat},hs ws i (λk=>g k+f k)=hs ws i g+hs ws i f|[],_=>rfl|v::ws,i=>by rw[hs,hs,hs,Bw,mT];lia
theorem um{g f:Nat->Int}:∀{ws:List Wy}{i:Nat},(∀k,i<=k->k<i+ws.length->g k=f k)->hs ws i g=hs ws i f|[],_,_=>rfl|v::ws,i,h=>by rw[hs,hs,h i (cN) (by simp),um λk h1 e=>h k (by lia) (by simp;lia)]
theorem Oi:∀{ws:List Wy}{i:Nat},hs ws i (λ_=>0)=0|[],_=>rfl|v::ws,i=>by rw[hs,Oi];simp
theorem Lg{x:Int}{v:Wy}:∀{ws:List Wy}{i k:Nat},i<=k->ws[k-i]?=aU v->hs ws i (λj=>if j=k then x else 0)=x*v.h
 |[],_,_,_,e=>by simp at e|u::ws,i,k,y,e=>by
   rw[hs];by_cases c:i=k
   . subst c;simp at e;subst e;have:hs ws (i+1) (λj=>if j=i then x else 0)=hs ws (i+1) (λ_=>0):=um λj h1 _=>by rw[if_neg (by lia)]
     rw[this,Oi];simp[kR]
   . have t:ws[k-(i+1)]?=aU v:=by rw[show k-i=(k-(i+1))+1 by lia]at e;simpa using e
     rw[Lg (by lia) t,if_neg c];simp
theorem KZ{k:Nat}(e:ws[k]?=aU v):hh ws (k:Int)=v.h:=by unfold hh;rw[kN,e]
theorem Sw{ws:List Wy}{x:Int}:∀{ks:List Nat},ks.Nodup->(∀k∈ks,∃v,ws[k]?=aU v)->hs ws 0 (λj=>if j∈ks then x else 0)=x*tot ws (aF ks)
 |[],_,_=>by
   have:hs ws 0 (λj=>if j∈([]:List Nat)then x else 0)=hs ws 0 (λ_=>0):=um λj _ _=>by simp
   rw[this,Oi];simp[aF,tot]|k::ks,t,h=>by
   have t:=ez.mp t;obtain⟨v,e⟩:=h k (by simp);have u:hs ws 0 (λj=>if j∈k::ks then x else 0)=hs ws 0 (λj=>(if j=k then x else 0)+if j∈ks then x else 0):=um λj _ _=>by
    by_cases c:j=k;.subst c;simp[t.1]
    .simp[c]
   rw[u,Bw,Lg (tU) (by simpa using e),Sw t.2 λj y=>h j (by simp[y])];have:tot ws (aF (k::ks))=v.h+tot ws (aF ks):=by show hh ws (k:Int)+_=_;rw[KZ e];rfl
   rw[this,mT]
theorem Jk{g:Nat->Int}:∀{ws:List Wy}{fs:List Int}{i:Nat},fs.length=ws.length->(∀(j:Nat)f,fs[j]?=aU f->g (i+j)=f)->hs ws i g=-dC (gap 1 λ_=>0) ws fs
 |[],fs,i,_,_=>by rw[hs,dC]<;>simp|v::ws,[],i,h,_=>by simp at h|v::ws,f::fs,i,h,t=>by
   rw[hs,dC,Jk (fs:=fs) (by simpa using h) λj f e=>by have:=t (j+1) f (by simpa using e);rw[<-this];congr 1;lia];have h0:=t 0 f rfl;rw[Nat.add_zero]at h0;have:gap 1 (λ_=>0) v*f=-(v.h*f):=by show(0-0-1*v.h)*f=_;rw[<-Int.neg_mul];congr 1;lia
   rw[h0];lia
noncomputable def zK(ws:List Wy)(cs:List lG):Int:=(cs.map λc=>c.2*tot ws (aF c.1)).sum
theorem K9{ws:List Wy}:∀{cs:List lG},(∀c∈cs,c.1.Nodup/\∀k∈c.1,∃v,ws[k]?=aU v)->hs ws 0 (u6 cs)=zK ws cs
 |[],_=>by have:hs ws 0 (u6 [])=hs ws 0 (λ_=>0):=um λ_ _ _=>rfl;rw[this,Oi];rfl|c::cs,h=>by
   have hc:=h c (by simp);have e:hs ws 0 (u6 (c::cs))=hs ws 0 (λk=>(if k∈c.1 then c.2 else 0)+u6 cs k):=um λk _ _=>by unfold u6;rw[c_,hU]
   rw[e,Bw,Sw hc.1 hc.2,K9 λu t=>h u (by simp[t])];show _=c.2*tot ws (aF c.1)+zK ws cs;rfl
structure BR(m T:Int)(ws:List Wy)(cs:List lG):Prop where
 Oa:∀c∈cs,1<=c.2/\c.1.length<=12/\Mm m ws c.1
 rm:∀(k:Nat)(v:Wy),ws[k]?=aU v->u6 cs k<=v.r
 len:∀c∈cs,tot ws (aF c.1)<=T
 sum:kI m ws T ((cs.map λc=>c.2*(T-tot ws (aF c.1)+1)).sum)cnt:cs.length<=12
theorem Bj{k:Nat}:∀{cs:List lG},(∀c∈cs,1<=c.2)->0<=u6 cs k|[],_=>d_ _|c::cs,h=>by have h1:=h c (by simp);have y:=Bj (k:=k) (cs:=cs) λu t=>h u (by simp[t]);have e:u6 (c::cs) k=(if k∈c.1 then c.2 else 0)+u6 cs k:=rfl;rw[e];split<;>lia
theorem Jp{k:Nat}{c:lG}:∀{cs:List lG},(∀c∈cs,1<=c.2)->c∈cs->k∈c.1->1<=u6 cs k
 |[],_,h,_=>by cases h|d::cs,h,hc,y=>by
   have h1:=h d (by simp);have A:=Bj (k:=k) (cs:=cs) λu t=>h u (by simp[t]);have e:u6 (d::cs) k=(if k∈d.1 then d.2 else 0)+u6 cs k:=rfl;rw[e];rcases cK.mp hc with rfl|hc;.rw[if_pos y];lia
   .have:=Jp (λu t=>h u (by simp[t])) hc y;split<;>lia
theorem Jq{ws:List Wy}{q:Int->Int}:∀{ks:List Nat}{a b:Int},path ws a ks b->(∀k∈ks,∀v,ws[k]?=aU v->q v.s+v.h<=q v.t)->q a+tot ws (aF ks)<=q b
 |[],a,b,h,_=>by have:a=b:=h;subst this;simp[aF,tot]|k::ks,a,b,⟨v,e,hs,u⟩,h=>by
   have h1:=h k (by simp) v e;have A:=Jq u λj y=>h j (by simp[y]);have:tot ws (aF (k::ks))=v.h+tot ws (aF ks):=by show hh ws (k:Int)+_=_;rw[KZ e];rfl
   rw[this,<-hs];lia
theorem ug{ws:List Wy}{T:Int}:∀{cs:List lG},(cs.map λc=>c.2*(T-tot ws (aF c.1)+1)).sum=(T+1)*(cs.map (·.2)).sum-zK ws cs
 |[]=>by simp[zK]|c::cs=>by
   have t:=ug (ws:=ws) (T:=T) (cs:=cs);have e:zK ws (c::cs)=c.2*tot ws (aF c.1)+zK ws cs:=rfl;have u:c.2*(T-tot ws (aF c.1)+1)=(T+1)*c.2-c.2*tot ws (aF c.1):=by rw[kR (T+1),<-qa];congr 1;lia
   rw[c_,hU,t,c_,hU,e,u,mT];lia
theorem RI.best{T:Int}{fs:List Int}{B:List lG}(h:bh m ws)(h0:0<=T)(L:cU m ws cs)(hp:cs.Pairwise (λa b=>bA ws a.1<=bA ws b.1))(J:Bq m ws (iC cs (Rt ws cs T)) fs)(A:RI m ws fs (Rt ws cs T) ls 0 B):BR m T ws B:=by
 have pos:∀x∈cs,0<x.2:=λx hx=>(L.nn x hx).2;have one:∀c∈B,1<=c.2:=λc hc=>(A.Oa c hc).1;have key:∀c∈B,c.1.Nodup/\path ws 0 c.1 (m-1)/\∀k∈c.1,∃v,ws[k]?=aU v:=λc hc=>by
  obtain⟨_,_,ps,X,W⟩:=A.Oa c hc;obtain⟨ks,e,h1,⟨q,O,Y⟩,h4⟩:=qD (p:=0) rfl X;have e:c.1=ks:=by unfold aF at e;exact(lj λx y e=>by lia).mp e
  rw[W]at O;cases O;rw[e];exact⟨h1,Y,λk C=>by obtain⟨v,E,_⟩:=h4 k C;exact⟨v,E⟩⟩
 have u:=A.sum;rw[o3]at u;have Z:T=0->B=[]:=λz=>by
  have:Rt ws cs T=0:=by rw[vp,L.dg (by lia),L.dg (by lia)];rfl
  rw[this]at u;cases B with|nil=>rfl|cons c B=>
    have h1:=one c (by simp);have O:∀l:List lG,(∀c∈l,1<=c.2)->0<=(l.map (·.2)).sum:=λl=>by induction l with|nil=>intro _;simp|cons d l ih=>intro W;have:=W d (by simp);have:=ih λc hc=>W c (by simp[hc]);rw[c_,hU];lia
    have:=O B λc hc=>one c (by simp[hc]);rw[c_,hU]at u;lia
 have U:∀(k:Nat)v f q,ws[k]?=aU v->fs[k]?=aU f->0<f->Pt ws fs q->q v.s+v.h<=q v.t:=λk v f q E M f0 hq=>by have:=hq (k,a_) v E (by rw[lq (s:=(k,a_)) E M];simp[frm,m8];lia);have:q v.s<=q v.t+-v.h:=this;lia
 have I:∀(k:Nat)v,ws[k]?=aU v->∃f l,fs[k]?=aU f/\ls[k]?=aU l/\u6 B k+l=f/\0<=l/\f<=v.r:=λk v e=>by
  have C:=(dD e).1;have E:fs[k]?=aU (fs[k]'(by rw[J.fit.len];exact C)):=by simp[J.fit.len,C]
  have M:ls[k]?=aU (ls[k]'(by rw[A.len];exact C)):=by simp[A.len,C]
  exact⟨_,_,E,M,A.mka k _ _ E M,(A.nn k v _ e M).1,(J.fit.ok k v _ e E).2⟩
 have ac:∀(k:Nat)l,ls[k]?=aU l->l=0:=λk l e=>by
  obtain⟨F,hF,_⟩:=J.ht;have C:=(dD e).1;rw[A.len]at C;have ev:ws[k]?=aU ws[k]:=by simp[C]
  have X:dC (gap 0 λp=>-F p) ws ls=0:=by have:=A.go.2 λp=>-F p;rw[Ac,Int.zero_mul]at this;lia
  have tm:∀(j:Nat)v g,ws[j]?=aU v->ls[j]?=aU g->gap 0 (λp=>-F p) v*g<=0/\(0<g->gap 0 (λp=>-F p) v*g<0):=λj v g a b=>by
   obtain⟨f,l',c1,c2,c3,c4,c5⟩:=I j v a;rw[b]at c2;cases c2;by_cases g0:g=0;.subst g0;exact⟨by simp,λz=>by lia⟩
   have:=Bj (k:=j) one;have h1:=U j v f F a c1 (by lia) hF;have O:=(h.ok v (dl a)).h0;have Y:gap 0 (λp=>-F p) v<0:=by show-F v.t- -F v.s-0*v.h<0;lia
   have:=Int.mul_neg_of_neg_of_pos Y (show 0<g by lia);exact⟨by lia,λ_=>this⟩
  have z5:∀l:List Wy,lr (λ_=>0) l=0:=λl=>by induction l with|nil=>rfl|cons y l ih=>rw[lr,ih];rfl
  have ht:=nG (G:=gap 0 λp=>-F p) (H:=λ_=>0) A.len (λj v g a b=>(tm j v g a b).1) (by rw[z5,X];exact d_ _) k _ l ev e;have:=(A.nn k _ l ev e).1;by_cases l0:0<l;.have:=(tm k _ l ev e).2 l0;lia
  .lia
 refine⟨A.Oa,λk v e=>?_,λc hc=>?_,?_,by have:=A.ab5;have:=h.len;lia⟩;.obtain⟨f,l,_,_,c3,c4,c5⟩:=I k v e;lia
 . by_cases t0:T=0;.rw[Z t0]at hc;cases hc
   obtain⟨q,hq,q0,q1,_⟩:=J.hts h (T:=T-1) (by lia) (by have:=(De (T:=T) hp pos).2;rw[<-this];exact dI λx _=>by congr 1;lia) (L.least (by lia));obtain⟨k1,k2,k3⟩:=key c hc;have:=Jq (q:=q) k2 λk C v e=>by obtain⟨f,l,c1,c2,c3,c4,c5⟩:=I k v e;have:=Jp one hc C;exact U k v f q e c1 (by lia) hq
   lia
 . have E:zK ws B=bu (λx=>x.2*bA ws x.1) (iC cs (Rt ws cs T)):=by
    rw[<-K9 λc hc=>⟨(key c hc).1,(key c hc).2.2⟩,Jk (fs:=fs) J.fit.len λj f e=>?_,J.dt]
    . have:bu (λx=>x.2*((λ_=>(0:Int)) (m-1)-(λ_=>(0:Int)) 0-1*bA ws x.1)) (iC cs (Rt ws cs T))=bu (λx=>0-x.2*bA ws x.1) (iC cs (Rt ws cs T)):=dI λx _=>by show x.2*(0-0-1*bA ws x.1)=_;rw[show(0:Int)-0-1*bA ws x.1=-bA ws x.1 by lia,n8];lia
      rw[this,mZ,wK];lia
    .have hj:=(dD e).1;rw[J.fit.len]at hj;obtain⟨f',l,c1,c2,c3,_,_⟩:=I j _ (show ws[j]?=aU ws[j]by simp[hj]);rw[e]at c1;cases c1;have:=ac j l c2;rw[rq];lia
   have M:(B.map λc=>c.2*(T-tot ws (aF c.1)+1)).sum=val ws T cs:=by rw[ug,u,E,<-(Ad (T:=T) hp pos).2];have:bu (λx=>x.2*(T+1-bA ws x.1)) (iC cs (Rt ws cs T))=bu (λx=>x.2*(T+1)-x.2*bA ws x.1) (iC cs (Rt ws cs T)):=dI λx _=>qa _ _ _;rw[this,mZ,qG,vG pos L.xM L.Fw,kR]
   rw[M];exact L.least h0
theorem Kh{T:Int}(y:50000000<=w)(h:bh m ws)(h0:0<=T)(k:∀t,BR m T ws t->Q (.own (t.map sr)) [.val a_ (aL m ws),.val a_ (.int T)]):(run Γ w (n+9) 29 [.val a_ (aL m ws),.val a_ (.int T)]).sat Q:=by refine aK (d:=f29) rfl rfl (by decide) ?_;symm;simp[f29];refine tO (by lia) h λcs fs e A u=>?_;simp;refine Aa (.inl rfl) y h u.fit.len (λk v l B C=>u.fit.ok k v l B C) (u.goes (vG (λx E=>(e.nn x E).2) e.xM e.Fw) e.xM) λls r t G hr=>?_;subst hr;simp;exact k t (G.best h h0 e A u)
theorem uY:(aF ks).length=ks.length:=by simp[aF]
theorem Fj{e:List Int}(h:e.getLast?=aU p):at' (e.map D.int) (-1)=aU (.int p):=by
 obtain⟨l,x,rfl⟩:∃l x,e=l++[x]:=by
  have t:e≠[]:=by rintro rfl;cases h
  exact⟨e.dropLast,e.getLast t,(List.dropLast_concat_getLast t).symm⟩
 rw[gy,List.map_singleton,Qe];simpa using h
inductive JIw(m:Int)(ws:List Wy)(a1 a2:Sl)(ps:List Int)(r:List D)(ρ:List Sl):Prop where|mk(us qs:List Int)(p:Int)(s3:Sl)(q0:ρ=[.val a_ (aL m ws),a1,a2,.own a_ (qs.map D.int),s3])(q1:fr s3=b_)(q2:r=us.map D.int)(q3:oX ws us qs=aU ps)(q4:qs.getLast?=aU p)(q5:qs.length+us.length<=20)
theorem Ae(h:bh m ws)(O:Mm m ws ks)(hl:ks.length<=12)(k:Q (.val (.bl b_)) [.val a_ (aL m ws),.val a_ (.tup ((aF ks).map D.int)),.val a_ (.int (m-1))]):(run Γ w (n+1) 35 [.val a_ (aL m ws),.val a_ (.tup ((aF ks).map D.int)),.val a_ (.int (m-1))]).sat Q:=by
 obtain⟨ps,G,L⟩:=O;refine aK (d:=f35) rfl rfl (by decide) ?_;symm;simp[f35];apply aj;simp;refine bw (JIw m ws _ _ ps) ?_ ?_ ⟨aF ks,[0],0,.aO,rfl,rfl,rfl,G,rfl,by simp[aF];lia⟩;.rintro d r _⟨us,C,p,s3,rfl,M,hr,A,E,y⟩;cases us with|nil=>cases hr|cons u us=>
     obtain⟨rfl,rfl⟩:d=.int u/\r=us.map D.int:=by simpa using hr
     rw[oX]at A;cases e:eV ws C u with|none=>rw[e]at A;cases A|some rs=>
       rw[e]at A;obtain⟨U,W,v,X,e2,Y,Z,rfl⟩:=qW E e;have H:at' (ws.map Wy.d) u=aU v.d:=by rw[jQ U (by simpa using W)];simp[X]
       have I:cm .inn (.int v.t) (.lst (C.map D.int))=aU a_:=by rw[Vr];simp[Z]
       have B:=Fj E;simp[M];apply aj;simp[show ¬ u<0 by lia,show ¬(ws.length:Int)<=u by lia,H,GF,B,Y];apply aj;simp[H,G6,Bf,show ¬ v.r=0 by lia,I];apply aj;have J:C.length<16777216:=by simp at y;lia
       simp[J,H,Bf];exact⟨us,C++[v.t],v.t,.val a_ (.int u),by simp,rfl,rfl,A,by simp,by simp at y ⊢;lia⟩
 . rintro _⟨us,C,p,s3,rfl,M,hr,A,E,y⟩;have:us=[]:=by cases us with|nil=>rfl|cons _ _=>cases hr
   subst this;rw[oX]at A;cases A;rw[L]at E;cases E;have B:=Fj L;simp;apply aj;simp[B];exact k
noncomputable def fw(ks:List Nat):List az:=ks.map λk=>(k,b_)
theorem Fx:(fw ks).map (·.1)=ks:=by unfold fw;rw[eh];exact List.map_id _
noncomputable def JB(l:List Int)(c:lG):List Int:=aug c.2 l (fw c.1)
noncomputable def uH(N:Nat)(cs:List lG):List Int:=cs.foldl JB (cr N 0)
theorem PN{cs:List lG}{c:lG}:uH N (cs++[c])=aug c.2 (uH N cs) (fw c.1):=by unfold uH;rw[k9];rfl
theorem xX:∀{cs:List lG}{l:List Int},(cs.foldl JB l).length=l.length|[],_=>rfl|c::cs,l=>by rw[k8,xX];exact gW
theorem CV{cs:List lG}:(uH N cs).length=N:=by unfold uH;rw[xX];simp
theorem fold_at{j:Nat}:∀{cs:List lG}{l:List Int}{a:Int},(∀c∈cs,c.1.Nodup)->l[j]?=aU a->(cs.foldl JB l)[j]?=aU (a+u6 cs j)
 |[],l,a,_,e=>by simp[u6,e]|c::cs,l,a,t,e=>by
   rw[k8];have hc:(JB l c)[j]?=aU (a+if j∈c.1 then c.2 else 0):=by
    unfold JB;by_cases z:j∈c.1;.have:=nj (x:=c.2) (c:=fw c.1) (s:=(j,b_)) (by rw[Fx];exact t c (by simp)) (da.mpr ⟨j,z,rfl⟩) e;rw[this,if_pos z];rfl
    .rw[gZ (by rw[Fx];exact z),e,if_neg z];simp
   rw[fold_at (λc hc=>t c (by simp[hc])) hc];simp only[u6,c_,hU];congr 1;lia
theorem V0{cs:List lG}(e:∀c∈cs,c.1.Nodup)(t:j<N):(uH N cs)[j]?=aU (u6 cs j):=by unfold uH;rw[fold_at e (a:=0) (by simp[t])];simp
inductive JMo(N:Nat)(cs:List lG)(a0 a1:Sl)(r:List D)(ρ:List Sl):Prop where|mk(bf us:List lG)(s3 s4 s5:Sl)(q0:ρ=[a0,a1,.own a_ ((uH N bf).map D.int),s3,s4,s5])(q1:A3 (fr s3=b_) (fr s4=b_) (fr s5=b_))(q2:r=us.map sr)(q3:bf++us=cs)
inductive JMi(x:Int)(l:List Int)(ks:List Nat)(a0 a1 a3 a4:Sl)(r:List D)(ρ:List Sl):Prop where|mk(bf us:List Nat)(s5:Sl)(q0:ρ=[a0,a1,.own a_ ((aug x l (fw bf)).map D.int),a3,a4,s5])(q1:fr s5=b_)(q2:r=(aF us).map D.int)(q3:bf++us=ks)
inductive FFt(a0 a1 a2 a3 a4 a5:Sl)(ρ:List Sl):Prop where|mk(s:Sl)(q0:ρ=[a0,a1,a2,a3,a4,a5,s])(q1:fr s=b_)
theorem Q4{T:Int}{cs:List lG}(h:bh m ws)(H:BR m T ws cs)(k:Q (.val (.bl b_)) [.val a_ (aL m ws),.own b_ (cs.map sr)]):(run Γ w (n+2) 37 [.val a_ (aL m ws),.own b_ (cs.map sr)]).sat Q:=by
 have hn:=h.len;have key:∀c∈cs,c.1.Nodup/\∀k∈c.1,k<ws.length:=λc hc=>by
  obtain⟨_,_,ps,O,hl⟩:=H.Oa c hc;obtain⟨ks,e,h1,_,C⟩:=qD (p:=0) rfl O;have e:c.1=ks:=by unfold aF at e;exact(lj λx y e=>by lia).mp e
  rw[e];refine⟨h1,λk U=>?_⟩;obtain⟨v,E,_⟩:=C k U;exact(dD E).1
 refine aK (d:=f37) rfl rfl (by decide) ?_;refine cQ (λρ=>ρ=[.val a_ (aL m ws),.own b_ (cs.map sr),.own a_ ((uH ws.length []).map D.int),.aO,.aO,.aO]) ?_ ?_;.simp[f37,uH];show _<=16777216;lia
 rintro _ rfl;symm;simp;refine bw (JMo ws.length cs _ _) ?_ ?_ ⟨[],cs,.aO,.aO,.aO,rfl,⟨rfl,rfl,rfl⟩,rfl,rfl⟩;.rintro d r _⟨t,us,s3,s4,s5,rfl,⟨C,L,B⟩,hr,hd⟩;cases us with|nil=>cases hr|cons u us=>
     obtain⟨rfl,rfl⟩:d=sr u/\r=us.map sr:=by simpa using hr
     have A:u∈cs:=by rw[<-hd];simp
     have W:=(key u A).2;obtain⟨Y,Z,q3⟩:=H.Oa u A;have I:(t++[u])++us=cs:=by rw[eM];exact hd
     simp[sr,C,L];apply aj;simp[show ¬ u.2<1 by lia];refine Ae h q3 Z ?_;simp;apply aj;simp;refine bw (JMi u.2 (uH ws.length t) u.1 _ _ _ _) ?_ ?_ ⟨[],u.1,s5,rfl,B,rfl,rfl⟩;.rintro d r _⟨dn,vs,s5,rfl,B,hr,he⟩;cases vs with|nil=>cases hr|cons v vs=>
         obtain⟨rfl,rfl⟩:d=.int (v:Int)/\r=(aF vs).map D.int:=by simpa[aF]using hr
         have hv:v<(aug u.2 (uH ws.length t) (fw dn)).length:=by rw[gW,CV];exact W v (by rw[<-he];simp)
         have M:(aug u.2 (uH ws.length t) (fw dn))[v]?=aU (aug u.2 (uH ws.length t) (fw dn))[v]:=by simp[hv]
         have hx:ik (aug u.2 (uH ws.length t) (fw dn)).length (v:Int)=aU v:=by unfold ik;rw[if_pos (by lia),if_pos (by lia)];simp
         have hq:aug u.2 (uH ws.length t) (fw (dn++[v]))=(aug u.2 (uH ws.length t) (fw dn)).set v ((aug u.2 (uH ws.length t) (fw dn))[v]+u.2):=by
          have e0:fw (dn++[v])=fw dn++[(v,b_)]:=by simp[fw]
          rw[e0];unfold aug;rw[k9];show gB u.2 (aug u.2 (uH ws.length t) (fw dn)) (v,b_)=_;unfold gB;rw[M];rfl
         have J:(dn++[v])++vs=u.1:=by rw[eM];exact he
         generalize(aug u.2 (uH ws.length t) (fw dn))[v]=g at*;simp[B];apply aj;simp[cY M,hx];exact⟨dn++[v],vs,_,by rw[hq,rf],rfl,rfl,J⟩
     . rintro _⟨dn,vs,s5,rfl,B,hr,he⟩;have:vs=[]:=by cases vs with|nil=>rfl|cons _ _=>cases hr
       subst this;rw[e_]at he;subst he;simp;exact⟨t++[u],us,_,_,_,by rw[PN],⟨rfl,rfl,B⟩,rfl,I⟩
 . rintro _⟨t,us,s3,s4,s5,rfl,⟨C,L,B⟩,hr,hd⟩;have:us=[]:=by cases us with|nil=>rfl|cons _ _=>cases hr
   subst this;rw[e_]at hd;subst hd;simp;apply aj;simp[CV,show(ws.length:Int)<=1000000000 by lia];refine⟨λ_=>?_,by show _<=16777216;lia⟩;refine cg (FFt _ _ _ _ _ _) (λ_=>.bl b_) ⟨.aO,rfl,rfl⟩ ?_ ?_
   . rintro d hd _⟨s,rfl,hs⟩;obtain⟨j,G,rfl⟩:=da.mp hd;have G:=iq.mp G;have E:ws[j]?=aU ws[j]:=by simp[G]
     have e3:=V0 (λc hc=>(key c hc).1) G;have Y:=H.rm j _ E;simp[hs,cY e3,cY E,Wy.d];exact⟨by lia,_,rfl,rfl⟩
   rintro _⟨s,rfl,hs⟩;have e:((dS ws.length).map λ(k:Nat)=>D.int (k:Int)).map (λ_=>D.bl b_)=(cr ws.length b_).map D.bl:=by rw[eh,List.map_replicate,List.eq_replicate_iff];exact⟨by simp,λb hb=>by obtain⟨_,_,rfl⟩:=da.mp hb;rfl⟩
   rw[e];have hm:((cr ws.length b_).map D.bl).mapM zE=aU (cr ws.length b_):=by rw[List.mapM_map];exact JV
   generalize(cr ws.length b_).map D.bl=X at*;simp[hm];exact k
noncomputable def h3D(ws:List Wy):D->D|.int k=>.int (hh ws k)|d=>d
theorem BP(hc:∀k∈ks,k<ws.length)(B:ks.length<=12)(k:Q (.val (.int (tot ws (aF ks)))) [.val a_ (aL m ws),.val a_ (.tup ((aF ks).map D.int))]):(run Γ w (n+1) 36 [.val a_ (aL m ws),.val a_ (.tup ((aF ks).map D.int))]).sat Q:=by
 refine aK (d:=f36) rfl rfl (by decide) ?_;symm;simp[f36,uY,show ks.length<=16777216 by lia];refine cg (F2s _ _) (h3D ws) ⟨.aO,rfl,rfl⟩ ?_ ?_
 . rintro d hd _⟨s,rfl,hs⟩;obtain⟨i,hi,rfl⟩:=da.mp hd;obtain⟨j,t,rfl⟩:=da.mp hi;have t:=hc j t;have u:ws[j]?=aU ws[j]:=by simp[t]
   have A:h3D ws (.int (j:Int))=.int ws[j].h:=by show D.int (hh ws (j:Int))=_;rw[KZ u]
   rw[A];simp[hs,cY u,Wy.d];exact⟨_,rfl,rfl⟩
 . rintro _⟨s,rfl,hs⟩;have e:((aF ks).map D.int).map (h3D ws)=((aF ks).map (hh ws)).map D.int:=by rw[eh,eh];rfl
   rw[e];have y:=k;unfold tot at y;generalize(aF ks).map (hh ws)=ns at*;simp[fV];exact y
inductive JSh(cs:List lG)(a0:Sl)(r:List D)(ρ:List Sl):Prop where|mk(us:List lG)(s1 s2:Sl)(q0:ρ=[a0,s1,s2])(q1:(fr s1=b_/\fr s2=b_))(q2:r=us.map sr)(q3:∀u∈us,u.1.length<=12)
inductive JSn(a0 a1:Sl)(r:List D)(ρ:List Sl):Prop where|mk(s2:Sl)(q0:ρ=[a0,a1,s2])(q1:fr s2=b_)(q2:∀d∈r,∃i,d=D.int i)
theorem Z2{e:List D}{a b:P}(h1:Jh a=a_)(t:Jh b=b_){d:D}:Ob (.tup e) (part a (.int i)) (part b d)=aU (.val (.tup (cut e (aU i) ci))):=by unfold part;rw[h1,t];rfl
theorem zZ{cs:List lG}(hc:∀c∈cs,c.1.length<=12)(k:Q (.val (.bl b_)) [.own b_ (cs.map sr)]):(run Γ w (n+1) 39 [.own b_ (cs.map sr)]).sat Q:=by
 refine aK (d:=f39) rfl rfl (by decide) ?_;symm;simp[f39];apply aj;simp;refine bw (JSh cs _) ?_ ?_ ⟨cs,.aO,.aO,rfl,⟨rfl,rfl⟩,rfl,hc⟩;.rintro d r _⟨us,s1,s2,rfl,⟨h1,e⟩,hr,t⟩;cases us with|nil=>cases hr|cons u us=>
     obtain⟨rfl,rfl⟩:d=sr u/\r=us.map sr:=by simpa using hr
     have A:=t u (by simp);have y:cut [D.tup ((aF u.1).map D.int),D.int u.2] (aU 1) ci=[D.int u.2]:=rfl;simp[sr,h1];apply aj;simp;apply aj;simp[Z2 (a:=.con (.int 1)) (b:=.con .non) rfl rfl,y,uY];refine⟨by show _<=16777216;lia,?_⟩;refine bw (JSn _ _) ?_ ?_ ⟨s2,rfl,e,λd hd=>?_⟩;.rintro d r _⟨s2,rfl,e,hd⟩;obtain⟨i,rfl⟩:=hd d (by simp);simp[e];apply aj;simp;exact⟨_,rfl,rfl,λd h=>hd d (dr _ h)⟩
     .rintro _⟨s2,rfl,e,hd⟩;simp;exact⟨us,_,_,rfl,⟨rfl,e⟩,rfl,λz hz=>t z (by simp[hz])⟩
     . simp at hd;rcases hd with⟨i,_,rfl⟩|rfl;.exact⟨_,rfl⟩
       .exact⟨_,rfl⟩
 .rintro _⟨us,s1,s2,rfl,⟨h1,e⟩,hr,t⟩;simp;apply aj;simp;exact k
theorem Ef{m:Int}{ws:List Wy}(h:bh m ws):∀(l:List Int),0<=tot ws l
 |[]=>by simp[tot]|k::l=>by
   have t:=Ef h l;have h1:0<=hh ws k:=by
    unfold hh;split;.rename_i v e;have:=(h.ok v (dl e)).h0;lia
    .exact d_ _
   show 0<=hh ws k+tot ws l;lia
noncomputable def due(ws:List Wy)(T:Int)(cs:List lG):Int:=(cs.map λc=>c.2*(T-tot ws (aF c.1)+1)).sum
inductive J38(a0:Sl)(r:List D)(ρ:List Sl):Prop where|mk(s1:Sl)(s2:Sl)(s3:Sl)(s4:Sl)(s5:Sl)(s6:Sl)(s7:Sl)(s8:Sl)(s9:Sl)(gA:Sl)(q0:ρ=[a0,s1,s2,s3,s4,s5,s6,s7,s8,s9,gA])(q1:(fr s1=b_/\fr s2=b_/\fr s3=b_/\fr s4=b_/\fr s5=b_/\fr s6=b_/\fr s7=b_/\fr s8=b_/\fr s9=b_/\fr gA=b_))(q2:∀d∈r,∃x,d=D.int x)
inductive K38(y:Int)(a0 a1 a3:Sl)(r:List D)(ρ:List Sl):Prop where|mk(x z:Int)(s4 s5 s6 s7 s8 s9 gA:Sl)(q0:ρ=[a0,a1,.own a_ [.int x,.int y,.int z],a3,s4,s5,s6,s7,s8,s9,gA])(q1:A7 (fr s4=b_) (fr s5=b_) (fr s6=b_) (fr s7=b_) (fr s8=b_) (fr s9=b_) (fr gA=b_))(q2:∀d∈r,∃i,d=D.int i/\1<=i/\i<=1000000000000000000)
inductive M38(a0 a1 a2 a3 a4 a5:Sl)(_:Nat)(ρ:List Sl):Prop where|mk(s6:Sl)(s7:Sl)(s8:Sl)(s9:Sl)(gA:Sl)(q0:ρ=[a0,a1,a2,a3,a4,a5,s6,s7,s8,s9,gA])(q1:A5 (fr s6=b_) (fr s7=b_) (fr s8=b_) (fr s9=b_) (fr gA=b_))
inductive N38(ws:List Wy)(T:Int)(cs:List lG)(a0 a1 a2 a3 a4 a5 a6 a7:Sl)(r:List D)(ρ:List Sl):Prop where|mk(bf us:List lG)(s9 gA:Sl)(q0:ρ=[a0,a1,a2,a3,a4,a5,a6,a7,.val a_ (.int (due ws T bf)),s9,gA])(q1:(fr s9=b_/\fr gA=b_))(q2:r=us.map sr)(q3:bf++us=cs)
theorem Qn(ns:List Int)(hn:ns.length<=63):∃as,run Γ 100000000 40 40 [.val a_ (.lst (ns.map D.int))]=.ok (.val (.bl b_)) as:=by
 suffices h:(run Γ 100000000 40 40 [.val a_ (.lst (ns.map D.int))]).sat λr _=>r=.val (.bl b_)by obtain⟨a,ρ,e,rfl⟩:=sat_iff.mp h;exact⟨ρ,e⟩
 refine aK (d:=f40) rfl rfl (by decide) ?_;symm;simp[f40];refine zV (m:=6) rfl (by decide) (by decide) hn λcs ac=>?_;have Z:1+cs.length<=lim:=by show _<=16777216;lia
 simp[Z];refine bw (J38 (.val a_ (.lst (ns.map D.int)))) ?_ ?_ ?_
 . rintro d r _⟨s1,s2,s3,s4,s5,s6,s7,s8,s9,gA,rfl,⟨h1,h2,Y,M,O,E,G,H,B,A⟩,hd⟩;obtain⟨x,rfl⟩:=hd d (by simp);simp[h1];apply aj;simp;refine LQ λa y c=>?_;simp[h2];apply aj;simp;refine Pr λm us a c J hs=>?_;simp;refine yF J hs λws a c J=>?_;simp[Y];apply aj;simp;refine bw (K38 y _ _ _) ?_ ?_ ⟨a,c,s4,s5,s6,s7,s8,s9,gA,rfl,⟨M,O,E,G,H,B,A⟩,λd hd=>?_⟩
   . rintro d r _⟨a,c,s4,s5,s6,s7,s8,s9,gA,rfl,⟨M,O,E,G,H,B,A⟩,hd⟩;obtain⟨i,rfl,i0,i1⟩:=hd d (by simp);simp[M];apply aj;simp;refine cu (by lia) (wO (by lia)) λT a c T0 T1=>?_;simp[O];apply aj;simp;refine mL (M38 _ _ _ _ _ _) ?_ ?_ ⟨s6,s7,s8,s9,gA,rfl,E,G,H,B,A⟩
     . rintro t _ ht⟨s6,s7,s8,s9,gA,rfl,E,G,H,B,A⟩;simp[E];apply aj;simp;refine Kh (by lia) J T0 λI L=>?_;have key:∀c∈I,∀k∈c.1,k<ws.length:=λc hc=>by
        obtain⟨_,_,ps,hg,Z⟩:=L.Oa c hc;obtain⟨ks,e,h1,_,Y⟩:=qD (p:=0) rfl hg;have e:c.1=ks:=by unfold aF at e;exact(lj λx y e=>by lia).mp e
        rw[e];intro k J;obtain⟨v,e1,_⟩:=Y k J;exact(dD e1).1
       simp[G];apply aj;simp;refine zZ (λc hc=>(L.Oa c hc).2.1) ?_;simp;refine Q4 J L ?_;simp;apply aj;simp[H];refine cQ (λρ=>∃s9 gA,ρ=[.val a_ (.lst (ns.map D.int)),.val a_ (.int x),.own a_ [.int a,.int y,.int c],.val a_ (aL m ws),.val a_ (.int i),.val a_ (.int T),.val a_ (.int t),.own a_ (I.map sr),.val a_ (.int (due ws T I)),s9,gA]/\(fr s9=b_/\fr gA=b_)) ?_ ?_
       . simp;refine bw (N38 ws T I _ _ _ _ _ _ _ _) ?_ ?_ ⟨[],I,s9,gA,rfl,⟨B,A⟩,rfl,rfl⟩;.rintro d r _⟨U,us,s9,gA,rfl,⟨B,A⟩,hr,hd⟩;cases us with|nil=>cases hr|cons u us=>
             obtain⟨rfl,rfl⟩:d=sr u/\r=us.map sr:=by simpa using hr
             have C:u∈I:=by rw[<-hd];simp
             have W:(U++[u])++us=I:=by rw[eM];exact hd
             obtain⟨q1,q2,q3⟩:=L.Oa u C;have hT:=L.len u C;have h0:=Ef J (aF u.1);have es:due ws T (U++[u])=due ws T U+u.2*(T-tot ws (aF u.1)+1):=by unfold due;rw[gy,ol];simp
             have hm:∀i,mQ (.int i) (.int (T-tot ws (aF u.1)+1))=aU (.val (.int (i*(T-tot ws (aF u.1)+1)))):=λi=>by show(if _ then _ else _)=_;rw[if_pos];right;lia
             have X:=λ{w n:Nat}{Q:R->List Sl->Prop}=>BP (w:=w) (n:=n) (m:=m) (Q:=Q) (key u C) q2;generalize tot ws (aF u.1)=tt at*;simp[sr,B,A];apply aj;simp;refine X ?_;simp[show ¬ T<tt by lia];apply aj;simp;refine X ?_;simp[hm];rw[<-es];exact⟨U++[u],us,_,_,rfl,⟨rfl,rfl⟩,rfl,W⟩
         . rintro _⟨U,us,s9,gA,rfl,⟨B,A⟩,hr,hd⟩;have:us=[]:=by cases us with|nil=>rfl|cons _ _=>cases hr
           subst this;rw[e_]at hd;subst hd;simp;exact⟨_,_,⟨rfl,rfl⟩,B,A⟩
       .rintro _⟨s9,gA,rfl,B,A⟩;symm;simp;refine Bl (by lia) J (by lia) λcs hE=>?_;have e9:val ws T cs=due ws T I:=(hE.least T0).uniq L.sum;simp[e9];apply aj;simp[show I.length<16777216 by have:=L.cnt;lia];exact⟨_,_,_,_,_,rfl,rfl,rfl,rfl,B,A⟩
     .rintro _⟨s6,s7,s8,s9,gA,rfl,E,G,H,B,A⟩;simp;exact⟨a,c,_,_,_,_,_,_,_,rfl,⟨rfl,rfl,E,G,H,B,A⟩,λd h=>hd d (dr _ h)⟩
   .rintro _⟨a,c,s4,s5,s6,s7,s8,s9,gA,rfl,⟨M,O,E,G,H,B,A⟩,W⟩;simp;exact⟨_,_,_,_,_,_,_,_,_,_,rfl,⟨rfl,rfl,rfl,M,O,E,G,H,B,A⟩,λd h=>hd d (dr _ h)⟩
   . simp at hd;rcases hd with rfl|rfl|rfl;.exact⟨_,rfl,by lia,by lia⟩
     .exact⟨_,rfl,by lia,by lia⟩
     .exact⟨_,rfl,by lia,by lia⟩
 .rintro _⟨s1,s2,s3,s4,s5,s6,s7,s8,s9,gA,rfl,_,hd⟩;symm;simp
 . refine⟨_,_,_,_,_,_,_,_,_,_,rfl,⟨rfl,rfl,rfl,rfl,rfl,rfl,rfl,rfl,rfl,rfl⟩,λd hd=>?_⟩;simp at hd;rcases hd with rfl|⟨i,_,rfl⟩;.exact⟨_,rfl⟩
   .exact⟨_,rfl⟩
end _T
end
structure PySem.W.Fast:Prop where(tw14065232028520237951 tw8928721284324779511 tw8584236288651091267 tw13219275283225113503 tw2394744265303217132 tw17372422324822713249 tw8109655689386817876 tw338531305161797986 tw17081172882764909134 tw1921189548403937187 tw10963224282427720208 tw2024153128797383681 tw12691931138461684645 tw10993628525916021786 tw15297012273047823862 tw16430008929550899956 tw8842976743312521840 tw8750564643324764386 tw13068865765905991352 tw14490722360679540915 tw16489798258169973535 tw7099810171253277197 tw14500257526121413499 tw14488552290223286059 tw11387543939640384962 tw10334444218157487827 tw12956335969224760473 tw2101785241825232302 tw17467279184016494343 tw10827515731795969889 tw10282712610782156993 tw4002007551940466843 tw9580222392262614260 tw13648756502601055896 tw14834844845612045869 tw11908985081288433750 tw9284256840588620586 tw16690649856443829741 tw8496216717806205936 tw6392864193774647109 tw604705193545024997 tw1618108635854822934 tw11381678389770785098 tw5236873281090722315 tw14106539719054746728 tw16755704346174666361 tw12748075089810778424 tw13302670643474719308 tw9168747531934805451 tw16018200121405411085 tw3526004187624683758 tw781568130644675118 tw6905708859514393554 tw17827068754591674360 tw4104526786324034983 tw17229437540391962306 tw3087360281034249467 tw729756278310451644 tw5738735523930300924 tw10855654744813581438 tw15213878722887759989 tw15438850528314879677 tw2346502933505581867 tw6421215803137967035 tw6444507267281306954 tw17022634502168111375 tw12765812155478423964 tw7855138566073710666 tw7756716990629099848 tw518284385625486326 tw10846144841444434438 tw16499560190267127558 tw10556571019018106641 tw8486844422164511562 tw17824099389380446715 tw9934652032662508119 tw5640039700710098677 tw13921048978052168428 tw7368857513240482061 tw5302898362989095971 tw6726302425268881266 tw11943955624716367090 tw3572654864814257006 tw15808703859370513288 tw9480530573246885082 tw17382576071908878757 tw17496678451681741704 tw7412549957272532259 tw11605416735163266812 tw219784598370898827 tw1781803634658916288 tw12783730793275815445 tw9463990827969793205 tw8289179183699995319 tw2957449360152329645 tw11372673060030402451 tw3895589565441285143 tw753548046278285432 tw10524050486554357521 tw3004184576597187184 tw474750839314651976 tw7849434866846085869 tw606877102142932780 tw5007421114914555494 tw4334802366991159012 tw6716474778897421336 tw15824383865903143244 tw13926026204105323436 tw9861794487609343471 tw1757387262302119148 tw4875669754695849633 tw773896627604731208 tw12200316973218727197 tw13512270550041766779 tw16384852921393965101 tw6063137231182713537 tw13444468470511588566 tw17159325218320410314 tw10319150350092510421 tw17854317532845100904 tw9771781146020452429 tw10741397235292388351 tw4699208938227537586 tw163350608679334198 tw14892907031306860661 tw1129953747346712904 tw16810221181292261779 tw7640855330597321272 tw6451015724989790718 tw5806864067298521763 tw12912055474840930789 tw15348320120554311007 tw14571842652705536062 tw3024527259751385257 tw15376997726526706403 tw289883118534459885 tw18273646858608945672 tw4633556306102922458 tw4763694797404335899 tw13448669368633209654 tw7228823309605622990 tw15350973689801951393 tw16822559100725142772 tw15441319576223300077 tw1729064363843220450 tw14511701558520374688 tw5149627882657325407 tw5341864307152106684 tw2893299961166031361 tw11318225442767366256 tw5894891930583302633 tw7035269926238524250 tw5587832860484631743 tw4477936800045733928 tw18390526583130900508 tw5716520456020975893 tw15274153781465149764 tw8608962828556631595 tw11712254177094844324 tw3639489573879965445 tw14914946673684198611 tw16895351700420734776 tw10538341637612063303 tw12972120579857959005 tw1079132391460802569 tw10688655861436509623 tw9004972151993083076 tw13680971967221127023 tw4332587096708700047 tw7315927548171579 tw9288655967344997624 tw3525238730156611951 tw10410952989776829542 tw6328320916128147174 tw11658012329240864470 tw3048154754515953645 tw8003495727243652405 tw17817409856650264417 tw8359016300254577418 tw7769028009816728517 tw4692656567237978616 tw16118597085026755041 tw11329580833102415687 tw14355927059397746380 tw6412857846728081044 tw5738849099079024687 tw10381399492111204347 tw12098025954546881924 tw17786776220920782011 tw17003633208471614628 tw11836743355545014316 tw578437005598032974 tw17231324614773531297 tw12810087166484798891 tw8337916450120385565 tw11367920649554527228 tw2005581655559872275 tw9209740107567009280 tw2161978591637993505 tw4427373537561602678 tw10583743103967939003 tw17678120181960964875 tw612183347403788199 tw1370073166000855734 tw8072390031328711475 tw16467644863899645637 tw17385696138171573682 tw6633296616557869232 tw14773175186040592407 tw12467203473602502329 tw17472252762725864741 tw7220773151290636916 tw6290660358306044135 tw14569640401068154740 tw9601984727451391515 tw3217769976333578515 tw2131627285777913504 tw9082540278743679580 tw7601432888877968782 tw11028675509834693103 tw16375540475397016488 tw9670510008987006252 tw5244198668102668070 tw9260860841817923009 tw18186613193852541035 tw14851211428993500557 tw6621614899570124069 tw5855900989435615034 tw14128360009488023780 tw3491043316985952656 tw13613754577551661931 tw10275628898787693974 tw3292997850788490333 tw7933916016885267797 tw8870801805747455542 tw9184995762815369482 tw13933764044427316796 tw14640813391104209981 tw6039775144912936273 tw4102710111561763500 tw7213949284890554916 tw17944762615738470299 tw14873952627558759225 tw3328019511631448834 tw10509447746185570431 tw14858575642677666538 tw15917674637605618730 tw11215406359880334753 tw8669643177040313108 tw13607406793239910976 tw14249778433891763412 tw13929941457250535054 tw3995822908070459757 tw9500687465177396248 tw17405630710479139020 tw2404870469049270232 tw15407143759138438031 tw6685988840299072529 tw13032846003398614414 tw5370438586037014313 tw17178481743310301857 tw4482517721313941620 tw8876686064915805709 tw14636279771353738345 tw1322214014015816862 tw5671484028956095762 tw1055768123115503348 tw18112328999536467126 tw2446275588655042168 tw1192159596158975431 tw11247863561172038436 tw6046513951683907195 tw46164930235739780 tw1854388309778289846 tw12481387282470241558 tw10166633678843921148 tw1276775872470929298:True)
namespace _T
open PySem _L Spec PyProof.Rows _H
theorem Z9{P:List bx → Prop}{n:Nat}(h:∀(a:bx)(us:List bx),us.length=n → P (a::us))(us:List bx)(b:us.length=n+1):P us:=by cases us with|nil=>cases b|cons a us=>exact h a us (Nat.succ.inj b)
theorem lk0{P:List bx → Prop}(h:P [])(us:List bx)(b:us.length=0):P us:=by cases us with|nil=>exact h|cons a us=>cases b
theorem zA{P:List bx → Prop}(h:∀a,P [a]):∀us:List bx,us.length=1 → P us:=Z9 λa=>lk0 (h a)
theorem fG{P:List bx → Prop}(h:∀a b,P [a,b]):∀us:List bx,us.length=2 → P us:=Z9 λa=>zA (h a)
theorem Bc{P:List bx → Prop}(h:∀a b c,P [a,b,c]):∀us:List bx,us.length=3 → P us:=Z9 λa=>fG (h a)
theorem lk4{P:List bx → Prop}(h:∀a b c d,P [a,b,c,d]):∀us:List bx,us.length=4 → P us:=Z9 λa=>Bc (h a)
theorem lk5{P:List bx → Prop}(h:∀a b c d e,P [a,b,c,d,e]):∀us:List bx,us.length=5 → P us:=Z9 λa=>lk4 (h a)
local macro_rules|`(term|‹$p›)=>`(λ_ _ _ _ _ _=>$p)
structure Txt(K:PySem.W.Frag):Prop where
 D0:bz K "step_places" s0
 D1:bz K "step_hours" s1
 D2:bz K "step_room" s2
 D3:bz K "steps_hours" s3
 D4:bz K "open_steps" s4
 D5:bz K "shortest_come" s5
 D6:bz K "steps_to" s6
 D7:bz K "stream_with" s7
 D8:bz K "chains_to_end" s8
 D9:bz K "cut_to_rate" s9
 D10:bz K "bends_of" gA
 D11:bz K "ways_out" s11
 D12:bz K "ways_in" s12
 D13:bz K "turned_net" s13
 D14:bz K "hours_from" s14
 D15:bz K "hours_to" s15
 D16:bz K "is_soonest_step" s16
 D17:bz K "soonest_walk" s17
 D18:bz K "stays_at" s18
 D19:bz K "stream_rate" s19
 D20:bz K "with_rooms" s20
 D21:bz K "stream_rounds" s21
 D22:bz K "found_clocks" s22
 D23:bz K "light_stream" s23
 D24:bz K "bends_by" s24
 D25:bz K "most_of" s25
 D26:bz K "most_by" s26
 D27:bz K "rate_by" s27
 D28:bz K "stream_by" s28
 D29:bz K "best_rounds" s29
 D30:bz K "_law_pool" s30
 D31:bz K "_law_next" s31
 D32:bz K "_law_cells" s32
 D33:bz K "_law_way" s33
 D34:bz K "_law_net" s34
 D35:bz K "_law_walk_to" s35
 D36:bz K "_law_length" s36
 D37:bz K "_law_fit" s37
 D38:bz K "_law_widened" s38
 D39:bz K "_law_shaped" s39
 D40:bz K "law" s40
 Np:PySem.W.nsIn K dL "all"=aU ci
 CJ:PySem.W.nsIn K dL "bool"=aU ci
 eO:PySem.W.nsIn K dL "enumerate"=aU ci
 Nq:PySem.W.nsIn K dL "int"=aU ci
 di:PySem.W.nsIn K dL "isinstance"=aU ci
 dq:PySem.W.nsIn K dL "len"=aU ci
 dh:PySem.W.nsIn K dL "list"=aU ci
 Nm:PySem.W.nsIn K dL "max"=aU ci
 ji:PySem.W.nsIn K dL "min"=aU ci
 bY:PySem.W.nsIn K dL "range"=aU ci
 fK:PySem.W.nsIn K dL "reversed"=aU ci
 sX:PySem.W.nsIn K dL "sorted"=aU ci
 fu:PySem.W.nsIn K dL "sum"=aU ci
 bO:PySem.W.nsIn K dL "tuple"=aU ci
 Nk:PySem.W.nsIn K dL "zip"=aU ci
noncomputable def ir{K:PySem.W.Frag}(T:Txt K):Nat->cq:=λk=>0
structure Oks(Pg:df)(w:er)(K:PySem.W.Frag)(mg:Str->Option bx)(base:eF)(cl:Nat->cq)(n:Nat):Prop where
 c0:aQ Pg w K mg base n (run Γ 100000000 n) 0 "step_places" 2
 c1:aQ Pg w K mg base n (run Γ 100000000 n) 1 "step_hours" 2
 c2:aQ Pg w K mg base n (run Γ 100000000 n) 2 "step_room" 3
 c3:aQ Pg w K mg base n (run Γ 100000000 n) 3 "steps_hours" 2
 c4:aQ Pg w K mg base n (run Γ 100000000 n) 4 "open_steps" 2
 c5:aQ Pg w K mg base n (run Γ 100000000 n) 5 "shortest_come" 3
 c6:aQ Pg w K mg base n (run Γ 100000000 n) 6 "steps_to" 3
 c7:aQ Pg w K mg base n (run Γ 100000000 n) 7 "stream_with" 3
 c8:aQ Pg w K mg base n (run Γ 100000000 n) 8 "chains_to_end" 1
 c9:aQ Pg w K mg base n (run Γ 100000000 n) 9 "cut_to_rate" 2
 c10:aQ Pg w K mg base n (run Γ 100000000 n) 10 "bends_of" 1
 c11:aQ Pg w K mg base n (run Γ 100000000 n) 11 "ways_out" 2
 c12:aQ Pg w K mg base n (run Γ 100000000 n) 12 "ways_in" 2
 c13:aQ Pg w K mg base n (run Γ 100000000 n) 13 "turned_net" 1
 c14:aQ Pg w K mg base n (run Γ 100000000 n) 14 "hours_from" 2
 c15:aQ Pg w K mg base n (run Γ 100000000 n) 15 "hours_to" 2
 c16:aQ Pg w K mg base n (run Γ 100000000 n) 16 "is_soonest_step" 2
 c17:aQ Pg w K mg base n (run Γ 100000000 n) 17 "soonest_walk" 2
 c18:aQ Pg w K mg base n (run Γ 100000000 n) 18 "stays_at" 3
 c19:aQ Pg w K mg base n (run Γ 100000000 n) 19 "stream_rate" 2
 c20:aQ Pg w K mg base n (run Γ 100000000 n) 20 "with_rooms" 2
 c21:aQ Pg w K mg base n (run Γ 100000000 n) 21 "stream_rounds" 2
 c22:aQ Pg w K mg base n (run Γ 100000000 n) 22 "found_clocks" 2
 c23:aQ Pg w K mg base n (run Γ 100000000 n) 23 "light_stream" 2
 c24:aQ Pg w K mg base n (run Γ 100000000 n) 24 "bends_by" 2
 c25:aQ Pg w K mg base n (run Γ 100000000 n) 25 "most_of" 2
 c26:aQ Pg w K mg base n (run Γ 100000000 n) 26 "most_by" 2
 c27:aQ Pg w K mg base n (run Γ 100000000 n) 27 "rate_by" 2
 c28:aQ Pg w K mg base n (run Γ 100000000 n) 28 "stream_by" 2
 c29:aQ Pg w K mg base n (run Γ 100000000 n) 29 "best_rounds" 2
 c30:aQ Pg w K mg base n (run Γ 100000000 n) 30 "_law_pool" 1
 Yb:aQ Pg w K mg base n (run Γ 100000000 n) 31 "_law_next" 2
 c32:aQ Pg w K mg base n (run Γ 100000000 n) 32 "_law_cells" 2
 c33:aQ Pg w K mg base n (run Γ 100000000 n) 33 "_law_way" 3
 c34:aQ Pg w K mg base n (run Γ 100000000 n) 34 "_law_net" 1
 c35:aQ Pg w K mg base n (run Γ 100000000 n) 35 "_law_walk_to" 3
 c36:aQ Pg w K mg base n (run Γ 100000000 n) 36 "_law_length" 2
 c37:aQ Pg w K mg base n (run Γ 100000000 n) 37 "_law_fit" 2
 c38:aQ Pg w K mg base n (run Γ 100000000 n) 38 "_law_widened" 2
 c39:aQ Pg w K mg base n (run Γ 100000000 n) 39 "_law_shaped" 1
 c40:aQ Pg w K mg base n (run Γ 100000000 n) 40 "law" 1
set_option maxHeartbeats 0 in
theorem MT{Pg:df}{w:er}{K:PySem.W.Frag}{mg:Str->Option bx}{base:eF}(T:Txt K)(X:K.In base)(G:base.Ns dL mg):∀n,Oks Pg w K mg base (ir T) n
 |0=>{
   c0:=bG (ps:=["net","step"]) X G T.D0 rfl ‹fG λ_ _=>rfl›
   c1:=bG (ps:=["net","step"]) X G T.D1 rfl ‹fG λ_ _=>rfl›
   c2:=bG (ps:=["net","stream","step"]) X G T.D2 rfl ‹Bc λ_ _ _=>rfl›
   c3:=bG (ps:=["net","steps"]) X G T.D3 rfl ‹fG λ_ _=>rfl›
   c4:=bG (ps:=["net","stream"]) X G T.D4 rfl ‹fG λ_ _=>rfl›
   c5:=bG (ps:=["net","stream","begun"]) X G T.D5 rfl ‹Bc λ_ _ _=>rfl›
   c6:=bG (ps:=["net","come","place"]) X G T.D6 rfl ‹Bc λ_ _ _=>rfl›
   c7:=bG (ps:=["stream","steps","loads"]) X G T.D7 rfl ‹Bc λ_ _ _=>rfl›
   c8:=bG (ps:=["net"]) X G T.D8 rfl ‹zA λ_=>rfl›
   c9:=bG (ps:=["pairs","rate"]) X G T.D9 rfl ‹fG λ_ _=>rfl›
   c10:=bG (ps:=["net"]) X G T.D10 rfl ‹zA λ_=>rfl›
   c11:=bG (ps:=["net","place"]) X G T.D11 rfl ‹fG λ_ _=>rfl›
   c12:=bG (ps:=["net","place"]) X G T.D12 rfl ‹fG λ_ _=>rfl›
   c13:=bG (ps:=["net"]) X G T.D13 rfl ‹zA λ_=>rfl›
   c14:=bG (ps:=["net","start"]) X G T.D14 rfl ‹fG λ_ _=>rfl›
   c15:=bG (ps:=["net","place"]) X G T.D15 rfl ‹fG λ_ _=>rfl›
   c16:=bG (ps:=["way","left"]) X G T.D16 rfl ‹fG λ_ _=>rfl›
   c17:=bG (ps:=["net","place"]) X G T.D17 rfl ‹fG λ_ _=>rfl›
   c18:=bG (ps:=["net","stream","place"]) X G T.D18 rfl ‹Bc λ_ _ _=>rfl›
   c19:=bG (ps:=["net","stream"]) X G T.D19 rfl ‹fG λ_ _=>rfl›
   c20:=bG (ps:=["net","rooms"]) X G T.D20 rfl ‹fG λ_ _=>rfl›
   c21:=bG (ps:=["net","stream"]) X G T.D21 rfl ‹fG λ_ _=>rfl›
   c22:=bG (ps:=["net","stream"]) X G T.D22 rfl ‹fG λ_ _=>rfl›
   c23:=bG (ps:=["net","rate"]) X G T.D23 rfl ‹fG λ_ _=>rfl›
   c24:=bG (ps:=["net","last"]) X G T.D24 rfl ‹fG λ_ _=>rfl›
   c25:=bG (ps:=["bends","last"]) X G T.D25 rfl ‹fG λ_ _=>rfl›
   c26:=bG (ps:=["net","last"]) X G T.D26 rfl ‹fG λ_ _=>rfl›
   c27:=bG (ps:=["net","last"]) X G T.D27 rfl ‹fG λ_ _=>rfl›
   c28:=bG (ps:=["net","last"]) X G T.D28 rfl ‹fG λ_ _=>rfl›
   c29:=bG (ps:=["net","last"]) X G T.D29 rfl ‹fG λ_ _=>rfl›
   c30:=bG (ps:=["cell"]) X G T.D30 rfl ‹zA λ_=>rfl›
   Yb:=bG (ps:=["pool","base"]) X G T.D31 rfl ‹fG λ_ _=>rfl›
   c32:=bG (ps:=["script","most"]) X G T.D32 rfl ‹fG λ_ _=>rfl›
   c33:=bG (ps:=["pool","many","k"]) X G T.D33 rfl ‹Bc λ_ _ _=>rfl›
   c34:=bG (ps:=["pool"]) X G T.D34 rfl ‹zA λ_=>rfl›
   c35:=bG (ps:=["net","walk","end"]) X G T.D35 rfl ‹Bc λ_ _ _=>rfl›
   c36:=bG (ps:=["net","walk"]) X G T.D36 rfl ‹fG λ_ _=>rfl›
   c37:=bG (ps:=["net","rounds"]) X G T.D37 rfl ‹fG λ_ _=>rfl›
   c38:=bG (ps:=["pool","net"]) X G T.D38 rfl ‹fG λ_ _=>rfl›
   c39:=bG (ps:=["found"]) X G T.D39 rfl ‹zA λ_=>rfl›
   c40:=bG (ps:=["script"]) X G T.D40 rfl ‹zA λ_=>rfl›}|n+1=>have a:=MT (Pg:=Pg) (w:=w) (base:=base) T X G n
   {c0:=bH (ps:=["net","step"]) X G T.D0 rfl rfl ‹fG λ_ _=>rfl› λ_ _ F=>d0 (cl:=ir T) F
    c1:=bH (ps:=["net","step"]) X G T.D1 rfl rfl ‹fG λ_ _=>rfl› λ_ _ F=>d1 (cl:=ir T) F
    c2:=bH (ps:=["net","stream","step"]) X G T.D2 rfl rfl ‹Bc λ_ _ _=>rfl› λ_ _ F=>d2 (cl:=ir T) F
    c3:=bH (ps:=["net","steps"]) X G T.D3 rfl rfl ‹fG λ_ _=>rfl› λ_ _ F=>d3 (cl:=ir T) F (mg_none_of X G T.fu) a.c1
    c4:=bH (ps:=["net","stream"]) X G T.D4 rfl rfl ‹fG λ_ _=>rfl› λ_ _ F=>d4 (cl:=ir T) F (mg_none_of X G T.dq) (mg_none_of X G T.bY) a.c0 a.c2
    c5:=bH (ps:=["net","stream","begun"]) X G T.D5 rfl rfl ‹Bc λ_ _ _=>rfl› λ_ _ F=>d5 (cl:=ir T) F (mg_none_of X G T.dq) (mg_none_of X G T.dh) a.c4 a.c1 a.c0
    c6:=bH (ps:=["net","come","place"]) X G T.D6 rfl rfl ‹Bc λ_ _ _=>rfl› λ_ _ F=>d6 (cl:=ir T) F (mg_none_of X G T.fK) (mg_none_of X G T.bO) a.c0
    c7:=bH (ps:=["stream","steps","loads"]) X G T.D7 rfl rfl ‹Bc λ_ _ _=>rfl› λ_ _ F=>d7 (cl:=ir T) F (mg_none_of X G T.dh)
    c8:=bH (ps:=["net"]) X G T.D8 rfl rfl ‹zA λ_=>rfl› λ_ _ F=>d8 (cl:=ir T) F (mg_none_of X G T.dq) (mg_none_of X G T.ji) a.c5 a.c2 a.c6 a.c7
    c9:=bH (ps:=["pairs","rate"]) X G T.D9 rfl rfl ‹fG λ_ _=>rfl› λ_ _ F=>d9 (cl:=ir T) F (mg_none_of X G T.ji)
    c10:=bH (ps:=["net"]) X G T.D10 rfl rfl ‹zA λ_=>rfl› λ_ _ F=>d10 (cl:=ir T) F (mg_none_of X G T.sX) a.c8 a.c3
    c11:=bH (ps:=["net","place"]) X G T.D11 rfl rfl ‹fG λ_ _=>rfl› λ_ _ F=>d11 (cl:=ir T) F (mg_none_of X G T.eO)
    c12:=bH (ps:=["net","place"]) X G T.D12 rfl rfl ‹fG λ_ _=>rfl› λ_ _ F=>d12 (cl:=ir T) F (mg_none_of X G T.eO)
    c13:=bH (ps:=["net"]) X G T.D13 rfl rfl ‹zA λ_=>rfl› λ_ _ F=>d13 (cl:=ir T) F (mg_none_of X G T.bO)
    c14:=bH (ps:=["net","start"]) X G T.D14 rfl rfl ‹fG λ_ _=>rfl› λ_ _ F=>d14 (cl:=ir T) F
    c15:=bH (ps:=["net","place"]) X G T.D15 rfl rfl ‹fG λ_ _=>rfl› λ_ _ F=>d15 (cl:=ir T) F (mg_none_of X G T.dh) (mg_none_of X G T.fK) a.c14 a.c13
    c16:=bH (ps:=["way","left"]) X G T.D16 rfl rfl ‹fG λ_ _=>rfl› λ_ _ F=>d16 (cl:=ir T) F
    c17:=bH (ps:=["net","place"]) X G T.D17 rfl rfl ‹fG λ_ _=>rfl› λ_ _ F=>d17 (cl:=ir T) F (mg_none_of X G T.ji) (mg_none_of X G T.bO) a.c15 a.c16 a.c11
    c18:=bH (ps:=["net","stream","place"]) X G T.D18 rfl rfl ‹Bc λ_ _ _=>rfl› λ_ _ F=>d18 (cl:=ir T) F (mg_none_of X G T.fu) a.c12 a.c11
    c19:=bH (ps:=["net","stream"]) X G T.D19 rfl rfl ‹fG λ_ _=>rfl› λ_ _ F=>d19 (cl:=ir T) F a.c18
    c20:=bH (ps:=["net","rooms"]) X G T.D20 rfl rfl ‹fG λ_ _=>rfl› λ_ _ F=>d20 (cl:=ir T) F (mg_none_of X G T.bO) (mg_none_of X G T.Nk)
    c21:=bH (ps:=["net","stream"]) X G T.D21 rfl rfl ‹fG λ_ _=>rfl› λ_ _ F=>d21 (cl:=ir T) F (mg_none_of X G T.dh) (mg_none_of X G T.ji) a.c17 a.c19 a.c20
    c22:=bH (ps:=["net","stream"]) X G T.D22 rfl rfl ‹fG λ_ _=>rfl› λ_ _ F=>d22 (cl:=ir T) F (mg_none_of X G T.bY) (mg_none_of X G T.fu) a.c5
    c23:=bH (ps:=["net","rate"]) X G T.D23 rfl rfl ‹fG λ_ _=>rfl› λ_ _ F=>d23 (cl:=ir T) F (mg_none_of X G T.dq) a.c8 a.c9 a.c22 a.c7
    c24:=bH (ps:=["net","last"]) X G T.D24 rfl rfl ‹fG λ_ _=>rfl› λ_ _ F=>d24 (cl:=ir T) F a.c10
    c25:=bH (ps:=["bends","last"]) X G T.D25 rfl rfl ‹fG λ_ _=>rfl› λ_ _ F=>d25 (cl:=ir T) F (mg_none_of X G T.fu)
    c26:=bH (ps:=["net","last"]) X G T.D26 rfl rfl ‹fG λ_ _=>rfl› λ_ _ F=>d26 (cl:=ir T) F a.c10 a.c25
    c27:=bH (ps:=["net","last"]) X G T.D27 rfl rfl ‹fG λ_ _=>rfl› λ_ _ F=>d27 (cl:=ir T) F (mg_none_of X G T.fu) a.c24
    c28:=bH (ps:=["net","last"]) X G T.D28 rfl rfl ‹fG λ_ _=>rfl› λ_ _ F=>d28 (cl:=ir T) F a.c23 a.c27
    c29:=bH (ps:=["net","last"]) X G T.D29 rfl rfl ‹fG λ_ _=>rfl› λ_ _ F=>d29 (cl:=ir T) F a.c28 a.c21
    c30:=bH (ps:=["cell"]) X G T.D30 rfl rfl ‹zA λ_=>rfl› λ_ _ F=>d30 (cl:=ir T) F (mg_none_of X G T.Nm)
    Yb:=bH (ps:=["pool","base"]) X G T.D31 rfl rfl ‹fG λ_ _=>rfl› λ_ _ F=>d31 (cl:=ir T) F
    c32:=bH (ps:=["script","most"]) X G T.D32 rfl rfl ‹fG λ_ _=>rfl› λ_ _ F=>d32 (cl:=ir T) F (mg_none_of X G T.dq) (mg_none_of X G T.dh) (mg_none_of X G T.bY)
    c33:=bH (ps:=["pool","many","k"]) X G T.D33 rfl rfl ‹Bc λ_ _ _=>rfl› λ_ _ F=>d33 (cl:=ir T) F a.Yb
    c34:=bH (ps:=["pool"]) X G T.D34 rfl rfl ‹zA λ_=>rfl› λ_ _ F=>d34 (cl:=ir T) F (mg_none_of X G T.bY) (mg_none_of X G T.bO) a.Yb a.c33
    c35:=bH (ps:=["net","walk","end"]) X G T.D35 rfl rfl ‹Bc λ_ _ _=>rfl› λ_ _ F=>d35 (cl:=ir T) F (mg_none_of X G T.dq)
    c36:=bH (ps:=["net","walk"]) X G T.D36 rfl rfl ‹fG λ_ _=>rfl› λ_ _ F=>d36 (cl:=ir T) F (mg_none_of X G T.fu)
    c37:=bH (ps:=["net","rounds"]) X G T.D37 rfl rfl ‹fG λ_ _=>rfl› λ_ _ F=>d37 (cl:=ir T) F (mg_none_of X G T.Np) (mg_none_of X G T.dq) (mg_none_of X G T.bY) a.c35
    c38:=bH (ps:=["pool","net"]) X G T.D38 rfl rfl ‹fG λ_ _=>rfl› λ_ _ F=>d38 (cl:=ir T) F (mg_none_of X G T.bO) a.Yb
    c39:=bH (ps:=["found"]) X G T.D39 rfl rfl ‹zA λ_=>rfl› λ_ _ F=>d39 (cl:=ir T) F (mg_none_of X G T.CJ) (mg_none_of X G T.Nq) (mg_none_of X G T.di) (mg_none_of X G T.dq) (mg_none_of X G T.dh) (mg_none_of X G T.bO)
    c40:=bH (ps:=["script"]) X G T.D40 rfl rfl ‹zA λ_=>rfl› λ_ _ F=>d40 (cl:=ir T) F (mg_none_of X G T.bY) a.c32 a.c37 a.c36 a.c34 a.Yb a.c30 a.c39 a.c38 a.c29 a.c26}
set_option maxHeartbeats 0 in
theorem Uz{Pg:df}{w:er}{K:PySem.W.Frag}{mg:Str->Option bx}{h:eF}{i:cq}(T:Txt K)(X:K.In h)(G:h.Ns dL mg)(g:mg "law"=aU (.ref i)):∃fd:ii,(∀(s:cn)(u:bx),oe s fd ⟨[u],[]⟩ [("script",u)])/\∀base:eF,K.In base->base.Ns dL mg->oF Pg w K mg base JL 40 i fd ["script"] (Rm K 1 (run Γ 100000000 40 40)):=by
 obtain⟨f,fd,a,F⟩:=T.D40.ex;have e:=g.symm.trans (mg_of X G a);cases e;refine⟨fd,λs u=>?_,λbase j l=>?_⟩;.obtain⟨oc,q,kV,m,r,t,cdv,ct,o,rfl,lk,p⟩:=F.ex;exact .of_eq rfl
 .have b:=MT (Pg:=Pg) (w:=w) (base:=base) T j l 39;exact d40 (cl:=ir T) (k:=39) (n:=100000000) (c:=run Γ 100000000 39) F (mg_none_of X G T.bY) b.c32 b.c37 b.c36 b.c34 b.Yb b.c30 b.c39 b.c38 b.c29 b.c26
end _T
open PySem W PyProof.Rows
set_option maxRecDepth 100000 in
set_option maxHeartbeats 0 in
theorem PySem.Challenge.cw_hourhaul_k38_best_rounds_holds : PySem.Challenge.rw_hourhaul_k38_best_rounds.Holds := by
 w_on;o_law;k_head;(case hw=>w_witness2);k_fill;refine _L.J9 (l:=PySem.Challenge.rw_hourhaul_k38_best_rounds) (n:=63) (k:=40) (x:="script") (CX:=_L.JL) (sp:=λK=>_H.Rm K 1 (_H.run _T.Γ 100000000 40 40)) rfl (by decide) rfl ⟨rfl,by decide,by decide⟩ (λw h Y=>PySem.W.kIn_of Y) ?F ?S ?C;case F=>
  intro w mg j h f G b;refine _T.Uz ?T f G b;constructor;iterate 41(· refine' _H.UT ?a ?l ?c ?k;case a|l|c|k=>k_is)
  iterate 15(· k_is)
 case S=>intro K H a ns g m i;obtain⟨as,e⟩:=_T.Qn ns g;exact _H.Hj i e
 case C=>exact λH s e o z=>z
