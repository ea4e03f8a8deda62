import PyProof.Rows.All
import Wide.All
import OpenK.AllK
import Wide.FinOn
import Lean
import PyProof.EqAt
import PyProof.EqKinds
import PyProof.TupleCall
import PySem.Str
import PySem.Builtin.Int.W1All
import PyProof.NeKinds
import PyProof.ZipIter
import PyProof.SumWalkG
import PyProof.MinMaxWalk
import PyProof.WalksMore
import PyProof.SeqI3
import PyProof.WalkInts
import PyProof.Rows.CallKwBuiltin
import PyProof.Rows.Tup
import PyProof.CollectIter
import PyProof.EnumMake
import PyProof.TupleOfSeq
import PyProof.ListNew
import PyProof.ReprLoop
import PyProof.StationsW
import PyProof.ExcClass3
import PyProof.Rows.CatchBare
import OpenK.KOwn
import KE.KIsAll
import PyProof.NsDelKeeps
import PyProof.RulesAs
import PyProof.ExcArgsOwn
import PyProof.ListRange
import KE.RegKIsAll
import KE.KRevIter
import PyProof.Rows.SortRuns
import KE.KSortTup
import PyProof.DictWalks
import KE.KDictList
import PyProof.ExcBaseAll.ValueError
import PySem.Challenge.RW_hourhaul_k62_whole_plans_turned_and_stea
set_option Elab.async false
set_option linter.all false
set_option maxRecDepth 100000
set_option genInjectivity false
set_option genSizeOf false
set_option compiler.extract_closed false
set_option bootstrap.genMatcherCode false
open Option renaming some→aD,none→b_,map_some→fh,map_eq_some_iff→gw,getD_some→lZ,isSome_iff_exists→oq,bind_some→se
open Bool renaming false→a_,true→ck,false_ne_true→eH,and_eq_true→gi,eq_iff_iff→gp,false_eq_true→ii,or_eq_true→li,and_eq_false_iff→lT,or_eq_false_iff→l9,not_eq_true'→n7,false_and→oy,and_false→oz
open PySem renaming wpAny_bind→bx,Value→bV,Shared→cp,wpAny_pure→c_,Addr→dQ,wpAny→d_,starEach→ea,model→ef,Program→ek,Expr→eB,mainGlobals→eF,wpAny_newObj_type→eJ,Around→fb,World→fg,wpAny_call_entry→fm,wpAny_field→fo,wpAny_callSpecial?_slot→fq,wpAny_mono→fy,compareOp→fE,eval→fF,Stmt→fR,builtinLookup_eq_fast→fS,bootBuiltins→gc,foldedSetIterable→gd,wpAny_pyIter_tuple→gx,Builtin→gE,IsPair→gL,sizeLine_eq→gX,binaryOp→g_,sysModules→hE,wpAny_loadPart'→hU,typeLookup_type→hV,rawInt→hY,wpAny_of_eq→hZ,wpAny_holding→h_,wpAny_pyIter_list→iq,wpAny_attempt→iE,wpAny_seqItems→iN,isSubtype_type→iP,wpAny_typeNameOfWhole_keyiter→i4,wpAny_setField_rec→i5,cLine→i9,FuncData→ja,swapsWith→jn,wpAny_truthy_bool→jx,wpAny_setField→j8,wpAny_rule→j9,assignEach→kd,wpAny_typeNameOf_keyiter→kl,wpAny_specialOf→kn,holding→kq,firstArgMember→kA,callType_new→kB,assign→kC,IsZip→kE,wpAny_isInstance→kF,typeLookup→kG,pyNext→kK,backTo→kN,relabel→kQ,behindInMarks→kR,sliceBounds→kS,wpAny_passesOwn→k5,Scope→k8,getItem→lb,cellsFrom→lf,NameKind→lj,swapsWithSole→ls,swappedStores→lv,DictEntry→l6,wpAny_typeOf→l_,letOwnedTupleGo→ma,codeAny_builtin→me,wpAny_nextOf_list_end→mh,wpAny_isOneOf_keyiter→mi,wpAny_updateSeq_pair→ms,wpAny_fieldsOf→mu,ZipApart→mI,IsPart→mM,tupleKind→mP,codeAny→mT,callerA→m3,wpAny_onRaise→nl,plainId_quiet→nr,Meets→nB,wpAny_Call_Name_kw→nK,typeIs_int→nL,tupleKind_room_in1→nM,call_meets→nS,wpAny_pyIter_enum→n3,wpAny_dictEntries→n4,valueAt→n5,concat_meets→n_,Operator→oj,wpAny_eqBool_int→oB,slicePick→oC,pyIter→oD,noFill_tuple_add→oI,entryFor_of_tree→oP,PassesOwn→oQ,unsupported→oS,subscripted→oT,field→o3,Model→o_,wpAny_dictEpoch→pc,standAt→pE,setItem→pS,notedBy→pV,Keyword→pX,BindsTo→pY,wpAny_letOwnedTupleGo_enum→p5,setField→p9,newFunctionEnv→p_,isSubtype_stop→qf,atKey→qh,wpAny_binaryOp_repeat_ref→q_,wpAny_standAt→rf,wpAny_newList→rg,wpAny_handled→rh,wpAny_getItem_list_slice→ri,wpAny_comprehension_free→rj,signature?_of→rk,seq_tuple_add→rq,evalPart_none→rV,attributeBase→rX,wpAny_pyNext_enum_itemD→r_,bindL→sf,bindC→sh,wpAny_pyNext_enum_endD→sj,wpAny_nextOf_list_item→sk,seqIndex_neg→sw,newExc→sA,codeAny_mono→sC,argsOk→sD,wpAny_throw→sL,wpAny_pyIter_keyiter→sM,wpAny_loadName_local→sN,wpAny_letGo→sP,wpAny_BinOp→sR,seqIndex_of→s_,keywordEach→tq,entryFor→tF,bindArgs→tI,wpAny_loadName_cell→tP
open List renaming getElem?_set_self→dS,replicate→dV,size_toArray→ec,getElem?_append_left→ei,range→ej,length_map→en,mem_map→ey,map_map→eC,getElem?_map→eI,map_cons→eK,all_eq_true→eL,mem_cons→eM,getElem?_append_right→eW,map_congr_left→fe,mem_cons_of_mem→fP,mem_singleton→f_,getElem?_set_ne→ga,mem_append→gl,mem_append_right→gA,getElem?_eq_getElem→gT,lookup_cons→hJ,drop_eq_getElem_cons→hR,nodup_cons→hX,length_cons→ia,length_append→ib,getElem_mem→ic,length_replicate→ij,getElem?_replicate→im,getElem?_zip_eq_some→iA,take_succ_cons→iO,filterMap_cons→iX,length_range→i6,find?_cons→i7,mem_cons_self→jp,take_of_length_le→jI,of_mem_zip→j_,not_mem_nil→ka,ext_getElem→kc,reverse_cons→kf,getElem?_cons_succ→ki,getD→kj,mem_of_getElem?→ko,mem_range→kr,set_getElem_self→kt,replicate_succ→kz,eq_nil_of_length_eq_zero→kD,map_append→kM,mem_filterMap→k4,pairwise_map→k_,take_zero→lc,all_map→lm,drop_eq_nil_of_le→ln,set_cons_zero→lw,min?_eq_some_iff→ly,max?_eq_some_iff→lI,getElem?_reverse→lP,getElem?_of_mem→l8,drop_eq_nil_iff→md,getElem?_range→mf,pairwise_cons→mo,getElem?_take→mr,length_take→mA,length_reverse→mB,map_nil→mS,getElem?_set→m4,set_cons_succ→nq,getElem_range→nv,filterMap_map→ny,length_drop→nE,cons_append→nI,nil_append→nN,take_append_of_le_length→nX,flatten_cons→n9,all_cons→oe,getD_eq_getElem?_getD→ow,length_singleton→oN,getElem?_cons_zero→po,length_zip→qc,append_nil→qk,set_append_right→qB,getElem?_eq_none→qE,countP_mono_left→qF,mem_append_left→ra,length→rb,getElem?_mapIdx→rc,length_pos_iff→r8,getElem_of_mem→r9,mapM_cons→sd,toArray→sn,map_id→sB,foldl→ts,any_cons→tN
open PySem.Heap renaming get?_push_size→dZ,lt_size→eA,size_push→fv,get?_update_self→iS,get?_update_other→jS,SameBut→og,IsTuple→sF
open Or renaming inl→et,inr→eu
open PySem.Value renaming none→eP,ref→eR,type→i_,bool→kT,notImplemented→l5,int→l7
open Nat renaming ne_of_lt→eS,lt_of_lt_of_le→eT,le_trans→kb,lt_irrefl→kg,lt_succ_of_lt→nh,le_of_not_lt→nV,le_of_lt→n8,ne_of_gt→qa,zero_add→qq,mul_comm→qr,lt_trans→qv,le_mul_of_pos_left→qA,lt_or_ge→tm
open Sum renaming inl→e_,inr→nc
open Classical renaming propDecidable→fi
open PyProof.Rows renaming wpS_bind→fk,IsTup→fw,callWith_type1→fx,Keyed→fT,wpS_pure→gz,SortSt→gS,IntsAre→io,SortKind→i3,slot_tuple_getitem→ke,pendingOf→kL,mirror→k6,wpS_forRange→k9,seqObj→mv,envOfC→mE,AllBare→m_,subscriptTail→nm,len_tuple→nz,wpS_get→pz,wpS_modify→p0,Subscript_→qo,listUpdate_at→rL,subscriptTail_builtinR→su,wpS_mono→sK,seqEpoch_at→tf,failedOf→tz,arrOf→tJ,Call_→tO
open Pure renaming pure→fI
open PySem.NameKind renaming free→fN,cell→ik
open Option.some renaming inj→gb
open False renaming elim→gu
open PySem.PassesOwn renaming never→gy
open PySem.Str renaming ofString→gI
open Int renaming le_refl→gN,emod_lt_of_pos→k7,toNat_natCast→lh,toNat_of_nonneg→ml,emod_nonneg→o5,le_trans→qS
open PySem.Obj renaming data_mapFields→gY,mapSeq→ip,isFreed_of_fields→ku,cls_mapFields→ng,mapFields→pf
open Ne renaming symm→iF
open ForInStep renaming yield→iL
open PySem.Shared renaming heap→i8
open Array renaming length_toList→jv,getElem?_eq_getElem→j0,getElem?_toList→lx,getD→mn,toList_inj→nk,perm_iff_toList_perm→om,getElem?_eq_some_iff→on
open PySem.SeqAt renaming EqAt→kh
open PySem.Around renaming under_plainId→kw
open PySem.Builtin.Tuple renaming tupleExact→kH
open PyProof.Rows.IntsAre renaming length→kP
open Function renaming comp_def→kU,comp→n1,comp_apply→pp
open PySem.Calls renaming spliced_cons→kX,spliced_nil→mN,Name_function_global→ol,call_function_entry→ox,callWith_builtin→pr,evalArgs_plain→q7
open PySem.Builtin.Dict_items renaming ownsTuple→lp
open List.cons renaming inj→lS
open PySem.Builtin.SmallTypes renaming ownedTupleIsFree→lY,nextOf→mw
open PySem.Builtin.List renaming listTooLong→mx,listExtendWith→qb,listFitsIndex→rS
open PySem.Builtin.Dict renaming showsAll→n0
open True renaming intro→oo
open PySem.Builtin.Slice renaming slicePlaces→o2,sliceAdjust→sT
open PySem.CmpOp renaming NotIn→qV
open PySem.W(mg_none_of keepIn methodObj mg_of)
open List(toArray forIn_cons forIn_nil find?)
open Nat(le_refl le_succ)
open PySem.Heap(ExtBut IsList)
open PySem.Builtin.SmallTypes(ownedTupleHandOut newClass newRecord)
open PySem.Builtin.Tuple(tupleItemsOf)
open Option(map getD_none)
open PySem.Builtin.List(listSameRef)
open PySem.Builtin.Slice(sliceApplied)
open Array(toList)
open PySem.F(slot_dict_keyiterator_next slot_tuple_add entry_tuple_add args_tuple_add_2 slot_tuple_mul slot_dict_get)
open PySem.SeqAt.EqAt(int_str str_int)
open PySem.SeqAt.RcAt(lists_lengths)
open PySem.SeqAt.RcNeAt(none_int none_str bool_int bool_str int_none int_bool int_int int_list str_none str_bool str_str str_list list_int list_str)
theorem eO{h:PySem.Heap}{o o1:PySem.Obj}{a:PySem.Addr}(e:h.get? a=aD o):(h.push o1).get? a=aD o:=PySem.Heap.get?_push_of_some _ e
theorem gC{b:Type}{l:List b}{i:Nat}{a:b}(h:l[i]?=aD a):∃h:i<l.length,l[i]=a:=List.getElem?_eq_some_iff.mp h
theorem jj{b:Type}{l:List b}{i j:Nat}{a:b}(h:j≠i):(l.set i a)[j]?=l[j]?:=List.getElem?_set_ne (iF h)
theorem tY{n:Nat}:0<=n:=Nat.zero_le n
theorem di{n:Nat}:n<=n:=Nat.le_refl n
namespace _L
open PySem Spec PyProof.Rows
variable{w:fg}{h:Heap}{t' i:Nat}{M:o_}{A:fb}{s:cp}{pins:List (dQ×Obj)}{pos:Pos}{K:PySem.W.Frag}{tg:eB}{op:CmpOp}{us:List bV}
noncomputable abbrev Key:=Sum Int Str
noncomputable def rR:Key->bV->Bool|.inl k,v=>Value.isInt k v|.inr x,v=>Value.isStrOf x v
noncomputable def afl(w:fg):Key->Int|.inl k=>hashInt k|.inr x=>hashStr w x
theorem cH:∀{k:Key}{v:bV},rR k v=ck->(∃i t,k=e_ i/\v=l7 i t)\/(∃x t,k=nc x/\v=Value.str x t)|.inl i,v,h=>by obtain⟨t,e⟩:=Value.isInt_shape (k:=i) (v:=v) h;exact .inl ⟨i,t,rfl,e⟩|.inr x,v,h=>by obtain⟨t,e⟩:=Value.isStrOf_shape (x:=x) (v:=v) h;exact .inr ⟨x,t,rfl,e⟩
theorem Gw(i:Int)(t:Tok):rR (.inl i) (.int i t)=ck:=by simp[rR,Value.isInt]
theorem GX(x:Str)(t:Tok):rR (.inr x) (.str x t)=ck:=by simp[rR,Value.isStrOf]
theorem S8(a b:Int):decide ((e_ a:Key)=e_ b)=(a==b):=by
 by_cases e:a=b;.subst e;simp
 .have h:¬(e_ a:Key)=e_ b:=λq=>e (Sum.inl.inj q);rw[decide_eq_false h];exact(beq_eq_false_iff_ne.mpr e).symm
theorem Um(a b:Str):decide ((nc a:Key)=nc b)=decide (a=b):=by
 by_cases e:a=b;.subst e;simp
 .have h:¬(nc a:Key)=nc b:=λq=>e (Sum.inr.inj q);rw[decide_eq_false h,decide_eq_false e]
theorem Ss(a:Int)(b:Str):decide ((e_ a:Key)=nc b)=a_:=decide_eq_false (λq=>nomatch q)
theorem T9(a:Str)(b:Int):decide ((nc a:Key)=e_ b)=a_:=decide_eq_false (λq=>nomatch q)
noncomputable def cJ(prog:ek)(w:fg):PySem.KeyKind prog w Key where
 is:=rR;hash:=afl w;inj:=λv a b f c=>by
  rcases cH f with⟨i,t,rfl,rfl⟩|⟨x,t,rfl,rfl⟩
  . rcases cH c with⟨j,u,rfl,e⟩|⟨y,u,rfl,e⟩;.injection e with e1 _;rw[e1]
    .exact nomatch e
  . rcases cH c with⟨j,u,rfl,e⟩|⟨y,u,rfl,e⟩;.exact nomatch e
    .injection e with e1 _;rw[e1]
 byValue:=λk v h=>by rcases cH h with⟨i,t,rfl,rfl⟩|⟨x,t,rfl,rfl⟩<;>rfl
 pyHash:=λhv h=>by
  rcases cH hv with⟨i,t,rfl,rfl⟩|⟨x,t,rfl,rfl⟩;.exact wpAny_pyHash_int h
  .exact wpAny_pyHash_str h
 eqBool:=λg hv h=>by
  rcases cH g with⟨i,t,rfl,rfl⟩|⟨x,t,rfl,rfl⟩
  . rcases cH hv with⟨j,u,rfl,rfl⟩|⟨y,u,rfl,rfl⟩;.rw[S8]at h;exact oB h
    .rw[Ss]at h;exact int_str i t y u _ _ _ _ h
  . rcases cH hv with⟨j,u,rfl,rfl⟩|⟨y,u,rfl,rfl⟩;.rw[T9]at h;exact str_int x t j u _ _ _ _ h
    .rw[Um]at h;exact wpAny_eqBool_str h
 «strs»:=λk x t v h=>by
  rcases cH h with⟨i,u,rfl,e⟩|⟨y,u,rfl,e⟩;.exact nomatch e
  .injection e with e1 _;subst e1;cases v<;>rfl
theorem yR(prog:ek)(w:fg)(i:Int)(t:Tok):(cJ prog w).is (.inl i) (.int i t)=ck:=Gw i t
theorem yd(prog:ek)(w:fg)(x:Str)(t:Tok):(cJ prog w).is (.inr x) (.str x t)=ck:=GX x t
inductive V where|non|bl(b:Bool)|int(i:Int)|str(x:Str)|byt(b:Array UInt8)|flt(b:UInt64)|ref(a:dQ)|ty(n:String)deriving DecidableEq
noncomputable def RelV:V->bV->Prop|.non,u=>u=eP|.bl b,u=>u=kT b|.int i,u=>∃t,u=l7 i t|.str x,u=>∃t,u=Value.str x t|.byt b,u=>∃t,u=Value.bytes b t|.flt b,u=>∃t,u=Value.float b t|.ref a,u=>u=eR a|.ty n,u=>u=i_ n
noncomputable abbrev Vals:List V->List bV->Prop:=Paired RelV
theorem Vals.length{xs:List V}{us:List bV}(r:Vals xs us):xs.length=us.length:=Paired.length r
theorem Vals.get:∀{xs:List V}{us:List bV}{i:Nat}{x:V},Vals xs us->xs[i]?=aD x->∃u,us[i]?=aD u/\RelV x u|_,_,_,_,.nil,e=>by simp at e|_,_,0,_,.cons r _,e=>by simp at e;subst e;exact⟨_,rfl,r⟩|_,_,i+1,x,.cons _ t,e=>by obtain⟨u,h1,a⟩:=Vals.get (i:=i) (x:=x) t (by simpa using e);exact⟨u,by simpa using h1,a⟩
theorem Vals.set{x:V}{u:bV}(r:RelV x u):∀{xs:List V}{us:List bV}(i:Nat),Vals xs us->Vals (xs.set i x) (us.set i u)|_,_,_,.nil=>.nil|_,_,0,.cons _ t=>.cons r t|_,_,i+1,.cons q t=>.cons q (Vals.set r i t)
theorem Vals.append:∀{xs ys:List V}{us ws:List bV},Vals xs us->Vals ys ws->Vals (xs++ys) (us++ws)|_,_,_,_,.nil,s=>s|_,_,_,_,.cons r t,s=>.cons r (Vals.append t s)
theorem Vals.take:∀{xs:List V}{us:List bV}(n:Nat),Vals xs us->Vals (xs.take n) (us.take n)|_,_,0,_=>.nil|_,_,_+1,.nil=>.nil|_,_,n+1,.cons r t=>.cons r (Vals.take n t)
theorem Vals.drop:∀{xs:List V}{us:List bV}(n:Nat),Vals xs us->Vals (xs.drop n) (us.drop n)|_,_,0,r=>r|_,_,_+1,.nil=>.nil|_,_,n+1,.cons _ t=>Vals.drop n t
noncomputable def qw:Option V->Option bV->Prop|some v,aD u=>RelV v u|none,b_=>True|_,_=>False
noncomputable def KV{κ:Type}:List (κ×V)->List (κ×bV)->Prop:=Paired λ(p:κ×V)(q:κ×bV)=>p.1=q.1/\RelV p.2 q.2
noncomputable def kV:Key->V|.inl i=>.int i|.inr x=>.str x
inductive HO where|lst(xs:List V)|tup(xs:List V)|dK(kvs:List (Key×V))|dT(kvs:List (List Key×V))|set(S:Int->Bool)(n:Nat)|ins(C dx:dQ)(fs:List (Str×V))|own(x:dQ)|xd(fs:List (Str×V))|met(f x:dQ)|nJ(lo hi:Int)|fG(o:Obj)(u:HO)|Wh(ps:Array bV)|ext(φ:Heap->Prop)
noncomputable abbrev Hp:=dQ->Option HO
variable{H:Hp}
noncomputable def upd(H:Hp)(a:dQ)(o:HO):Hp:=λb=>if b=a then aD o else H b
theorem bf{a:dQ}{o:HO}:upd H a o a=aD o:=by unfold upd;rw[if_pos rfl]
theorem aG{a b:dQ}{o:HO}(h:b≠a):upd H a o b=H b:=by unfold upd;rw[if_neg h]
theorem Zq{a b:dQ}{o u:HO}(h:H a=aD o)(h':H b=aD u)(d:o≠u):a≠b:=by intro e;subst e;rw[h]at h';exact d (gb h')
theorem jd{a b:dQ}{o:HO}(h:H a=aD o)(h':H b=b_):a≠b:=by intro e;subst e;rw[h]at h';cases h'
section
variable(P:ek)(w:fg)
noncomputable def cM(H:Hp)(h:Heap)(a:dQ):HO->Prop|.lst xs=>xs.length<=sizeLine/\∃(b:List bV)(n:Nat),Vals xs b/\h.get? a=aD {cls:=.type "list",data:=.seq b.toArray n}|.tup xs=>xs.length<=sizeLine/\∃b:List bV,Vals xs b/\IsTup h a b.toArray|.dK kvs=>kvs.length<=sizeLine/\(a==hE)=a_/\∃vs,KV kvs vs/\h.DictOf (cJ P w) a vs|.dT kvs=>kvs.length<=sizeLine/\(a==hE)=a_/\∃xs:List (List Key×dQ×bV),Paired (λ(p:List Key×V)(q:List Key×dQ×bV)=>p.1=q.1/\H q.2.1=aD (.tup (p.1.map kV))/\RelV p.2 q.2.2) kvs xs/\∃o es ep,h.get? a=aD o/\o.ExactDict/\o.data=.dict es ep/\es.toList=xs.map (entryOfKey (mP (cJ P w)))/\(xs.map (·.1)).Nodup|.set S n=>h.SetOf (intKind P w) a S n|.ins C e fs=>H e=aD (.own a)/\fs.length<=1000/\e≠a/\h.get? a=aD (PySem.W.instObj C e)/\∃c,h.Ns1 e c/\(∀f,qw (fs.lookup f) (c f))/\PySem.Within c (fs.map (·.1))|.own _=>∃o,h.get? a=aD o|.xd fs=>∃c,h.Ns1 a c/\∀f,qw (fs.lookup f) (c f)|.nJ lo hi=>∃t u v,h.get? a=aD {cls:=.type "range",data:=.fields #[.int lo t,.int hi u,.int 1 v]}|.fG o u=>h.get? a=aD o/\cM H h a u|.Wh ps=>h.get? a=aD {cls:=.none,data:=.fields ps}|.met f x=>h.get? a=aD (methodObj (.ref f) (.ref x))|.ext g=>g h/\(∃o,h.get? a=aD o)/\∀h1 j:Heap,g h1->(∀o,h1.get? a=aD o->j.get? a=aD o)->g j
noncomputable def o6(H:Hp)(h:Heap):Prop:=∀a o,H a=aD o->cM P w H h a o
end
section
variable{P:ek}{w:fg}{H H':Hp}{h h':Heap}{a:dQ}{o:HO}
theorem cM.lt(x:cM P w H h a o):a<h.objs.size:=by cases o with|lst xs=>obtain⟨_,_,_,_,e⟩:=x;exact eA e|tup xs=>obtain⟨_,_,_,p⟩:=x;exact p.lt|dK kvs=>obtain⟨_,_,_,_,o,_,_,e,_⟩:=x;exact eA e|dT kvs=>obtain⟨_,_,_,_,o,_,_,e,_⟩:=x;exact eA e|set S n=>obtain⟨o,_,_,_,e,_⟩:=x;exact eA e|ins C b fs=>obtain⟨_,_,_,e,_⟩:=x;exact eA e|own y=>obtain⟨_,e⟩:=x;exact eA e|xd fs=>obtain⟨_,⟨_,_,_,e,_⟩,_⟩:=x;exact eA e|nJ lo hi=>obtain⟨_,_,_,e⟩:=x;exact eA e|fG c u=>obtain⟨e,_⟩:=x;exact eA e|Wh ps=>exact eA (show h.get? a=aD _ from x)|met f y=>exact eA (show h.get? a=aD _ from x)|ext g=>obtain⟨_,⟨_,e⟩,_⟩:=x;exact eA e
theorem Paired.VP{g j:Type}{F G:g->j->Prop}:∀{c:List g}{e:List j},Paired F c e->(∀a b,F a b->G a b)->Paired G c e|_,_,.nil,_=>.nil|_,_,.cons r t,f=>.cons (f _ _ r) (Paired.VP t f)
theorem cM.stay(x:cM P w H h a o)(k:∀b u,(b=a\/H b=aD (.own a))->h.get? b=aD u->h'.get? b=aD u)(ho:∀b,H b=aD (.own a)->H' b=aD (.own a))(B:∀b xs,H b=aD (.tup xs)->H' b=aD (.tup xs)):cM P w H' h' a o:=by induction o with|lst xs=>obtain⟨z,j,n,r,e⟩:=x;exact⟨z,j,n,r,k _ _ (.inl rfl) e⟩|tup xs=>obtain⟨z,j,r,g,e,c⟩:=x;exact⟨z,j,r,g,k _ _ (.inl rfl) e,c⟩|dK kvs=>obtain⟨z,y,vs,r,g,es,ep,e,c⟩:=x;exact⟨z,y,vs,r,g,es,ep,k _ _ (.inl rfl) e,c⟩|dT kvs=>obtain⟨z,y,xs,r,g,es,ep,e,c⟩:=x;exact⟨z,y,xs,Paired.VP r λp q z=>⟨z.1,B _ _ z.2.1,z.2.2⟩,g,es,ep,k _ _ (.inl rfl) e,c⟩|set S n=>obtain⟨g,es,ep,t,e,c⟩:=x;exact⟨g,es,ep,t,k _ _ (.inl rfl) e,c⟩|ins C I fs=>obtain⟨d,z,ne,e,l,⟨m,es,ep,E,c⟩,r⟩:=x;exact⟨ho _ d,z,ne,k _ _ (.inl rfl) e,l,⟨m,es,ep,k _ _ (.inr d) E,c⟩,r⟩|own y=>obtain⟨g,e⟩:=x;exact⟨g,k _ _ (.inl rfl) e⟩|xd fs=>obtain⟨l,⟨m,es,ep,e,c⟩,r⟩:=x;exact⟨l,⟨m,es,ep,k _ _ (.inl rfl) e,c⟩,r⟩|nJ lo hi=>obtain⟨t,u,v,e⟩:=x;exact⟨t,u,v,k _ _ (.inl rfl) e⟩|fG g u G=>obtain⟨e,q⟩:=x;exact⟨k _ _ (.inl rfl) e,G q⟩|Wh ps=>have e:h.get? a=aD {cls:=.none,data:=.fields ps}:=x;show h'.get? a=aD {cls:=.none,data:=.fields ps};exact k a _ (.inl rfl) e|met f y=>have e:h.get? a=aD (methodObj (.ref f) (.ref y)):=x;show h'.get? a=aD (methodObj (.ref f) (.ref y));exact k a _ (.inl rfl) e|ext J=>obtain⟨p,⟨o,e⟩,st⟩:=x;exact⟨st _ _ p λo q=>k _ _ (.inl rfl) q,⟨o,k _ _ (.inl rfl) e⟩,st⟩
theorem o6.lt(x:o6 P w H h)(e:H a=aD o):a<h.objs.size:=(x a o e).lt
theorem o6.fresh(x:o6 P w H h)(e:h.objs.size<=a):H a=b_:=by cases q:H a with|none=>rfl|some u=>exact absurd (eT (x.lt q) e) (kg _)
theorem o6.kept(x:o6 P w H h)(k:∀b u,h.get? b=aD u->h'.get? b=aD u):o6 P w H h':=λa o e=>(x a o e).stay (λb u _ q=>k b u q) (λ_ q=>q) λ_ _ q=>q
theorem o6.laid(x:o6 P w H h)(k:∀b u,h.get? b=aD u->h'.get? b=aD u)(l:h.objs.size<=a)(f:cM P w (upd H a o) h' a o):o6 P w (upd H a o) h':=λb u e=>by
 have g:=x.fresh l;by_cases j:b=a;.subst j;rw[bf]at e;cases e;exact f
 .rw[aG j]at e;exact(x b u e).stay (λc v _ q=>k c v q) (λc q=>by rw[aG (jd q g)];exact q) λc xs q=>by rw[aG (jd q g)];exact q
end
noncomputable def Rd(H:Hp)(a:dQ)(u:HO):Prop:=H a=aD u\/∃o,H a=aD (.fG o u)
theorem Rd.ok{P:ek}{a:dQ}{u:HO}(r:Rd H a u)(x:o6 P w H h):cM P w H h a u:=by
 rcases r with r|⟨o,r⟩;.exact x a u r
 .obtain⟨_,q⟩:=x a _ r;exact q
noncomputable def Za:Option HO->Prop|some (.lst _)=>True|some (.dK _)=>True|some (.dT _)=>True|some (.set _ _)=>True|some (.ins _ _ _)=>True|some (.ext _)=>True|_=>False
section
variable{P:ek}{w:fg}{H:Hp}{h h':Heap}{x e:dQ}{o':HO}
theorem o6.write(ok:o6 P w H h)(g:Za (H x))(he:e=x\/H e=aD (.own x))(k:∀b u,b≠e->h.get? b=aD u->h'.get? b=aD u)(l:∃u,h'.get? e=aD u)(m:cM P w (upd H x o') h' x o'):o6 P w (upd H x o') h':=λb u q=>by
 have f:∀c y,H c=aD (.own y)->c≠x:=λc y r z=>by subst z;rw[r]at g;exact g
 have n:∀c xs,H c=aD (.tup xs)->c≠x:=λc xs r z=>by subst z;rw[r]at g;exact g
 by_cases j:b=x;.subst j;rw[bf]at q;cases q;exact m
 . rw[aG j]at q;by_cases a:b=e
   . have o:H b=aD (.own x):=by
      rcases he with z|z;.exact absurd (a.trans z) j
      .rw[a];exact z
     rw[q]at o;cases o;obtain⟨v,hv⟩:=l;exact⟨v,by rw[a];exact hv⟩
   . refine(ok b u q).stay (λc v hc r=>k c v ?_ r) (λc r=>by rw[aG (f c b r)];exact r) λc xs r=>by rw[aG (n c xs r)];exact r
     rcases hc with rfl|hc;.exact a
     . rintro rfl;rcases he with z|z;.exact f c b hc z
       .rw[hc]at z;cases z;exact j rfl
end
structure Un(fs ex:List dQ)(H H':Hp)(h h':Heap):Prop where
 keep:∀b o,h.get? b=aD o->H b=b_->b∉fs->b∉ex->h'.get? b=aD o
 slot:∀b o,h.get? b=aD o->H b=b_->b∈fs->b∉ex->∃sl,h'.get? b=aD {o with slots:=sl}free:∀b o,h.get? b=aD o->H b=b_->b∉ex->H' b=b_
 there:∀b o,h.get? b=aD o->b∉ex->∃o',h'.get? b=aD o'
 tups:∀b xs,H b=aD (.tup xs)->H' b=aD (.tup xs)xj:∀b o u,H b=aD (.fG o u)->H' b=aD (.fG o u)zG:∀b ps,H b=aD (.Wh ps)->∃more,H' b=aD (.Wh (ps++more))
section
variable{fs fs' ex ex':List dQ}{H H1 H2:Hp}{h h1 h2 h':Heap}{a x e:dQ}{o:HO}
theorem Un.any(u:Un fs ex H H1 h h1){b:dQ}{c:Obj}(q:h.get? b=aD c)(n:H b=b_)(f:b∉ex):∃j,h1.get? b=aD {c with slots:=j}:=by
 by_cases g:b∈fs;.exact u.slot b c q n g f
 .exact⟨c.slots,u.keep b c q n g f⟩
theorem Un.kept(k:∀b u,h.get? b=aD u->h'.get? b=aD u):Un fs ex H H h h':=⟨λb c q _ _ _=>k b c q,λb c q _ _ _=>⟨c.slots,k b c q⟩,λ_ _ _ n _=>n,λb c q _=>⟨c,k b c q⟩,λ_ _ q=>q,λ_ _ _ q=>q,λ_ ps q=>⟨#[],by rw[q];simp⟩⟩
theorem Un.refl:Un fs ex H H h h:=Un.kept λ_ _ q=>q
theorem Un.laid(k:∀b u,h.get? b=aD u->h'.get? b=aD u)(f:h.objs.size<=a)(c:H a=b_):Un fs ex H (upd H a o) h h' where
 keep:=λb u q _ _ _=>k b u q;slot:=λb u q _ _ _=>⟨u.slots,k b u q⟩;free:=λb u q n _=>by rw[aG (eS (eT (eA q) f))];exact n
 there:=λb u q _=>⟨u,k b u q⟩;tups:=λb xs q=>by rw[aG (jd q c)];exact q
 xj:=λb u xs q=>by rw[aG (jd q c)];exact q
 zG:=λb ps q=>⟨#[],by rw[aG (jd q c),q];simp⟩
theorem Un.write(f:Za (H x))(he:e=x\/H e=aD (.own x))(k:∀b u,b≠e->h.get? b=aD u->h'.get? b=aD u)(g:∃u,h'.get? e=aD u):Un fs ex H (upd H x o) h h':=by
 have l:∀b,H b=b_->b≠x:=λb n z=>by subst z;rw[n]at f;exact f
 have m:∀b,H b=b_->b≠e:=λb n z=>by
  subst z;rcases he with r|r;.exact l b n r
  .rw[n]at r;cases r
 have j:∀b u,H b=aD u->¬ Za (aD u)->b≠x:=λb u q p z=>by subst z;rw[q]at f;exact p f
 refine⟨λb u q n _ _=>k b u (m b n) q,λb u q n _ _=>⟨u.slots,k b u (m b n) q⟩,λb u q n _=>by rw[aG (l b n)];exact n,λb u q _=>?_,λb xs q=>by rw[aG (j b _ q λz=>z)];exact q,λb u xs q=>by rw[aG (j b _ q λz=>z)];exact q,λb ps q=>⟨#[],by rw[aG (j b _ q λz=>z),q];simp⟩⟩;by_cases c:b=e;.subst c;exact g
 .exact⟨u,k b u c q⟩
end
noncomputable def trk(h:Heap)(H:Hp):List dQ:=(ej h.objs.size).filter λa=>(H a).isSome
noncomputable def wA(h:Heap)(H:Hp):Heap:=PySem.W.hideAll h (trk h H)
theorem GK(h:Heap)(H:Hp):(wA h H).objs.size=h.objs.size:=PySem.W.hideAll_size _ _
theorem KH{b:dQ}{o:Obj}(e:h.get? b=aD o)(n:H b=b_):(wA h H).get? b=aD o:=PySem.W.hideAll_get _ e λa=>by have q:(H b).isSome=ck:=(List.mem_filter.mp a).2;rw[n]at q;simp at q
theorem Qj{b:dQ}{o:Obj}(e:(wA h H).get? b=aD o):h.get? b=aD o/\H b=b_:=by have a:h.get? b=aD o:=PySem.W.of_hideAll (trk h H) e;refine⟨a,?_⟩;cases q:H b with|none=>rfl|some x=>have c:b∈trk h H:=List.mem_filter.mpr ⟨kr.mpr (eA a),by simp[q]⟩;have z:(wA h H).get? b=b_:=PySem.W.hideAll_none (trk h H) c;rw[z]at e;cases e
structure Mod(K:PySem.W.Frag)(mg:Str->Option bV)(base:Heap):Prop where
 kin:K.In base
 glob:base.Ns eF mg
 blt:∃mb,base.Ns builtinsNs mb/\∀x:Str,x≠"__name__"->mb x=gc x
 nolimit:base.NoLimit
structure Cx where
 prog:ek
 w:fg
 K:PySem.W.Frag
 mg:Str->Option bV
 base:Heap
 A:fb
 N:List Str
 s₀:cp
 H₀:Hp
 env:Env
 outer:List Env
 stack:List Env
 ex:List dQ
 fn:Str->Bool
 calm:Bool
 pn:List (dQ×Obj)xe:bV->cp->Prop
variable{X:Cx}
noncomputable def frs(l:List Env):List dQ:=l.filterMap (·.frame)
noncomputable abbrev Cx.fs(X:Cx):List dQ:=frs X.outer
noncomputable def xR(a:k8)(x:Str):Prop:=a.names.lookup x=aD .local\/a.names.lookup x=aD .cell\/a.names.lookup x=aD .free
noncomputable def Loc(a:k8)(x:Str):Prop:=a.names.lookup x=aD .local\/a.names.lookup x=aD .cell
noncomputable def Look(env:Env)(h:Heap)(m:Str->Option bV)(x:Str)(u:bV):Prop:=(env.kindOf x=aD .local/\m x=aD u)\/((env.kindOf x=aD .cell\/env.kindOf x=aD .free)/\∃c,env.cells.lookup x=aD c/\h.IsCell c (aD u))
structure Cx.Ok(X:Cx):Prop where
 mod:Mod X.K X.mg X.base
 kind:X.env.scope.kind=.function
 glob:X.env.globals=eF
 blt:X.env.builtins=builtinsNs
 above:X.s₀.heap.objs.size<=X.env.locals
 inj:∀x y c,X.env.cells.lookup x=aD c->X.env.cells.lookup y=aD c->x=y
 has:∀x,(X.env.kindOf x=aD .cell\/X.env.kindOf x=aD .free)->∃c,X.env.cells.lookup x=aD c
 cab:∀x c,X.fn x=ck->X.env.cells.lookup x=aD c->X.s₀.heap.objs.size<=c
 hd:X.calm=ck->X.A.handled=b_
 frames:X.A.frames=aD X.stack
 stk:X.stack=X.outer\/(X.stack=X.env::X.outer/\X.env.frame=aD X.env.locals)exf:∀b∈X.ex,b≠X.env.locals/\∀x c,X.env.cells.lookup x=aD c->c≠b
 bs:∀b o,X.base.get? b=aD o->X.s₀.heap.get? b=aD o/\X.H₀ b=b_
 RQ:X.base.objs.size<=X.s₀.heap.objs.size
 Mv:∀b o,X.base.get? b=aD o->b∉X.ex
 QJ:∀b∈X.ex,b∉X.fs
 rN:X.s₀.heap.FunFrames X.base X.outer
 Yg:∀b∈X.fs,X.H₀ b=b_
structure Inv(X:Cx)(pins:List (dQ×Obj))(σ:List (Option V))(H:Hp)(s:cp):Prop where
 ok:X.Ok
 os:s.os=X.s₀.os
 bare:m_ s.gens
 base:Un X.fs X.ex X.H₀ H X.s₀.heap s.heap
 loc:∃m,s.heap.Ns X.env.locals m/\∀(i:Nat)(x:Str)(v:V),X.N[i]?=aD x->σ[i]?=aD (aD v)->xR X.env.scope x->∃u,RelV v u/\Look X.env s.heap m x u
 cell:∀x c,X.env.cells.lookup x=aD c->∃v,s.heap.IsCell c v
 free:H X.env.locals=b_
 m6:∀x c,X.env.cells.lookup x=aD c->H c=b_
 pin:∀p∈X.pn++pins,s.heap.get? p.1=aD p.2/\H p.1=b_/\p.1≠X.env.locals/\p.1∉X.fs/\∀v,p.2.data≠.cell v
 hok:o6 X.prog X.w H s.heap
 len:σ.length=X.N.length
section
variable{X:Cx}{pins:List (dQ×Obj)}{σ:List (Option V)}{H H':Hp}{s:cp}{h':Heap}
theorem Cx.Ok.aez(ok:X.Ok){b:dQ}{o:Obj}(e:X.base.get? b=aD o):b∉X.fs:=λa=>by have:=(ok.rN.mem a).1;rw[e]at this;cases this
theorem Inv.bs(I:Inv X pins σ H s):∀b o,X.base.get? b=aD o->s.heap.get? b=aD o/\H b=b_:=λb o e=>⟨I.base.keep b o (I.ok.bs b o e).1 (I.ok.bs b o e).2 (I.ok.aez e) (I.ok.Mv b o e),I.base.free b o (I.ok.bs b o e).1 (I.ok.bs b o e).2 (I.ok.Mv b o e)⟩
theorem Inv.bk(I:Inv X pins σ H s):∀b o,X.base.get? b=aD o->s.heap.get? b=aD o:=λb o e=>(I.bs b o e).1
theorem Inv.mod(I:Inv X pins σ H s):Mod X.K X.mg X.base:=I.ok.mod
theorem Inv.WN(I:Inv X pins σ H s):X.K.In s.heap:=I.ok.mod.kin.keeps I.bk
theorem Inv.lt(I:Inv X pins σ H s):X.env.locals<s.heap.objs.size:=let⟨_,hn,_⟩:=I.loc;hn.lt
theorem Inv.sz(I:Inv X pins σ H s):X.s₀.heap.objs.size<=s.heap.objs.size:=kb I.ok.above (n8 I.lt)
theorem Inv.adt(I:Inv X pins σ H s){a:dQ}(h:s.heap.objs.size<=a):a∉X.fs:=λb=>by obtain⟨_,o,ho,_⟩:=I.ok.rN.mem b;exact absurd (eT (eA ho) (kb I.sz h)) (kg _)
theorem Inv.Ud(I:Inv X pins σ H s):∀x c,X.env.cells.lookup x=aD c->c≠X.env.locals:=λx c e z=>by obtain⟨v,o,ho,hd⟩:=I.cell x c e;obtain⟨m,⟨f,es,ep,a,b,_⟩,_⟩:=I.loc;rw[z,a]at ho;cases ho;rw[b]at hd;cases hd
theorem Inv.rN(I:Inv X pins σ H s):s.heap.FunFrames X.base X.outer:=by
 have all:∀(l:List Env),(∀b∈frs l,b∈X.fs)->X.s₀.heap.FunFrames X.base l->s.heap.FunFrames X.base l:=by intro l;induction l with|nil=>intro _ _;trivial|cons env r g=>intro hs j;obtain⟨m,⟨L,o,a,n,ho,hd⟩,hr⟩:=j;have c:L∈X.fs:=hs L (by unfold frs;rw[iX,a];exact jp);obtain⟨p,e⟩:=I.base.slot L o ho (I.ok.Yg L c) c λz=>I.ok.QJ L z c;exact⟨m,⟨L,_,a,n,e,hd⟩,g (λb f=>hs b (by unfold frs;rw[iX,a];exact fP _ f)) hr⟩
 exact all X.outer (λ_ f=>f) I.ok.rN
theorem Inv.stack(I:Inv X pins σ H s):s.heap.FunFrames X.base X.stack:=by
 rcases I.ok.stk with e|⟨e,a⟩;.rw[e];exact I.rN
 .rw[e];obtain⟨m,b,_⟩:=I.loc;refine .cons (by rw[I.ok.kind];decide) a b ?_ I.rN;exact Heap.get?_none_of_le (kb I.ok.RQ I.ok.above)
theorem Inv.wW(I:Inv X pins σ H s):∀b∈frs X.stack,b∈X.env.locals::X.fs:=λb a=>by
 rcases I.ok.stk with e|⟨e,c⟩;.rw[e]at a;exact fP _ a
 .rw[e]at a;unfold frs at a;rw[iX,c]at a;exact a
theorem Inv.Dw(I:Inv X pins σ H s):∀b∈frs X.stack,H b=b_:=λb hb=>by
 rcases eM.mp (I.wW b hb)with e|hb;.rw[e];exact I.free
 .obtain⟨_,o,ho,_⟩:=I.ok.rN.mem hb;exact I.base.free b o ho (I.ok.Yg b hb) λz=>I.ok.QJ b z hb
theorem Inv.step{g':Array GenState}{d':Drawn}{ch:List dQ}(I:Inv X pins σ H s)(f:∀b∈ch,(b∈X.ex\/X.s₀.heap.objs.size<=b)/\b≠X.env.locals/\(∀x c,X.env.cells.lookup x=aD c->c≠b)/\∀p∈X.pn++pins,p.1≠b)(keep:∀b o,b≠X.env.locals->b∉X.fs->b∉ch->s.heap.get? b=aD o->H b=b_->h'.get? b=aD o)(slot:∀b o,b≠X.env.locals->b∈X.fs->b∉ch->s.heap.get? b=aD o->H b=b_->∃J,h'.get? b=aD {o with slots:=J})(free:∀b o,b∉ch->s.heap.get? b=aD o->H b=b_->H' b=b_)(there:∀b o,b∉ch->s.heap.get? b=aD o->∃B,h'.get? b=aD B)(tups:∀b xs,H b=aD (.tup xs)->H' b=aD (.tup xs))(xj:∀b o u,H b=aD (.fG o u)->H' b=aD (.fG o u))(zG:∀b ps,H b=aD (.Wh ps)->∃more,H' b=aD (.Wh (ps++more)))(ns:∀m,s.heap.Ns X.env.locals m->h'.Ns X.env.locals m)(hok:o6 X.prog X.w H' h')(Q:m_ g'):Inv X pins σ H' {s with heap:=h',gens:=g',drawn:=d',toks:=t'}:=by
 have C:∀b o,X.s₀.heap.get? b=aD o->b≠X.env.locals:=λb o e=>eS (eT (eA e) I.ok.above);have j:∀b o,X.s₀.heap.get? b=aD o->b∉X.ex->b∉ch:=λb o e a y=>by
  rcases(f b y).1 with z|z;.exact a z
  .exact absurd (eT (eA e) z) (kg _)
 have g:∀x c,X.env.cells.lookup x=aD c->∀v,s.heap.IsCell c v->h'.IsCell c v:=λx c e v⟨o,ho,hd⟩=>by
  have E:c∉ch:=λz=>(f c z).2.2.1 x c e rfl;by_cases hc:c∈X.fs;.obtain⟨J,q⟩:=slot c o (I.Ud x c e) hc E ho (I.m6 x c e);exact⟨_,q,hd⟩
  .exact⟨o,keep c o (I.Ud x c e) hc E ho (I.m6 x c e),hd⟩
 refine⟨I.ok,I.os,Q,⟨λb o e n y a=>?_,λb o e n y a=>?_,λb o e n a=>?_,λb o e a=>?_,λb xs e=>tups b xs (I.base.tups b xs e),λb o xs e=>xj b o xs (I.base.xj b o xs e),λb ps e=>?_⟩,?_,λx c e=>?_,?_,λx c e=>?_,λp N=>?_,hok,I.len⟩;.exact keep b o (C b o e) y (j b o e a) (I.base.keep b o e n y a) (I.base.free b o e n a)
 .obtain⟨J,t⟩:=I.base.slot b o e n y a;obtain⟨L,G⟩:=slot b _ (C b o e) y (j b o e a) t (I.base.free b o e n a);exact⟨L,G⟩
 .obtain⟨B,t⟩:=I.base.there b o e a;exact free b B (j b o e a) t (I.base.free b o e n a)
 .obtain⟨B,t⟩:=I.base.there b o e a;exact there b B (j b o e a) t
 .obtain⟨m1,t⟩:=I.base.zG b ps e;obtain⟨U,G⟩:=zG b _ t;exact⟨m1++U,by rw[G,Array.append_assoc]⟩
 . obtain⟨m,W,Y⟩:=I.loc;refine⟨m,ns m W,λi x v t G Z=>?_⟩;obtain⟨u,r,l⟩:=Y i x v t G Z;refine⟨u,r,?_⟩;rcases l with l|⟨k,c,e,z⟩;.exact .inl l
   .exact .inr ⟨k,c,e,g x c e _ z⟩
 .obtain⟨v,z⟩:=I.cell x c e;exact⟨v,g x c e v z⟩
 .obtain⟨m,⟨o,_,_,ho,_⟩,_⟩:=I.loc;exact free _ o (λz=>(f _ z).2.1 rfl) ho I.free
 .obtain⟨v,o,ho,hd⟩:=I.cell x c e;exact free c o (λz=>(f c z).2.2.1 x c e rfl) ho (I.m6 x c e)
 .obtain⟨e,n,ne,O,d⟩:=I.pin p N;have E:p.1∉ch:=λz=>(f p.1 z).2.2.2 p N rfl;exact⟨keep p.1 p.2 ne O E e n,free p.1 p.2 E e n,ne,O,d⟩
theorem Inv.un(I:Inv X pins σ H s)(u:Un X.fs [] H H' s.heap h')(hok:o6 X.prog X.w H' h'):Inv X pins σ H' {s with heap:=h',toks:=t'}:=by obtain⟨m,⟨o,es,ep,ho,r⟩,_⟩:=id I.loc;obtain⟨q,j⟩:=u.any ho I.free (by simp);exact I.step (g':=s.gens) (d':=s.drawn) (ch:=[]) (λ_ z=>nomatch z) (λb o _ c _ e n=>u.keep b o e n c (by simp)) (λb o _ c _ e n=>u.slot b o e n c (by simp)) (λb o _ e n=>u.free b o e n (by simp)) (λb o _ e=>u.there b o e (by simp)) u.tups u.xj u.zG (λt l=>by obtain⟨v,f,g,a,p⟩:=l;rw[ho]at a;cases a;exact⟨_,f,g,j,p⟩) hok I.bare
theorem Inv.call{g':Array GenState}{d':Drawn}{ch:List dQ}(I:Inv X pins σ H s)(u:Un (frs X.stack) ch H H' s.heap h')(hok:o6 X.prog X.w H' h')(q:m_ g')(a:∀b∈ch,(b∈X.ex\/X.s₀.heap.objs.size<=b)/\b≠X.env.locals/\(∀x c,X.env.cells.lookup x=aD c->c≠b)/\∀p∈X.pn++pins,p.1≠b):Inv X pins σ H' {s with heap:=h',gens:=g',drawn:=d',toks:=t'}:=by obtain⟨m,⟨o,es,ep,ho,r⟩,_⟩:=id I.loc;obtain⟨B,g⟩:=u.any ho I.free λz=>(a _ z).2.1 rfl;exact I.step (ch:=ch) a (λb o g t hc e n=>u.keep b o e n (λz=>(eM.mp (I.wW b z)).elim g t) hc) (λb o _ _ hc e n=>u.any e n hc) (λb o hc e n=>u.free b o e n hc) (λb o hc e=>u.there b o e hc) u.tups u.xj u.zG (λC v=>by obtain⟨E,j,l,f,y⟩:=v;rw[ho]at f;cases f;exact⟨_,j,l,g,y⟩) hok q
theorem Inv.turned{it:dQ}(I:Inv X pins σ H s)(k:∀b o,b≠it->s.heap.get? b=aD o->h'.get? b=aD o)(g:H it=b_)(f:it≠X.env.locals)(h1:it∈X.ex\/X.s₀.heap.objs.size<=it)(j:∀x c,X.env.cells.lookup x=aD c->c≠it)(l:∀p∈X.pn++pins,p.1≠it):Inv X pins σ H {s with heap:=h',toks:=t'}:=by
 have a:∀b u,H b=aD u->b≠it:=λb u e z=>by rw[z,g]at e;cases e
 refine I.step (g':=s.gens) (d':=s.drawn) (ch:=[it]) (λb t=>?_) (λb o _ _ hc e _=>k b o (λz=>hc (by simp[z])) e) (λb o _ _ hc e _=>⟨o.slots,k b o (λz=>hc (by simp[z])) e⟩) (λ_ _ _ _ n=>n) (λb o hc e=>⟨o,k b o (λz=>hc (by simp[z])) e⟩) (λ_ _ e=>e) (λ_ _ _ e=>e) (λb ps e=>⟨#[],by rw[e];simp⟩) (λm y=>?_) (λb u e=>?_) I.bare
 . have e:b=it:=by simpa using t
   subst e;exact⟨h1,f,j,l⟩
 .obtain⟨o,es,ep,ho,r⟩:=y;exact⟨o,es,ep,k _ o (iF f) ho,r⟩
 . refine(I.hok b u e).stay (λc v hc q=>k c v ?_ q) (λ_ q=>q) λ_ _ q=>q;rcases hc with z|z;.rw[z];exact a b u e
   .exact a c _ z
theorem Inv.tok(I:Inv X pins σ H s)(t:Nat):Inv X pins σ H {s with toks:=t}:=I.un (h':=s.heap) (t':=t) Un.refl I.hok
theorem Inv.kept{t':Nat}(I:Inv X pins σ H s)(k:∀b u,s.heap.get? b=aD u->h'.get? b=aD u):Inv X pins σ H {s with heap:=h',toks:=t'}:=I.un (Un.kept k) (I.hok.kept k)
theorem Inv.laid{a:dQ}{o:HO}{t':Nat}(I:Inv X pins σ H s)(k:∀b u,s.heap.get? b=aD u->h'.get? b=aD u)(c:s.heap.objs.size<=a)(e:cM X.prog X.w (upd H a o) h' a o):Inv X pins σ (upd H a o) {s with heap:=h',toks:=t'}:=I.un (Un.laid k c (I.hok.fresh c)) (I.hok.laid k c e)
theorem Inv.write{x e:dQ}{o:HO}{t':Nat}(I:Inv X pins σ H s)(f:Za (H x))(he:e=x\/H e=aD (.own x))(k:∀b u,b≠e->s.heap.get? b=aD u->h'.get? b=aD u)(a:∃u,h'.get? e=aD u)(c:cM X.prog X.w (upd H x o) h' x o):Inv X pins σ (upd H x o) {s with heap:=h',toks:=t'}:=I.un (Un.write f he k a) (I.hok.write f he k a c)
theorem Inv.Fj{a:List (dQ×Obj)}(I:Inv X pins σ H s)(h:∀p∈a,s.heap.get? p.1=aD p.2/\H p.1=b_/\p.1≠X.env.locals/\p.1∉X.fs/\∀v,p.2.data≠.cell v):Inv X a σ H s:=⟨I.ok,I.os,I.bare,I.base,I.loc,I.cell,I.free,I.m6,λp b=>(gl.mp b).elim (λz=>I.pin p (ra _ z)) (h p),I.hok,I.len⟩
theorem zb{N:List Str}(c:N.Nodup){j:Nat}{x:Str}(a:N[i]?=aD x)(b:N[j]?=aD x):i=j:=by obtain⟨h1,e⟩:=gC a;obtain⟨g,f⟩:=gC b;exact(List.getElem_inj c).mp (e.trans f.symm)
theorem uL{E:bV->cp->Prop}{x:Str}{v:V}{u:bV}{Q:Unit->cp->Prop}(I:Inv X pins σ H s)(hN:X.N.Nodup)(hi:X.N[i]?=aD x)(l:Loc X.env.scope x)(r:RelV v u)(h:∀s',Inv X pins (σ.set i (aD v)) H s'->(∃a,og a s.heap s'.heap/\(a=X.env.locals\/X.env.cells.lookup x=aD a))->Q () s')(hf:X.fn x=ck\/X.env.scope.names.lookup x=aD .local:=by first|(left;rfl)|(right;rfl)|assumption):d_ M A (storeName X.env x u) Q E s:=by
 obtain⟨m,hn,hl⟩:=id I.loc;have O:(X.env.scope.kind==.class||(X.env.scope.kind==.module&&X.env.locals !=X.env.globals))=a_:=by rw[I.ok.kind];rfl
 have C:i<σ.length:=by rw[I.len];exact(gC hi).1
 have Ud:=I.Ud;have f:∀{a:dQ}{h':Heap},(∃o,s.heap.get? a=aD o/\H a=b_)->og a s.heap h'->o6 X.prog X.w H h':=λ{a h'}ha hs b ob e=>by
  obtain⟨_,_,t⟩:=ha;refine(I.hok b ob e).stay (λc Z hc q=>(hs.2 c ?_).trans q) (λ_ q=>q) λ_ _ q=>q;rintro rfl;rcases hc with rfl|hc;.rw[t]at e;cases e
  .rw[t]at hc;cases hc
 rcases l with hk|hk
 . refine wpAny_storeName_local hk hn (λh' ab hs=>?_) O;obtain⟨oL,_,_,ac,_⟩:=id hn;refine h _ ⟨I.ok,I.os,I.bare,⟨λb o e n G l=>?_,λb o e n G l=>?_,I.base.free,λb o e l=>?_,I.base.tups,I.base.xj,I.base.zG⟩,⟨_,ab,λj y v' g B e3=>?_⟩,λy c e=>?_,I.free,I.m6,λp hp=>?_,f ⟨oL,ac,I.free⟩ hs,by simpa using I.len⟩ ⟨_,hs,.inl rfl⟩;.exact(hs.2 b (eS (eT (eA e) I.ok.above))).trans (I.base.keep b o e n G l)
   .obtain⟨sl,g⟩:=I.base.slot b o e n G l;exact⟨sl,(hs.2 b (eS (eT (eA e) I.ok.above))).trans g⟩
   .obtain⟨o',g⟩:=I.base.there b o e l;exact⟨o',(hs.2 b (eS (eT (eA e) I.ok.above))).trans g⟩
   . by_cases J:j=i;.subst J;rw[hi]at g;cases g;rw[dS C]at B;cases B;exact⟨u,r,.inl ⟨hk,by simp⟩⟩
     . rw[jj J]at B;obtain⟨u',r',q⟩:=hl j y v' g B e3;refine⟨u',r',?_⟩;rcases q with⟨k,e⟩|⟨k,c,e,z⟩;.refine .inl ⟨k,?_⟩;have:y≠x:=λe=>J (zb hN g (e▸hi));simp[this,e]
       .exact .inr ⟨k,c,e,z.sameBut hs (Ud y c e)⟩
   .obtain⟨Z,z⟩:=I.cell y c e;exact⟨Z,z.sameBut hs (Ud y c e)⟩
   .obtain⟨e,n,ne,nf,d⟩:=I.pin p hp;exact⟨(hs.2 p.1 ne).trans e,n,ne,nf,d⟩
 . have L:X.fn x=ck:=by
    rcases hf with z|z;.exact z
    .rw[z]at hk;cases hk
   obtain⟨c,hc⟩:=I.ok.has x (.inl hk);obtain⟨Z,z⟩:=I.cell x c hc;refine wpAny_storeName_cell I.ok.kind hk hc z (λh' U hs=>?_);obtain⟨oc,W,ae⟩:=id z;refine h {s with heap:=h'} ⟨I.ok,I.os,I.bare,⟨λb o e n G l=>?_,λb o e n G l=>?_,I.base.free,λb o e l=>?_,I.base.tups,I.base.xj,I.base.zG⟩,⟨m,hn.sameBut hs (iF (Ud x c hc)),λj y v' g B e3=>?_⟩,λy c' e=>?_,I.free,I.m6,λp hp=>?_,f ⟨oc,W,I.m6 x c hc⟩ hs,by simpa using I.len⟩ ⟨c,hs,.inr hc⟩;.exact(hs.2 b (eS (eT (eA e) (I.ok.cab x c L hc)))).trans (I.base.keep b o e n G l)
   .obtain⟨sl,g⟩:=I.base.slot b o e n G l;exact⟨sl,(hs.2 b (eS (eT (eA e) (I.ok.cab x c L hc)))).trans g⟩
   .obtain⟨o',g⟩:=I.base.there b o e l;exact⟨o',(hs.2 b (eS (eT (eA e) (I.ok.cab x c L hc)))).trans g⟩
   . by_cases J:j=i;.subst J;rw[hi]at g;cases g;rw[dS C]at B;cases B;exact⟨u,r,.inr ⟨.inl hk,c,hc,U⟩⟩
     . rw[jj J]at B;obtain⟨u',r',q⟩:=hl j y v' g B e3;refine⟨u',r',?_⟩;rcases q with q|⟨k,c',e,z'⟩;.exact .inl q
       .refine .inr ⟨k,c',e,z'.sameBut hs ?_⟩;rintro rfl;exact J (zb hN g (I.ok.inj _ _ _ e hc▸hi))
   . by_cases Y:c'=c;.subst Y;exact⟨_,U⟩
     .obtain⟨w2,z2⟩:=I.cell y c' e;exact⟨w2,z2.sameBut hs Y⟩
   .obtain⟨e,n,ne,nf,d⟩:=I.pin p hp;refine⟨(hs.2 p.1 ?_).trans e,n,ne,nf,d⟩;intro q;rw[q,W]at e;have q':oc=p.2:=gb e;exact d Z (by rw[<-q'];exact ae)
theorem rQ{E:bV->cp->Prop}{x:Str}{v:V}{u:bV}{Q:Unit->cp->Prop}(I:Inv X pins σ H s)(b:X.N.Nodup)(hi:X.N[i]?=aD x)(c:Loc X.env.scope x)(r:RelV v u)(h:∀a,Inv X pins (σ.set i (aD v)) H a->Q () a)(e:X.fn x=ck\/X.env.scope.names.lookup x=aD .local:=by first|(left;rfl)|(right;rfl)|assumption):d_ M A (storeName X.env x u) Q E s:=uL I b hi c r (λa f _=>h a f) e
end
noncomputable abbrev XK:=bV->Option dQ->Hp->Prop
noncomputable abbrev St:=List (Option V)
noncomputable abbrev VK:=V->Hp->Prop
noncomputable abbrev TE:=St->Hp->VK->Prop
noncomputable abbrev TT:=St->Hp->(Bool->Hp->Prop)->Prop
noncomputable abbrev TA:=St->Hp->(List V->Hp->Prop)->Prop
structure Ends where
 nx:St->Hp->Prop
 rt:VK
 bk:St->Hp->Prop:=λ_ _=>False
 ct:St->Hp->Prop:=λ_ _=>False
noncomputable abbrev TS:=Ends->St->Hp->Prop
inductive EP(X:Cx)(pins:List (dQ×Obj))(σ:St)(Q:VK)(u:bV)(s':cp):Prop where|mk(v:V)(H':Hp)(q0:Inv X pins σ H' s')(q1:RelV v u)(q2:Q v H')
noncomputable def TP(X:Cx)(pins:List (dQ×Obj))(σ:St)(Q:Bool->Hp->Prop)(b:Bool)(a:cp):Prop:=∃H',Inv X pins σ H' a/\Q b H'
inductive AP(X:Cx)(pins:List (dQ×Obj))(σ:St)(Q:List V->Hp->Prop)(us:List bV)(s':cp):Prop where|mk(vs:List V)(H':Hp)(q0:Inv X pins σ H' s')(q1:Vals vs us)(q2:Q vs H')
noncomputable def SP(X:Cx)(pins:List (dQ×Obj))(D:Ends)(f:Flow)(b:cp):Prop:=match f with|.next=>∃a H',Inv X pins a H' b/\D.nx a H'|.brk=>∃a H',Inv X pins a H' b/\D.bk a H'|.cont=>∃a H',Inv X pins a H' b/\D.ct a H'|.ret u=>∃v a H',Inv X pins a H' b/\RelV v u/\D.rt v H'
noncomputable def PE(X:Cx)(e:eB)(t:TE):Prop:=∀(pins:List (dQ×Obj))(s:cp)(σ:St)(H:Hp)(Q:VK),Inv X pins σ H s->t σ H Q->d_ (ef X.prog X.w) X.A (fF e X.env) (EP X pins σ Q) X.xe s
noncomputable def PT(X:Cx)(e:eB)(t:TT):Prop:=∀(pins:List (dQ×Obj))(s:cp)(σ:St)(H:Hp)(Q:Bool->Hp->Prop),Inv X pins σ H s->t σ H Q->d_ (ef X.prog X.w) X.A (isTrue e X.env (fF e X.env)) (TP X pins σ Q) X.xe s
noncomputable def PW(X:Cx)(e:eB)(t:TT):Prop:=∀(whole:Sem bV)(pins:List (dQ×Obj))(s:cp)(σ:St)(H:Hp)(Q:Bool->Hp->Prop),Inv X pins σ H s->t σ H Q->d_ (ef X.prog X.w) X.A (isTrue e X.env whole) (TP X pins σ Q) X.xe s
theorem PW.pt{e:eB}{t:TT}(h:PW X e t):PT X e t:=h _
noncomputable def PA(X:Cx)(es:List eB)(t:TA):Prop:=∀(pos:Pos)(pins:List (dQ×Obj))(s:cp)(σ:St)(H:Hp)(Q:List V->Hp->Prop),Inv X pins σ H s->t σ H Q->d_ (ef X.prog X.w) X.A (spliced (kN pos (ea es X.env))) (AP X pins σ Q) X.xe s
noncomputable def PS(X:Cx)(st:fR)(t:TS):Prop:=∀(pins:List (dQ×Obj))(s:cp)(σ:St)(H:Hp)(D:Ends),Inv X pins σ H s->t D σ H->d_ (ef X.prog X.w) X.A (exec st X.env) (SP X pins D) X.xe s
noncomputable def zW(X:Cx)(st:List fR)(t:TS):Prop:=∀(pins:List (dQ×Obj))(s:cp)(σ:St)(H:Hp)(D:Ends),Inv X pins σ H s->t D σ H->d_ (ef X.prog X.w) X.A (execs st X.env) (SP X pins D) X.xe s
theorem dz{b:Type}{t:Sem b}{Q c:b->cp->Prop}{E:bV->cp->Prop}(h:d_ M A t Q E s)(e:∀a s,Q a s->c a s):d_ M A t c E s:=fy h e λ_ _ x=>x
section
variable{X:Cx}
theorem bin{a b:eB}{l m:TE}(o:PE X a l)(p:PE X b m){σ:St}{R:V->V->Hp->Prop}(I:Inv X pins σ H s)(h:l σ H λx j=>m σ j λy c=>R x y c){n:Type}{Q:n->cp->Prop}{f:bV->bV->Sem n}(q:∀v u s2 x y c,Inv X pins σ c s2->RelV x v->RelV y u->R x y c->d_ (ef X.prog X.w) X.A (f v u) Q X.xe s2):d_ (ef X.prog X.w) X.A (fF a X.env) (λv e=>d_ (ef X.prog X.w) X.A (fF b X.env) (λu g=>d_ (ef X.prog X.w) X.A (f v u) Q X.xe g) X.xe e) X.xe s:=by refine dz (o pins s σ H _ I h) λv s1⟨x,j,I1,r1,q1⟩=>?_;refine dz (p pins s1 σ j _ I1 q1) λu s2⟨y,c,I2,r2,q2⟩=>?_;exact q v u s2 x y c I2 r1 r2 q2
noncomputable def JN(i:Nat):TE:=λσ H Q=>∃v,σ[i]?=aD (aD v)/\Q v H
noncomputable def tC(v:V):TE:=λ_ H Q=>Q v H
theorem gP{x:Str}(f:X.N[i]?=aD x)(hv:xR X.env.scope x)(hd:(x==("__debug__":Str))=a_:=by decide)(b:(x==("__classdict__":Str))=a_:=by decide):PE X (.Name x pos) (JN i):=by
 intro pins s σ H Q I h;obtain⟨v,e,h⟩:=h;obtain⟨m,g,j⟩:=I.loc;obtain⟨u,r,l⟩:=j i x v f e hv;have fin:EP X pins σ Q u s:=⟨v,H,I,r,h⟩;rcases l with⟨hk,n⟩|⟨hk,c,hc,a⟩;.exact wpAny_Name (sN I.ok.kind hk g n fin) hd
 . rcases hk with hk|hk;.exact wpAny_Name (tP I.ok.kind hk hc a fin) hd
   .exact wpAny_Name (wpAny_loadName_free I.ok.kind hk hc a fin b) hd
theorem Im{i j pos}:PE X (.Constant (.int i) j pos) (tC (.int i)):=λ_ _ _ H _ I h=>wpAny_Constant_int ⟨.int i,H,I.tok _,⟨_,rfl⟩,h⟩
theorem YM{b j pos}:PE X (.Constant (.bool b) j pos) (tC (.bl b)):=λ_ _ _ H _ I h=>Constant_bool ⟨.bl b,H,I,rfl,h⟩
theorem Vw{j pos}:PE X (.Constant .none j pos) (tC .non):=λ_ _ _ H _ I h=>Constant_none ⟨.non,H,I,rfl,h⟩
noncomputable def Gl(X:Cx)(x:Str):Prop:=X.env.kindOf x=aD .globalImplicit
theorem Qv{E:bV->cp->Prop}{σ:St}{x:Str}{u:bV}{Q:bV->cp->Prop}(I:Inv X pins σ H s)(a:Gl X x)(b:X.mg x=aD u)(h:Q u s)(hd:(x==("__debug__":Str))=a_:=by decide):d_ (ef X.prog X.w) X.A (fF (.Name x pos) X.env) Q E s:=ol I.ok.kind a (Calls.loadGlobal_global (by rw[I.ok.glob];exact I.mod.glob.keeps I.bk) b h) hd
theorem j6{E:bV->cp->Prop}{σ:St}{x:Str}{u:bV}{Q:bV->cp->Prop}(I:Inv X pins σ H s)(a:Gl X x)(b:X.mg x=b_)(hv:gc x=aD u)(h:Q u s)(c:x≠"__name__":=by decide)(hd:(x==("__debug__":Str))=a_:=by decide):d_ (ef X.prog X.w) X.A (fF (.Name x pos) X.env) Q E s:=by obtain⟨f,h1,e⟩:=I.mod.blt;exact ol I.ok.kind a (Calls.loadGlobal_builtin (by rw[I.ok.glob];exact I.mod.glob.keeps I.bk) b (by rw[I.ok.blt];exact h1.keeps I.bk) ((e x c).trans hv) h) hd
noncomputable def t2I(a b:TE)(k:Int->Int->Hp->Prop):St->Hp->Prop:=λσ H=>a σ H λx c=>b σ c λy e=>∃i j,x=.int i/\y=.int j/\k i j e
noncomputable def afA(a b:TE):TE:=λσ H Q=>t2I a b (λi j c=>Q (.int (i+j)) c) σ H
noncomputable def aew(a b:TE):TE:=λσ H Q=>t2I a b (λi j c=>Q (.int (i-j)) c) σ H
variable{a b:eB}{ta tb:TE}{pos:Pos}
theorem LQ(c:PE X a ta)(e:PE X b tb):PE X (.BinOp a .Add b pos) (afA ta tb):=by intro pins s σ H Q I h;refine sR (bin c e I h λv u s2 x y f g l m q=>?_);obtain⟨i,j,rfl,rfl,q⟩:=q;obtain⟨t,rfl⟩:=l;obtain⟨t',rfl⟩:=m;exact add_int ⟨.int _,f,g.tok _,⟨_,rfl⟩,q⟩
theorem Uz(c:PE X a ta)(e:PE X b tb):PE X (.BinOp a .Sub b pos) (aew ta tb):=by intro pins s σ H Q I h;refine sR (bin c e I h λv u s2 x y f g l m q=>?_);obtain⟨i,j,rfl,rfl,q⟩:=q;obtain⟨t,rfl⟩:=l;obtain⟨t',rfl⟩:=m;exact sub_int ⟨.int _,f,g.tok _,⟨_,rfl⟩,q⟩
noncomputable def tB(t:TE):TT:=λσ H Q=>t σ H λx e=>∃c,x=.bl c/\Q c e
theorem T3{e:eB}{t:TE}(h:PE X e t)(he:∀whole,isTrue e X.env whole=(do let v<-whole;pE e.pos;kq [v] (truthy v)):=by intro _;rfl):PT X e (tB t):=by intro pins s σ H Q I c;refine isTrue_plain (dz (h pins s σ H _ I c) λv s1⟨x,H1,I1,r1,q1⟩=>?_) (he _);obtain⟨d,rfl,q⟩:=q1;cases r1;exact jx ⟨H1,I1,q⟩
variable{tA tB':TT}{rest:List eB}
noncomputable def afU(t u:TT):TT:=λσ H Q=>t σ H λc e=>if c=ck then u σ e Q else Q a_ e
noncomputable def tOr(t u:TT):TT:=λσ H Q=>t σ H λc e=>if c=ck then Q ck e else u σ e Q
noncomputable def aee(t:TT):TT:=λσ H Q=>t σ H λc e=>Q (!c) e
theorem QB(f:PT X a tA):PW X (.BoolOp .And [a] pos) tA:=by intro g pins s σ H Q I h;refine isTrue_and (dz (f pins s σ H Q I h) λc s1 e=>?_);cases c with|true=>exact isTrue_and_nil e|false=>exact e
theorem TV(f:PT X a tA):PW X (.BoolOp .Or [a] pos) tA:=by intro g pins s σ H Q I h;refine isTrue_or (dz (f pins s σ H Q I h) λc s1 e=>?_);cases c with|false=>exact isTrue_or_nil e|true=>exact e
theorem S5(f:PT X a tA)(g:PW X (.BoolOp .And (b::rest) pos) tB'):PW X (.BoolOp .And (a::b::rest) pos) (afU tA tB'):=by intro j pins s σ H Q I h;refine isTrue_and (dz (f pins s σ H _ I h) λc s1⟨e,I1,q1⟩=>?_);cases c with|true=>exact g j pins s1 σ e Q I1 q1|false=>exact⟨e,I1,q1⟩
theorem Y0(f:PT X a tA)(g:PW X (.BoolOp .Or (b::rest) pos) tB'):PW X (.BoolOp .Or (a::b::rest) pos) (tOr tA tB'):=by intro j pins s σ H Q I h;refine isTrue_or (dz (f pins s σ H _ I h) λc s1⟨e,I1,q1⟩=>?_);cases c with|true=>exact⟨e,I1,q1⟩|false=>exact g j pins s1 σ e Q I1 q1
theorem V7(e:PT X a tA):PT X (.UnaryOp .Not a pos) (aee tA):=by intro pins s σ H Q I h;exact isTrue_not (e pins s σ H (λc f=>Q (!c) f) I h)
noncomputable def aao(ta tb:TE):TE:=λσ H Q=>ta σ H λx e=>∃c,x=.bl c/\if c=ck then tb σ e Q else Q (.bl a_) e
noncomputable def afY(ta tb:TE):TE:=λσ H Q=>ta σ H λx e=>∃c,x=.bl c/\if c=ck then Q (.bl ck) e else tb σ e Q
theorem Vp{op}{t:TE}(h:PE X a t):PE X (.BoolOp op [a] pos) t:=λpins s σ H Q I c=>BoolOp_one (h pins s σ H Q I c)
theorem Wb(f:PE X a ta)(g:PE X (.BoolOp .And (b::rest) pos) tb):PE X (.BoolOp .And (a::b::rest) pos) (aao ta tb):=by intro pins s σ H Q I h;refine BoolOp_and (dz (f pins s σ H _ I h) λv s1⟨x,H1,I1,r1,e⟩=>?_);obtain⟨c,rfl,e⟩:=e;cases r1;refine jx ?_;cases c with|true=>exact g pins s1 σ H1 Q I1 e|false=>exact⟨.bl a_,H1,I1,rfl,e⟩
theorem La(f:PE X a ta)(g:PE X (.BoolOp .Or (b::rest) pos) tb):PE X (.BoolOp .Or (a::b::rest) pos) (afY ta tb):=by intro pins s σ H Q I h;refine BoolOp_or (dz (f pins s σ H _ I h) λv s1⟨x,H1,I1,r1,e⟩=>?_);obtain⟨c,rfl,e⟩:=e;cases r1;refine jx ?_;cases c with|false=>exact g pins s1 σ H1 Q I1 e|true=>exact⟨.bl ck,H1,I1,rfl,e⟩
noncomputable def tIf(t:TT)(ta tb:TE):TE:=λσ H Q=>t σ H λc e=>if c=ck then ta σ e Q else tb σ e Q
theorem Kw{c:eB}(hc:PT X c tA)(f:PE X a ta)(g:PE X b tb):PE X (.IfExp c a b pos) (tIf tA ta tb):=by intro pins s σ H Q I h;refine wpAny_IfExp (dz (hc pins s σ H _ I h) λd s1⟨e,I1,q1⟩=>?_);cases d with|true=>exact f pins s1 σ e Q I1 q1|false=>exact g pins s1 σ e Q I1 q1
end
noncomputable def fU(K:PySem.W.Frag)(H:Hp)(a:dQ)(xs:List V):Prop:=Rd H a (.lst xs)\/∃(o:Obj)(b:Array bV)(n:Nat),K.lookup a=aD o/\o.cls=.type "list"/\o.dict=b_/\o.data=.seq b n/\b.size<=sizeLine/\Vals xs b.toList
noncomputable def ir(K:PySem.W.Frag)(H:Hp)(a:dQ)(xs:List V):Prop:=Rd H a (.tup xs)\/∃(o:Obj)(b:Array bV)(n:Nat),K.lookup a=aD o/\o.cls=.type "tuple"/\o.data=.seq b n/\b.size<=sizeLine/\Vals xs b.toList
noncomputable def aeK:bV->Option V|.none=>aD .non|.bool b=>aD (.bl b)|.int i _=>aD (.int i)|.str x _=>aD (.str x)|.bytes b _=>aD (.byt b)|.float b _=>aD (.flt b)|.ref a=>aD (.ref a)|.type n=>aD (.ty n)|_=>b_
theorem RelV.abs{x:V}{u:bV}(r:RelV x u):aeK u=aD x:=by cases x with|non=>cases r;rfl|bl _=>cases r;rfl|int _=>obtain⟨t,rfl⟩:=r;rfl|str _=>obtain⟨t,rfl⟩:=r;rfl|byt _=>obtain⟨t,rfl⟩:=r;rfl|flt _=>obtain⟨t,rfl⟩:=r;rfl|ref _=>cases r;rfl|ty _=>cases r;rfl
theorem RelV.inj{x y:V}{u:bV}(r:RelV x u)(q:RelV y u):x=y:=gb (r.abs.symm.trans q.abs)
theorem Vals.inj:∀{xs ys:List V}{us:List bV},Vals xs us->Vals ys us->xs=ys|_,_,_,.nil,.nil=>rfl|_,_,_,.cons r t,.cons a t'=>by rw[r.inj a,Vals.inj t t']
section
variable{X:Cx}{pins:List (dQ×Obj)}{σ:St}{H:Hp}{s:cp}{a:dQ}{xs ys:List V}
theorem fU.of(h:H a=aD (.lst xs)):fU K H a xs:=.inl (.inl h)
theorem ir.of(h:H a=aD (.tup xs)):ir K H a xs:=.inl (.inl h)
theorem Inv.list(I:Inv X pins σ H s)(h:fU X.K H a xs):∃b:List bV,Vals xs b/\PlainL s.heap a b.toArray/\xs.length<=sizeLine:=by
 rcases h with h|⟨o,b,n,c,hc,hd,hs,f,r⟩;.obtain⟨z,b,n,r,e⟩:=h.ok I.hok;exact⟨b,r,⟨_,n,e,rfl,rfl,rfl⟩,z⟩
 .refine⟨b.toList,r,⟨o,n,I.WN a o c,hc,hd,by simpa using hs⟩,?_⟩;have e:=r.length;simp only[jv]at e;lia
theorem Inv.tuple(I:Inv X pins σ H s)(h:ir X.K H a xs):∃b:List bV,Vals xs b/\IsTup s.heap a b.toArray/\xs.length<=sizeLine:=by
 rcases h with h|⟨o,b,n,c,hc,hs,f,r⟩;.obtain⟨z,b,r,p⟩:=h.ok I.hok;exact⟨b,r,p,z⟩
 .refine⟨b.toList,r,⟨o,I.WN a o c,hc,n,by simpa using hs⟩,?_⟩;have e:=r.length;simp only[jv]at e;lia
theorem Inv.nP(I:Inv X pins σ H s)(h:fU X.K H a xs)(h':fU X.K H a ys):xs=ys:=by
 obtain⟨b,r,⟨o,n,e,_,_,d⟩,_⟩:=I.list h;obtain⟨its',f,⟨g,j,c,_,_,d'⟩,_⟩:=I.list h';rw[e]at c;cases c;rw[d]at d';injection d' with d1 _;have:b=its':=by simpa using congrArg toList d1
 subst this;exact r.inj f
theorem Inv.jL(I:Inv X pins σ H s)(h:ir X.K H a xs)(h':ir X.K H a ys):xs=ys:=by
 obtain⟨b,r,⟨o,e,_,n,d⟩,_⟩:=I.tuple h;obtain⟨its',f,⟨g,c,_,j,d'⟩,_⟩:=I.tuple h';rw[e]at c;cases c;rw[d]at d';injection d' with d1 _;have:b=its':=by simpa using congrArg toList d1
 subst this;exact r.inj f
end
noncomputable abbrev Cx.wish(X:Cx)(E:bV->cp->Prop):Cx:={X with xe:=E}
noncomputable abbrev Cx.ZR(X:Cx):Cx:=X.wish λ_ _=>False
theorem Cx.Ok.wish{X:Cx}(ok:X.Ok)(E:bV->cp->Prop):(X.wish E).Ok:=⟨ok.mod,ok.kind,ok.glob,ok.blt,ok.above,ok.inj,ok.has,ok.cab,ok.hd,ok.frames,ok.stk,ok.exf,ok.bs,ok.RQ,ok.Mv,ok.QJ,ok.rN,ok.Yg⟩
theorem Cx.Ok.lK{E:bV->cp->Prop}(ok:(X.wish E).Ok):X.Ok:=⟨ok.mod,ok.kind,ok.glob,ok.blt,ok.above,ok.inj,ok.has,ok.cab,ok.hd,ok.frames,ok.stk,ok.exf,ok.bs,ok.RQ,ok.Mv,ok.QJ,ok.rN,ok.Yg⟩
section
variable{X:Cx}{pins:List (dQ×Obj)}{σ:St}{H:Hp}{s:cp}{E:bV->cp->Prop}
theorem Inv.wish(I:Inv X pins σ H s)(E:bV->cp->Prop):Inv (X.wish E) pins σ H s:=⟨I.ok.wish E,I.os,I.bare,I.base,I.loc,I.cell,I.free,I.m6,I.pin,I.hok,I.len⟩
theorem Inv.lK(I:Inv (X.wish E) pins σ H s):Inv X pins σ H s:=⟨I.ok.lK,I.os,I.bare,I.base,I.loc,I.cell,I.free,I.m6,I.pin,I.hok,I.len⟩
theorem SP.lK{D:Ends}{f:Flow}{b:cp}(h:SP (X.wish E) pins D f b):SP X pins D f b:=by cases f with|next=>obtain⟨a,H',I,q⟩:=h;exact⟨a,H',I.lK,q⟩|brk=>obtain⟨a,H',I,q⟩:=h;exact⟨a,H',I.lK,q⟩|cont=>obtain⟨a,H',I,q⟩:=h;exact⟨a,H',I.lK,q⟩|ret u=>obtain⟨v,a,H',I,r,q⟩:=h;exact⟨v,a,H',I.lK,r,q⟩
theorem zW.ZR{st:List fR}{t:TS}(h:zW X.ZR st t):zW X st t:=λpins s σ H D I a=>fy (h pins s σ H D (I.wish _) a) (λ_ _ q=>q.lK) λ_ _ z=>gu z
end
section
variable{X:Cx}{st:fR}{rest:List fR}{t u:TS}{e:eB}{te:TE}{pos:Pos}
noncomputable def Ri:TS:=λD σ H=>D.nx σ H
noncomputable def ZW(t u:TS):TS:=λD σ H=>t {D with nx:=u D} σ H
theorem vN:zW X [] Ri:=λ_ _ σ H _ I h=>wpAny_execs_nil ⟨σ,H,I,h⟩
theorem lq(h1:PS X st t)(b:zW X rest u):zW X (st::rest) (ZW t u):=by intro pins s σ H D I h;refine wpAny_execs_cons (dz (h1 pins s σ H {D with nx:=u D} I h) λf s1 q=>?_);cases f with|next=>obtain⟨a,H',c,q⟩:=q;exact b pins s1 a H' D c q|ret v=>exact q|brk=>exact q|cont=>exact q
noncomputable def Te:TS:=λD σ H=>D.bk σ H
theorem KN:PS X (.Break pos) Te:=λ_ _ σ H _ I h=>wpAny_Break ⟨σ,H,I,h⟩
theorem Inv.quiet{σ:St}(I:Inv X pins σ H s):interactive X.env=a_:=by simp[interactive,I.ok.kind]
noncomputable def Z2(te:TE):TS:=λD σ H=>te σ H λ_ a=>D.nx σ a
theorem O5(he:PE X e te)(hs:jn e b_ pos.line X.env=fI a_:=by rfl):PS X (.Expr e pos) (Z2 te):=by intro pins s σ H D I h;exact wpAny_Expr_any (dz (he pins s σ H _ I h) λv s1⟨x,H1,I1,r1,q1⟩=>⟨σ,H1,I1,q1⟩) I.quiet hs
noncomputable def adE(te:TE):TS:=λD σ H=>te σ H D.rt
theorem IV(he:PE X e te):PS X (.Return (aD e) pos) (adE te):=by intro pins s σ H D I h;exact wpAny_Return_some (dz (he pins s σ H _ I h) λv s1⟨x,H1,I1,r1,q1⟩=>⟨x,σ,H1,I1,r1,q1⟩)
noncomputable def aeL(c:TT)(t u:TS):TS:=λD σ H=>c σ H λb a=>if b=ck then t D σ a else u D σ a
theorem aaj{c:eB}{a b:List fR}{f:TT}(hc:PT X c f)(j:zW X a t)(l:zW X b u):PS X (.If c a b pos) (aeL f t u):=by intro pins s σ H D I h;refine wpAny_If (dz (hc pins s σ H _ I h) λd s1⟨g,I1,q1⟩=>?_);cases d with|true=>exact j pins s1 σ g D I1 q1|false=>exact l pins s1 σ g D I1 q1
end
noncomputable abbrev TG:=V->St->Hp->(St->Hp->Prop)->Prop
noncomputable abbrev HW:=List V->St->Hp->(St->Hp->Prop)->Prop
noncomputable def PG(X:Cx)(a:eB)(t:TG):Prop:=∀(pins:List (dQ × Obj))(s:cp)(σ:St)(H:Hp)(v:V)(u:bV)(Q:St->Hp->Prop),Inv X pins σ H s->RelV v u->t v σ H Q->d_ (ef X.prog X.w) X.A (kC a X.env u) (λ_ c=>∃b H',Inv X pins b H' c/\Q b H') X.xe s
noncomputable def PGs(X:Cx)(b:List eB)(t:HW):Prop:=∀(pins:List (dQ × Obj))(s:cp)(σ:St)(H:Hp)(vs:List V)(us:List bV)(Q:St->Hp->Prop),Inv X pins σ H s->Vals vs us->t vs σ H Q->d_ (ef X.prog X.w) X.A (assignInOrder ((kd b X.env).map (·.2)) us) (λ_ c=>∃a H',Inv X pins a H' c/\Q a H') X.xe s
noncomputable abbrev Sg:=V->V->V->Hp->(Hp->Prop)->Prop
noncomputable def Yz(X:Cx)(t:Sg):Prop:=∀(pins:List (dQ × Obj))(s:cp)(σ:St)(H:Hp)(o i v:V)(a b u:bV)(Q:Hp->Prop),Inv X pins σ H s->RelV o a->RelV i b->RelV v u->t o i v H Q->d_ (ef X.prog X.w) X.A (pS a b u) (λ_ c=>∃H',Inv X pins σ H' c/\Q H') X.xe s
noncomputable abbrev TIp:=V->V->Hp->VK->Prop
noncomputable def PIp(X:Cx)(op:oj)(t:TIp):Prop:=∀(pins:List (dQ × Obj))(s:cp)(σ:St)(H:Hp)(x y:V)(v u:bV)(Q:VK),Inv X pins σ H s->RelV x v->RelV y u->t x y H Q->d_ (ef X.prog X.w) X.A (inplaceOp op v u) (EP X pins σ Q) X.xe s
section
variable{X:Cx}{pos:Pos}
noncomputable def jG(i:Nat):TG:=λv σ H Q=>Q (σ.set i (aD v)) H
theorem aq{x:Str}(a:X.N.Nodup)(hi:X.N[i]?=aD x)(b:Loc X.env.scope x)(c:X.fn x=ck\/X.env.scope.names.lookup x=aD .local:=by first|(left;rfl)|(right;rfl)|assumption):PG X (.Name x pos) (jG i):=by intro pins s σ H v u Q I r h;exact wpAny_assign_Name (rQ I a hi b r (λf e=>⟨_,H,e,h⟩) c)
noncomputable def P0:HW:=λvs σ H Q=>vs=[]/\Q σ H
noncomputable def uO(t:TG)(u:HW):HW:=λvs σ H Q=>∃v r,vs=v::r/\t v σ H λa H'=>u r a H' Q
theorem bU:PGs X [] P0:=by intro pins s σ H vs us Q I r h;obtain⟨e,h⟩:=h;subst e;cases r;exact assignInOrder_nil ⟨σ,H,I,h⟩
theorem az{e:eB}{es:List eB}{t:TG}{u:HW}(h1:PG X e t)(b:PGs X es u)(hs:(kd (e::es) X.env).map (·.2)=kC e X.env::(kd es X.env).map (·.2):=by rfl):PGs X (e::es) (uO t u):=by intro pins s σ H vs us Q I r h;obtain⟨v,g,c,h⟩:=h;subst c;cases r with|cons r f=>rw[hs];refine assignInOrder_cons (dz (h1 pins s σ H _ _ _ I r h) λ_ s1⟨a,H1,I1,q1⟩=>?_);exact b pins s1 a H1 _ _ Q I1 f q1
noncomputable def Np(K:PySem.W.Frag)(n:Nat)(t:HW):TG:=λv σ H Q=>∃a xs,v=.ref a/\ir K H a xs/\xs.length=n/\t xs σ H Q
theorem cU{es:List eB}{k:Nat}{t:HW}{n:Nat}(hc:X.calm=ck)(h:PGs X es t)(j:(kd es X.env).length=n:=by rfl)(c:(kd es X.env).findIdx? (·.1)=b_:=by rfl):PG X (.Tuple es k pos) (Np X.K n t):=by intro pins s σ H v u Q I r f;obtain⟨a,xs,l,m,p,f⟩:=f;subst l;cases r;obtain⟨q,g,x,B⟩:=I.tuple m;refine assign_Tuple_tuple (I.ok.hd hc) x (by simp[j,<-p,g.length]) c λh' y=>?_;have z:Inv X pins σ H {s with heap:=h'}:=I.kept (t':=s.toks) λb o e=>y b o (eS (eA e)) e;exact h pins _ σ H xs _ Q z (by simpa using g) f
noncomputable def aef(a b:TE)(t:Sg):TG:=λv σ H Q=>a σ H λo c=>b σ c λi e=>t o i v e λf=>Q σ f
theorem Bd{o i:eB}{c e:TE}{t:Sg}(ho:PE X o c)(hi:PE X i e)(hs:Yz X t)(f:∀ v,kC (.Subscript o i pos) X.env v=(do
  let a<-kq [v] (fF o X.env)let b<-kq [v,a] (fF i X.env)pE pos
  kq [v,a,b] (pS a b v)release [v,a,b] []):=by intro _;rfl):PG X (.Subscript o i pos) (aef c e t):=by intro pins s σ H v u Q I r h;rw[f];refine bx (h_ (dz (ho pins s σ H _ I h) λa s1⟨x,H1,I1,r1,q1⟩=>?_));refine bx (h_ (dz (hi pins s1 σ H1 _ I1 q1) λb s2⟨y,H2,I2,r2,q2⟩=>?_));refine bx (rf (bx (h_ (dz (hs pins s2 σ H2 x y v a b u _ I2 r1 r2 r q2) λ_ s3⟨g,I3,q3⟩=>?_))));exact wpAny_release ⟨σ,g,I3,q3⟩
noncomputable def Ov(te:TE)(g:TG):TS:=λD σ H=>te σ H λx a=>g x σ a D.nx
theorem vM{e:eB}{te:TE}{g:TG}(he:PE X e te)(a:PG X tg g)(hs:ls [tg] e pos.line X.env=fI a_:=by rfl)(b:lv [tg] e X.env=fI b_:=by rfl)(h1:(kd [tg] X.env).map (·.2)=[kC tg X.env]:=by rfl):PS X (.Assign [tg] e pos) (Ov te g):=by intro pins s σ H D I h;refine wpAny_Assign_stores (dz (he pins s σ H _ I h) λv s1⟨x,H1,I1,r1,q1⟩=>?_) hs b;rw[h1];exact dz (a pins s1 σ H1 x v _ I1 r1 q1) λ_ s2 q=>q
theorem Bh{x:Str}{e:eB}{te:TE}{a:Pos}(b:X.N.Nodup)(hi:X.N[i]?=aD x)(c:Loc X.env.scope x)(he:PE X e te)(hs:jn e (aD (.Name x a)) pos.line X.env=fI a_:=by rfl)(f:X.fn x=ck\/X.env.scope.names.lookup x=aD .local:=by first|(left;rfl)|(right;rfl)|assumption):PS X (.Assign [.Name x a] e pos) (Ov te (jG i)):=by intro pins s σ H D I h;refine wpAny_Assign_Name (dz (he pins s σ H _ I h) λv s1⟨y,H1,I1,r1,q1⟩=>?_) hs;exact rQ I1 b hi c r1 (λs2 g=>⟨_,H1,g,q1⟩) f
noncomputable def afn(i:Nat)(te:TE)(a:TIp):TS:=λD σ H=>∃x,σ[i]?=aD (aD x)/\te σ H λy b=>a x y b λz c=>D.nx (σ.set i (aD z)) c
theorem Uj{x:Str}{e:eB}{te:TE}{op:oj}{o:TIp}{b:Pos}(p:X.N.Nodup)(hi:X.N[i]?=aD x)(j:Loc X.env.scope x)(he:PE X e te)(ho:PIp X op o)(q:X.fn x=ck\/X.env.scope.names.lookup x=aD .local:=by first|(left;rfl)|(right;rfl)|assumption):PS X (.AugAssign (.Name x b) op e pos) (afn i te o):=by
 intro pins s σ H D I h;obtain⟨v,t,h⟩:=h;obtain⟨m,B,C⟩:=I.loc;have n:xR X.env.scope x:=by rcases j with k|k;exact .inl k;exact .inr (.inl k)
 obtain⟨u,r,l⟩:=C i x v hi t n;refine wpAny_AugAssign_Name ?_;have go:d_ (ef X.prog X.w) X.A (fF e X.env) (λw f=>d_ (ef X.prog X.w) X.A (inplaceOp op u w) (λr g=>d_ (ef X.prog X.w) X.A (storeName X.env x r) (λ_=>SP X pins D .next) X.xe g) X.xe f) X.xe s:=by refine dz (he pins s σ H _ I h) λw s1⟨y,H1,I1,r1,q1⟩=>?_;refine dz (ho pins s1 σ H1 v y u w _ I1 r r1 q1) λz s2⟨J,H2,I2,r2,q2⟩=>?_;exact rQ I2 p hi j r2 (λs3 E=>⟨_,H2,E,q2⟩) q
 rcases l with⟨hk,G⟩|⟨hk,c,hc,a⟩;.exact sN I.ok.kind hk B G go
 . rcases hk with hk|hk;.exact tP I.ok.kind hk hc a go
   . rcases j with k|k;.have:X.env.scope.names.lookup x=aD .free:=hk;rw[k]at this;cases this
     .have:X.env.scope.names.lookup x=aD .free:=hk;rw[k]at this;cases this
noncomputable def ipI(f:Int->Int->Int):TIp:=λx y H Q=>∃i j,x=.int i/\y=.int j/\Q (.int (f i j)) H
theorem Ui:PIp X .Add (ipI λi j=>i+j):=by intro pins s σ H x y v u Q I r1 a h;obtain⟨i,j,b,c,q⟩:=h;subst b;subst c;obtain⟨t,rfl⟩:=r1;obtain⟨t',rfl⟩:=a;exact iadd_int ⟨.int _,H,I.tok _,⟨_,rfl⟩,q⟩
end
structure It where
 go:Nat->Hp->Prop
 Ia:Nat->Hp->V->Hp->Prop
 stop:Nat->Hp->Prop
noncomputable def pO(X:Cx)(pins:List (dQ×Obj))(H:Hp)(b:dQ):Prop:=H b=b_/\b≠X.env.locals/\b∉X.fs/\(b∈X.ex\/X.s₀.heap.objs.size<=b)/\(∀x c,X.env.cells.lookup x=aD c->c≠b)/\∀p∈X.pn++pins,p.1≠b
theorem Inv.xg{σ:St}{H':Hp}{b:dQ}(I:Inv X pins σ H s)(a:s.heap.objs.size<=b)(f:H' b=b_):pO X pins H' b:=by
 refine⟨f,qa (eT I.lt a),I.adt a,.inr (kb I.sz a),λx c e z=>?_,λp g z=>?_⟩;.obtain⟨v,q⟩:=I.cell x c e;exact absurd (eT q.lt (by rw[z];exact a)) (kg _)
 .exact absurd (eT (eA (I.pin p g).1) (by rw[z];exact a)) (kg _)
structure Turn(P:ek)(w:fg)(K:PySem.W.Frag)(tg:eB)(J:It)(fp:List dQ)(it:dQ)(tn:Nat->Heap->Prop):Prop where
 mem:it∈fp
 obj:∀i h,tn i h->∀b∈fp,∃o,h.get? b=aD o/\∀v,o.data≠.cell v
 keep:∀i h h',tn i h->(∀b∈fp,∀o,h.get? b=aD o->h'.get? b=aD o)->tn i h'
 item:∀(X:Cx),X.prog=P->X.w=w->X.K=K->X.calm=ck->∀(i:Nat)(pins:List (dQ×Obj))(s:cp)(σ:St)(H:Hp)(E:bV->cp->Prop),Inv X pins σ H s->(∀b∈fp,pO X pins H b)->tn i s.heap->J.go i H->d_ (ef P w) X.A (kK (.ref it)) (λr s1=>∃u,r=aD u/\d_ (ef P w) X.A (ma tg (.ref it) u) (λ_ s2=>∃x H',Inv X pins σ H' s2/\RelV x u/\J.Ia i H x H'/\tn (i+1) s2.heap/\∀b∈fp,H' b=b_) E s1) E s
 done:∀(X:Cx),X.prog=P->X.w=w->X.K=K->X.calm=ck->∀(i:Nat)(pins:List (dQ×Obj))(s:cp)(σ:St)(H:Hp)(E:bV->cp->Prop),Inv X pins σ H s->(∀b∈fp,pO X pins H b)->tn i s.heap->J.stop i H->d_ (ef P w) X.A (kK (.ref it)) (λr s1=>r=b_/\Inv X pins σ H s1) E s
 self:∀(A:fb)(i:Nat)(s:cp)(Q:bV->cp->Prop)(E:bV->cp->Prop),tn i s.heap->Q (.ref it) s->d_ (ef P w) A (oD (.ref it)) Q E s
noncomputable abbrev TI:=St->Hp->(It->Hp->Prop)->Prop
noncomputable def PIE(X:Cx)(pins:List (dQ×Obj))(σ:St)(tg:eB)(R:It->Hp->Prop)(a:bV)(s2:cp):Prop:=∃(it:dQ)(c:List dQ)(e:Nat->Heap->Prop)(J:It)(H':Hp),a=.ref it/\Inv X pins σ H' s2/\Turn X.prog X.w X.K tg J c it e/\e 0 s2.heap/\(∀b∈c,pO X pins H' b)/\R J H'
noncomputable def PI(X:Cx)(tg iter:eB)(a:TI):Prop:=∀(pins:List (dQ × Obj))(s:cp)(σ:St)(H:Hp)(R:It->Hp->Prop),Inv X pins σ H s->a σ H R->d_ (ef X.prog X.w) X.A (fF iter X.env) (λv s1=>d_ (ef X.prog X.w) X.A (oD v) (PIE X pins σ tg R) X.xe s1) X.xe s
theorem xP{E:bV->cp->Prop}{it:dQ}{u:bV}{o:Obj}{n:String}{vs:Array bV}{Q:Unit->cp->Prop}(ho:s.heap.get? it=aD o)(hc:o.cls=.type n)(hd:o.data=.fields vs)(b:["enumerate","zip","dict_itemiterator","dict_reverseitemiterator","odict_iterator","itertools.zip_longest","itertools.pairwise"].contains n=a_)(a:Q () s):d_ M A (ma tg (.ref it) u) Q E s:=by unfold ma;cases tg<;>first|exact c_ a|(cases u<;>first|exact c_ a|(refine bx (wpAny_load ho ?_);rw[hc,hd];show d_ M A (if(["enumerate","zip","dict_itemiterator","dict_reverseitemiterator","odict_iterator","itertools.zip_longest","itertools.pairwise"].contains n&&vs[0]?==aD (hY _))=ck then _ else _) Q E s;rw[if_neg (by intro h;rw[b,oy]at h;cases h)];exact c_ a))
noncomputable def VD(K:PySem.W.Frag)(a:dQ):It:=⟨λi H=>∃xs x,fU K H a xs/\xs[i]?=aD x,λi H x H'=>H'=H/\∀xs,fU K H a xs->xs[i]?=aD x,λi H=>∃xs,fU K H a xs/\xs.length<=i⟩
noncomputable def WY(K:PySem.W.Frag)(a:dQ):It:=⟨λi H=>∃xs x,ir K H a xs/\xs[i]?=aD x,λi H x H'=>H'=H/\∀xs,ir K H a xs->xs[i]?=aD x,λi H=>∃xs,ir K H a xs/\xs.length<=i⟩
noncomputable def Wu(lo:Int)(n:Nat):It:=⟨λi _=>i<n,λi H x H'=>H'=H/\x=.int (lo+i),λi _=>n<=i⟩
theorem G3{P:ek}(a it:dQ):Turn P w K tg (VD K a) [it] it (λi h=>h.IsListIter it a i)where
 mem:=by simp
 obj:=λi h st b f=>by
  have e:b=it:=by simpa using f
  subst e;obtain⟨o,e,c,d⟩:=st;exact⟨o,e,λv z=>by rw[d]at z;cases z⟩
 keep:=λi h h' st k=>st.at λo e=>k it (by simp) o e;item:=by intro X m n q hc i pins s σ H E I j st r;subst m n q;obtain⟨xs,x,l,t⟩:=r;obtain⟨y,B,p,C⟩:=I.list l;obtain⟨u,G,J⟩:=B.get t;obtain⟨f0,f1,f2,f3,f4,f5⟩:=j it (by simp);refine wpAny_pyNext_list_item st p.isList (x:=u) (by simpa using G) λh' g L=>?_;have N:Inv X pins σ H {s with heap:=h'}:=I.turned (t':=s.toks) (λb o f e=>(L.2 b f).trans e) f0 f1 f3 f4 f5;obtain⟨o,e,c,d⟩:=id g;exact⟨u,rfl,xP (s:={s with heap:=h'}) e c d (by decide) ⟨x,H,N,J,⟨rfl,λys O=>by rw[I.nP O l];exact t⟩,g,λb f=>(j b f).1⟩⟩
 done:=by intro X m n q hc i pins s σ H E I j st r;subst m n q;obtain⟨xs,l,t⟩:=r;obtain⟨y,B,p,C⟩:=I.list l;obtain⟨f0,f1,f2,f3,f4,f5⟩:=j it (by simp);have U:=B.length;exact wpAny_pyNext_list_end (I.ok.hd hc) st p.isList (by simp;lia) λh' Q=>⟨rfl,I.turned (t':=s.toks) (λb o f e=>Q b o f e) f0 f1 f3 f4 f5⟩
 self:=λ_ _ _ _ _ st h=>wpAny_pyIter_listiter st h
theorem Bq{P:ek}(a it:dQ):Turn P w K tg (WY K a) [it] it (λi h=>h.IsTupleIter it a i)where
 mem:=by simp
 obj:=λi h st b f=>by
  have e:b=it:=by simpa using f
  subst e;obtain⟨o,e,c,d⟩:=st;exact⟨o,e,λv z=>by rw[d]at z;cases z⟩
 keep:=λi h h' st k=>st.at λo e=>k it (by simp) o e;item:=by intro X n q r hc i pins s σ H E I l st t;subst n q r;obtain⟨xs,x,m,y⟩:=t;obtain⟨g,B,p,C⟩:=I.tuple m;obtain⟨u,G,J⟩:=B.get y;obtain⟨f0,f1,f2,f3,f4,f5⟩:=l it (by simp);refine wpAny_pyNext_tuple_item st (show s.heap.IsTuple a g.toArray from p) (x:=u) (by simpa using G) λh' j L=>?_;have N:Inv X pins σ H {s with heap:=h'}:=I.turned (t':=s.toks) (λb o f e=>(L.2 b f).trans e) f0 f1 f3 f4 f5;obtain⟨o,e,c,d⟩:=id j;exact⟨u,rfl,xP (s:={s with heap:=h'}) e c d (by decide) ⟨x,H,N,J,⟨rfl,λys O=>by rw[I.jL O m];exact y⟩,j,λb f=>(l b f).1⟩⟩
 done:=by intro X n q r hc i pins s σ H E I l st t;subst n q r;obtain⟨xs,m,y⟩:=t;obtain⟨g,B,p,C⟩:=I.tuple m;obtain⟨f0,f1,f2,f3,f4,f5⟩:=l it (by simp);have U:=B.length;exact wpAny_pyNext_tuple_end (I.ok.hd hc) st (show s.heap.IsTuple a g.toArray from p) (by simp;lia) λh' Q=>⟨rfl,I.turned (t':=s.toks) (λb o f e=>Q b o f e) f0 f1 f3 f4 f5⟩
 self:=λ_ _ _ _ _ st h=>wpAny_pyIter_tupleiter st h
theorem Cz{P:ek}(it:dQ)(lo:Int)(n:Nat):Turn P w K tg (Wu lo n) [it] it (λi h=>IsRangeIter h it (lo+(i:Nat)*1) ((n:Int)-(i:Nat)) 1)where
 mem:=by simp
 obj:=λi h st b a=>by
  have e:b=it:=by simpa using a
  subst e;exact⟨_,st,λv z=>by have q:Data.fields _=Data.cell v:=z;cases q⟩
 keep:=λi h h' st k=>k it (by simp) _ st;item:=by intro X g j l hc i pins s σ H E I f st m;subst g j l;obtain⟨f0,f1,f2,f3,f4,f5⟩:=f it (by simp);have W:=Walks.range (prog:=X.prog) (w:=X.w) (I.ok.hd hc) it lo 1 n;refine W.item i s _ _ m st λv h' p hv c r=>?_;obtain⟨t,rfl⟩:=hv;have u:Inv X pins σ H {s with heap:=h',toks:=p}:=I.turned (λb o a e=>r b o (by simpa using a) e) f0 f1 f3 f4 f5;refine⟨_,rfl,xP (s:={s with heap:=h',toks:=p}) (n:="range_iterator") c rfl rfl (by decide) ⟨.int (lo+i),H,u,⟨t,?_⟩,⟨rfl,rfl⟩,c,λb a=>(f b a).1⟩⟩;rw[Int.mul_one]
 done:=by intro X g j l hc i pins s σ H E I f st m;subst g j l;obtain⟨f0,f1,f2,f3,f4,f5⟩:=f it (by simp);exact wpAny_pyNext_range_end (I.ok.hd hc) st (by have:n<=i:=m;lia) λh' x=>⟨rfl,I.turned (t':=s.toks) (λb o a e=>x b o a e) f0 f1 f3 f4 f5⟩
 self:=λ_ _ _ _ _ st h=>wpAny_pyIter_rangeiter st h
section
variable{X:Cx}{tg:eB}
theorem yw{σ:St}{R:It->Hp->Prop}{E:bV->cp->Prop}{lo hi:Int}{t u v:Tok}{a:Nat}(I:Inv X pins σ H s)(h1:-(2^62)<=lo)(f:lo<2^62)(g:-(2^62)<=hi)(j:hi<2^62)(q:R (Wu lo (hi-lo).toNat) H):d_ (ef X.prog X.w) X.A (oD (.ref s.heap.objs.size)) (PIE X pins σ tg R) E {s with heap:=s.heap.push {cls:=.type "range",data:=.fields #[.int lo t,.int hi u,.int 1 v]},toks:=a}:=by
 refine wpAny_pyIter_range (IsRange.new ..) (small_one h1 f g j) ?_;have c:Inv X pins σ H {s with heap:=s.heap.push {cls:=.type "range",data:=.fields #[.int lo t,.int hi u,.int 1 v]},toks:=a}:=I.kept λb o e=>eO e;refine⟨(s.heap.push {cls:=.type "range",data:=.fields #[.int lo t,.int hi u,.int 1 v]}).objs.size,[(s.heap.push {cls:=.type "range",data:=.fields #[.int lo t,.int hi u,.int 1 v]}).objs.size],_,_,H,rfl,c.kept (t':=a) λb o e=>eO e,Cz _ lo (hi-lo).toNat,?_,λb l=>?_,q⟩
 . have m:lo+((0:Nat):Int)*1=lo:=by simp
   have n:(((hi-lo).toNat:Nat):Int)-((0:Nat):Int)=Builtin.Range.rangeSize lo hi 1:=by rw[rangeSize_one];split<;>lia
   show IsRangeIter _ _ (lo+((0:Nat):Int)*1) ((((hi-lo).toNat:Nat):Int)-((0:Nat):Int)) 1;rw[m,n];exact dZ _ rfl
 . have e:b=(s.heap.push {cls:=.type "range",data:=.fields #[.int lo t,.int hi u,.int 1 v]}).objs.size:=by simpa using l
   subst e;exact c.xg (di) (c.hok.fresh (di))
noncomputable def Z7(a:TA):TI:=λσ H R=>a σ H λvs b=>∃j:Int,vs=[.int j]/\-(2^62)<=j/\j<2^62/\R (Wu 0 j.toNat) b
noncomputable def Ze(a:TA):TI:=λσ H R=>a σ H λvs b=>∃i j:Int,vs=[.int i,.int j]/\(-(2^62)<=i/\i<2^62/\-(2^62)<=j/\j<2^62)/\R (Wu i (j-i).toNat) b
theorem Gr{a:eB}{c:TA}{p:Pos}(f:Gl X "range")(g:X.mg "range"=b_)(l:PA X [a] c)(hs:ea [a] X.env=[(a_,fF a X.env)]:=by rfl):PI X tg (.Call (.Name "range" p) [a] [] pos) (Z7 c):=by intro pins s σ H R I h;refine tO (j6 I f g boot_range (fx (dz (l pos pins s σ H _ I h) λus s1⟨vs,H1,I1,r1,b⟩=>?_) hs rfl));obtain⟨j,e,b,m,q⟩:=b;subst e;cases r1 with|cons r n=>cases n;obtain⟨t,rfl⟩:=r;exact call_range_1 (yw I1 (by lia) (by lia) b m (by simpa using q))
theorem uM{a b:eB}{l:TA}{p:Pos}(m:Gl X "range")(n:X.mg "range"=b_)(o:PA X [a,b] l)(hs:ea [a,b] X.env=[(a_,fF a X.env),(a_,fF b X.env)]:=by rfl)(c:ea [b] X.env=[(a_,fF b X.env)]:=by rfl):PI X tg (.Call (.Name "range" p) [a,b] [] pos) (Ze l):=by intro pins s σ H R I h;refine tO (j6 I m n boot_range (fx (dz (o pos pins s σ H _ I h) λus s1⟨vs,H1,I1,r1,f⟩=>?_) (by rw[hs,c]) (by rw[c];rfl)));obtain⟨i,j,e,⟨f,u,v,x⟩,q⟩:=f;subst e;cases r1 with|cons r g=>cases g with|cons y g=>cases g;obtain⟨t,rfl⟩:=r;obtain⟨t',rfl⟩:=y;exact call_range_2 (yw I1 f u v x q)
noncomputable def aeE(e:TI)(g:TG)(f:TS):TS:=λD σ H=>e σ H λJ j=>∃W:Nat->Nat->St->Hp->Prop,(∃m,W 0 m σ j)/\∀i m σ H,W i m σ H->(J.stop i H/\D.nx σ H)\/(J.go i H/\∃N:St->Hp->Prop,(∀a H',N a H'->∃c,c<m/\W (i+1) c a H')/\∀x H',J.Ia i H x H'->g x σ H' λb l=>f {D with nx:=N,ct:=N,bk:=D.nx} b l)
noncomputable def tu(a:List dQ)(h:Heap):List (dQ×Obj):=a.filterMap λb=>(h.get? b).map λo=>(b,o)
theorem jV{a:List dQ}{b:dQ}{o:Obj}(c:b∈a)(e:h.get? b=aD o):(b,o)∈tu a h:=k4.mpr ⟨b,c,by rw[e];rfl⟩
theorem Hk{a:List dQ}{p:dQ×Obj}(c:p∈tu a h):p.1∈a/\h.get? p.1=aD p.2:=by obtain⟨b,f,e⟩:=k4.mp c;cases q:h.get? b with|none=>rw[q]at e;cases e|some o=>rw[q]at e;have g:(b,o)=p:=gb e;subst g;exact⟨f,q⟩
theorem Inv.pinned{σ:St}{a:List dQ}(I:Inv X pins σ H s)(g:∀b∈a,pO X pins H b)(ho:∀b∈a,∃o,s.heap.get? b=aD o/\∀v,o.data≠.cell v):Inv X (pins++tu a s.heap) σ H s:=I.Fj λp j=>(gl.mp j).elim (λz=>I.pin p (gA _ z)) λz=>by obtain⟨c,e⟩:=Hk z;obtain⟨f0,f1,f2,_⟩:=g p.1 c;obtain⟨o,f,d⟩:=ho p.1 c;rw[e]at f;cases f;exact⟨e,f0,f1,f2,d⟩
theorem Inv.oW{pl:List (dQ×Obj)}{σ:St}(I:Inv X (pins++pl) σ H s):Inv X pins σ H s:=I.Fj λp a=>I.pin p (gA _ (ra _ a))
theorem Ay{iter:eB}{body:List fR}{Y:TI}{g:TG}{Z:TS}(z:oQ (ef X.prog X.w) X.A X.env X.xe)(hc:X.calm=ck)(hi:PI X tg iter Y)(hg:PG X tg g)(c:zW X body Z)(hs:∀x,gd iter X.env x=fI x:=by intro _;rfl):PS X (.For tg iter body [] pos) (aeE Y g Z):=by
 intro pins s σ H D I h;refine wpAny_For (dz (hi pins s σ H _ I h) λv s1 h1=>dz h1 λab s2 h2=>?_) hs;obtain⟨it,B,tn,J,H2,e,I2,T,O,f2,W,⟨m0,w0⟩,turn⟩:=h2;subst e--what stays ck of the iterator's objects through the loop
 have j:∀{H':Hp},(∀b∈B,H' b=b_)->∀b∈B,pO X pins H' b:=λhn b c=>⟨hn b c,(f2 b c).2⟩;refine codeAny_forLoop_any (λn s'=>∃i l H',Inv X pins l H' s'/\tn i s'.heap/\(∀b∈B,H' b=b_)/\W i n l H') ?_ m0 ⟨0,σ,H2,I2,O,λb c=>(f2 b c).1,w0⟩;rintro n s3⟨i,p,L,I3,C,E,w3⟩;rcases turn i n p L w3 with⟨stop,qn⟩|⟨go,N,hN,step⟩;.refine k5 z (dz (T.done X rfl rfl rfl hc i pins s3 p L X.xe I3 (j E) C stop) λr s4⟨hr,I4⟩=>?_);subst hr;exact wpAny_execs_nil ⟨p,L,I4,qn⟩
 . refine k5 z (dz (T.item X rfl rfl rfl hc i pins s3 p L X.xe I3 (j E) C go) λr s4⟨u,hr,h4⟩=>?_);subst hr;refine k5 z (dz h4 λ_ s5⟨x,H5,I5,r5,y5,Wi,fr5⟩=>?_);have Q:=I5.pinned (j fr5) (T.obj _ _ Wi);refine k5 z (dz (hg _ s5 p H5 x u _ Q r5 (step x H5 y5)) λ_ s6⟨U,H6,I6,q6⟩=>?_);refine k5 z (dz (c _ s6 U H6 _ I6 q6) λf s7 y=>?_);have again:∀{a:St}{q:Hp},Inv X (pins++tu B s5.heap) a q s7->N a q->∃m,m<n/\∃i l H',Inv X pins l H' s7/\tn i s7.heap/\(∀b∈B,H' b=b_)/\W i m l H':=λ{a q}t G=>by obtain⟨m',hm,w7⟩:=hN a q G;refine⟨m',hm,i+1,a,q,t.oW,T.keep _ _ _ Wi λb c o e=>(t.pin (b,o) (gA _ (gA _ (jV c e)))).1,λb c=>?_,w7⟩;obtain⟨o,e,d⟩:=T.obj _ _ Wi b c;exact(t.pin (b,o) (gA _ (gA _ (jV c e)))).2.1
   cases f with|next=>obtain⟨a,q,t,G⟩:=y;exact again t G|cont=>obtain⟨a,q,t,G⟩:=y;exact again t G|brk=>obtain⟨a,q,t,y⟩:=y;exact⟨a,q,t.oW,y⟩|ret v=>obtain⟨x7,a,q,t,r7,y⟩:=y;exact⟨x7,a,q,t.oW,r7,y⟩
end
noncomputable abbrev R2:=V->V->Hp->VK->Prop
noncomputable def jb(X:Cx)(f:bV->bV->Sem bV)(r:R2):Prop:=∀(pins:List (dQ × Obj))(s:cp)(σ:St)(H:Hp)(x y:V)(v u:bV)(Q:VK),Inv X pins σ H s->RelV x v->RelV y u->r x y H Q->d_ (ef X.prog X.w) X.A (f v u) (EP X pins σ Q) X.xe s
noncomputable def UnR(X:Cx)(f:bV->Sem bV)(r:V->Hp->VK->Prop):Prop:=∀(pins:List (dQ × Obj))(s:cp)(σ:St)(H:Hp)(x:V)(v:bV)(Q:VK),Inv X pins σ H s->RelV x v->r x H Q->d_ (ef X.prog X.w) X.A (f v) (EP X pins σ Q) X.xe s
noncomputable def dO(X:Cx)(f:bV)(r:List V->Hp->VK->Prop):Prop:=∀(pins:List (dQ × Obj))(s:cp)(σ:St)(H:Hp)(xs:List V)(us:List bV)(Q:VK),Inv X pins σ H s->Vals xs us->r xs H Q->d_ (ef X.prog X.w) X.A (call f us) (EP X pins σ Q) X.xe s
noncomputable def MN(r:R2)(a b:TE):TE:=λσ H Q=>a σ H λx c=>b σ c λy e=>r x y e Q
noncomputable def tUn(r:V->Hp->VK->Prop)(a:TE):TE:=λσ H Q=>a σ H λx b=>r x b Q
noncomputable def rI(C:Int->Int->Prop)(g:Int->Int->V):R2:=λx y H Q=>∃i j,x=.int i/\y=.int j/\C i j/\Q (g i j) H
noncomputable def MT(g:Int->Int->V):R2:=λx y H Q=>∃i j,x=.int i/\y=.int j/\Q (g i j) H
noncomputable def rU(g:Int->V):V->Hp->VK->Prop:=λx H Q=>∃i,x=.int i/\Q (g i) H
section
variable{X:Cx}{a b c:eB}{ta tb tc:TE}{pos:Pos}
theorem Tp(m:PE X a ta)(n:PE X b tb){σ:St}{R:V->V->Hp->Prop}(I:Inv X pins σ H s)(h:ta σ H λx l=>tb σ l λy e=>R x y e){Q:bV->cp->Prop}{f:bV->bV->Sem bV}(o:∀v u s2 x y e,Inv X pins σ e s2->RelV x v->RelV y u->R x y e->d_ (ef X.prog X.w) X.A (f v u) Q X.xe s2):d_ (ef X.prog X.w) X.A (fF a X.env) (λv g=>d_ (ef X.prog X.w) X.A (fF b X.env) (λu j=>d_ (ef X.prog X.w) X.A (f v u) Q X.xe j) X.xe g) X.xe s:=by refine dz (m pins s σ H _ I h) λv s1⟨x,l,I1,r1,q1⟩=>?_;refine dz (n pins s1 σ l _ I1 q1) λu s2⟨y,e,I2,r2,q2⟩=>?_;exact o v u s2 x y e I2 r1 r2 q2
theorem Zu{op:oj}{r:R2}(ho:jb X (g_ op) r)(e:PE X a ta)(f:PE X b tb):PE X (.BinOp a op b pos) (MN r ta tb):=by intro pins s σ H Q I h;exact sR (Tp e f I h λv u s2 x y g j l m q=>ho pins s2 σ g x y v u Q j l m q)
theorem QX{op:UnaryOp}{r:V->Hp->VK->Prop}(ho:UnR X (unaryOp op) r)(e:PE X a ta):PE X (.UnaryOp op a pos) (tUn r ta):=by intro pins s σ H Q I h;exact UnaryOp_ (dz (e pins s σ H _ I h) λv s1⟨x,H1,I1,r1,q1⟩=>ho pins s1 σ H1 x v Q I1 r1 q1)
theorem opI{f:bV->bV->Sem bV}{C:Int->Int->Prop}{g:Int->Int->Int}(rule:∀(i j:Int)(t u:Tok)(s:cp)(Q:bV->cp->Prop)(E:bV->cp->Prop),C i j->Q (.int (g i j) s.toks) {s with toks:=s.toks+1}->d_ (ef X.prog X.w) X.A (f (.int i t) (.int j u)) Q E s):jb X f (rI C λi j=>.int (g i j)):=by intro pins s σ H x y v u Q I e l h;obtain⟨i,j,rfl,rfl,hc,q⟩:=h;obtain⟨t,rfl⟩:=e;obtain⟨t',rfl⟩:=l;exact rule i j t t' s _ _ hc ⟨.int (g i j),H,I.tok _,⟨_,rfl⟩,q⟩
theorem ZZ{f:bV->bV->Sem bV}{g:Int->Int->Int}(rule:∀(i j:Int)(t u:Tok)(s:cp)(Q:bV->cp->Prop)(E:bV->cp->Prop),Q (.int (g i j) s.toks) {s with toks:=s.toks+1}->d_ (ef X.prog X.w) X.A (f (.int i t) (.int j u)) Q E s):jb X f (MT λi j=>.int (g i j)):=by intro pins s σ H x y v u Q I e l h;obtain⟨i,j,rfl,rfl,q⟩:=h;obtain⟨t,rfl⟩:=e;obtain⟨t',rfl⟩:=l;exact rule i j t t' s _ _ ⟨.int (g i j),H,I.tok _,⟨_,rfl⟩,q⟩
theorem Qf{f:bV->bV->Sem bV}{g:Int->Int->Bool}(rule:∀(i j:Int)(t u:Tok)(s:cp)(Q:bV->cp->Prop)(E:bV->cp->Prop),Q (.bool (g i j)) s->d_ (ef X.prog X.w) X.A (f (.int i t) (.int j u)) Q E s):jb X f (MT λi j=>.bl (g i j)):=by intro pins s σ H x y v u Q I e l h;obtain⟨i,j,rfl,rfl,q⟩:=h;obtain⟨t,rfl⟩:=e;obtain⟨t',rfl⟩:=l;exact rule i j t t' s _ _ ⟨.bl (g i j),H,I,rfl,q⟩
noncomputable def afr(i j:Int):Prop:=0<=j/\j<=1000000/\i.natAbs<2^64
noncomputable def Uw(i j:Int):Prop:=(-(2^64)<i/\i<2^64)\/(-(2^64)<j/\j<2^64)
theorem Uw.ok{i j:Int}(h:Uw i j):IntMulOk i j:=by
 rcases h with⟨h1,e⟩|⟨h1,e⟩;.exact .of_left (intBits_le_64 h1 e)
 .exact .of_right (intBits_le_64 h1 e)
theorem Vj:jb X (g_ .Add) (MT λi j=>.int (i+j)):=ZZ λ_ _ _ _ _ _ _ q=>add_int q
theorem Uk:jb X (g_ .Sub) (MT λi j=>.int (i-j)):=ZZ λ_ _ _ _ _ _ _ q=>sub_int q
theorem R6:jb X (g_ .Mult) (rI Uw λi j=>.int (i*j)):=opI λ_ _ _ _ _ _ _ hc q=>mul_int q hc.ok
theorem U5:jb X (g_ .Mod) (rI (λ_ j=>0<j) λi j=>.int (i%j)):=opI λi j _ _ _ _ _ hc q=>by have h1:(0:Int)<j:=hc;exact mod_int' (by lia) (by rw[Int.fmod_eq_emod_of_nonneg i (by lia)];exact q)
theorem VN:jb X (g_ .Pow) (rI afr λi j=>.int (i^j.toNat)):=opI λ_ _ _ _ _ _ _ hc q=>pow_int_small hc.1 hc.2.1 hc.2.2 q
theorem unI{f:bV->Sem bV}{g:Int->Int}(rule:∀(i:Int)(t:Tok)(s:cp)(Q:bV->cp->Prop)(E:bV->cp->Prop),Q (.int (g i) s.toks) {s with toks:=s.toks+1}->d_ (ef X.prog X.w) X.A (f (.int i t)) Q E s):UnR X f (rU λi=>.int (g i)):=by intro pins s σ H x v Q I e h;obtain⟨i,rfl,q⟩:=h;obtain⟨t,rfl⟩:=e;exact rule i t s _ _ ⟨.int (g i),H,I.tok _,⟨_,rfl⟩,q⟩
theorem Mm:UnR X (unaryOp .USub) (rU λi=>.int (-i)):=unI λ_ _ _ _ _ q=>neg_int q
end
section
variable{X:Cx}{a b c:eB}{ta tb tc:TE}{pos:Pos}
theorem Ue{σ:St}{Q:VK}{k f:Bool}(I:Inv X pins σ H s)(q:Q (.bl k) H)(e:k=f):EP X pins σ Q (.bool f) s:=by subst e;exact⟨.bl k,H,I,rfl,q⟩
theorem Yq:jb X (fE .Lt) (MT λi j=>.bl (decide (i<j))):=Qf λ_ _ _ _ _ _ _ q=>lt_int q
theorem Zo:jb X (fE .LtE) (MT λi j=>.bl (decide (i<=j))):=Qf λ_ _ _ _ _ _ _ q=>le_int q
theorem Y8:jb X (fE .Gt) (MT λi j=>.bl (decide (j<i))):=Qf λ_ _ _ _ _ _ _ q=>gt_int q
theorem aar:jb X (fE .GtE) (MT λi j=>.bl (decide (j<=i))):=Qf λ_ _ _ _ _ _ _ q=>ge_int q
theorem VR:jb X (fE .Is) (λx y H Q=>y=.non/\Q (.bl (decide (x=.non))) H):=by intro pins s σ H x y v u Q I e f h;obtain⟨rfl,q⟩:=h;cases f;refine is_none_gen (Ue I q ?_);cases x<;>first|(cases e;rfl)|(obtain⟨t,rfl⟩:=e;rfl)
theorem aeh{op:CmpOp}{es:List eB}{k:Nat}{p:Pos}(e:(op==CmpOp.In)=a_)(f:(op==qV)=a_):kR op (.Set es k p)=a_:=by show(k==0&&(op==CmpOp.In||op==qV)&&_)=a_;rw[e,f];cases(k==0)<;>rfl
theorem bj(b:eB)(h:op≠.In:=by decide)(e:op≠.NotIn:=by decide):kR op b=a_:=by
 have f:(op==CmpOp.In)=a_:=by cases op<;>first|rfl|exact absurd rfl h
 have g:(op==qV)=a_:=by cases op<;>first|rfl|exact absurd rfl e
 cases b<;>first|rfl|exact aeh f g
theorem Pq{r:R2}(ho:jb X (fE op) r)(e:PE X a ta)(f:PE X b tb)(g:kR op b=a_):PE X (.Compare a [op] [b] pos) (MN r ta tb):=by intro pins s σ H Q I h;exact wpAny_Compare1 (Tp e f I h λv u s2 x y j l m n q=>ho pins s2 σ j x y v u Q l m n q) g
noncomputable def Y9(t:TE):TT:=λσ H Q=>t σ H λx H'=>∃k,x=.bl k/\Q k H'
theorem Qc{r:R2}(ho:jb X (fE op) r)(f:PE X a ta)(g:PE X b tb)(j:kR op b=a_):PT X (.Compare a [op] [b] pos) (Y9 (MN r ta tb)):=by intro pins s σ H Q I h;refine wpAny_isTrue_Compare1 (dz (f pins s σ H _ I h) λv s1⟨x,H1,I1,r1,q1⟩=>dz (g pins s1 σ H1 _ I1 q1) λu s2⟨y,H2,I2,r2,q2⟩=>dz (ho pins s2 σ H2 x y v u _ I2 r1 r2 q2) λc s3⟨z,H3,I3,r3,k,e,q3⟩=>?_) j;subst e;cases r3;exact jx ⟨H3,I3,q3⟩
noncomputable def V4(r f:R2)(ta tb tc:TE):TE:=λσ H Q=>ta σ H λx g=>tb σ g λy j=>r x y j λz e=>∃k,z=.bl k/\(if k=ck then tc σ e λl m=>f y l m Q else Q (.bl a_) e)
theorem Lq{f:CmpOp}{r j:R2}(ho:jb X (fE op) r)(g:jb X (fE f) j)(l:PE X a ta)(m:PE X b tb)(hc:PE X c tc)(n:lastMarks [op,f] [b,c]=a_:=by with_unfolding_all rfl):PE X (.Compare a [op,f] [b,c] pos) (V4 r j ta tb tc):=by intro pins s σ H Q I h;refine Compare_chain (dz (l pins s σ H _ I h) λv s1⟨x,H1,I1,r1,q1⟩=>chain_link (dz (m pins s1 σ H1 _ I1 q1) λu s2⟨y,H2,I2,r2,q2⟩=>dz (ho pins s2 σ H2 x y v u _ I2 r1 r2 q2) λd s3⟨z,H3,I3,r3,k,e,q3⟩=>?_)) n;subst e;cases r3;refine jx ?_;cases k with|false=>exact ite_ff ⟨.bl a_,H3,I3,rfl,q3⟩|true=>exact ite_tt (chain_last (dz (hc pins s3 σ H3 _ I3 q3) λo s4⟨p,H4,I4,r4,q4⟩=>g pins s4 σ H4 y p u o Q I4 r2 r4 q4))
theorem vX:(sizeLine:Nat)<2^63:=by rw[gX];decide
theorem Cv:jb X (g_ .Add) (λx y H Q=>∃i j,x=.str i/\y=.str j/\i.length+j.length<=sizeLine/\Q (.str (i++j)) H):=by intro pins s σ H x y v u Q I e f h;obtain⟨i,j,rfl,rfl,g,q⟩:=h;obtain⟨t,rfl⟩:=e;obtain⟨t',rfl⟩:=f;exact add_str (λt' l=>⟨.str (i++j),H,I.tok _,⟨_,rfl⟩,q⟩) g
theorem vals1{x:V}(r:Vals [x] us):∃u,us=[u]/\RelV x u:=by cases r with|cons r1 e=>cases e;exact⟨_,rfl,r1⟩
theorem vals2{x y:V}(r:Vals [x,y] us):∃u e,us=[u,e]/\RelV x u/\RelV y e:=by cases r with|cons r1 f=>cases f with|cons g j=>cases j;exact⟨_,_,rfl,r1,g⟩
theorem Jf:dO X (.builtin "abs") (λxs H Q=>∃i,xs=[.int i]/\Q (.int (if i<0 then-i else i)) H):=by intro pins s σ H xs us Q I r h;obtain⟨i,rfl,q⟩:=h;obtain⟨u,rfl,t,rfl⟩:=vals1 r;exact call_abs_int λu e=>⟨.int (if i<0 then-i else i),H,I.tok _,⟨_,rfl⟩,q⟩
theorem Hg(hc:X.calm=ck):dO X (.builtin "max") (λxs H Q=>∃i j,xs=[.int i,.int j]/\Q (.int (if j>i then j else i)) H):=by
 intro pins s σ H xs us Q I r h;obtain⟨i,j,rfl,q⟩:=h;obtain⟨u,f,rfl,⟨t,rfl⟩,⟨t',rfl⟩⟩:=vals2 r;refine max_two_ints (I.ok.hd hc) λh' g k=>⟨_,H,I.kept k,?_,q⟩;by_cases e:j>i;.rw[if_pos e,if_pos e];exact⟨_,rfl⟩
 .rw[if_neg e,if_neg e];exact⟨_,rfl⟩
theorem Gi(hc:X.calm=ck):dO X (.builtin "min") (λxs H Q=>∃i j,xs=[.int i,.int j]/\Q (.int (if j<i then j else i)) H):=by
 intro pins s σ H xs us Q I r h;obtain⟨i,j,rfl,q⟩:=h;obtain⟨u,f,rfl,⟨t,rfl⟩,⟨t',rfl⟩⟩:=vals2 r;refine min_two_ints (I.ok.hd hc) λh' g k=>⟨_,H,I.kept k,?_,q⟩;by_cases e:j<i;.rw[if_pos e,if_pos e];exact⟨_,rfl⟩
 .rw[if_neg e,if_neg e];exact⟨_,rfl⟩
theorem uv:dO X (.type "int") (λxs H Q=>(∃i,xs=[.int i]/\Q (.int i) H)\/∃k,xs=[.bl k]/\Q (.int (if k then 1 else 0)) H):=by
 intro pins s σ H xs us Q I r h;rcases h with⟨i,rfl,q⟩|⟨k,rfl,q⟩;.obtain⟨u,rfl,t,rfl⟩:=vals1 r;exact call_int_int ⟨.int i,H,I,⟨_,rfl⟩,q⟩
 .obtain⟨u,rfl,r1⟩:=vals1 r;cases r1;exact call_int_bool ⟨.int (if k then 1 else 0),H,I.tok _,⟨_,rfl⟩,q⟩
end
theorem qw.some_of{v:V}{o:Option bV}(r:qw (aD v) o):∃u,o=aD u/\RelV v u:=by cases o with|none=>exact(show False from r).elim|some u=>exact⟨u,rfl,r⟩
structure lM(k:Nat)(A:fb):Prop where
 hd:A.handled=b_
 dp:A.depth+3*k+5<recursionLimit
 un:A.units+16*k+200<i9
theorem lM.deeper{k:Nat}{A:fb}(r:lM (k+1) A)(env:Env):lM k (A.deeper env):=⟨r.hd,by have:=r.dp;show A.depth+1+3*k+5<_;lia,by have:=r.un;show A.units+3+16*k+200<_;lia⟩
theorem lM.depth{k:Nat}{A:fb}(r:lM k A):A.depth<recursionLimit:=by have:=r.dp;lia
noncomputable def afN:TA:=λ_ H Q=>Q [] H
noncomputable def ZJ(a:TE)(b:TA):TA:=λσ H Q=>a σ H λx c=>b σ c λxs e=>Q (x::xs) e
section
variable{X:Cx}{e:eB}{es:List eB}{te:TE}{t:TA}{pos:Pos}
theorem jr:PA X [] afN:=λ_ _ _ _ H Q I h=>mN ⟨[],H,I,.nil,h⟩
theorem eN(a:PE X e te)(hr:PA X es t)(hs:ea (e::es) X.env=(a_,fF e X.env)::ea es X.env:=by rfl):PA X (e::es) (ZJ te t):=by intro pos pins s σ H Q I h;rw[hs];show d_ _ _ (spliced ((a_,fF e X.env)::kN pos (ea es X.env))) _ _ s;refine kX (dz (a pins s σ H _ I h) λu s1⟨x,H1,I1,r1,q1⟩=>?_);exact dz (hr pos pins s1 σ H1 _ I1 q1) λus s2⟨xs,H2,I2,r2,q2⟩=>⟨x::xs,H2,I2,.cons r1 r2,q2⟩
noncomputable def aeS(t:TA):TE:=λσ H Q=>t σ H λxs a=>xs.length<=sizeLine/\∀p,a p=b_->Q (.ref p) (upd a p (.tup xs))
noncomputable def afB(t:TA):TE:=λσ H Q=>t σ H λxs a=>xs.length<=sizeLine/\∀p,a p=b_->Q (.ref p) (upd a p (.lst xs))
theorem vZ{x1}(h:PA X es t):PE X (.Tuple es x1 pos) (aeS t):=by intro pins s σ H Q I a;refine wpAny_Tuple_spliced (dz (h pos pins s σ H _ I a) λus s1⟨xs,H1,I1,r,z,q⟩=>⟨by rw[<-r.length];exact z,?_⟩);have c:H1 s1.heap.objs.size=b_:=I1.hok.fresh (di);refine⟨.ref s1.heap.objs.size,upd H1 s1.heap.objs.size (.tup xs),I1.laid (t':=s1.toks) (λb u e=>eO e) (di) ?_,rfl,q _ c⟩;exact⟨z,us,r,⟨_,dZ _ rfl,rfl,_,rfl⟩⟩
theorem Wa(h:PA X es t):PE X (.List es pos) (afB t):=by intro pins s σ H Q I a;refine wpAny_List_spliced (dz (h pos pins s σ H _ I a) λus s1⟨xs,H1,I1,r,z,q⟩=>⟨by rw[<-r.length];exact z,?_⟩);have c:H1 s1.heap.objs.size=b_:=I1.hok.fresh (di);refine⟨.ref s1.heap.objs.size,upd H1 s1.heap.objs.size (.lst xs),I1.laid (t':=s1.toks) (λb u e=>eO e) (di) ?_,rfl,q _ c⟩;exact⟨z,us,0,r,dZ _ rfl⟩
end
noncomputable abbrev Sp:=List V->Hp->VK->XK->Prop
noncomputable abbrev Mt:=List Env->Hp->cp->XK->bV->cp->Prop
structure Qy(P:ek)(w:fg)(K:PySem.W.Frag)(mg:Str->Option bV)(base:Heap)(A:fb)(outer:List Env)(s:cp)(H:Hp):Prop where
 frames:A.frames=aD outer
 mod:Mod K mg base
 bs:∀b o,base.get? b=aD o->s.heap.get? b=aD o/\H b=b_
 RQ:base.objs.size<=s.heap.objs.size
 rN:s.heap.FunFrames base outer
 Yg:∀b∈frs outer,H b=b_
 hok:o6 P w H s.heap
 bare:m_ s.gens
noncomputable def CE(outer:List Env)(P:ek)(w:fg)(H:Hp)(s:cp)(Q:VK)(u:bV)(a:cp):Prop:=∃v H',a.os=s.os/\m_ a.gens/\Un (frs outer) [] H H' s.heap a.heap/\o6 P w H' a.heap/\RelV v u/\Q v H'
noncomputable def CR(CX:Mt)(outer:List Env)(P:ek)(w:fg)(H:Hp)(s:cp)(Q:VK)(E:XK)(r:Result)(a:cp):Prop:=match r with|.ok (.ret u)=>CE outer P w H s Q u a|.ok _=>False|.error e=>CX outer H s E e a
structure o7(P:ek)(w:fg)(K:PySem.W.Frag)(mg:Str->Option bV)(base:Heap)(CX:Mt)(k:Nat)(f:dQ)(fd:ja)(ps:List Str)(sp:Sp):Prop where
 len:∀vs H Q E,sp vs H Q E->vs.length=ps.length
 run:∀(A:fb)(outer:List Env)(s:cp)(H:Hp)(args:Args)(us:List bV)(vs:List V)(Q:VK)(E:XK),lM k A->Qy P w K mg base A outer s H->pY s fd args (ps.zip us)->Vals vs us->sp vs H Q E->mT (ef P w) A (.call (.ref f) args) (CR CX outer P w H s Q E) s
section
variable{X:Cx}{pins:List (dQ×Obj)}{σ:St}{H:Hp}{s s':cp}
theorem Inv.env0(I:Inv X pins σ H s):Qy X.prog X.w X.K X.mg X.base X.A X.stack s H:=⟨I.ok.frames,I.ok.mod,I.bs,kb I.ok.RQ I.sz,I.stack,I.Dw,I.hok,I.bare⟩
theorem Inv.after{Q:VK}{u:bV}(I:Inv X pins σ H s)(h:CE X.stack X.prog X.w H s Q u s'):EP X pins σ Q u s':=by obtain⟨v,H',os,bare,un,hok,r,q⟩:=h;obtain⟨c,g,d,t,a⟩:=s';obtain rfl:a=s.os:=os;exact⟨v,H',I.call (h':=c) (g':=g) (d':=d) (t':=t) (ch:=[]) un hok bare (λb z=>absurd z (by simp)),r,q⟩
end
noncomputable def Z8(sp:Sp)(a:List V)(E:XK)(t:TA):TE:=λσ H Q=>t σ H λvs b=>sp (vs++a) b Q E
noncomputable def Binds(K:PySem.W.Frag)(fd:ja)(ps:List Str)(a:List bV):Prop:=∀(s:cp)(us:List bV),K.In s.heap->(us++a).length=ps.length->pY s fd ⟨us,[]⟩ (ps.zip (us++a))
theorem Binds.all{fd:ja}{ps:List Str}(h:∀us:List bV,us.length=ps.length->tI fd ⟨us,[]⟩=fI (ps.zip us)):Binds K fd ps []:=λs us _ a=>by rw[qk]at a ⊢;exact .of_eq (h us a)
noncomputable def Passes(CX:Mt)(X:Cx)(E:XK):Prop:=∀(pins:List (dQ×Obj))(σ:St)(H:Hp)(s:cp)(e:bV)(a:cp),Inv X pins σ H s->CX X.stack H s E e a->X.xe e a
section
variable{X:Cx}{CX:Mt}{k:Nat}{f C:dQ}{fd:ja}{ps:List Str}{sp:Sp}{RV:List V}{ds:List bV}{E:XK}{x m:Str}{p pos apos:Pos}{e o:eB}{es:List eB}{ta:TE}{t:TA}
theorem Tc{σ:St}{Q:VK}{vs:List V}(F:o7 X.prog X.w X.K X.mg X.base CX k f fd ps sp)(hr:lM k X.A)(c:Binds X.K fd ps ds)(hd:Vals RV ds)(g:Passes CX X E)(I:Inv X pins σ H s)(r:Vals vs us)(h:sp (vs++RV) H Q E):d_ (ef X.prog X.w) X.A (call (.ref f) us) (EP X pins σ Q) X.xe s:=by
 have b:Vals (vs++RV) (us++ds):=r.append hd;have j:(us++ds).length=ps.length:=by rw[<-b.length];exact F.len _ _ _ _ h
 refine wpAny_call (sC (F.run X.A X.stack s H ⟨us,[]⟩ (us++ds) (vs++RV) Q E hr I.env0 (c s us I.WN j) b h) λr l a=>?_);cases r with|error e=>exact g pins σ H s e l I a|ok n=>cases n with|ret u=>exact I.after a|next=>exact gu a|brk=>exact gu a|cont=>exact gu a
theorem QC(F:o7 X.prog X.w X.K X.mg X.base CX k f fd ps sp)(hr:lM k X.A)(b:Gl X x)(c:X.mg x=aD (.ref f))(g:keepIn X.K (.ref f)=ck)(j:Binds X.K fd ps ds)(hd:Vals RV ds)(l:Passes CX X E)(n:PA X (e::es) t)(a:(x==("__debug__":Str))=a_:=by decide)(he:ea (e::es) X.env=(a_,fF e X.env)::ea es X.env:=by rfl)(hpl:(kN pos (ea es X.env)).any (·.1)=a_:=by rfl):PE X (.Call (.Name x p) (e::es) [] pos) (Z8 sp RV E t):=by intro pins s σ H Q I h;refine nK (Qv I b c ?_ a);refine PySem.W.callWith_K (h₀:=X.base) I.ok.mod.kin g (dz (n pos pins s σ H _ I h) λus s1⟨vs,H1,I1,r,q⟩=>⟨I1.WN,?_⟩) he hpl;exact Tc F hr j hd l I1 r q
end
structure aL(N P:List Str)(sc:k8):Prop where
 kind:sc.kind=.function:=by rfl
 co:sc.isCoroutine=a_:=by rfl
 gen:sc.isGenerator=a_:=by rfl
 nd:N.Nodup:=by decide+kernel
 pre:N.take P.length=P:=by rfl
 par:∀x∈P,sc.names.lookup x=aD .local\/sc.names.lookup x=aD .cell:=by decide+kernel
 Wj:∀y∈sc.names,y.2≠.free:=by decide+kernel
theorem uw{kindOf:Str->Option lj}{x:Str}:∀{binds:List (Str×bV)}{m:Str->Option bV},(∀v,(x,v)∉binds)->sf kindOf binds m x=m x
 |[],_,_=>rfl|(n,v)::r,m,h=>by
   unfold sf;rw[uw λw a=>h w (fP _ a)];split
   . have:x≠n:=by rintro rfl;exact h v jp
     simp[this]
   .rfl
theorem uD{kindOf:Str->Option lj}{x:Str}:∀{binds:List (Str×bV)}{m:Str->Option bV},(∀v,(x,v)∉binds)->sh kindOf binds m x=m x
 |[],_,_=>rfl|(n,v)::r,m,h=>by
   unfold sh;rw[uD λw a=>h w (fP _ a)];split;.rfl
   . have:x≠n:=by rintro rfl;exact h v jp
     simp[this]
theorem uA{kindOf:Str->Option lj}{x:Str}{v:bV}:∀{P:List Str}{vs:List bV}{i:Nat}{m:Str->Option bV},P.Nodup->P[i]?=aD x->vs[i]?=aD v->kindOf x=aD .local->sf kindOf (P.zip vs) m x=aD v|[],_,_,_,_,h,_,_=>by simp at h|_::_,[],_,_,_,_,h,_=>by simp at h|p::P,w::vs,0,m,nd,h1,a,b=>by simp at h1 a;subst h1;subst a;show sf kindOf ((p,w)::P.zip vs) m p=_;unfold sf;rw[uw λv hv=>(hX.mp nd).1 (j_ hv).1,if_pos b];simp|p::P,w::vs,i+1,m,nd,h1,a,b=>by show sf kindOf ((p,w)::P.zip vs) m x=_;unfold sf;exact uA (i:=i) (hX.mp nd).2 (by simpa using h1) (by simpa using a) b
theorem uI{kindOf:Str->Option lj}{x:Str}{v:bV}:∀{P:List Str}{vs:List bV}{i:Nat}{m:Str->Option bV},P.Nodup->P[i]?=aD x->vs[i]?=aD v->kindOf x≠aD .local->sh kindOf (P.zip vs) m x=aD v|[],_,_,_,_,h,_,_=>by simp at h|_::_,[],_,_,_,_,h,_=>by simp at h|p::P,w::vs,0,m,nd,h1,a,b=>by simp at h1 a;subst h1;subst a;show sh kindOf ((p,w)::P.zip vs) m p=_;unfold sh;rw[uD λv hv=>(hX.mp nd).1 (j_ hv).1,if_neg b];simp|p::P,w::vs,i+1,m,nd,h1,a,b=>by show sh kindOf ((p,w)::P.zip vs) m x=_;unfold sh;exact uI (i:=i) (hX.mp nd).2 (by simpa using h1) (by simpa using a) b
noncomputable def start(N:List Str)(vs:List V):St:=vs.map aD++dV (N.length-vs.length) b_
noncomputable def Ax(CX:Mt)(P:ek)(w:fg)(K:PySem.W.Frag)(mg:Str->Option bV)(base:Heap)(N:List Str)(qual:Str)(scope:k8)(f:dQ)(b:bV)(A:fb)(outer:List Env)(s:cp)(H:Hp)(E:XK):Cx where prog:=P;w:=w;K:=K;mg:=mg;base:=base;A:=A.deeper (mE qual scope s.heap.objs.size f b);N:=N;s₀:=s;H₀:=H;env:=mE qual scope s.heap.objs.size f b;outer:=outer;stack:=mE qual scope s.heap.objs.size f b::outer;ex:=[];calm:=ck;fn:=λ_=>ck;pn:=[];xe:=λe c=>d_ (ef P w) (A.deeper (mE qual scope s.heap.objs.size f b)) (leaving (mE qual scope s.heap.objs.size f b) e) (λ_ a=>CX outer H s E e a) (λg a=>CX outer H s E g a) c
theorem yD{a:k8}{n:Nat}{x:Str}(h:a.names.lookup x=aD .cell):∃c,(lf n a.names []).lookup x=aD c:=by have q:=PySem.W.cellsFrom_some a.names n [] (.inl h);exact oq.mp q
theorem Ga{CX:Mt}{P:ek}{mg:Str->Option bV}{base:Heap}{N ps:List Str}{qual:Str}{scope:k8}{f:dQ}{t:bV}{outer:List Env}{s1:cp}{E:XK}{vs:List V}(S:aL N ps scope)(hd:A.handled=b_)(j:Qy P w K mg base A outer s H)(J:vs.length=ps.length)(r:Vals vs us)(x:InCallC s s.heap.objs.size (sf (mE qual scope s.heap.objs.size f t).kindOf (ps.zip us) λ_=>b_) (lf (s.heap.objs.size+1) scope.names []) (sh (mE qual scope s.heap.objs.size f t).kindOf (ps.zip us) λ_=>b_) s1):Inv (Ax CX P w K mg base N qual scope f t A outer s H E) [] (start N vs) H s1:=by
 have hpl:ps.length<=N.length:=by have:=congrArg rb S.pre;rw[mA]at this;lia
 obtain⟨h1,L,rfl,B⟩:=x.done;have l:∀b:dQ,b∉(Ax CX P w K mg base N qual scope f t A outer s H E).ex:=λb z=>absurd (show b∈([]:List dQ)from z) (by simp);refine⟨⟨j.mod,S.kind,rfl,rfl,di,λy z c h1 g=>?_,λy hy=>?_,λy c _ h=>?_,λ_=>hd,Around.frames_deeper j.frames,.inr ⟨rfl,rfl⟩,λb z=>absurd z (l b),j.bs,j.RQ,λb _ _=>l b,λb z=>absurd z (l b),j.rN,j.Yg⟩,rfl,j.bare,Un.kept B,⟨_,x.toInCall.ns,λi y v h1 g O=>?_⟩,λy c h=>⟨_,x.cell y c h⟩,j.hok.fresh (di),λy c h=>?_,λp m=>absurd (show p∈([]:List (dQ×Obj))from m) (by simp),j.hok.kept B,?_⟩;.exact name_of_addr x.apart (PySem.mem_of_lookup h1) (PySem.mem_of_lookup g)
 . have hy:scope.names.lookup y=aD .cell\/scope.names.lookup y=aD .free:=hy;rcases hy with hy|hy;.exact yD hy
   .exact absurd rfl (S.Wj _ (PySem.mem_of_lookup hy))
 .exact n8 (x.above y c (PySem.mem_of_lookup h))
 . have hi:i<vs.length:=by
    unfold start at g;by_cases hi:i<vs.length;.exact hi
    .rw[eW (by simpa using hi)]at g;rw[im]at g;split at g<;>cases g
   have G:vs[i]?=aD v:=by unfold start at g;rw[ei (by simpa using hi),eI]at g;cases e:vs[i]?with|none=>rw[e]at g;cases g|some a=>rw[e]at g;cases g;rfl
   obtain⟨u,C,I⟩:=r.get G;have m:ps[i]?=aD y:=by rw[<-S.pre,List.getElem?_take_of_lt (by lia)];exact h1
   have o:ps.Nodup:=by rw[<-S.pre];exact S.nd.sublist (List.take_sublist _ _)
   refine⟨u,I,?_⟩;rcases S.par y (ko m)with k|k;.exact .inl ⟨k,uA o m C k⟩
   .obtain⟨c,e⟩:=yD (n:=s.heap.objs.size+1) k;refine .inr ⟨.inl k,c,e,?_⟩;have q:=x.cell y c e;rw[uI o m C (by show scope.names.lookup y≠_;rw[k];decide)]at q;exact q
 .exact j.hok.fresh (n8 (x.above y c (PySem.mem_of_lookup h)))
 .unfold start;show _=N.length;rw[ib,en,ij];lia
theorem aag{CX:Mt}{P:ek}{mg:Str->Option bV}{base:Heap}{k:Nat}{f:dQ}{name qual:Str}{a:Arguments}{body:List fR}{scope:k8}{L kV l O cdv ct Z:bV}{U od:Option dQ}{z:Array (Option bV)}{N ps:List Str}{sp:Sp}(lk:K.lookup f=aD ⟨Z,od,.func (PySem.W.fnOf name qual a body scope L kV l O U cdv ct),z⟩)(B:PySem.W.codeIn K cdv qual=ck)(S:aL N ps scope)(len:∀vs H Q E,sp vs H Q E->vs.length=ps.length)(g:∀(A:fb)(outer:List Env)(s:cp)(H:Hp)(vs:List V)(Q:VK)(E:XK),lM k (A.deeper (mE qual scope s.heap.objs.size f cdv))->sp vs H Q E->∃t,zW (Ax CX P w K mg base N qual scope f cdv A outer s H E) body t/\t {nx:=λ_ H'=>Q .non H',rt:=Q} (start N vs) H):o7 P w K mg base CX (k+1) f (PySem.W.fnOf name qual a body scope L kV l O U cdv ct) ps sp:=by
 refine⟨len,λA outer s H args us vs Q E hr m hb r p=>?_⟩;have hl:=len _ _ _ _ p;have Y:K.In s.heap:=m.mod.kin.keeps λb o e=>(m.bs b o e).1;have lim:s.heap.NoLimit:=m.mod.nolimit.keeps λb o e=>(m.bs b o e).1;have j:∀y∈ps.zip us,scope.names.lookup y.1=aD .local\/(scope.names.lookup y.1=aD .cell/\((lf (s.heap.objs.size+1) scope.names []).lookup y.1).isSome=ck):=λ⟨n,v⟩hy=>by
  rcases S.par n (j_ hy).1 with q|q;.exact .inl q
  .exact .inr ⟨q,PySem.W.cellsFrom_some _ _ _ (.inl q)⟩
 refine codeAny_call_function hr.depth (Y _ _ lk) rfl S.co S.gen rfl (PySem.W.codeRec_of Y B) (hb _ _ _ _ ?_);refine wpAny_newFunctionEnv_cells S.kind j λenv he s1 x=>?_;subst he;refine⟨lim.keeps x.toInCall.keep,codeAny_func ?_⟩;obtain⟨t,ht,hq⟩:=g A outer s H vs Q E (hr.deeper _) p;have I:Inv (Ax CX P w K mg base N qual scope f cdv A outer s H E) [] (start N vs) H s1:=Ga S hr.hd m hl r x;refine fy (ht [] s1 (start N vs) H _ I hq) (λfl C hs=>?_) λe C hs=>hs;have fin:∀{c:St}{H':Hp}{v:V}{u:bV},Inv (Ax CX P w K mg base N qual scope f cdv A outer s H E) [] c H' C->RelV v u->Q v H'->CE outer P w H s Q u C:=λ{c H' v u}J G q=>⟨v,H',J.os,J.bare,J.base,J.hok,G,q⟩;cases fl with|ret u=>obtain⟨v,c,H',J,G,q⟩:=hs;exact fin J G q|next=>obtain⟨c,H',J,q⟩:=hs;exact fin (v:=V.non) (u:=eP) J rfl q|brk=>obtain⟨_,_,_,q⟩:=hs;exact gu q|cont=>obtain⟨_,_,_,q⟩:=hs;exact gu q
section
variable{X:Cx}{x:Str}{p pos:Pos}{e:eB}{es:List eB}{t:TA}{id T:String}{r:List V->Hp->VK->Prop}
noncomputable def tCB(r:List V->Hp->VK->Prop)(t:TA):TE:=λσ H Q=>t σ H λvs a=>r vs a Q
theorem fj(hc:dO X (.builtin id) r)(b:Gl X x)(c:X.mg x=b_)(hv:gc x=aD (.builtin id))(f:PA X (e::es) t)(g:x≠"__name__":=by decide)(a:(x==("__debug__":Str))=a_:=by decide)(he:ea (e::es) X.env=(a_,fF e X.env)::ea es X.env:=by rfl)(hpl:(kN pos (ea es X.env)).any (·.1)=a_:=by rfl):PE X (.Call (.Name x p) (e::es) [] pos) (tCB r t):=by intro pins s σ H Q I h;refine nK (j6 I b c hv ?_ g a);exact PyProof.Rows.callWith_builtin1 (dz (f pos pins s σ H _ I h) λus s1⟨vs,H1,I1,r1,q1⟩=>hc pins s1 σ H1 vs us Q I1 r1 q1) he hpl
theorem mJ(hc:dO X (.type T) r)(b:Gl X x)(c:X.mg x=b_)(hv:gc x=aD (.type T))(f:PA X (e::es) t)(g:x≠"__name__":=by decide)(a:(x==("__debug__":Str))=a_:=by decide)(he:ea (e::es) X.env=(a_,fF e X.env)::ea es X.env:=by rfl)(hpl:(kN pos (ea es X.env)).any (·.1)=a_:=by rfl):PE X (.Call (.Name x p) (e::es) [] pos) (tCB r t):=by intro pins s σ H Q I h;refine nK (j6 I b c hv ?_ g a);exact fx (dz (f pos pins s σ H _ I h) λus s1⟨vs,H1,I1,r1,q1⟩=>hc pins s1 σ H1 vs us Q I1 r1 q1) he hpl
end
end _L
namespace _U
open PySem PyProof.Rows
section
variable{prog:ek}{w:fg}{A:fb}{E:bV->cp->Prop}{s:cp}
theorem Nm{t b:dQ}{vs ws:List bV}{Q:bV->cp->Prop}(p:IsTup s.heap t vs.toArray)(q:IsTup s.heap b ws.toArray)(hv:vs≠[])(h1:ws=[]->Q (.ref t) s)(r:ws≠[]->Q (.ref s.heap.objs.size) {s with heap:=s.heap.push {cls:=.type "tuple",data:=.seq (vs++ws).toArray}})(hsz:vs.length+ws.length<=sizeLine):d_ (ef prog w) A (g_ .Add (.ref t) (.ref b)) Q E s:=by
 obtain⟨⟨cls,j,data,l⟩,ho,hc,n,hd⟩:=id p;obtain⟨⟨m,c,data2,f⟩,a,g,o,h⟩:=id q;simp only at hc hd g h;subst hc hd g h;have e:vs.toArray++ws.toArray=(vs++ws).toArray:=by simp
 by_cases i:ws=[];.exact n_ ⟨_,ho,rfl⟩ ⟨_,a,rfl⟩ oI rq slot_tuple_add entry_tuple_add (args_tuple_add_2 _ _) (tuple_addW1 t b vs.toArray ws.toArray n o j c l f (by simpa using hv) (by simp[i])) ⟨ho,a,h1 i⟩
 .refine n_ ⟨_,ho,rfl⟩ ⟨_,a,rfl⟩ oI rq slot_tuple_add entry_tuple_add (args_tuple_add_2 _ _) (tuple_addW2 t b vs.toArray ws.toArray n o j c l f (by simpa using hv) (by simpa using i) (by rw[ec,ec];exact hsz)) ⟨ho,a,?_⟩;rw[e];exact r i
noncomputable def dY(n d:Nat):Option Int->Nat|none=>d|some v=>if v<0 then(v+(n:Int)).toNat else min v.toNat n
theorem V5(n d:Nat)(hd:d<=n)(o:Option Int):dY n d o<=n:=by cases o with|none=>exact hd|some v=>
   show(if v<0 then(v+(n:Int)).toNat else min v.toNat n)<=n;by_cases hv:v<0;.rw[if_pos hv];lia
   .rw[if_neg hv];exact Nat.min_le_right _ _
theorem Fe(v:Int)(n d:Nat):(if v<0 then max (v+(n:Int)) 0 else min v (n:Int))=((dY n d (aD v):Nat):Int):=by
 show(if v<0 then max (v+(n:Int)) 0 else min v (n:Int))=(((if v<0 then(v+(n:Int)).toNat else min v.toNat n):Nat):Int);by_cases hv:v<0;.simp only[if_pos hv];lia
 .simp only[if_neg hv];lia
theorem CG(lo hi:Option Int)(n:Nat):sT lo hi 1 (n:Int)=(((dY n 0 lo:Nat):Int),((dY n n hi:Nat):Int)):=by
 have h1:¬((1:Int)<0):=by lia
 unfold sT;simp only[h1,if_false];refine Prod.ext ?_ ?_;.cases lo with|none=>rfl|some v=>exact Fe v n 0
 .cases hi with|none=>rfl|some v=>exact Fe v n n
theorem zZ(i j:Nat):o2 (i:Int) (j:Int) 1=j-i:=by
 unfold o2;have h1:(1:Int)>0:=by lia
 simp only[h1,if_true,Int.ediv_one];split<;>lia
theorem sE{v:bV}{o:Option Int}{Q:Option Int->cp->Prop}(p:mM v o)(h:Q o s):d_ (ef prog w) A (Builtin.Slice.slicePartIndex v) Q E s:=by cases p with|none=>exact slicePart_none h|int i t=>exact slicePart_int h
theorem jE{e:dQ}{vl c:bV}{lo hi:Option Int}{n:Nat}{Q:Int×Int×Nat->cp->Prop}(hs:s.heap.IsSliceOf e vl c .none)(pl:mM vl lo)(f:mM c hi)(h:Q (((dY n 0 lo:Nat):Int),1,dY n n hi-dY n 0 lo) s):d_ (ef prog w) A (sliceApplied (.ref e) (fI (n:Int))) Q E s:=by obtain⟨os,a,g,b⟩:=id hs;unfold sliceApplied Builtin.Slice.sliceFields;refine bx (bx (fo a b (x:=vl) rfl (bx (fo a b (x:=c) rfl (bx (fo a b (x:=.none) rfl (c_ ?_)))))));refine bx (slicePart_none ?_);show d_ _ _ (if((1:Int)==0)=ck then _ else _) _ _ s;rw[if_neg (by decide)];refine bx (sE pl (bx (sE f (bx (c_ ?_)))));show d_ _ _ (match sT lo hi 1 (n:Int)with|(lo,hi)=>fI (lo,(1:Int),o2 lo hi 1)) _ _ s;rw[CG lo hi n];show d_ _ _ (fI (((dY n 0 lo:Nat):Int),(1:Int),o2 ((dY n 0 lo:Nat):Int) ((dY n n hi:Nat):Int) 1)) _ _ s;rw[zZ];exact c_ h
theorem Lz(xs:Array bV)(i k:Nat):((ej k).filterMap λ(m:Nat)=>xs[((i:Int)+(m:Int)*1).toNat]?).toArray=((xs.toList.drop i).take k).toArray:=by
 have e:(λ(m:Nat)=>xs[((i:Int)+(m:Int)*1).toNat]?)=λm=>xs[i+m]?:=by
  funext m;have:((i:Int)+(m:Int)*1).toNat=i+m:=by lia
  rw[this]
 rw[e];have:=pick_run xs i k;rw[ny]at this;have a:((λx=>xs[x]?)∘ λx=>i+x)=λm=>xs[i+m]?:=rfl;rw[a]at this;rw[this]
theorem oO{t c:dQ}{items:Array bV}{vl j:bV}{lo hi:Option Int}{Q:bV->cp->Prop}(a:IsTup s.heap t items)(hs:s.heap.IsSliceOf c vl j .none)(pl:mM vl lo)(l:mM j hi)(n:¬(dY items.size 0 lo=0/\dY items.size items.size hi=items.size))(h:Q (.ref s.heap.objs.size) {s with heap:=s.heap.push {cls:=.type "tuple",data:=.seq ((items.toList.drop (dY items.size 0 lo)).take (dY items.size items.size hi-dY items.size 0 lo)).toArray}})(hsz:items.size<=sizeLine):d_ (ef prog w) A (lb (.ref t) (.ref c)) Q E s:=by
 have b:sizeOk (.seq ((items.toList.drop (dY items.size 0 lo)).take (dY items.size items.size hi-dY items.size 0 lo)).toArray):=by show((items.toList.drop (dY items.size 0 lo)).take (dY items.size items.size hi-dY items.size 0 lo)).toArray.size<=sizeLine;rw[ec,mA,nE,jv];lia
 have p:dY items.size items.size hi<=items.size:=V5 _ _ (di) hi;obtain⟨os,e,f,o⟩:=id hs;have g:s.TypeIs (.ref c) "slice":=⟨os,e,f⟩;unfold lb;try with_reducible refine h_ ?_
 first|refine bx (c_ ?_)|skip
 refine bx (wpAny_sequenceKey a.typeIs (by decide) ?_);refine bx (fq (name:=gI "__getitem__") a.typeIs ke (fm ke a.typeIs entry_tuple_getitem ?_ (args_tuple_getitem _ _)));show d_ _ _ (tupleItemsOf (.ref t)>>=_) _ _ s;refine bx (tupleItemsOf_ a ?_);refine bx (l_ g ?_);rw[if_pos (by decide)];refine bx (jE hs pl l ?_);have i:¬((((dY items.size 0 lo:Nat):Int)==0&&(1:Int)==1&&(dY items.size items.size hi-dY items.size 0 lo)==items.size)=ck):=by intro q;rw[gi,gi]at q;have r:((dY items.size 0 lo:Nat):Int)=0:=eq_of_beq q.1.1;have u:dY items.size items.size hi-dY items.size 0 lo=items.size:=eq_of_beq q.2;exact n ⟨by lia,by lia⟩
 show d_ _ _ (if(((dY items.size 0 lo:Nat):Int)==0&&(1:Int)==1&&(dY items.size items.size hi-dY items.size 0 lo)==items.size)=ck then _ else _) _ _ s;rw[if_neg i,Lz];first|exact bx (m:=kH _) (eJ (c_ ⟨_,rfl,c_ h⟩) b)|exact bx (m:=kH _) (eJ (bx (c_ (c_ ⟨_,rfl,c_ h⟩))) b)|exact bx (bx (m:=kH _) (eJ (c_ (c_ ⟨_,rfl,c_ h⟩)) b))|exact bx (bx (m:=kH _) (eJ (c_ ⟨_,rfl,c_ h⟩) b))
end
end _U
namespace _L
open PySem Spec PyProof.Rows
variable{n:Nat}
noncomputable abbrev TO:=St->Hp->(Option Int->Hp->Prop)->Prop
noncomputable def PO(X:Cx)(e:Option eB)(t:TO):Prop:=∀(a:List (dQ × Obj))(s:cp)(σ:St)(H:Hp)(Q:Option Int->Hp->Prop),Inv X a σ H s->t σ H Q->d_ (ef X.prog X.w) X.A (evalPart e X.env) (λu b=>∃o H',Inv X a σ H' b/\mM u o/\Q o H') X.xe s
noncomputable def Ng:TO:=λ_ H Q=>Q b_ H
noncomputable def Yp(t:TE):TO:=λσ H Q=>t σ H λx a=>∃i,x=.int i/\Q (aD i) a
section
variable{X:Cx}{e:eB}{te:TE}{lo hi:Option eB}{tl th:TO}{pos p2:Pos}
theorem Qp:PO X b_ Ng:=by intro a s σ H Q I h;rw[rV];exact c_ ⟨b_,H,I,.none,h⟩
theorem Ou(h:PE X e te):PO X (aD e) (Yp te):=by intro a s σ H Q I b;rw[evalPart_some];refine dz (h a s σ H _ I b) λu s1⟨x,H1,I1,r1,q1⟩=>?_;obtain⟨i,rfl,q⟩:=q1;obtain⟨t,rfl⟩:=r1;exact⟨aD i,H1,I1,.int i t,q⟩
noncomputable def SlR(X:Cx)(r:V->Option Int->Option Int->Hp->VK->Prop):Prop:=∀(a:List (dQ × Obj))(s:cp)(σ:St)(H:Hp)(x:V)(v vl b:bV)(lo hi:Option Int)(c:dQ)(Q:VK),Inv X a σ H s->RelV x v->s.heap.IsSliceOf c vl b .none->mM vl lo->mM b hi->r x lo hi H Q->∃T id,kG (.type T) "__getitem__"=fI (aD (.builtin id))/\s.TypeIs v T/\d_ (ef X.prog X.w) X.A (lb v (.ref c)) (EP X a σ Q) X.xe s
noncomputable def tSl(r:V->Option Int->Option Int->Hp->VK->Prop)(te:TE)(tl th:TO):TE:=λσ H Q=>te σ H λx a=>tl σ a λl b=>th σ b λu c=>r x l u c Q
theorem yp{r:V->Option Int->Option Int->Hp->VK->Prop}(hr:SlR X r)(he:PE X e te)(f:PO X lo tl)(g:PO X hi th):PE X (.Subscript e (.Slice lo hi b_ p2) pos) (tSl r te tl th):=by intro a s σ H Q I h;refine qo (dz (he a s σ H _ I h) λv s1⟨x,H1,I1,r1,q1⟩=>?_);refine wpAny_Slice (dz (f a s1 σ H1 _ I1 q1) λvl s2⟨l,H2,I2,pl,q2⟩=>dz (g a s2 σ H2 _ I2 q2) λc s3⟨u,H3,I3,pu,q3⟩=>?_);rw[rV];refine c_ ?_;have i:Inv X a σ H3 {s3 with heap:=s3.heap.push {cls:=.type "slice",data:=.fields #[vl,c,.none]}}:=I3.kept (t':=s3.toks) λb p q=>eO q;obtain⟨T,id,j,m,o⟩:=hr a {s3 with heap:=s3.heap.push {cls:=.type "slice",data:=.fields #[vl,c,.none]}} σ H3 x v vl c l u s3.heap.objs.size Q i r1 (Heap.IsSliceOf.new ..) pl pu q3;show d_ (ef X.prog X.w) X.A (nm e (.Slice lo hi b_ p2) v (.ref s3.heap.objs.size)) (EP X a σ Q) X.xe {s3 with heap:=s3.heap.push {cls:=.type "slice",data:=.fields #[vl,c,.none]}};exact tail_any (ops:=[.ref s3.heap.objs.size,v]) m j o (by with_unfolding_all rfl)
noncomputable def yK(xs:List V)(lo hi:Option Int):List V:=(xs.drop (_U.dY xs.length 0 lo)).take (_U.dY xs.length xs.length hi-_U.dY xs.length 0 lo)
theorem qe(xs:List V)(lo hi:Option Int):(yK xs lo hi).length<=xs.length:=by unfold yK;rw[mA,nE];lia
noncomputable def ad5(K:PySem.W.Frag):V->Option Int->Option Int->Hp->VK->Prop:=λx lo hi H Q=>∃a xs,x=.ref a/\ir K H a xs/\¬(_U.dY xs.length 0 lo=0/\_U.dY xs.length xs.length hi=xs.length)/\∀p,H p=b_->Q (.ref p) (upd H p (.tup (yK xs lo hi)))
theorem Tf:SlR X (ad5 X.K):=by
 intro g s σ H x v vl u lo hi w Q I l hs pl m h;obtain⟨a,xs,rfl,p,t,q⟩:=h;cases l;obtain⟨f,r,i,j⟩:=I.tuple p;have c:f.toArray.size=xs.length:=by rw[ec];exact r.length.symm
 refine⟨"tuple",_,ke.lookup,i.typeIs,?_⟩;refine _U.oO i hs pl m (by rw[c];exact t) ?_ (by rw[c];exact j);rw[c];refine⟨.ref s.heap.objs.size,_,I.laid (t':=s.toks) (o:=.tup (yK xs lo hi)) (λb y q=>eO q) (di) ?_,rfl,q _ (I.hok.fresh (di))⟩;exact⟨kb (qe xs lo hi) j,_,(r.drop (_U.dY xs.length 0 lo)).take (_U.dY xs.length xs.length hi-_U.dY xs.length 0 lo),IsTup.new _ _⟩
noncomputable def aaB(K:PySem.W.Frag):R2:=λx y H Q=>∃a b xs ys,x=.ref a/\y=.ref b/\ir K H a xs/\ir K H b ys/\xs≠[]/\xs.length+ys.length<=sizeLine/\(ys=[]->Q (.ref a) H)/\(ys≠[]->∀p,H p=b_->Q (.ref p) (upd H p (.tup (xs++ys))))
theorem Vals.qJ{xs:List V}{a:List bV}(r:Vals xs a):a=[]↔xs=[]:=by cases r with|nil=>simp|cons _ _=>simp
theorem NP:jb X (g_ .Add) (aaB X.K):=by intro f s σ H x y v u Q I j l h;obtain⟨a,b,xs,ys,rfl,rfl,m,p,r,g,t,A⟩:=h;cases j;cases l;obtain⟨B,r1,C,_⟩:=I.tuple m;obtain⟨i,c,p2,_⟩:=I.tuple p;refine _U.Nm C p2 (λz=>r (r1.qJ.mp z)) (λz=>⟨.ref a,H,I,rfl,t (c.qJ.mp z)⟩) (λz=>?_) (by rw[<-r1.length,<-c.length];exact g);refine⟨.ref s.heap.objs.size,_,I.laid (t':=s.toks) (o:=.tup (xs++ys)) (λb E q=>eO q) (di) ?_,rfl,A (λw=>z (c.qJ.mpr w)) _ (I.hok.fresh (di))⟩;exact⟨by rw[ib];exact g,_,r1.append c,IsTup.new _ _⟩
end
noncomputable def kZ(n:Nat)(i:Int):Option Nat:=if 0<=i then(if i<n then aD i.toNat else b_)else if-(n:Int)<=i then aD (i+n).toNat else b_
noncomputable def JT{a:Type}(xs:List a)(i:Int):Option a:=(kZ xs.length i).bind λj=>xs[j]?
theorem DX{i:Int}{j:Nat}(h:kZ n i=aD j):seqIndex? i n=aD j/\j<n/\-(n:Int)<=i/\i<n:=by
 unfold kZ at h;by_cases h0:0<=i
 . rw[if_pos h0]at h;by_cases h1:i<n;.rw[if_pos h1]at h;have e:i.toNat=j:=gb h;exact⟨by rw[s_ h0 h1,e],by lia,by lia,h1⟩
   .rw[if_neg h1]at h;cases h
 . rw[if_neg h0]at h;by_cases h1:-(n:Int)<=i;.rw[if_pos h1]at h;have e:(i+n).toNat=j:=gb h;exact⟨by rw[sw (by lia) h1,e],by lia,h1,by lia⟩
   .rw[if_neg h1]at h;cases h
theorem Eg{a:Type}{xs:List a}{i:Int}{v:a}(h:JT xs i=aD v):∃j,seqIndex? i xs.length=aD j/\xs[j]?=aD v/\j<xs.length/\-(xs.length:Int)<=i/\i<xs.length:=by unfold JT at h;cases e:kZ xs.length i with|none=>rw[e]at h;cases h|some j=>rw[e]at h;obtain⟨h1,b,c,f⟩:=DX e;exact⟨j,h1,h,b,c,f⟩
noncomputable def jO(b:eB):Prop:=∀o i,oT b a_ o i=operate [o,i] (lb o i)
noncomputable def IxR(X:Cx)(r:R2):Prop:=∀(b slice:eB)(a:List (dQ × Obj))(s:cp)(σ:St)(H:Hp)(x y:V)(v u:bV)(Q:VK),Inv X a σ H s->RelV x v->RelV y u->r x y H Q->oT slice a_ v u=operate [v,u] (lb v u)->d_ (ef X.prog X.w) X.A (nm b slice v u) (EP X a σ Q) X.xe s
noncomputable def MtR(X:Cx)(id:String)(r:V->List V->Hp->VK->Prop):Prop:=∀(a:List (dQ × Obj))(s:cp)(σ:St)(H:Hp)(x:V)(xs:List V)(v:bV)(b:List bV)(Q:VK),Inv X a σ H s->RelV x v->Vals xs b->r x xs H Q->d_ (ef X.prog X.w) X.A (call (.builtin id) (v::b)) (EP X a σ Q) X.xe s
section
variable{X:Cx}{a b:eB}{ta tb:TE}{pos:Pos}
theorem uU{r:R2}(hr:IxR X r)(e:PE X a ta)(f:PE X b tb)(hs:jO b):PE X (.Subscript a b pos) (MN r ta tb):=by intro c s σ H Q I h;exact qo (Tp e f I h λv u s2 x y g i j l q=>hr a b c s2 σ g x y v u Q i j l q (hs _ _))
noncomputable def Lb(K:PySem.W.Frag):R2:=λx y H Q=>∃p xs i v,x=.ref p/\y=.int i/\fU K H p xs/\JT xs i=aD v/\Q v H
noncomputable def afZ(K:PySem.W.Frag):R2:=λx y H Q=>∃p xs i v,x=.ref p/\y=.int i/\ir K H p xs/\JT xs i=aD v/\Q v H
theorem mK:IxR X (Lb X.K):=by
 intro e slice c s σ H x y v u Q I m o h hs;obtain⟨p,xs,i,z,rfl,rfl,A,he,q⟩:=h;cases m;obtain⟨t,rfl⟩:=o;obtain⟨f,r,pl,M⟩:=I.list A;obtain⟨j,h1,B,N,C,E⟩:=Eg he;obtain⟨w,l,G⟩:=r.get B;have J:=r.length;have O:=vX;have fin:EP X c σ Q w s:=⟨z,H,I,G,q⟩;by_cases h0:0<=i
 . have g:i.toNat=j:=by rw[s_ h0 E]at h1;exact gb h1
   exact item_listR pl.isList h0 (by lia) (by rw[g];simpa using l) fin hs
 . have g:(i+(f.toArray.size:Int)).toNat=j:=by rw[sw (by lia) C]at h1;rw[ec,<-J];exact gb h1
   exact su (x:=w) pl.isList.typeIs slot_list_getitem.lookup (wpAny_getItem_list_neg (Q:=λr L=>r=w/\EP X c σ Q r L) pl.isList (by lia) (by rw[ec]<;>lia) (by lia) (by rw[g];simpa using l) ⟨rfl,fin⟩) hs
theorem UG:IxR X (afZ X.K):=by intro e slice c s σ H x y v u Q I f g h hs;obtain⟨p,xs,i,z,rfl,rfl,l,he,q⟩:=h;cases f;obtain⟨t,rfl⟩:=g;obtain⟨m,r,pl,G⟩:=I.tuple l;obtain⟨j,h1,o,J,L,M⟩:=Eg he;obtain⟨w,A,B⟩:=r.get o;have C:=r.length;have N:=vX;have fin:EP X c σ Q w s:=⟨z,H,I,B,q⟩;exact su (x:=w) pl.typeIs slot_tuple_getitem.lookup (getItem_tuple (j:=j) (Q:=λr E=>r=w/\EP X c σ Q r E) pl (by lia) (by lia) (by rw[ec,<-C];exact h1) (by simpa using A) ⟨rfl,fin⟩) hs
theorem Ab(c:List bV)(n j:Nat)(u:bV):ip (·.setIfInBounds j u) {cls:=.type "list",data:=.seq c.toArray n}={cls:=.type "list",data:=.seq (c.set j u).toArray n}:=by simp[ip]
theorem Inv.lst{f:List (dQ×Obj)}{σ:St}{H:Hp}{s:cp}{p:dQ}{xs:List V}(I:Inv X f σ H s)(h:H p=aD (.lst xs)):∃(c:List bV)(n:Nat),Vals xs c/\s.heap.get? p=aD {cls:=.type "list",data:=.seq c.toArray n}/\xs.length<=sizeLine:=by obtain⟨z,c,n,r,e⟩:=I.hok p _ h;exact⟨c,n,r,e,z⟩
theorem Inv.Ub{c:List (dQ×Obj)}{σ:St}{H:Hp}{s:cp}{p:dQ}{xs ys:List V}{g its':List bV}{n i:Nat}{f:Obj->Obj}(I:Inv X c σ H s)(h:H p=aD (.lst xs))(ho:s.heap.get? p=aD {cls:=.type "list",data:=.seq g.toArray n})(j:f {cls:=.type "list",data:=.seq g.toArray n}={cls:=.type "list",data:=.seq its'.toArray i})(r:Vals ys its')(l:ys.length<=sizeLine)(t:Nat):Inv X c σ (upd H p (.lst ys)) {s with heap:=s.heap.update p f,toks:=t}:=by
 have e:(s.heap.update p f).get? p=aD {cls:=.type "list",data:=.seq its'.toArray i}:=by rw[iS f ho (by rw[j]<;>rfl),j]
 refine I.write (x:=p) (e:=p) (by rw[h];trivial) (.inl rfl) (λb u m q=>(jS _ _ (iF m)).trans q) ⟨_,e⟩ ?_;exact⟨l,its',i,r,e⟩
noncomputable def YL:V->V->V->Hp->(Hp->Prop)->Prop:=λo i v H Q=>∃p xs k j,o=.ref p/\i=.int k/\H p=aD (.lst xs)/\kZ xs.length k=aD j/\Q (upd H p (.lst (xs.set j v)))
theorem set_list:Yz X YL:=by
 intro c s σ H o i v C E u Q I ro y z h;obtain⟨p,xs,k,j,rfl,rfl,l,A,q⟩:=h;cases ro;obtain⟨t,rfl⟩:=y;obtain⟨e,n,r,ho,B⟩:=I.lst l;obtain⟨h1,G,m,w⟩:=DX A;have f:=r.length;have J:=vX;have x:Inv X c σ (upd H p (.lst (xs.set j v))) {s with heap:=s.heap.update p (ip (·.setIfInBounds j u))}:=I.Ub l ho (Ab e n j u) (r.set z j) (by rw[List.length_set];exact B) s.toks;by_cases h0:0<=k
 . have g:k.toNat=j:=by rw[s_ h0 w]at h1;exact gb h1
   exact PySem.W.ki_setAt ho h0 (by lia) (by rw[ec,<-f];exact w) (by rw[g];exact⟨_,x,q⟩)
 . have g:(k+(e.toArray.size:Int)).toNat=j:=by rw[sw (by lia) m]at h1;rw[ec,<-f];exact gb h1
   exact PySem.W.ki_setBack ho (by lia) (by rw[ec,<-f];exact m) (by lia) (by rw[g];exact⟨_,x,q⟩)
theorem vU(lo hi:Option Int)(n:Nat):(kS lo hi b_ n).1=((_U.dY n 0 lo:Nat):Int)/\(kS lo hi b_ n).2.1=((_U.dY n n hi:Nat):Int)/\(kS lo hi b_ n).2.2=1:=by
 refine⟨?_,?_,rfl⟩;.cases lo with|none=>simp[kS,_U.dY]|some i=>
     simp only[kS,_U.dY,getD_none,show(1:Int)>0 by decide,if_true];by_cases h:i<0;.simp only[h,if_true]<;>lia
     .simp only[h,if_false]<;>lia
 .cases hi with|none=>simp[kS,_U.dY]|some i=>
     simp only[kS,_U.dY,getD_none,show(1:Int)>0 by decide,if_true];by_cases h:i<0;.simp only[h,if_true]<;>lia
     .simp only[h,if_false]<;>lia
theorem uf(c:List bV)(lo hi:Option Int):oC c.toArray lo hi b_=((c.drop (_U.dY c.length 0 lo)).take (_U.dY c.length c.length hi-_U.dY c.length 0 lo)).toArray:=by obtain⟨h1,e,f⟩:=vU lo hi c.toArray.size;unfold oC;rw[h1,e,f];simp only[sliceRange_one,pick_run,ec]<;>rfl
noncomputable def adM(K:PySem.W.Frag):V->Option Int->Option Int->Hp->VK->Prop:=λx lo hi H Q=>∃a xs,x=.ref a/\fU K H a xs/\∀p,H p=b_->Q (.ref p) (upd H p (.lst (yK xs lo hi)))
theorem O6:SlR X (adM X.K):=by intro e s σ H x v vl p lo hi t Q I g hs pl i h;obtain⟨a,xs,rfl,j,q⟩:=h;cases g;obtain⟨l,r,f,m⟩:=I.list j;have c:=r.length;refine⟨"list",_,slot_list_getitem.lookup,f.isList.typeIs,?_⟩;refine ri f.isList hs pl i .none (by simp) ?_ (by rw[ec]<;>lia);rw[uf,<-c];refine⟨.ref s.heap.objs.size,_,I.laid (t':=s.toks) (o:=.lst (yK xs lo hi)) (λb u q=>eO q) (di) ?_,rfl,q _ (I.hok.fresh (di))⟩;exact⟨kb (qe xs lo hi) m,_,0,(r.drop (_U.dY xs.length 0 lo)).take (_U.dY xs.length xs.length hi-_U.dY xs.length 0 lo),dZ _ rfl⟩
theorem wM:dO X (.builtin "len") (λxs H Q=>∃p ys,xs=[.ref p]/\(fU X.K H p ys\/ir X.K H p ys)/\Q (.int ys.length) H):=by
 intro g s σ H xs l Q I r h;obtain⟨p,ys,rfl,hq,q⟩:=h;obtain⟨u,rfl,i⟩:=vals1 r;cases i;have m:=vX;rcases hq with hq|hq;.obtain⟨e,f,pl,j⟩:=I.list hq;have c:=f.length;exact Calls.call_len_list pl.isList (by simp only[ec]<;>lia) ⟨.int ys.length,H,I.tok _,⟨s.toks+1,by rw[ec,c]⟩,q⟩
 .obtain⟨e,f,pl,j⟩:=I.tuple hq;have c:=f.length;exact len_tuple pl (by simp only[ec]<;>lia) ⟨.int ys.length,H,I.tok _,⟨s.toks+1,by rw[ec,c]⟩,q⟩
theorem wj:dO X (.type "list") (λxs H Q=>∃p ys,xs=[.ref p]/\(fU X.K H p ys\/ir X.K H p ys)/\∀l,H l=b_->Q (.ref l) (upd H l (.lst ys))):=by
 intro i s σ H xs x Q I r h;obtain⟨p,ys,rfl,hq,q⟩:=h;obtain⟨u,rfl,v⟩:=vals1 r;cases v;have fin:∀(c:List bV),Vals ys c->ys.length<=sizeLine->∀(h':Heap)(f:Nat),(∀b t,s.heap.get? b=aD t->h'.get? b=aD t)->h'.get? s.heap.objs.size=aD {cls:=.type "list",dict:=b_,data:=.seq c.toArray f,slots:=#[]}->EP X i σ Q (.ref s.heap.objs.size) {s with heap:=h'}:=λc g j h' f kp e=>⟨.ref s.heap.objs.size,_,I.laid (t':=s.toks) kp (di) (show cM X.prog X.w _ h' _ (.lst ys)from⟨j,c,f,g,e⟩),rfl,q _ (I.hok.fresh (di))⟩;rcases hq with hq|hq;.obtain⟨c,g,pl,j⟩:=I.list hq;have m:=g.length;obtain⟨o,ho,hc,n,hd⟩:=pl.isList;exact call_list_seq p (.inl rfl) ho hc hd (λh' f kp e=>fin c g j h' f kp e) (by simp only[ec]<;>lia)
 .obtain⟨c,g,pl,j⟩:=I.tuple hq;have m:=g.length;obtain⟨o,ho,hc,n,hd⟩:=pl;exact call_list_seq p (.inr rfl) ho hc hd (λh' f kp e=>fin c g j h' f kp e) (by simp only[ec]<;>lia)
theorem mU:dO X (.type "tuple") (λxs H Q=>∃p ys,xs=[.ref p]/\((fU X.K H p ys/\∀l,H l=b_->Q (.ref l) (upd H l (.tup ys)))\/(ir X.K H p ys/\Q (.ref p) H))):=by
 intro c s σ H xs y Q I r h;obtain⟨p,ys,rfl,h⟩:=h;obtain⟨u,rfl,v⟩:=vals1 r;cases v;rcases h with⟨g,q⟩|⟨g,q⟩;.obtain⟨f,i,pl,j⟩:=I.list g;have m:=i.length;refine call_tuple_list pl.isList (λh' kp=>?_) (by simp only[ec]<;>lia);have t:Inv X c σ H {s with heap:=h'}:=I.kept (t':=s.toks) kp;have x:Inv X c σ (upd H h'.objs.size (.tup ys)) {s with heap:=h'.push {cls:=.type "tuple",data:=.seq f.toArray}}:=t.laid (t':=s.toks) (λb o e=>eO e) (di) (show cM X.prog X.w _ _ _ (.tup ys)from⟨j,f,i,IsTup.new _ _⟩);exact⟨.ref h'.objs.size,_,x,rfl,q _ (t.hok.fresh (di))⟩
 .obtain⟨f,i,pl,j⟩:=I.tuple g;exact call_tuple_same pl ⟨.ref p,H,I,rfl,q⟩
noncomputable def tyV(K:PySem.W.Frag)(T:String)(x:V)(H:Hp):Prop:=match x with|.str _=>T="str"|.int _=>T="int"|.ref p=>(T="list"/\∃xs,fU K H p xs)\/(T="tuple"/\∃o,K.lookup p=aD o/\o.cls=.type "tuple"/\o.dict=b_)\/(T="dict"/\((∃kvs,H p=aD (.dK kvs))\/∃kvs,H p=aD (.dT kvs)))\/(T="set"/\∃S n,H p=aD (.set S n))|_=>False
theorem Uq{g:List (dQ×Obj)}{σ:St}{H:Hp}{s:cp}{T:String}{x:V}{v:bV}(I:Inv X g σ H s)(r:RelV x v)(ty:tyV X.K T x H):
 s.TypeIs v T/\∀a,v=.ref a->∃j,s.heap.get? a=aD j/\j.dict=b_:=by cases x with|str z=>obtain⟨t,rfl⟩:=r;cases(show T="str"from ty);exact⟨typeIs_str s z t,λ_ e=>nomatch e⟩|int i=>obtain⟨t,rfl⟩:=r;cases(show T="int"from ty);exact⟨nL s i t,λ_ e=>nomatch e⟩|ref p=>
   cases r;rcases ty with⟨rfl,xs,l⟩|⟨rfl,o,f,hc,hd⟩|⟨rfl,f⟩|⟨rfl,S,n,f⟩;.obtain⟨m,_,pl,_⟩:=I.list l;refine⟨pl.isList.typeIs,λa e=>?_⟩;cases e;obtain⟨o,n,e,c,hd,_⟩:=pl;exact⟨o,e,hd⟩
   .refine⟨⟨o,I.WN p o f,hc⟩,λa e=>?_⟩;cases e;exact⟨o,I.WN _ o f,hd⟩
   . have z:∃o,s.heap.get? p=aD o/\o.ExactDict:=by
      rcases f with⟨kvs,f⟩|⟨kvs,f⟩;.obtain⟨_,_,_,_,o,_,_,e,ex,_⟩:=I.hok p _ f;exact⟨o,e,ex⟩
      .obtain⟨_,_,_,_,o,_,_,e,ex,_⟩:=I.hok p _ f;exact⟨o,e,ex⟩
     obtain⟨o,e,ex⟩:=z;refine⟨⟨o,e,ex.1⟩,λa h=>?_⟩;cases h;exact⟨o,e,ex.2.1⟩
   .obtain⟨o,_,_,_,e,ex,_⟩:=I.hok p _ f;refine⟨⟨o,e,ex.1⟩,λa h=>?_⟩;cases h;exact⟨o,e,ex.2.1⟩|_=>exact gu ty
noncomputable def tBM(K:PySem.W.Frag)(T:String)(r:V->List V->Hp->VK->Prop)(e:TE)(t:TA):TE:=λσ H Q=>e σ H λx c=>tyV K T x c/\t σ c λxs f=>r x xs f Q
variable{o e:eB}{es:List eB}{to:TE}{t:TA}{name:Str}{apos cpos:Pos}{T id:String}{r:V->List V->Hp->VK->Prop}
theorem aat(p:PlainAttrs T)(slot:Slot T name id)(l:typeOf (.builtin id)=fI (.type "method_descriptor"))(q:MtR X id r)(ho:PE X o to)(u:PA X (e::es) t)(g:rX o name X.env (fF o X.env)=fF o X.env:=by rfl)(j:((kN cpos (ea (e::es) X.env)).all (λx=>!x.1)&&(backToKw cpos (tq [] X.env)).all (λx=>x.1.isSome)&&decide ((e::es).length+([]:List pX).length+(if([]:List pX).isEmpty then 0 else 1)<30))=ck:=by rfl)(i:(apos.endLine==cpos.line)=ck:=by rfl)(hs:ea (e::es) X.env=(a_,fF e X.env)::ea es X.env:=by rfl)(f:(kN cpos (ea es X.env)).any (·.1)=a_:=by rfl):PE X (.Call (.Attribute o name apos) (e::es) [] cpos) (tBM X.K T r to t):=by intro c s σ H Q I h;refine wpAny_Call_method_late g j i rfl (dz (ho c s σ H _ I h) λv s1⟨x,H1,I1,r1,ty,q1⟩=>?_);obtain⟨h1,w⟩:=Uq I1 r1 ty;refine⟨T,id,p,slot,l,h1,w,?_⟩;have m:=u cpos c s1 σ H1 _ I1 q1;rw[hs]at m ⊢;refine pr (by show(a_||(kN cpos (ea es X.env)).any (·.1))=a_;rw[f]<;>rfl) (q7 ?_);exact dz m λy s2⟨vs,H2,I2,r2,q2⟩=>q c s2 σ H2 x vs v y Q I2 r1 r2 q2
end
noncomputable def MtM(X:Cx)(id:String)(r:V->List V->Hp->VK->Prop):Prop:=∀(a:List (dQ × Obj))(s:cp)(σ:St)(H:Hp)(x:V)(xs:List V)(v:bV)(b:List bV)(Q:VK),Inv X a σ H s->RelV x v->Vals xs b->r x xs H Q->d_ (ef X.prog X.w) X.A (call (.builtin id) (v::b)) (EP X a σ Q) X.xe s
theorem Vals.one:∀{x:V}{a:List bV},Vals [x] a->∃u,a=[u]/\RelV x u|x,a,h=>by cases h with|cons r t=>cases t;exact⟨_,rfl,r⟩
theorem Vals.two:∀{x y:V}{a:List bV},Vals [x,y] a->∃u v,a=[u,v]/\RelV x u/\RelV y v|x,y,a,h=>by cases h with|cons r t=>cases t with|cons q z=>cases z;exact⟨_,_,rfl,r,q⟩
theorem Vals.zero:∀{a:List bV},Vals [] a->a=[]|_,.nil=>rfl
theorem Vals.reverse{xs:List V}{a:List bV}(h:Vals xs a):Vals xs.reverse a.reverse:=by induction h with|nil=>exact .nil|cons r t b=>rw[kf,kf];exact Vals.append b (.cons r .nil)
theorem Vals.rep{xs:List V}{a:List bV}(h:Vals xs a):∀k:Nat,Vals (dV k xs).flatten (dV k a).flatten|0=>.nil|k+1=>by rw[kz,kz,n9,n9];exact Vals.append h (Vals.rep h k)
theorem foldl_rep(a:List bV):∀(k:Nat)(b:List bV),ts (λc f=>c++f) b.toArray (dV k a.toArray)=(b++(dV k a).flatten).toArray
 |0,b=>by simp|k+1,b=>by
   have e:b.toArray++a.toArray=(b++a).toArray:=by simp
   have g:(b++a)++(dV k a).flatten=b++(dV (k+1) a).flatten:=by rw[kz,n9,List.append_assoc]
   rw[<-g,<-foldl_rep a k (b++a),<-e,kz,List.foldl_cons]
section
variable{X:Cx}{pins:List (dQ×Obj)}{σ:St}{H:Hp}{s:cp}{l b:dQ}{xs ys zs:List V}
theorem Inv.aeR{a its':List bV}{f:Array bV->Array bV}{t':Nat}(I:Inv X pins σ H s)(c:H l=aD (.lst xs))(e:s.heap.get? l=aD {cls:=.type "list",data:=.seq a.toArray n})(g:f a.toArray=its'.toArray)(hv:Vals ys its')(h:ys.length<=sizeLine):Inv X pins σ (upd H l (.lst ys)) {s with heap:=s.heap.update l (ip f),toks:=t'}:=by have q:=PySem.IsL.update e f;rw[g]at q;refine I.write (x:=l) (e:=l) (by rw[c];exact trivial) (.inl rfl) (λm u i j=>(jS s.heap (ip f) (iF i)).trans j) ⟨_,q⟩ ?_;exact⟨h,its',_,hv,q⟩
theorem Inv.U8{a:List bV}{t':Nat}(I:Inv X pins σ H s)(hv:Vals ys a)(c:ys.length<=sizeLine):Inv X pins σ (upd H s.heap.objs.size (.lst ys)) {s with heap:=s.heap.push {cls:=.type "list",data:=.seq a.toArray},toks:=t'}:=I.laid (λ_ _ q=>eO q) (di) ⟨c,a,0,hv,dZ _ rfl⟩
theorem Inv.fresh(I:Inv X pins σ H s):H s.heap.objs.size=b_:=I.hok.fresh (di)
theorem Inv.adi(I:Inv X pins σ H s)(c:H l=aD (.lst xs)):xs.length<=sizeLine/\∃(a:List bV)(n:Nat),Vals xs a/\xs.length=a.length/\s.heap.get? l=aD {cls:=.type "list",data:=.seq a.toArray n}:=by obtain⟨z,a,n,r,e⟩:=I.hok l _ c;exact⟨z,a,n,r,r.length,e⟩
theorem K6(h:n<=sizeLine):mx n=a_:=by unfold mx;exact decide_eq_false (by lia)
end
section
variable{X:Cx}
noncomputable def QF:V->List V->Hp->VK->Prop:=λx vs H Q=>∃l xs y,x=.ref l/\vs=[y]/\H l=aD (.lst xs)/\xs.length<sizeLine/\Q .non (upd H l (.lst (xs++[y])))
theorem uV:MtM X "list.append" QF:=by intro b s σ H x vs v j Q I f g h;obtain⟨l,xs,y,rfl,rfl,c,m,q⟩:=h;cases f;obtain⟨u,rfl,i⟩:=g.one;obtain⟨z,a,n,r,o,e⟩:=I.adi c;refine nS F.slot_list_append ⟨_,e,rfl⟩ F.entry_list_append (F.args_list_append_2 _ _) (PySem.list_append l a.toArray n u (by rw[ec];lia)) ⟨e,?_⟩;refine⟨.non,_,I.aeR (its':=a++[u]) c e (by simp) (r.append (.cons i .nil)) ?_,rfl,q⟩;rw[ib,oN];lia
theorem len_rep{a:Type}(xs:List a)(k:Nat):(dV k xs).flatten.length=k*xs.length:=by induction k with|zero=>simp|succ k b=>rw[kz,n9,ib,b,Nat.succ_mul,Nat.add_comm]
end
end _L
namespace _A
open PySem W Calls PyProof.Rows
theorem qC{P:Params}{h:Heap}:∀(ns:List Int)(vs:List bV),WellAll P h vs (ns.map WData.int)->io vs ns:=by intro ns;induction ns with|nil=>intro vs w;rw[mS]at w;cases w;exact .nil|cons n ns c=>intro vs w;rw[eK]at w;cases w with|cons a b=>cases a;exact .cons _ _ (c _ b)
theorem Gv{l:OpenLaw}{n:Nat}(o:l.most=aD n){P:Params}{h:Heap}{args:List WData}{b:List bV}(c:l.row.toRowW.claim.pre args=ck)(j:WellAll P h b args):∃a vs ns,b=[eR a]/\args=[WData.list (ns.map WData.int)]/\h.get? a=aD {cls:=.type "list",data:=.seq vs.toArray}/\io vs ns/\ns.length<=n:=by
 have m:WShape.hasAll [] args [.list .int]=ck:=(pre_splitW c).1;have hc:l.pre.holds [] {args:=args}=ck:=(pre_splitW c).2;obtain⟨d,r,rfl,h1,p⟩:=hasAllW_cons m;obtain rfl:=hasAllW_nil p;obtain⟨xs,rfl,s⟩:=hasW_list h1;obtain⟨ns,rfl⟩:=items_int s;have e:ns.length<=n:=by
  unfold OpenLaw.pre at hc;have g:(WTm.not (.lt (.lit (.int (n:Int))) (.len (.arg 0)))).holds [] {args:=[.list (ns.map .int)]}=ck:=by have g:=(holds_andW hc).1;rw[o]at g;exact g
  have i:=condW_of g (w_not (w_lt w_lit (w_len_list (w_arg rfl))));rw[en]at i;refine nV λq=>?_;have t:(n:Int)<((ns.length:Nat):Int):=by lia
  first|(rw[decide_eq_true t]at i;exact absurd i (by decide))|(simp at i;lia)
 cases j with|cons w1 u=>cases u;cases w1 with|list ho f=>exact⟨_,_,ns,rfl,rfl,ho,qC ns _ f,e⟩
theorem Hw(l:OpenLaw)(args:List WData):l.row.toRowW.claim.post args (.bool ck) args=ck:=postW_of (r:=l.row.toRowW) (X:=(ck==ck)) (show WShape.has [] (.bool ck) .bool=ck by first|rfl|decide|simp[WShape.has,WShape.arms,WShape.armsAll]) (show(WTm.eq .res (.lit (.bool ck))).value [] {args:=args,res:=aD (.bool ck),after:=args}=aD (.bool (ck==ck))from w_eq_bool (w_res rfl) w_lit) rfl
theorem yc{l:OpenLaw}{n:Nat}{q:ek}{c:List Str}{A:(Str->Option bV)->Heap->Prop}{B:fg->Heap->Prop}{d:DefRec}(I:l.most=aD n)(t:d.params.defaults=[])(call:∀(w:fg)(s₀ b:cp)(mg u:Str->Option bV)(h:dQ)(o:Obj)(v p e:bV)(a:dQ)(vs:List bV)(ns:List Int),Ground q c [] A w s₀ mg u b.heap->B w b.heap->b.heap.get? h=aD o->o.data=.func (docDef d.name d.params d.body d.scope v p e)->b.heap.CodeRec p d.name->mg d.name=aD (.ref h)->b.heap.get? a=aD {cls:=.type "list",data:=.seq vs.toArray}->io vs ns->ns.length<=n->b.gens=#[]->mT (ef l.prog w) m3 (.call (.ref h) ⟨[.ref a],[]⟩) (λr s=>r=.ok (.ret (.bool ck))/\OldK b.heap s.heap/\s.os=b.os/\m_ s.gens) b):WalkO q c A B l.row.toRowW d [] (λf vs=>PySem.call f vs):=by intro w s₀ b mg u G Y h o v p e J kV ho hd x C y L args E as i H M z N;obtain rfl:J=.none:=Dflts.none C t;obtain rfl:kV=.none:=Dflts.noKw C;obtain⟨a,vs,ns,rfl,rfl,j,g,m⟩:=Gv I i z;refine enter_call (sC (call w s₀ b mg u h o v p e a vs ns G Y ho (fd_plain hd) x y j g m L) λr s O=>?_);obtain⟨rfl,Q,U,W⟩:=O;exact⟨.inl ⟨.bool ck,.bool ck,[],rfl,λ_=>rfl,.bool ck,Hw l _,λ_=>⟨List.Pairwise.nil,λ_ X=>(nomatch X)⟩⟩,Q,U,W⟩
end _A
namespace _L
open PySem Spec PyProof.Rows
theorem uF:∀{vs:List bV}{ns:List Int},io vs ns->Vals (ns.map V.int) vs|_,_,.nil=>.nil|_,_,.cons n t h=>.cons ⟨t,rfl⟩ (uF h)
noncomputable def Only(H:Hp):Prop:=∀b,H b=b_\/∃o xs,H b=aD (.fG o (.lst xs))
theorem Iz{P:ek}{w:fg}{K:PySem.W.Frag}{mg G:Str->Option bV}{CX:Mt}{k:Nat}{I a:dQ}{fd:ja}{x:Str}{sp:Sp}{c:cp}{vs:List bV}{ns:List Int}(Q:K.In c.heap)(p:c.heap.Ns eF mg)(f:c.heap.Ns builtinsNs G)(J:∀x:Str,x≠"__name__"->G x=gc x)(t:c.heap.NoLimit)(hg:c.gens=#[])(E:c.heap.get? a=aD {cls:=.type "list",data:=.seq vs.toArray})(hi:io vs ns)(U:ns.length<=sizeLine)(hr:lM k m3)(F:∀base:Heap,K.In base->base.Ns eF mg->o7 P w K mg base CX k I fd [x] sp)(l:∀(s:cp)(u:bV),pY s fd ⟨[u],[]⟩ [(x,u)])(L:∀H:Hp,Only H->fU K H a (ns.map V.int)->sp [.ref a] H (λv _=>v=.bl ck) λ_ _ _=>False)(M:∀H e g,CX [] H c (λ_ _ _=>False) e g->False):mT (ef P w) m3 (.call (.ref I) ⟨[.ref a],[]⟩) (λr g=>r=.ok (.ret (.bool ck))/\OldK c.heap g.heap/\g.os=c.os/\m_ g.gens) c:=by
 have X:=uF hi;have y:=hi.length--from an abstract heap in which nothing but the script may be tracked
 have j:∀H:Hp,Only H->fU K H a (ns.map V.int)->o6 P w H c.heap->(∀b,H b≠b_->b=a)->(H a≠b_->K.lookup a=b_)->mT (ef P w) m3 (.call (.ref I) ⟨[.ref a],[]⟩) (λr g=>r=.ok (.ret (.bool ck))/\OldK c.heap g.heap/\g.os=c.os/\m_ g.gens) c:=by
  intro H Y hS hok Z hK;have Fw:∀{b:dQ}{o:Obj},c.heap.get? b=aD o->H b=b_->(wA c.heap H).get? b=aD o:=λe n=>KH e n;have N:∀{b:dQ}{o:Obj}{es:Array l6}{ep:Nat},c.heap.get? b=aD o->o.data=.dict es ep->H b=b_:=λ{b o es ep}e d=>by cases q:H b with|none=>rfl|some u=>have O:b=a:=Z b (by rw[q];simp);subst O;rw[E]at e;cases e;have d':Data.seq vs.toArray _=Data.dict es ep:=d;cases d'
  have i:∀{b:dQ}{m:Str->Option bV},c.heap.Ns b m->(wA c.heap H).Ns b m:=λ{b m}⟨o,es,ep,e,d,r⟩=>⟨o,es,ep,Fw e (N e d),d,r⟩;have A:K.In (wA c.heap H):=λb o e=>Fw (Q b o e) (by cases q:H b with|none=>rfl|some u=>have O:b=a:=Z b (by rw[q];simp);subst O;rw[hK (by rw[q];simp)]at e;cases e);have hM:Mod K mg (wA c.heap H):=⟨A,i p,⟨G,i f,J⟩,let⟨mc,h1,h2⟩:=t;⟨mc,i h1,h2⟩⟩;have e0:Qy P w K mg (wA c.heap H) m3 [] c H:=⟨rfl,hM,λb o e=>Qj e,Nat.le_of_eq (GK _ _),trivial,λb f=>absurd (show b∈([]:List dQ)from f) (by simp),hok,.of_eq hg⟩;refine sC ((F _ A (i p)).run m3 [] c H ⟨[.ref a],[]⟩ [.ref a] [.ref a] _ _ hr e0 (l c (.ref a)) (.cons rfl .nil) (L H Y hS)) λr g h=>?_;cases r with|error e=>exact(M H e g h).elim|ok fl=>cases fl with|next=>exact gu h|brk=>exact gu h|cont=>exact gu h|ret u=>obtain⟨v,H',os,bare,un,B,r',q⟩:=h;have q':v=.bl ck:=q;subst q';obtain rfl:u=kT ck:=r';refine⟨rfl,OldK.of_keep λb o e=>?_,os,bare⟩;cases q:H b with|none=>exact un.keep b o e q (by intro z;exact absurd (show b∈([]:List dQ)from z) (by simp)) (by simp)|some u=>
        rcases Y b with z|⟨ob,xs,z⟩;.rw[q]at z;cases z
        .have z2:=un.xj b ob _ z;obtain⟨e1,_⟩:=hok b _ z;obtain⟨e2,_⟩:=B b _ z2;rw[e]at e1;cases e1;exact e2
 cases hk:K.lookup a with|some o=>--the script is one of the module's own objects
   have e:=Q a o hk;rw[E]at e;cases e;refine j (λ_=>b_) (λ_=>.inl rfl) (.inr ⟨_,vs.toArray,_,hk,rfl,rfl,rfl,by rw[ec,y];exact U,by simpa using X⟩) (λb u z=>by have C:(b_:Option HO)=aD u:=z;cases C) (λb z=>absurd rfl z) λz=>absurd rfl z|none=>
   refine j (λb=>if b=a then aD (.fG {cls:=.type "list",data:=.seq vs.toArray} (.lst (ns.map V.int)))else b_) (λb=>?_) (.inl (.inr ⟨{cls:=.type "list",data:=.seq vs.toArray},if_pos rfl⟩)) (λb u z=>?_) (λb z=>?_) λ_=>hk
   . by_cases f:b=a;.exact .inr ⟨_,_,if_pos f⟩
     .exact .inl (if_neg f)
   . by_cases f:b=a;.have C:=(if_pos f).symm.trans z;cases C;subst f;exact⟨E,by rw[en];exact U,vs,_,X,E⟩
     .have C:=(if_neg f).symm.trans z;cases C
   . by_cases f:b=a;.exact f
     .exact absurd (if_neg f) z
theorem Qo{l:PySem.W.OpenLaw}{n k:Nat}{q:ek}{i:List Str}{J:(Str->Option bV)->Heap->Prop}{E:fg->Heap->Prop}{d:DefRec}{K:Params->PySem.W.Frag}{CX:fg->Mt}{sp:fg->Sp}{x:Str}(L:l.most=aD n)(t:n<=sizeLine)(y:d.params.defaults=[])(hr:lM k m3)(M:∀(w:fg)(h:Heap),E w h->(K w.params).In h)(F:∀(w:fg)(mg:Str->Option bV)(r:dQ)(h:Heap),(K w.params).In h->h.Ns eF mg->mg d.name=aD (.ref r)->∃ fd:ja,(∀(s:cp)(u:bV),pY s fd ⟨[u],[]⟩ [(x,u)])/\∀base:Heap,(K w.params).In base->base.Ns eF mg->o7 l.prog w (K w.params) mg base (CX w) k r fd [x] (sp w))(z:∀(w:fg)(H:Hp)(a:dQ)(ns:List Int),ns.length<=n->Only H->fU (K w.params) H a (ns.map V.int)->sp w [.ref a] H (λv _=>v=.bl ck) λ_ _ _=>False)(A:∀(w:fg)(H:Hp)(s:cp)(e:bV)(B:cp),CX w [] H s (λ_ _ _=>False) e B->False):PySem.W.WalkO q i J E l.row.toRowW d [] (λf vs=>PySem.call f vs):=by refine _A.yc L y λw s₀ m mg mb r o pm cd N a vs ns G Y ho hd O C p j c Q=>?_;have I:=M w _ Y;obtain⟨fd,U,X⟩:=F w mg r _ I G.T.g C;exact Iz I G.T.g G.T.b G.T.builtins G.T.nolimit Q p j (kb c t) hr X U (λH Z hS=>z w H a ns c Z hS) λH e B=>A w H m e B
theorem K3{l:PySem.W.OpenLaw}{n k:Nat}{q:ek}{b:List Str}{r:(Str->Option bV)->Heap->Prop}{o:fg->Heap->Prop}{d:DefRec}{K:Params->PySem.W.Frag}{CX:Mt}{sp:PySem.W.Frag->Sp}{x:Str}(t:l.most=aD n)(c:n<=sizeLine)(g:d.params.defaults=[])(hr:lM k m3)(y:∀(w:fg)(h:Heap),o w h->(K w.params).In h)(F:∀(w:fg)(mg:Str->Option bV)(p:dQ)(h:Heap),(K w.params).In h->h.Ns eF mg->mg d.name=aD (.ref p)->∃ fd:ja,(∀(s:cp)(u:bV),pY s fd ⟨[u],[]⟩ [(x,u)])/\∀base:Heap,(K w.params).In base->base.Ns eF mg->o7 l.prog w (K w.params) mg base CX k p fd [x] (sp (K w.params)))(i:∀(K:PySem.W.Frag)(H:Hp)(a:dQ)(ns:List Int),ns.length<=n->Only H->fU K H a (ns.map V.int)->sp K [.ref a] H (λv _=>v=.bl ck) λ_ _ _=>False)(j:∀(H:Hp)(s:cp)(e:bV)(m:cp),CX [] H s (λ_ _ _=>False) e m->False):PySem.W.WalkO q b r o l.row.toRowW d [] (λf vs=>PySem.call f vs):=Qo (K:=K) (CX:=λ_=>CX) (sp:=λw=>sp (K w.params)) t c g hr y F (λw H a ns h1 z A=>i (K w.params) H a ns h1 z A) λ_ H s e m=>j H s e m
end _L
namespace _L
open PySem Spec PyProof.Rows
noncomputable def j4(s:fR):Arguments:=match s with|.FunctionDef _ a _ _ _ _ _ _ _ _=>a|_=>{posonlyargs:=[],args:=[],vararg:=b_,kwonlyargs:=[],kw_defaults:=[],kwarg:=b_,defaults:=[]}
noncomputable def iI(s:fR):List fR:=match s with|.FunctionDef _ _ b _ _ _ _ _ _ _=>b|_=>[]
noncomputable def aC(s:fR):k8:=match s with|.FunctionDef _ _ _ _ _ _ a _ _ _=>a|_=>{kind:=.function,names:=[],isGenerator:=a_,isCoroutine:=a_}
noncomputable abbrev JC:Mt:=λ_ _ _ _ _ _=>False
noncomputable abbrev E0:XK:=λ_ _ _=>False
theorem aam{X:Cx}:Passes JC X E0:=λ_ _ _ _ _ _ _ h=>h.elim
structure iM(K:PySem.W.Frag)(x qual:Str)(st:fR)(f:dQ)(fd:ja):Prop where
 ex:∃(oc:bV)(od:Option dQ)(kV doc pm:bV)(an:Option dQ)(cdv ct:bV)(osl:Array (Option bV)),fd=PySem.W.fnOf x qual (j4 st) (iI st) (aC st) .none kV doc pm an cdv ct/\K.lookup f=aD ⟨oc,od,.func fd,osl⟩/\PySem.W.codeIn K cdv qual=ck
 kp:keepIn K (.ref f)=ck
section
variable{P:ek}{w:fg}{K:PySem.W.Frag}{mg:Str->Option bV}{base:Heap}
theorem iM.ok{x qual:Str}{st:fR}{f:dQ}{fd:ja}{N ps:List Str}{k:Nat}{sp:Sp}(F:iM K x qual st f fd)(S:aL N ps (aC st))(len:∀vs H Q E,sp vs H Q E->vs.length=ps.length)(a:∀(cdv:bV)(A:fb)(outer:List Env)(s:cp)(H:Hp)(vs:List V)(Q:VK)(E:XK),lM k (A.deeper (mE qual (aC st) s.heap.objs.size f cdv))->sp vs H Q E->∃t,zW (Ax JC P w K mg base N qual (aC st) f cdv A outer s H E).ZR (iI st) t/\t {nx:=λ_ H'=>Q .non H',rt:=Q} (start N vs) H):o7 P w K mg base JC (k+1) f fd ps sp:=by obtain⟨i,j,kV,e,l,m,cdv,ct,g,rfl,lk,b⟩:=F.ex;refine aag lk b S len λA outer s H vs Q E hr c=>?_;obtain⟨t,h,q⟩:=a cdv A outer s H vs Q E hr c;exact⟨t,h.ZR,q⟩
theorem iM.binds{x qual:Str}{st:fR}{f:dQ}{fd:ja}{ps:List Str}(F:iM K x qual st f fd)(h:∀(kV a b:bV)(c:Option dQ)(cdv ct:bV)(e:List bV),e.length=ps.length->tI (PySem.W.fnOf x qual (j4 st) (iI st) (aC st) .none kV a b c cdv ct) ⟨e,[]⟩=fI (ps.zip e)):Binds K fd ps []:=by obtain⟨j,l,kV,a,b,c,cdv,ct,g,rfl,lk,i⟩:=F.ex;exact .all (h kV a b c cdv ct)
theorem Ug{x qual:Str}{st:fR}{f:dQ}{h:bV}{i e:Option dQ}{b:Array (Option bV)}{kV a g cdv ct:bV}(l:K.lookup f=aD ⟨h,i,.func (PySem.W.fnOf x qual (j4 st) (iI st) (aC st) .none kV a g e cdv ct),b⟩)(c:PySem.W.codeIn K cdv qual=ck)(k:keepIn K (.ref f)=ck):iM K x qual st f (PySem.W.fnOf x qual (j4 st) (iI st) (aC st) .none kV a g e cdv ct):=⟨⟨h,i,kV,a,g,e,cdv,ct,b,rfl,l,c⟩,k⟩
end
noncomputable def aM(H H':Hp):Prop:=∀b o,H b=aD o->H' b=aD o
theorem aM.refl(H:Hp):aM H H:=λ_ _ h=>h
theorem aM.trans{H e f:Hp}(a:aM H e)(b:aM e f):aM H f:=λc o h=>b c o (a c o h)
theorem aM.seq{K:PySem.W.Frag}{H H':Hp}{a:dQ}{xs:List V}(e:aM H H')(h:fU K H a xs):fU K H' a xs:=by
 rcases h with(h|⟨o,h⟩)|h;.exact .inl (.inl (e _ _ h))
 .exact .inl (.inr ⟨o,e _ _ h⟩)
 .exact .inr h
end _L
namespace _H
open PySem
set_option genInjectivity true in inductive Dc where|k(kvs:List (Int×Int))|t(kvs:List (List Int×Int))deriving DecidableEq
set_option genInjectivity true in inductive D where|non|bl(b:Bool)|int(i:Int)|str(s:Str)|tup(ds:List D)|lst(ds:List D)|dD(m:Dc)|dv(ks:List Int)(ds:List D)deriving Inhabited
mutual
noncomputable def mZ:D->D->Bool|.non,.non=>ck|.bl a,.bl b=>a==b|.bl a,.int i=>(if a then(1:Int)else 0)==i|.int i,.bl a=>i==(if a then(1:Int)else 0)|.int i,.int j=>i==j|.str a,.str b=>a==b|.tup xs,.tup ys=>jt xs ys|.lst xs,.lst ys=>jt xs ys|.dD a,.dD b=>decide (a=b)|.dv a xs,.dv b ys=>decide (a=b)&&jt xs ys|_,_=>a_
noncomputable def jt:List D->List D->Bool|[],[]=>ck|x::xs,y::ys=>mZ x y&&jt xs ys|_,_=>a_
end
theorem nH:jt [] []=ck:=rfl
theorem jN{x y:D}{xs ys:List D}:jt (x::xs) (y::ys)=(mZ x y&&jt xs ys):=rfl
theorem qX{y:D}{ys:List D}:jt [] (y::ys)=a_:=rfl
theorem sX{x:D}{xs:List D}:jt (x::xs) []=a_:=rfl
theorem pqi{i j}:mZ (.int i) (.int j)=(i==j):=(rfl)
theorem pqt{x y}:mZ (.tup x) (.tup y)=jt x y:=(rfl)
theorem pql{x y}:mZ (.lst x) (.lst y)=jt x y:=(rfl)
noncomputable def iV:Nat->D->Bool|_,.non=>ck|_,.bl _=>ck|_,.int _=>ck|_,.str _=>ck|0,.tup _=>a_|0,.lst _=>a_|_,.dD _=>a_|_,.dv _ _=>a_|n+1,.tup a=>a.all (iV n)|n+1,.lst a=>a.all (iV n)
theorem cA{n:Nat}{a:List D}:iV (n+1) (.tup a)=a.all (iV n):=rfl
theorem bY{n:Nat}{a:List D}:iV (n+1) (.lst a)=a.all (iV n):=rfl
theorem cu{n:Nat}{m:Dc}:iV n (.dD m)=a_:=by cases n<;>rfl
theorem cz{n:Nat}{k:List Int}{a:List D}:iV n (.dv k a)=a_:=by cases n<;>rfl
theorem cj{a:List D}:iV 0 (.tup a)=a_:=rfl
theorem cC{a:List D}:iV 0 (.lst a)=a_:=rfl
set_option genInjectivity true in inductive Sl where|aN|val(b:Bool)(d:D)|own(b:Bool)(ds:List D)|lent(ds:List D)|eG(m:Dc)|hold(rows:List (List D))|vp(kvs:List (Int×D))deriving Inhabited
set_option genInjectivity true in inductive R where|val(d:D)|own(ds:List D)deriving Inhabited
noncomputable def R.d:R->D|.val d=>d|.own a=>.lst a
set_option genInjectivity true in inductive Res(α:Type)where|ok(a:α)(ρ:List Sl)|exc(k:Nat)(ρ:List Sl)|stuck deriving Inhabited
noncomputable def Res.bind{b c:Type}(f:b->List Sl->Res c):Res b->Res c|.ok a ρ=>f a ρ|.exc _ _=>.stuck|.stuck=>.stuck
noncomputable def lift{b:Type}(o:Option b)(ρ:List Sl):Res b:=match o with|some a=>.ok a ρ|none=>.stuck
inductive Op where|add|sub|mul|fdiv|mod|pow|shl|shr|band|Hz|din|af6
inductive Cm where|eq|ne|lt|le|gt|ge|isN|aaY|inn|aaZ|isT|aa0|leT
inductive Ty where|int|bool|str|tuple|list|none
inductive Blt where|len|list|tuple|min2|max2|HB|HD|sum|all|sorted|abs|int|keys|zH|lkT|HF
inductive P where|var(i:Nat)|con(d:D)|bin(o:Op)(a b:P)|neg(a:P)|not(a:P)|and(a b:P)|or(a b:P)|cmp(o:Cm)(a b:P)|chain(o o':Cm)(a b c:P)|Wk(c a b:P)|tup(as:List P)|lst(as:List P)|idx(a i:P)|slice(a lo hi:P)|call(f:Nat)(as:List P)|blt(b:Blt)(as:List P)|comp(src:P)(n:Nat)(is:List Nat)(one:Bool)(test:Option P)(elt:P)|nJ(a b:P)|enm(a:P)|zip(a b:P)|rev(a:P)|Wl(x:Nat)(k d:P)|vw(x:Nat)|RW(x:Nat)(ks:List P)|CK(x:Nat)(ks:List P)(d:P)deriving Inhabited
noncomputable abbrev lim:Nat:=16777216
noncomputable def sO:D->D->Option R|.int i,.int j=>aD (.val (.int (i+j)))|.lst xs,.lst ys=>if xs.length+ys.length<=lim then aD (.own (xs++ys))else b_|.tup xs,.tup ys=>if xs.length+ys.length<=lim then aD (.val (.tup (xs++ys)))else b_|.str x,.str y=>if x.length+y.length<=lim then aD (.val (.str (x++y)))else b_|_,_=>b_
noncomputable def qg:D->D->Option R|.int i,.int j=>if((-18446744073709551616<i/\i<18446744073709551616)\/(-18446744073709551616<j/\j<18446744073709551616))then aD (.val (.int (i*j)))else b_|.lst xs,.int k=>if 0<=k/\0<xs.length/\xs.length*k.toNat<=lim then aD (.own (dV k.toNat xs).flatten)else b_|.tup xs,.int k=>if 0<=k/\0<xs.length/\xs.length*k.toNat<=lim then aD (.val (.tup (dV k.toNat xs).flatten))else b_|_,_=>b_
noncomputable def yf:D->D->Option R|.int i,.int j=>aD (.val (.int (i-j)))|_,_=>b_
noncomputable def tD:D->D->Option R|.int i,.int j=>if 0<j/\j<1606938044258990275541962092341162602522202993782792835301376 then aD (.val (.int (i/j)))else b_|_,_=>b_
noncomputable def yg:D->D->Option R|.int i,.int j=>if 0<j then aD (.val (.int (i%j)))else b_|_,_=>b_
noncomputable def yC:D->D->Option R|.int i,.int j=>if 0<=j/\j<=1000/\i.natAbs<18446744073709551616 then aD (.val (.int (i^j.toNat)))else b_|_,_=>b_
noncomputable def JK:D->D->Option R|.int i,.int j=>if 0<=j/\j<=1000/\i.natAbs<18446744073709551616 then aD (.val (.int (i*2^j.toNat)))else b_|_,_=>b_
noncomputable def Jc:D->D->Option R|.int i,.int j=>if 0<=j then aD (.val (.int (i/2^j.toNat)))else b_|_,_=>b_
noncomputable def Aw:D->D->Option R|.int i,.int j=>aD (.val (.int (Builtin.bitAnd i j)))|_,_=>b_
noncomputable def flat:D->Bool|.tup _=>a_|.lst _=>a_|.dD _=>a_|.dv _ _=>a_|_=>ck
noncomputable def items:D->Option (List D)|.lst a=>aD a|.tup a=>aD a|_=>b_
noncomputable def sH:D->Option (List D)|.tup a=>aD a|_=>b_
noncomputable def Mh(x y:D):Option Bool:=if iV 8 x&&iV 8 y then aD (mZ x y)else b_
noncomputable def Ld(x y:D):Option Bool:=if iV 8 x&&iV 8 y then aD (!mZ x y)else b_
noncomputable def M5(f:Int->Int->Bool):D->D->Option Bool|.int i,.int j=>aD (f i j)|_,_=>b_
noncomputable def lg:D->Bool|.non=>ck|_=>a_
noncomputable def cmN(neg:Bool)(x:D):D->Option Bool|.non=>aD (if neg then !lg x else lg x)|_=>b_
noncomputable def aaO(neg:Bool)(x y:D):Option Bool:=(items y).bind λys=>if(flat x&&ys.all flat)=ck then aD (if neg then !(ys.any λy=>mZ y x)else ys.any λy=>mZ y x)else b_
noncomputable def cmT(neg:Bool):D->D->Option Bool|.bl b,.bl ck=>aD (if neg then !b else b)|_,_=>b_
noncomputable def bH:List Int->List Int->Bool|[],_::_=>ck|i::is,j::js=>decide (i<j)||(decide (i=j)&&bH is js)|_,[]=>a_
noncomputable def gB:D->Int|.int i=>i|_=>0
noncomputable def bT:D->List Int|.int i=>[i]|.tup a=>a.map gB|_=>[]
noncomputable def dX:D->Bool|.int _=>ck|_=>a_
noncomputable def Dc.get:Dc->D->Option (Option Int)|.k kvs,.int i=>aD ((kvs.find? λa=>decide (a.1=i)).map (·.2))|_,_=>b_
noncomputable def putD{κ:Type}[DecidableEq κ](kvs:List (κ×Int))(k:κ)(v:Int):List (κ×Int):=if(kvs.any λa=>decide (a.1=k))=ck then kvs.map (λa=>if a.1=k then(a.1,v)else a)else kvs++[(k,v)]
noncomputable def Dc.put:Dc->D->Int->Option Dc|.k kvs,.int i,v=>if kvs.length<lim then aD (.k (putD kvs i v))else b_|_,_,_=>b_
noncomputable def Dc.yW:Dc->List D->Option (Option Int)|.t kvs,a=>if a.all dX=ck then aD ((kvs.find? λb=>decide (b.1=a.map gB)).map (·.2))else b_|_,_=>b_
noncomputable def Dc.NZ:Dc->List D->Int->Option Dc|.t kvs,a,v=>if a.all dX=ck/\kvs.length<lim then aD (.t (putD kvs (a.map gB) v))else b_|_,_,_=>b_
noncomputable def Ft:D->List D->Option R|.dD m,ks=>(m.yW ks).bind λo=>o.map λv=>.val (.int v)|_,_=>b_
noncomputable def Oq(kvs:List (Int×D))(k:Int):Option D:=(kvs.find? λp=>decide (p.1=k)).map (·.2)
noncomputable def vput(kvs:List (Int×D))(k:Int)(d:D):List (Int×D):=if(kvs.any λp=>decide (p.1=k))=ck then kvs.map (λp=>if p.1=k then(p.1,d)else p)else kvs++[(k,d)]
noncomputable def aaC(neg:Bool):D->D->Option R|.int k,.dv ks _=>aD (.val (.bl (if neg then !ks.contains k else ks.contains k)))|_,_=>b_
noncomputable def uK:D->D->Option R|.dD m,k=>(m.get k).bind λo=>o.map λv=>.val (.int v)|.dv ks a,.int k=>(Oq (ks.zip a) k).map .val|_,_=>b_
noncomputable def vV:Op->D->D->Option R|.add=>sO|.mul=>qg|.sub=>yf|.fdiv=>tD|.mod=>yg|.pow=>yC|.shl=>JK|.shr=>Jc|.band=>Aw|.Hz=>uK|.din=>aaC a_|.af6=>aaC ck
noncomputable def ZG:D->D->Option Bool|.int i,.int j=>aD (decide (i<j))|.tup xs,.tup ys=>if(xs.all dX&&ys.all dX)=ck then aD (bH (xs.map gB) (ys.map gB))else b_|_,_=>b_
noncomputable def ae3:D->D->Option Bool|.int i,.int j=>aD (decide (i<=j))|.tup xs,.tup ys=>if(xs.all dX&&ys.all dX)=ck then aD (!bH (ys.map gB) (xs.map gB))else b_|_,_=>b_
noncomputable def cm:Cm->D->D->Option Bool|.eq=>Mh|.ne=>Ld|.lt=>ZG|.le=>M5 λi j=>decide (i<=j)|.leT=>ae3|.gt=>M5 λi j=>decide (j<i)|.ge=>M5 λi j=>decide (j<=i)|.isN=>cmN a_|.aaY=>cmN ck|.inn=>aaO a_|.aaZ=>aaO ck|.isT=>cmT a_|.aa0=>cmT ck
noncomputable def tW(o:Cm)(x y:D):Option R:=(cm o x y).map λk=>.val (.bl k)
noncomputable def kZ(n:Nat)(i:Int):Option Nat:=if 0<=i then(if i<n then aD i.toNat else b_)else if-(n:Int)<=i then aD (i+n).toNat else b_
noncomputable def at'{a:Type}(xs:List a)(i:Int):Option a:=(kZ xs.length i).bind λj=>xs[j]?
noncomputable def dY(n d:Nat):Option Int->Nat|none=>d|some i=>if 0<=i then min i.toNat n else(i+n).toNat
noncomputable def cut{a:Type}(xs:List a)(lo hi:Option Int):List a:=(xs.drop (dY xs.length 0 lo)).take (dY xs.length xs.length hi-dY xs.length 0 lo)
noncomputable def gD:D->Option Int|.int i=>aD i|_=>b_
noncomputable def Cu:D->Option Bool|.bl b=>aD b|_=>b_
noncomputable def dl2(k e:Int)(x y:D):Option R:=(gD x).bind λi=>(gD y).bind λj=>if i=k then b_ else aD (.val (.dv [k,i] [.int e,.int j]))
noncomputable def lixR:D->D->Option R|.lst a,.int i=>(a.mapM gD).bind λns=>if i∈ns/\ns.length<=1000 then aD (.val (.int (ns.idxOf i)))else b_|_,_=>b_
noncomputable def pG(x y:D):Option R:=(items x).bind λa=>(gD y).bind λi=>(at' a i).map .val
noncomputable def Iu(x:D):Option R:=(gD x).map λi=>.val (.int (-i))
noncomputable def vD:P->Bool|.con .non=>ck|_=>a_
noncomputable def part(p:P)(d:D):Option (Option Int):=if vD p then aD b_ else(gD d).map aD
noncomputable def Gn:D->Option (Option Int)->Option (Option Int)->Option R|.lst xs,aD lo,aD hi=>aD (.own (cut xs lo hi))|.tup xs,aD lo,aD hi=>aD (.val (.tup (cut xs lo hi)))|_,_,_=>b_
noncomputable def dR:Ty->D->Bool|.int,.int _=>ck|.int,.bl _=>ck|.bool,.bl _=>ck|.str,.str _=>ck|.tuple,.tup _=>ck|.list,.lst _=>ck|.none,.non=>ck|_,_=>a_
noncomputable def rW:D->Bool|.tup (x::xs)=>(x::xs).all dX|_=>a_
noncomputable def sortable(ds:List D):Bool:=decide (ds.length<=63)&&(ds.all dX||ds.all rW)
noncomputable def lu(c:List D):List D:=c.mergeSort λa b=>!bH (bT b) (bT a)
noncomputable def ordP:D->Bool|.tup [.int _,.tup ws]=>ws.all dX|_=>a_
noncomputable def flP:D->D|.tup [.int h,.tup ws]=>.tup (.int h::ws)|d=>d
noncomputable def ufP:D->D|.tup (.int h::ws)=>.tup [.int h,.tup ws]|d=>d
noncomputable def sI:D->Option (List D)|.lst a=>aD a|_=>b_
noncomputable def rF(p:Int×Int):D:=.tup [.int p.1,.int p.2]
noncomputable def blt:Blt->List D->Option R|.len,[x]=>(items x).map λa=>.val (.int a.length)|.list,[x]=>(items x).map λa=>.own a|.tuple,[x]=>(items x).map λa=>.val (.tup a)|.min2,[.int i,.int j]=>aD (.val (.int (if j<i then j else i)))|.max2,[.int i,.int j]=>aD (.val (.int (if i<j then j else i)))|.HB,[x]=>((items x).bind λa=>a.mapM gD).bind λns=>ns.min?.map λi=>.val (.int i)|.HD,[x]=>((items x).bind λa=>a.mapM gD).bind λns=>ns.max?.map λi=>.val (.int i)|.sum,[x]=>((items x).bind λa=>a.mapM gD).map λns=>.val (.int ns.sum)|.all,[x]=>((sI x).bind λa=>a.mapM Cu).map λbs=>.val (.bl (bs.all id))|.sorted,[x]=>(sI x).bind λa=>if sortable a then aD (.own (lu a))else b_|.abs,[.int i]=>aD (.val (.int (if i<0 then-i else i)))|.int,[.int i]=>aD (.val (.int i))|.int,[.bl b]=>aD (.val (.int (if b then 1 else 0)))|.keys,[.dD (.k kvs)]=>aD (.val (.tup (kvs.map λp=>.int p.1)))|.keys,[.dv ks _]=>aD (.val (.tup (ks.map D.int)))|.lkT,[.dD (.t kvs)]=>if kvs.length<=16777216 then aD (.own (kvs.map λp=>.tup (p.1.map D.int)))else b_|.HF,[.lst a]=>aD (.own a.reverse)|.zH,[.dD (.k kvs)]=>if sortable (kvs.map λp=>.int p.1)then aD (.own (lu (kvs.map λp=>.int p.1)))else b_|_,_=>b_
noncomputable def pk(ρ:List Sl)(i:Nat):Option D:=match ρ[i]?with|some (.val _ d)=>aD d|some (.own _ a)=>aD (.lst a)|some (.lent a)=>aD (.lst a)|_=>b_
noncomputable def pkL(ρ:List Sl)(i:Nat):Option (List D):=match pk ρ i with|some (.lst a)=>aD a|_=>b_
noncomputable abbrev Ev:=List Sl->Res R
noncomputable def isVar:P->Option Nat|.var i=>aD i|_=>b_
noncomputable def cT(i:Option Nat)(e:Ev)(ρ:List Sl):Res D:=match i with|some i=>lift (pk ρ i) ρ|none=>(e ρ).bind λr ρ=>.ok r.d ρ
noncomputable def jH(i:Option Nat)(e:Ev)(j:Option Nat)(f:Ev)(ρ:List Sl):Res (D×D):=match i with|some i=>(lift (pk ρ i) ρ).bind λ_ ρ=>(cT j f ρ).bind λy ρ=>(lift (pk ρ i) ρ).bind λx ρ=>.ok (x,y) ρ|none=>(cT b_ e ρ).bind λx ρ=>(cT j f ρ).bind λy ρ=>.ok (x,y) ρ
noncomputable def lG(e:Ev)(ρ:List Sl):Res Bool:=(e ρ).bind λr ρ=>lift (Cu r.d) ρ
set_option genInjectivity true in inductive Arg where|dat(d:D)|tmp(ds:List D)|gW(i:Nat)
noncomputable def uW:R->Arg|.val d=>.dat d|.own a=>.tmp a
noncomputable def cO(ρ:List Sl):List Arg->List Nat->Option (List Sl)|[],_=>aD []|.dat d::r,a=>(cO ρ r a).map λs=>.val a_ d::s|.tmp b::r,a=>(cO ρ r a).map λs=>.own a_ b::s|.gW i::r,a=>match ρ[i]?with|some (.val _ d)=>(cO ρ r a).map λs=>.val a_ d::s|some (.own _ b)=>if a.contains i then b_ else(cO ρ r (i::a)).map λs=>.own ck b::s|some (.lent b)=>if a.contains i then b_ else(cO ρ r (i::a)).map λs=>.lent b::s|_=>b_
theorem Bc{ρ:List Sl}{u:List Nat}:cO ρ [] u=aD []:=rfl
theorem Bm{ρ:List Sl}{d:D}{r:List Arg}{u:List Nat}:cO ρ (.dat d::r) u=(cO ρ r u).map λs=>.val a_ d::s:=rfl
theorem Ae{ρ:List Sl}{d:List D}{r:List Arg}{u:List Nat}:cO ρ (.tmp d::r) u=(cO ρ r u).map λs=>.own a_ d::s:=rfl
theorem rG{ρ:List Sl}{i:Nat}{r:List Arg}{u:List Nat}:cO ρ (.gW i::r) u=match ρ[i]?with|some (.val _ d)=>(cO ρ r u).map λs=>.val a_ d::s|some (.own _ a)=>if u.contains i then b_ else(cO ρ r (i::u)).map λs=>.own ck a::s|some (.lent a)=>if u.contains i then b_ else(cO ρ r (i::u)).map λs=>.lent a::s|_=>b_:=rfl
noncomputable def bD(i:Nat):List Arg->List Sl->Option Sl|.gW k::as,s::ss=>if k=i then aD s else bD i as ss|.dat _::as,_::ss=>bD i as ss|.tmp _::as,_::ss=>bD i as ss|_,_=>b_
noncomputable def gF:Sl->Option Sl->Sl|.own b _,aD (.own _ a)=>.own b a|.own b _,aD (.val _ d)=>.val b d|s,_=>s
noncomputable def gn(as:List Arg)(ss:List Sl):Nat->List Sl->List Sl|_,[]=>[]|i,s::ρ=>gF s (bD i as ss)::gn as ss (i+1) ρ
theorem rO{as:List Arg}{ss:List Sl}{i:Nat}:gn as ss i []=[]:=rfl
theorem nG{as:List Arg}{ss:List Sl}{i:Nat}{s:Sl}{ρ:List Sl}:gn as ss i (s::ρ)=gF s (bD i as ss)::gn as ss (i+1) ρ:=rfl
noncomputable abbrev Call:=Nat->List Sl->Res R
noncomputable def tG(c:Call)(f:Nat)(as:List Arg)(ρ:List Sl):Res R:=match cO ρ as []with|none=>.stuck|some args=>match c f args with|.ok r a=>.ok r (gn as a 0 ρ)|.exc _ _=>.stuck|.stuck=>.stuck
noncomputable def put(ρ:List Sl)(i:Nat)(s:Sl):Option (List Sl):=match ρ[i]?with|some .aN=>aD (ρ.set i s)|some (.val a_ _)=>aD (ρ.set i s)|some (.own a_ _)=>aD (ρ.set i s)|_=>b_
noncomputable def putAll(ρ:List Sl):List Nat->List D->Option (List Sl)|[],[]=>aD ρ|i::is,d::a=>(put ρ i (.val a_ d)).bind λρ=>putAll ρ is a|_,_=>b_
theorem jZ{ρ:List Sl}:putAll ρ [] []=aD ρ:=rfl
theorem iB{ρ:List Sl}{i:Nat}{is:List Nat}{d:D}{a:List D}:putAll ρ (i::is) (d::a)=(put ρ i (.val a_ d)).bind λρ=>putAll ρ is a:=rfl
theorem nF{ρ:List Sl}{i:Nat}{is:List Nat}:putAll ρ (i::is) []=b_:=rfl
theorem nC{ρ:List Sl}{d:D}{a:List D}:putAll ρ [] (d::a)=b_:=rfl
noncomputable def cF(ρ:List Sl)(is:List Nat)(one:Bool)(d:D):Option (List Sl):=match one,is,d with|true,[i],d=>put ρ i (.val a_ d)|false,is,.tup a=>putAll ρ is a|_,_,_=>b_
noncomputable def srcOf(i:Option Nat)(e:Ev)(ρ:List Sl):Res (List D):=match i with
 |some i=>match ρ[i]?with|some (.val _ d)=>lift (items d) ρ|some (.own _ a)=>.ok a (ρ.set i (.lent a))|some (.lent a)=>.ok a ρ|_=>.stuck
 |none=>(e ρ).bind λr ρ=>lift (items r.d) ρ
noncomputable def bG(a:List Sl)(i:Option Nat)(ρ:List Sl):List Sl:=match i with
 |some i=>match a[i]?with|some (.own b c)=>ρ.set i (.own b c)|_=>ρ
 |none=>ρ
noncomputable def srcY(i:Nat)(f:Ev)(ρ:List Sl):Res (List D×List Sl):=(f ρ).bind λr a=>(lift (items r.d) a).bind λes a=>match a[i]?with|some (.val _ d)=>(lift (items d) a).bind λb a=>.ok ((es.zip b).map λp=>D.tup [p.1,p.2],a) a|some (.own _ b)=>.ok ((es.zip b).map λp=>D.tup [p.1,p.2],a) (a.set i (.lent b))|some (.lent b)=>.ok ((es.zip b).map λp=>D.tup [p.1,p.2],a) a|_=>.stuck
noncomputable def turns(is:List Nat)(one:Bool)(a:List Sl->Res Bool)(e:Ev):List D->List D->List Sl->Res (List D)|[],c,ρ=>.ok c ρ|d::r,c,ρ=>match cF ρ is one d with|none=>.stuck|some ρ=>(a ρ).bind λb ρ=>if b then(e ρ).bind λx ρ=>turns is one a e r (c++[x.d]) ρ else turns is one a e r c ρ
theorem Bp{is:List Nat}{o:Bool}{f:List Sl->Res Bool}{e:Ev}{a:List D}{ρ:List Sl}:turns is o f e [] a ρ=.ok a ρ:=rfl
theorem Bj{is:List Nat}{o:Bool}{f:List Sl->Res Bool}{e:Ev}{d:D}{r a:List D}{ρ:List Sl}:turns is o f e (d::r) a ρ=match cF ρ is o d with|none=>.stuck|some ρ=>(f ρ).bind λb ρ=>if b then(e ρ).bind λx ρ=>turns is o f e r (a++[x.d]) ρ else turns is o f e r a ρ:=rfl
mutual
noncomputable def ev(c:Call):P->List Sl->Res R
 |.var i,ρ=>match ρ[i]?with|some (.val _ d)=>.ok (.val d) ρ|some (.own b e)=>.ok (.val (.lst e)) (ρ.set i (.val b (.lst e)))|some (.eG (.k kvs))=>.ok (.val (.dD (.k kvs))) (ρ.set i (.val a_ (.dD (.k kvs))))|some (.vp kvs)=>.ok (.val (.dv (kvs.map (·.1)) (kvs.map (·.2)))) (ρ.set i (.val a_ (.dv (kvs.map (·.1)) (kvs.map (·.2)))))|_=>.stuck
 |.con d,ρ=>.ok (.val d) ρ|.bin o a b,ρ=>(jH (isVar a) (ev c a) (isVar b) (ev c b) ρ).bind λg ρ=>lift (vV o g.1 g.2) ρ|.neg a,ρ=>(cT (isVar a) (ev c a) ρ).bind λx ρ=>lift (Iu x) ρ|.not a,ρ=>(lG (ev c a) ρ).bind λb ρ=>.ok (.val (.bl (!b))) ρ|.and a b,ρ=>(lG (ev c a) ρ).bind λx ρ=>if x then(lG (ev c b) ρ).bind λy ρ=>.ok (.val (.bl y)) ρ else .ok (.val (.bl a_)) ρ|.or a b,ρ=>(lG (ev c a) ρ).bind λx ρ=>if x then .ok (.val (.bl ck)) ρ else(lG (ev c b) ρ).bind λy ρ=>.ok (.val (.bl y)) ρ|.cmp o a b,ρ=>(jH (isVar a) (ev c a) (isVar b) (ev c b) ρ).bind λg ρ=>lift (tW o g.1 g.2) ρ|.chain o C a b d,ρ=>(jH (isVar a) (ev c a) (isVar b) (ev c b) ρ).bind λg ρ=>(lift (if flat g.2=ck then cm o g.1 g.2 else b_) ρ).bind λk ρ=>if k then(cT (isVar d) (ev c d) ρ).bind λz ρ=>lift (tW C g.2 z) ρ else .ok (.val (.bl a_)) ρ|.Wk t a b,ρ=>(lG (ev c t) ρ).bind λk ρ=>if k then(ev c a ρ).bind λr ρ=>.ok (.val r.d) ρ else(ev c b ρ).bind λr ρ=>.ok (.val r.d) ρ|.tup as,ρ=>(evs c as ρ).bind λe ρ=>.ok (.val (.tup e)) ρ|.lst as,ρ=>(evs c as ρ).bind λe ρ=>.ok (.own e) ρ|.idx a i,ρ=>(jH (isVar a) (ev c a) (isVar i) (ev c i) ρ).bind λg ρ=>lift (pG g.1 g.2) ρ|.slice a l h,ρ=>match isVar a with|some i=>(lift (pk ρ i) ρ).bind λ_ ρ=>(cT (isVar l) (ev c l) ρ).bind λy ρ=>(cT (isVar h) (ev c h) ρ).bind λz ρ=>(lift (pk ρ i) ρ).bind λx ρ=>lift (Gn x (part l y) (part h z)) ρ|none=>(cT b_ (ev c a) ρ).bind λx ρ=>(cT (isVar l) (ev c l) ρ).bind λy ρ=>(cT (isVar h) (ev c h) ρ).bind λz ρ=>lift (Gn x (part l y) (part h z)) ρ
 |.call f as,ρ=>(BV c as ρ).bind λxs ρ=>tG c f xs ρ|.blt b [a],ρ=>(cT (isVar a) (ev c a) ρ).bind λx ρ=>lift (blt b [x]) ρ|.blt b as,ρ=>(evs c as ρ).bind λe ρ=>lift (blt b e) ρ|.comp src n is one u A,ρ=>(srcOf (isVar src) (ev c src) ρ).bind λe q=>if e.length<=lim then(turns is one (lr c u) (ev c A) e [] (q++dV n .aN)).bind λxs s=>.ok (.own xs) (bG ρ (isVar src) (s.take q.length))else .stuck|.nJ a b,ρ=>(jH (isVar a) (ev c a) (isVar b) (ev c b) ρ).bind λg ρ=>lift ((gD g.1).bind λi=>(gD g.2).bind λj=>if-1000000<=i/\i<=1000000000/\j<=1000000000/\-1000000000<=j then aD (.val (.lst ((ej (j-i).toNat).map λ(k:Nat)=>D.int (i+(k:Int)))))else b_) ρ|.enm a,ρ=>(ev c a ρ).bind λr ρ=>lift ((items r.d).map λe=>.val (.lst (e.mapIdx λi d=>D.tup [.int (i:Int),d]))) ρ|.zip a b,ρ=>(ev c a ρ).bind λx ρ=>(ev c b ρ).bind λy ρ=>lift ((items x.d).bind λe=>(items y.d).map λes=>.val (.lst ((e.zip es).map λp=>D.tup [p.1,p.2]))) ρ|.rev a,ρ=>(ev c a ρ).bind λr ρ=>lift ((sH r.d).map λe=>.val (.lst e.reverse)) ρ|.Wl x k d,ρ=>match ρ[x]?with
   |some (.eG _)=>(cT (isVar k) (ev c k) ρ).bind λE ρ=>(cT (isVar d) (ev c d) ρ).bind λw ρ=>match ρ[x]?with|some (.eG m)=>lift ((m.get E).bind λo=>(gD w).map λv=>.val (.int (o.getD v))) ρ|_=>.stuck
   |_=>.stuck
 |.vw x,ρ=>match ρ[x]?with|some (.eG m)=>.ok (.val (.dD m)) (ρ.set x (.val a_ (.dD m)))|some (.vp kvs)=>.ok (.val (.dv (kvs.map (·.1)) (kvs.map (·.2)))) (ρ.set x (.val a_ (.dv (kvs.map (·.1)) (kvs.map (·.2)))))|some (.own b e)=>.ok (.val (.lst e)) (ρ.set x (.val b (.lst e)))|some (.val _ d)=>.ok (.val d) ρ|_=>.stuck
 |.RW x ks,ρ=>(lift (pk ρ x) ρ).bind λ_ ρ=>(evs c ks ρ).bind λB ρ=>(lift (pk ρ x) ρ).bind λw ρ=>lift (Ft w B) ρ|.CK x ks d,ρ=>match ρ[x]?with
   |some (.eG _)=>(evs c ks ρ).bind λB ρ=>(cT (isVar d) (ev c d) ρ).bind λw ρ=>match ρ[x]?with|some (.eG m)=>lift ((m.yW B).bind λo=>(gD w).map λv=>.val (.int (o.getD v))) ρ|_=>.stuck
   |_=>.stuck
noncomputable def evs(c:Call):List P->List Sl->Res (List D)|[],ρ=>.ok [] ρ|a::r,ρ=>(ev c a ρ).bind λx ρ=>(evs c r ρ).bind λxs ρ=>.ok (x.d::xs) ρ
noncomputable def BV(c:Call):List P->List Sl->Res (List Arg)|[],ρ=>.ok [] ρ|a::r,ρ=>match isVar a with|some i=>(lift (pk ρ i) ρ).bind λ_ ρ=>(BV c r ρ).bind λxs ρ=>.ok (.gW i::xs) ρ|none=>(ev c a ρ).bind λx ρ=>(BV c r ρ).bind λxs ρ=>.ok (uW x::xs) ρ
noncomputable def lr(c:Call):Option P->List Sl->Res Bool|none,ρ=>.ok ck ρ|some t,ρ=>lG (ev c t) ρ
end
theorem vY{c:Call}{ρ:List Sl}:evs c [] ρ=.ok [] ρ:=rfl
theorem pD{c:Call}{a:P}{r:List P}{ρ:List Sl}:evs c (a::r) ρ=(_H.ev c a ρ).bind λx ρ=>(evs c r ρ).bind λxs ρ=>.ok (x.d::xs) ρ:=rfl
theorem Kf{c:Call}{ρ:List Sl}:BV c [] ρ=.ok [] ρ:=rfl
theorem Ce{c:Call}{a:P}{r:List P}{ρ:List Sl}:BV c (a::r) ρ=match isVar a with|some i=>(lift (pk ρ i) ρ).bind λ_ ρ=>(BV c r ρ).bind λxs ρ=>.ok (.gW i::xs) ρ|none=>(_H.ev c a ρ).bind λx ρ=>(BV c r ρ).bind λxs ρ=>.ok (uW x::xs) ρ:=rfl
theorem E1{c i ρ}:ev c (.var i) ρ=match ρ[i]?with|some (.val _ d)=>.ok (.val d) ρ|some (.own b a)=>.ok (.val (.lst a)) (ρ.set i (.val b (.lst a)))|some (.eG (.k kvs))=>.ok (.val (.dD (.k kvs))) (ρ.set i (.val a_ (.dD (.k kvs))))|some (.vp kvs)=>.ok (.val (.dv (kvs.map (·.1)) (kvs.map (·.2)))) (ρ.set i (.val a_ (.dv (kvs.map (·.1)) (kvs.map (·.2)))))|_=>.stuck:=(rfl)
theorem E2{c d ρ}:ev c (.con d) ρ=.ok (.val d) ρ:=(rfl)
theorem E3{c o a b ρ}:ev c (.bin o a b) ρ=(jH (isVar a) (ev c a) (isVar b) (ev c b) ρ).bind λe ρ=>lift (vV o e.1 e.2) ρ:=(rfl)
theorem E4{c a ρ}:ev c (.neg a) ρ=(cT (isVar a) (ev c a) ρ).bind λx ρ=>lift (Iu x) ρ:=(rfl)
theorem E5{c a ρ}:ev c (.not a) ρ=(lG (ev c a) ρ).bind λb ρ=>.ok (.val (.bl (!b))) ρ:=(rfl)
theorem E6{c a b ρ}:ev c (.and a b) ρ=(lG (ev c a) ρ).bind λx ρ=>if x then(lG (ev c b) ρ).bind λy ρ=>.ok (.val (.bl y)) ρ else .ok (.val (.bl a_)) ρ:=(rfl)
theorem E7{c a b ρ}:ev c (.or a b) ρ=(lG (ev c a) ρ).bind λx ρ=>if x then .ok (.val (.bl ck)) ρ else(lG (ev c b) ρ).bind λy ρ=>.ok (.val (.bl y)) ρ:=(rfl)
theorem E8{c o a b ρ}:ev c (.cmp o a b) ρ=(jH (isVar a) (ev c a) (isVar b) (ev c b) ρ).bind λe ρ=>lift (tW o e.1 e.2) ρ:=(rfl)
theorem E9{c o o' a b d ρ}:ev c (.chain o o' a b d) ρ=(jH (isVar a) (ev c a) (isVar b) (ev c b) ρ).bind λe ρ=>(lift (if flat e.2=ck then cm o e.1 e.2 else b_) ρ).bind λk ρ=>if k then(cT (isVar d) (ev c d) ρ).bind λz ρ=>lift (tW o' e.2 z) ρ else .ok (.val (.bl a_)) ρ:=(rfl)
theorem E10{c t a b ρ}:ev c (.Wk t a b) ρ=(lG (ev c t) ρ).bind λk ρ=>if k then(ev c a ρ).bind λr ρ=>.ok (.val r.d) ρ else(ev c b ρ).bind λr ρ=>.ok (.val r.d) ρ:=(rfl)
theorem E11{c as ρ}:ev c (.tup as) ρ=(evs c as ρ).bind λa ρ=>.ok (.val (.tup a)) ρ:=(rfl)
theorem E12{c as ρ}:ev c (.lst as) ρ=(evs c as ρ).bind λa ρ=>.ok (.own a) ρ:=(rfl)
theorem E13{c a i ρ}:ev c (.idx a i) ρ=(jH (isVar a) (ev c a) (isVar i) (ev c i) ρ).bind λb ρ=>lift (pG b.1 b.2) ρ:=(rfl)
theorem E14{c a l h ρ}:ev c (.slice a l h) ρ=match isVar a with|some i=>(lift (pk ρ i) ρ).bind λ_ ρ=>(cT (isVar l) (ev c l) ρ).bind λy ρ=>(cT (isVar h) (ev c h) ρ).bind λz ρ=>(lift (pk ρ i) ρ).bind λx ρ=>lift (Gn x (part l y) (part h z)) ρ|none=>(cT b_ (ev c a) ρ).bind λx ρ=>(cT (isVar l) (ev c l) ρ).bind λy ρ=>(cT (isVar h) (ev c h) ρ).bind λz ρ=>lift (Gn x (part l y) (part h z)) ρ:=(rfl)
theorem E15{c f as ρ}:ev c (.call f as) ρ=(BV c as ρ).bind λxs ρ=>tG c f xs ρ:=(rfl)
theorem E16{c b a ρ}:ev c (.blt b [a]) ρ=(cT (isVar a) (ev c a) ρ).bind λx ρ=>lift (blt b [x]) ρ:=(rfl)
theorem E17{c b x y r ρ}:ev c (.blt b (x::y::r)) ρ=(evs c (x::y::r) ρ).bind λa ρ=>lift (blt b a) ρ:=(rfl)
theorem aaS{c b ρ}:ev c (.blt b []) ρ=(evs c [] ρ).bind λa ρ=>lift (blt b a) ρ:=(rfl)
theorem E18{c src n is one test elt ρ}:ev c (.comp src n is one test elt) ρ=(srcOf (isVar src) (ev c src) ρ).bind λe a=>if e.length<=lim then(turns is one (lr c test) (ev c elt) e [] (a++dV n .aN)).bind λxs b=>.ok (.own xs) (bG ρ (isVar src) (b.take a.length))else .stuck:=(rfl)
theorem E19{c a b ρ}:ev c (.nJ a b) ρ=(jH (isVar a) (ev c a) (isVar b) (ev c b) ρ).bind λe ρ=>lift ((gD e.1).bind λi=>(gD e.2).bind λj=>if-1000000<=i/\i<=1000000000/\j<=1000000000/\-1000000000<=j then aD (.val (.lst ((ej (j-i).toNat).map λ(k:Nat)=>D.int (i+(k:Int)))))else b_) ρ:=(rfl)
theorem E20{c a ρ}:ev c (.enm a) ρ=(ev c a ρ).bind λr ρ=>lift ((items r.d).map λb=>.val (.lst (b.mapIdx λi d=>D.tup [.int (i:Int),d]))) ρ:=(rfl)
theorem E21{c a b ρ}:ev c (.zip a b) ρ=(ev c a ρ).bind λx ρ=>(ev c b ρ).bind λy ρ=>lift ((items x.d).bind λe=>(items y.d).map λes=>.val (.lst ((e.zip es).map λp=>D.tup [p.1,p.2]))) ρ:=(rfl)
theorem E22{c a ρ}:ev c (.rev a) ρ=(ev c a ρ).bind λr ρ=>lift ((sH r.d).map λb=>.val (.lst b.reverse)) ρ:=(rfl)
theorem E23{c x k d ρ}:ev c (.Wl x k d) ρ=match ρ[x]?with
 |some (.eG _)=>(cT (isVar k) (ev c k) ρ).bind λa ρ=>(cT (isVar d) (ev c d) ρ).bind λb ρ=>match ρ[x]?with|some (.eG m)=>lift ((m.get a).bind λo=>(gD b).map λv=>.val (.int (o.getD v))) ρ|_=>.stuck
 |_=>.stuck:=(rfl)
theorem E24{c x ρ}:ev c (.vw x) ρ=match ρ[x]?with|some (.eG m)=>.ok (.val (.dD m)) (ρ.set x (.val a_ (.dD m)))|some (.vp kvs)=>.ok (.val (.dv (kvs.map (·.1)) (kvs.map (·.2)))) (ρ.set x (.val a_ (.dv (kvs.map (·.1)) (kvs.map (·.2)))))|some (.own b a)=>.ok (.val (.lst a)) (ρ.set x (.val b (.lst a)))|some (.val _ d)=>.ok (.val d) ρ|_=>.stuck:=(rfl)
theorem E25{c x ks ρ}:ev c (.RW x ks) ρ=(lift (pk ρ x) ρ).bind λ_ ρ=>(evs c ks ρ).bind λa ρ=>(lift (pk ρ x) ρ).bind λb ρ=>lift (Ft b a) ρ:=(rfl)
theorem E26{c x ks d ρ}:ev c (.CK x ks d) ρ=match ρ[x]?with
 |some (.eG _)=>(evs c ks ρ).bind λa ρ=>(cT (isVar d) (ev c d) ρ).bind λb ρ=>match ρ[x]?with|some (.eG m)=>lift ((m.yW a).bind λo=>(gD b).map λv=>.val (.int (o.getD v))) ρ|_=>.stuck
 |_=>.stuck:=(rfl)
noncomputable def pckA(c:Call)(f p x t:Nat)(ρ:List Sl):Res R:=match pk ρ x with|some (.lst (_::_))=>ev c (.call f [.var p,.var x,.var t]) ρ|some (.lst [])=>ev c (.call f [.var p,.lst [.con (.int 0)],.var t]) ρ|_=>.stuck
inductive S where|pass|brk|cont|bad|expr(e:P)|asg(i:Nat)(e:P)|QK(i:List Nat)(e:P)|CN(x:Nat)(i e:P)|app(x:Nat)(e:P)|ret(e:P)|aa3|ifs(c:P)(a b:List S)|jk(src:P)(i:List Nat)(one:Bool)(body:List S)|aug(x:Nat)(sub:Bool)(e:P)|xm(x:Nat)(t:Bool)|dput(x:Nat)(k e:P)|tM(x:Nat)(ks:List P)(e:P)|Mx(x:Nat)(src:P)(k:Nat)(is:List Nat)(one:Bool)(elt:P)|zJ(x:Nat)(i j:P)(sub:Bool)(e:P)|My(x y:Nat)(j k l:P)|HJ(src:P)(is:List Nat)(one:Bool)(body:List S)|fG(x:Nat)deriving Inhabited
inductive Fl where|next|brk|cont|ret(r:R)deriving Inhabited
noncomputable def Xd:Nat->D->Bool|_,.non=>ck|_,.bl _=>ck|_,.int _=>ck|_,.str _=>ck|k+1,.tup a=>a.all (Xd k)|_,_=>a_
noncomputable def tldF(c:Call)(x y f g a:Nat)(ρ:List Sl):Res Fl:=match ρ[a]?with|some (.val _ d)=>if Xd 3 d=ck/\a≠x then(lift (put ρ x .aN) ρ).bind λb _=>match c f [.val a_ d]with|.ok (.val (.tup [.int z,.lst e,.tup es])) _=>if e.all dX=ck/\es.all dX=ck/\e.length<1000 then match c g [.val a_ d,.val a_ (.tup [.int z,.lst e,.tup es])]with|.ok (.val (.bl ck)) _=>(lift (put b y (.val a_ (.tup [.int z,.lst e,.tup es]))) b).bind λh _=>.ok .next h|.ok (.val (.bl a_)) _=>.ok (.ret (.val (.bl a_))) b|_=>.stuck else .stuck|_=>.stuck else .stuck|_=>.stuck
noncomputable def lfs:Sl->Bool|.aN=>ck|.val _ d=>Xd 9 d|_=>a_
noncomputable def scl:D->Bool|.bl _=>ck|.int _=>ck|.non=>ck|_=>a_
noncomputable def Dy:Sl->Sl|.val b d=>if Xd 9 d=ck then .val b d else .aN|_=>.aN
noncomputable def vlS:Sl->Bool|.aN=>ck|.val _ _=>ck|_=>a_
noncomputable def lckS:Sl->Sl|.val b d=>if Xd 9 d=ck then .val b d else .val ck d|s=>s
noncomputable def ZK:Sl->Sl->Sl|.val b d,t=>if Xd 9 d=ck then Dy t else .val b d|_,t=>Dy t
noncomputable def Zy(a b:List Sl):List Sl:=List.zipWith ZK a b
noncomputable def YC:D->Bool
 |.lst a=>decide (a.length<1000)&&a.all λr=>match r with|.lst is=>is.all dX&&decide (3<=is.length)|_=>a_
 |_=>a_
noncomputable def wrkT(b:List Sl)(x o v:Nat)(c:Fl)(a:List Sl):Res Fl:=match c with
 |.ret (.val d)=>if scl d=ck then .ok (.ret (.val d)) (Zy b a)else .stuck|.next=>match a[v]?,a[x]?with|some (.val _ (.int i)),aD (.val ck d)=>if(i≠0\/YC d=ck)/\o≠x/\o≠v then .ok .next (((Zy b a).set o .aN).set x .aN)else .stuck|_,_=>.stuck
 |_=>.stuck
noncomputable def fshT(y a b:Nat)(f:Fl)(ρ:List Sl):Res Fl:=match f with
 |.ret (.val d)=>if scl d=ck then .ok (.ret (.val d)) (ρ.map Dy)else .stuck|.next=>match ρ[a]?,ρ[b]?with|some (.val a_ (.lst c)),aD (.val a_ (.lst es))=>if c.all dX=ck/\es.all dX=ck/\c.length<1000/\0<es.length/\a≠y/\b≠y then(lift (put (ρ.map Dy) y (.val a_ (.tup [.lst c,.lst es]))) ρ).bind λe _=>.ok .next e else .stuck|_,_=>.stuck
 |_=>.stuck
noncomputable def BK:R->Sl|.val d=>.val a_ d|.own a=>.own a_ a
noncomputable def ju(is:List Nat)(one:Bool)(body:List Sl->Res Fl):List D->List Sl->Res Fl|[],ρ=>.ok .next ρ|d::r,ρ=>match cF ρ is one d with|none=>.stuck|some ρ=>(body ρ).bind λa ρ=>match a with|.next=>ju is one body r ρ|.cont=>ju is one body r ρ|.brk=>.ok .next ρ|.ret r=>.ok (.ret r) ρ
theorem Jd{is:List Nat}{o:Bool}{b:List Sl->Res Fl}{ρ:List Sl}:ju is o b [] ρ=.ok .next ρ:=rfl
theorem Bv{is:List Nat}{o:Bool}{b:List Sl->Res Fl}{d:D}{r:List D}{ρ:List Sl}:ju is o b (d::r) ρ=match cF ρ is o d with|none=>.stuck|some ρ=>(b ρ).bind λa ρ=>match a with|.next=>ju is o b r ρ|.cont=>ju is o b r ρ|.brk=>.ok .next ρ|.ret r=>.ok (.ret r) ρ:=rfl
noncomputable def BL(a:List Sl->Res Bool)(body:List Sl->Res Fl):Nat->List Sl->Res Fl|0,_=>.stuck|n+1,ρ=>(a ρ).bind λb ρ=>if b then(body ρ).bind λc ρ=>match c with|.next=>BL a body n ρ|.cont=>BL a body n ρ|.brk=>.ok .next ρ|.ret r=>.ok (.ret r) ρ else .ok .next ρ
theorem afw{f:List Sl->Res Bool}{b:List Sl->Res Fl}{ρ:List Sl}:BL f b 0 ρ=.stuck:=rfl
theorem UL{f:List Sl->Res Bool}{b:List Sl->Res Fl}{n:Nat}{ρ:List Sl}:BL f b (n+1) ρ=(f ρ).bind λx ρ=>if x then(b ρ).bind λa ρ=>match a with|.next=>BL f b n ρ|.cont=>BL f b n ρ|.brk=>.ok .next ρ|.ret r=>.ok (.ret r) ρ else .ok .next ρ:=rfl
noncomputable def jg(is:List Nat)(one:Bool)(b:Ev):List D->List (List D)->List Sl->Res (List (List D))|[],a,ρ=>.ok a ρ|d::r,a,ρ=>match cF ρ is one d with|none=>.stuck|some ρ=>(b ρ).bind λx ρ=>match x with|.own c=>jg is one b r (a++[c]) ρ|.val _=>.stuck
theorem Ig{is:List Nat}{o:Bool}{e:Ev}{a:List (List D)}{ρ:List Sl}:jg is o e [] a ρ=.ok a ρ:=rfl
theorem Ky{is:List Nat}{o:Bool}{e:Ev}{d:D}{r:List D}{a:List (List D)}{ρ:List Sl}:jg is o e (d::r) a ρ=match cF ρ is o d with|none=>.stuck|some ρ=>(e ρ).bind λx ρ=>match x with|.own b=>jg is o e r (a++[b]) ρ|.val _=>.stuck:=rfl
noncomputable def rowAt(a:List (List D))(k:Int):Option (List D):=(kZ a.length k).bind λr=>a[r]?
noncomputable def jY(a:List (List D))(k:Int)(f:List D->Option (List D)):Option (List (List D)):=(kZ a.length k).bind λr=>(a[r]?).bind λrow=>(f row).map λb=>a.set r b
noncomputable def setAt(l:Int)(d:D)(row:List D):Option (List D):=(kZ row.length l).map λm=>row.set m d
noncomputable def iU(ρ:List Sl)(x:Nat):Option (List (List D)):=match ρ[x]?with|some (.hold a)=>aD a|_=>b_
noncomputable def lA(ρ:List Sl)(x:Nat)(k:D):Option (List D):=(iU ρ x).bind λa=>(gD k).bind λk=>rowAt a k
noncomputable def Ho(ρ:List Sl)(x:Nat)(o:Option (List (List D))):Res Fl:=match o with|some a=>.ok .next (ρ.set x (.hold a))|none=>.stuck
noncomputable def rowOne(x r:Nat)(b c e:List Sl->Res D)(ρ:List Sl):Res Fl:=(c ρ).bind λk ρ=>(lift ((iU ρ x).bind λa=>(a[r]?).bind λrow=>(gD k).bind λk=>(at' row k).bind gD) ρ).bind λu ρ=>(e ρ).bind λl ρ=>(lift ((iU ρ x).bind λa=>(a[r]?).bind λrow=>(gD l).bind λl=>(at' row l).bind gD) ρ).bind λv ρ=>(b ρ).bind λj ρ=>Ho ρ x ((iU ρ x).bind λa=>(a[r]?).bind λrow=>(gD j).bind λj=>(setAt j (.int (u+v)) row).map λf=>a.set r f)
noncomputable def iT(x y:Nat)(a b c:List Sl->Res D):Nat->Nat->List Sl->Res Fl|0,_,ρ=>.ok .next ρ|m+1,r,ρ=>(lift (put ρ y .aN) ρ).bind λρ _=>(rowOne x r a b c ρ).bind λ_ ρ=>iT x y a b c m (r+1) ρ
noncomputable def S6(is:List Nat)(one:Bool)(body:List Sl->Res Fl)(b:List Sl->Option (Nat×List Sl)):List D->List Sl->Option (Nat×List Sl)|[],_=>b_|d::r,ρ=>match cF ρ is one d with|none=>b_|some ρ=>match b ρ with|some x=>aD x|none=>match body ρ with|.ok .next a=>S6 is one body b r a|.ok .cont a=>S6 is one body b r a|_=>b_
noncomputable def Y7(a:List Sl->Res Bool)(body:List Sl->Res Fl)(e:List Sl->Option (Nat×List Sl)):Nat->List Sl->Option (Nat×List Sl)|0,_=>b_|n+1,ρ=>match a ρ with
   |.ok ck c=>match e c with|some x=>aD x|none=>match body c with|.ok .next b=>Y7 a body e n b|.ok .cont b=>Y7 a body e n b|_=>b_
   |_=>b_
noncomputable def SJ:P->P|.idx a _=>a|.blt .sum [.comp s _ _ _ _ _]=>s|e=>e
noncomputable def arg0:P->P|.call _ (a::_)=>a|e=>e
noncomputable def Es(c:Call)(e:P)(ρ:List Sl):Option (Nat×List Sl):=match SJ e with
 |.call f as=>match BV c as ρ with
   |.ok xs b=>match cO b xs []with
     |some args=>match c f args with|.exc k a=>aD (k,gn xs a 0 b)|_=>b_
     |none=>b_
   |_=>b_
 |_=>b_
mutual
noncomputable def ex(c:Call)(n:Nat):S->List Sl->Res Fl
 |.pass,ρ=>.ok .next ρ|.brk,ρ=>.ok .brk ρ|.cont,ρ=>.ok .cont ρ|.bad,_=>.stuck|.expr e,ρ=>(ev c e ρ).bind λ_ ρ=>.ok .next ρ|.asg i e,ρ=>(ev c e ρ).bind λr ρ=>(lift (put ρ i (BK r)) ρ).bind λo _=>.ok .next o|.QK is e,ρ=>(ev c e ρ).bind λr ρ=>match r.d with|.tup h=>(lift (putAll ρ is h) ρ).bind λo _=>.ok .next o|_=>.stuck
 |.CN x i e,ρ=>(ev c e ρ).bind λr ρ=>(lift (pk ρ x) ρ).bind λ_ ρ=>(cT (isVar i) (ev c i) ρ).bind λk ρ=>match ρ[x]?,k with
   |some (.own b h),.int k=>match kZ h.length k with|some j=>.ok .next (ρ.set x (.own b (h.set j r.d)))|none=>.stuck
   |_,_=>.stuck
 |.app x e,ρ=>(lift (pkL ρ x) ρ).bind λ_ ρ=>(ev c e ρ).bind λr ρ=>match ρ[x]?with|some (.own b h)=>if h.length<lim then .ok .next (ρ.set x (.own b (h++[r.d])))else .stuck|_=>.stuck
 |.ret e,ρ=>match isVar e with
   |some i=>match ρ[i]?with|some (.own a_ h)=>.ok (.ret (.own h)) (ρ.set i .aN)|_=>(ev c e ρ).bind λr ρ=>.ok (.ret r) ρ
   |none=>(ev c e ρ).bind λr ρ=>.ok (.ret r) ρ
 |.aa3,ρ=>.ok (.ret (.val .non)) ρ|.ifs t a b,ρ=>(lG (ev c t) ρ).bind λk ρ=>if k then jC c n a ρ else jC c n b ρ|.jk src is one body,ρ=>(srcOf (isVar src) (ev c src) ρ).bind λh f=>(ju is one (jC c n body) h f).bind λz p=>.ok z (bG ρ (isVar src) p)|.aug x sub e,ρ=>(lift (pk ρ x) ρ).bind λa ρ=>(cT (isVar e) (ev c e) ρ).bind λb ρ=>match a,b with|.int i,.int j=>(lift (put ρ x (.val a_ (.int (if sub then i-j else i+j)))) ρ).bind λo _=>.ok .next o|_,_=>.stuck
 |.xm x t,ρ=>match ρ[x]?with|some .aN=>.ok .next (ρ.set x (.eG (if t then .t []else .k [])))|_=>.stuck
 |.dput x k e,ρ=>(ev c e ρ).bind λr ρ=>match ρ[x]?with
   |some (.eG _)=>(cT (isVar k) (ev c k) ρ).bind λA ρ=>match ρ[x]?,r with
     |some (.eG m),.val (.int v)=>match m.put A v with|some q=>.ok .next (ρ.set x (.eG q))|none=>.stuck
     |_,_=>.stuck
   |_=>.stuck
 |.tM x ks e,ρ=>(ev c e ρ).bind λr ρ=>match ρ[x]?with
   |some (.eG _)=>(evs c ks ρ).bind λB ρ=>match ρ[x]?,r with
     |some (.eG m),.val (.int v)=>match m.NZ B v with|some q=>.ok .next (ρ.set x (.eG q))|none=>.stuck
     |_,_=>.stuck
   |_=>.stuck
 |.Mx x src k is one s,ρ=>(srcOf (isVar src) (ev c src) ρ).bind λh f=>if h.length<=lim then(jg is one (ev c s) h [] (f++dV k .aN)).bind λg p=>(lift (put (bG ρ (isVar src) (p.take f.length)) x (.hold g)) ρ).bind λo _=>.ok .next o else .stuck|.zJ x i j sub e,ρ=>(cT (isVar i) (ev c i) ρ).bind λk ρ=>(lift (lA ρ x k) ρ).bind λ_ ρ=>(cT (isVar j) (ev c j) ρ).bind λl ρ=>(lift ((lA ρ x k).bind λrow=>(gD l).bind λl=>(at' row l).bind gD) ρ).bind λu ρ=>(cT (isVar e) (ev c e) ρ).bind λw ρ=>(cT (isVar i) (ev c i) ρ).bind λk ρ=>(lift (lA ρ x k) ρ).bind λ_ ρ=>(cT (isVar j) (ev c j) ρ).bind λl ρ=>Ho ρ x ((iU ρ x).bind λg=>(gD w).bind λv=>(gD k).bind λk=>(gD l).bind λl=>jY g k (setAt l (.int (if sub then u-v else u+v))))|.My x y j k l,ρ=>(lift (iU ρ x) ρ).bind λg ρ=>iT x y (cT (isVar j) (ev c j)) (cT (isVar k) (ev c k)) (cT (isVar l) (ev c l)) g.length 0 ρ|.HJ src is one body,ρ=>(ev c src ρ).bind λr f=>(lift (items r.d) f).bind λh f=>ju is one (jC c n body) h f|.fG x,ρ=>match ρ[x]?with|some (.hold g)=>.ok .next (ρ.set x (.val a_ (.lst (g.map D.lst))))|_=>.stuck
noncomputable def jC(c:Call)(n:Nat):List S->List Sl->Res Fl|[],ρ=>.ok .next ρ|s::r,ρ=>(ex c n s ρ).bind λfl ρ=>match fl with|.next=>jC c n r ρ|fl=>.ok fl ρ
noncomputable def exX(c:Call)(n:Nat):S->List Sl->Option (Nat×List Sl)
 |.ifs t a b,ρ=>match lG (ev c t) ρ with|.ok x f=>if x then JM c n a f else JM c n b f|_=>b_
 |.jk src is one body,ρ=>match Es c src ρ with|some x=>aD x|none=>match srcOf (isVar src) (ev c src) ρ with|.ok g f=>(S6 is one (jC c n body) (JM c n body) g f).map λx=>(x.1,bG ρ (isVar src) x.2)|_=>b_
 |.ret e,ρ=>Es c e ρ|.asg _ e,ρ=>Es c e ρ|.expr e,ρ=>Es c e ρ|_,_=>b_
noncomputable def JM(c:Call)(n:Nat):List S->List Sl->Option (Nat×List Sl)|[],_=>b_|s::r,ρ=>match exX c n s ρ with|some x=>aD x|none=>match ex c n s ρ with|.ok .next a=>JM c n r a|_=>b_
end
theorem X1{c n ρ}:ex c n (.pass) ρ=.ok .next ρ:=(rfl)
theorem X2{c n ρ}:ex c n (.brk) ρ=.ok .brk ρ:=(rfl)
theorem X3{c n ρ}:ex c n (.cont) ρ=.ok .cont ρ:=(rfl)
theorem X4{c n ρ}:ex c n (.bad) ρ=.stuck:=(rfl)
theorem X5{c n e ρ}:ex c n (.expr e) ρ=(ev c e ρ).bind λ_ ρ=>.ok .next ρ:=(rfl)
theorem X6{c n i e ρ}:ex c n (.asg i e) ρ=(ev c e ρ).bind λr ρ=>(lift (put ρ i (BK r)) ρ).bind λa _=>.ok .next a:=(rfl)
theorem X7{c n is e ρ}:ex c n (.QK is e) ρ=(ev c e ρ).bind λr ρ=>match r.d with|.tup b=>(lift (putAll ρ is b) ρ).bind λa _=>.ok .next a|_=>.stuck:=(rfl)
theorem X8{c n x i e ρ}:ex c n (.CN x i e) ρ=(ev c e ρ).bind λr ρ=>(lift (pk ρ x) ρ).bind λ_ ρ=>(cT (isVar i) (ev c i) ρ).bind λk ρ=>match ρ[x]?,k with
 |some (.own b a),.int k=>match kZ a.length k with|some j=>.ok .next (ρ.set x (.own b (a.set j r.d)))|none=>.stuck
 |_,_=>.stuck:=(rfl)
theorem X9{c n x e ρ}:ex c n (.app x e) ρ=(lift (pkL ρ x) ρ).bind λ_ ρ=>(ev c e ρ).bind λr ρ=>match ρ[x]?with|some (.own b a)=>if a.length<lim then .ok .next (ρ.set x (.own b (a++[r.d])))else .stuck|_=>.stuck:=(rfl)
theorem X10{c n e ρ}:ex c n (.ret e) ρ=match isVar e with
 |some i=>match ρ[i]?with|some (.own a_ a)=>.ok (.ret (.own a)) (ρ.set i .aN)|_=>(ev c e ρ).bind λr ρ=>.ok (.ret r) ρ
 |none=>(ev c e ρ).bind λr ρ=>.ok (.ret r) ρ:=(rfl)
theorem X11{c n ρ}:ex c n (.aa3) ρ=.ok (.ret (.val .non)) ρ:=(rfl)
theorem X12{c n t a b ρ}:ex c n (.ifs t a b) ρ=(lG (ev c t) ρ).bind λk ρ=>if k then jC c n a ρ else jC c n b ρ:=(rfl)
theorem X13{c n src is one body ρ}:ex c n (.jk src is one body) ρ=(srcOf (isVar src) (ev c src) ρ).bind λe a=>(ju is one (jC c n body) e a).bind λf b=>.ok f (bG ρ (isVar src) b):=(rfl)
theorem X14{c n x sub e ρ}:ex c n (.aug x sub e) ρ=(lift (pk ρ x) ρ).bind λa ρ=>(cT (isVar e) (ev c e) ρ).bind λb ρ=>match a,b with|.int i,.int j=>(lift (put ρ x (.val a_ (.int (if sub then i-j else i+j)))) ρ).bind λf _=>.ok .next f|_,_=>.stuck:=(rfl)
theorem X15{c n x t ρ}:ex c n (.xm x t) ρ=match ρ[x]?with|some .aN=>.ok .next (ρ.set x (.eG (if t then .t []else .k [])))|_=>.stuck:=(rfl)
theorem X16{c n x k e ρ}:ex c n (.dput x k e) ρ=(ev c e ρ).bind λr ρ=>match ρ[x]?with
 |some (.eG _)=>(cT (isVar k) (ev c k) ρ).bind λa ρ=>match ρ[x]?,r with
   |some (.eG m),.val (.int v)=>match m.put a v with|some b=>.ok .next (ρ.set x (.eG b))|none=>.stuck
   |_,_=>.stuck
 |_=>.stuck:=(rfl)
theorem X17{c n x ks e ρ}:ex c n (.tM x ks e) ρ=(ev c e ρ).bind λr ρ=>match ρ[x]?with
 |some (.eG _)=>(evs c ks ρ).bind λa ρ=>match ρ[x]?,r with
   |some (.eG m),.val (.int v)=>match m.NZ a v with|some b=>.ok .next (ρ.set x (.eG b))|none=>.stuck
   |_,_=>.stuck
 |_=>.stuck:=(rfl)
theorem X18{c n x src k is one elt ρ}:ex c n (.Mx x src k is one elt) ρ=(srcOf (isVar src) (ev c src) ρ).bind λg a=>if g.length<=lim then(jg is one (ev c elt) g [] (a++dV k .aN)).bind λe b=>(lift (put (bG ρ (isVar src) (b.take a.length)) x (.hold e)) ρ).bind λf _=>.ok .next f else .stuck:=(rfl)
theorem X19{c n x i j sub e ρ}:ex c n (.zJ x i j sub e) ρ=(cT (isVar i) (ev c i) ρ).bind λk ρ=>(lift (lA ρ x k) ρ).bind λ_ ρ=>(cT (isVar j) (ev c j) ρ).bind λl ρ=>(lift ((lA ρ x k).bind λrow=>(gD l).bind λl=>(at' row l).bind gD) ρ).bind λu ρ=>(cT (isVar e) (ev c e) ρ).bind λw ρ=>(cT (isVar i) (ev c i) ρ).bind λk ρ=>(lift (lA ρ x k) ρ).bind λ_ ρ=>(cT (isVar j) (ev c j) ρ).bind λl ρ=>Ho ρ x ((iU ρ x).bind λa=>(gD w).bind λv=>(gD k).bind λk=>(gD l).bind λl=>jY a k (setAt l (.int (if sub then u-v else u+v)))):=(rfl)
theorem X20{c n x y j k l ρ}:ex c n (.My x y j k l) ρ=(lift (iU ρ x) ρ).bind λa ρ=>iT x y (cT (isVar j) (ev c j)) (cT (isVar k) (ev c k)) (cT (isVar l) (ev c l)) a.length 0 ρ:=(rfl)
theorem X21{c n src is one body ρ}:ex c n (.HJ src is one body) ρ=(ev c src ρ).bind λr a=>(lift (items r.d) a).bind λb a=>ju is one (jC c n body) b a:=(rfl)
theorem X22{c n x ρ}:ex c n (.fG x) ρ=match ρ[x]?with|some (.hold a)=>.ok .next (ρ.set x (.val a_ (.lst (a.map D.lst))))|_=>.stuck:=(rfl)
structure Fd where
 np:Nat
 nn:Nat
 body:List S deriving Inhabited
noncomputable abbrev Tab:=Nat->Option Fd
noncomputable def enter(c:Call)(n:Nat)(d:Fd)(args:List Sl):Res R:=if args.length=d.np/\d.np<=d.nn then match jC c n d.body (args++dV (d.nn-d.np) .aN)with|.ok .next ρ=>.ok (.val .non) (ρ.take d.np)|.ok (.ret r) ρ=>.ok r (ρ.take d.np)|_=>match JM c n d.body (args++dV (d.nn-d.np) .aN)with|some (k,ρ)=>.exc k (ρ.take d.np)|none=>.stuck else .stuck
noncomputable def run(Γ:Tab)(w:Nat):Nat->Call|0,_,_=>.stuck|n+1,f,args=>match Γ f with|some d=>enter (run Γ w n) w d args|none=>.stuck
end _H
section
namespace _H
open PySem _L
variable{ρ:List Sl}{σ:St}{v:V}
noncomputable def Dc.ho:Dc->HO|.k kvs=>.dK (kvs.map λp=>(e_ p.1,V.int p.2))|.t kvs=>.dT (kvs.map λp=>(p.1.map e_,V.int p.2))
noncomputable def J1(ks:List Int)(vs:List V):HO:=.dK ((ks.zip vs).map λp=>(e_ p.1,p.2))
section
variable(K:PySem.W.Frag)
mutual
noncomputable def Rep(F:Hp):V->D->Prop|v,.non=>v=.non|v,.bl b=>v=.bl b|v,.int i=>v=.int i|v,.str x=>v=.str x|v,.tup c=>∃a xs,v=.ref a/\ir K F a xs/\aH F xs c|v,.lst c=>∃a xs,v=.ref a/\fU K F a xs/\aH F xs c|v,.dD m=>∃a o,v=.ref a/\F a=aD (.fG o m.ho)|v,.dv ks c=>∃a o vs,v=.ref a/\F a=aD (.fG o (J1 ks vs))/\aH F vs c/\ks.length=c.length
noncomputable def aH(F:Hp):List V->List D->Prop|vs,[]=>vs=[]|vs,d::a=>∃v r,vs=v::r/\Rep F v d/\aH F r a
end
end
section
variable{K:PySem.W.Frag}{F F' H H':Hp}
theorem aM.gO{a:dQ}{xs:List V}(e:aM H H')(h:ir K H a xs):ir K H' a xs:=by
 rcases h with(h|⟨o,h⟩)|h;.exact .inl (.inl (e _ _ h))
 .exact .inl (.inr ⟨o,e _ _ h⟩)
 .exact .inr h
mutual
theorem Rep.mono(e:aM F F'):∀{d:D}{v:V},Rep K F v d->Rep K F' v d|.non,_,h=>by rw[Rep]at h ⊢;exact h|.bl _,_,h=>by rw[Rep]at h ⊢;exact h|.int _,_,h=>by rw[Rep]at h ⊢;exact h|.str _,_,h=>by rw[Rep]at h ⊢;exact h|.tup b,_,h=>by rw[Rep]at h ⊢;obtain⟨a,xs,rfl,hs,r⟩:=h;exact⟨a,xs,rfl,aM.gO e hs,aH.mono e r⟩|.lst b,_,h=>by rw[Rep]at h ⊢;obtain⟨a,xs,rfl,hs,r⟩:=h;exact⟨a,xs,rfl,e.seq hs,aH.mono e r⟩|.dD m,_,h=>by rw[Rep]at h ⊢;obtain⟨a,o,rfl,hs⟩:=h;exact⟨a,o,rfl,e _ _ hs⟩|.dv ks b,_,h=>by rw[Rep]at h ⊢;obtain⟨a,o,vs,rfl,hs,r,c⟩:=h;exact⟨a,o,vs,rfl,e _ _ hs,aH.mono e r,c⟩theorem aH.mono(e:aM F F'):∀{a:List D}{vs:List V},aH K F vs a->aH K F' vs a|[],_,h=>by rw[aH]at h ⊢;exact h|d::a,_,h=>by rw[aH]at h ⊢;obtain⟨v,r,rfl,h1,b⟩:=h;exact⟨v,r,rfl,Rep.mono e h1,aH.mono e b⟩end
theorem aH.nil:aH K F [] []:=by rw[aH]
theorem aH.cons{v:V}{d:D}{vs:List V}{a:List D}(h:Rep K F v d)(t:aH K F vs a):aH K F (v::vs) (d::a):=by rw[aH];exact⟨v,vs,rfl,h,t⟩
theorem aH.cW{vs:List V}{d:D}{a:List D}(h:aH K F vs (d::a)):∃v r,vs=v::r/\Rep K F v d/\aH K F r a:=by rw[aH]at h;exact h
theorem aH.ie{vs:List V}(h:aH K F vs []):vs=[]:=by rw[aH]at h;exact h
theorem aH.length:∀{a:List D}{vs:List V},aH K F vs a->vs.length=a.length|[],_,h=>by rw[h.ie];rfl|d::a,_,h=>by obtain⟨v,r,rfl,_,t⟩:=h.cW;simp[aH.length t]
theorem aH.get:∀{a:List D}{vs:List V}{i:Nat}{d:D},aH K F vs a->a[i]?=aD d->∃v,vs[i]?=aD v/\Rep K F v d|[],_,_,_,h,e=>by simp at e|d::a,_,0,_,h,e=>by obtain⟨v,r,rfl,h1,t⟩:=h.cW;simp at e;subst e;exact⟨v,rfl,h1⟩|d::a,_,i+1,_,h,e=>by obtain⟨v,r,rfl,_,t⟩:=h.cW;simp at e;obtain⟨w,b,c⟩:=t.get e;exact⟨w,by simpa using b,c⟩
theorem aH.append:∀{a es:List D}{vs b:List V},aH K F vs a->aH K F b es->aH K F (vs++b) (a++es)|[],_,_,_,h,h'=>by rw[h.ie];exact h'|d::a,_,_,_,h,h'=>by obtain⟨v,r,rfl,h1,t⟩:=h.cW;exact .cons h1 (t.append h')
theorem aH.set{v:V}{d:D}(hr:Rep K F v d):∀{a:List D}{vs:List V}(i:Nat),aH K F vs a->aH K F (vs.set i v) (a.set i d)|[],_,_,h=>by rw[h.ie];exact .nil|_::_,_,0,h=>by obtain⟨w,r,rfl,h1,t⟩:=h.cW;exact .cons hr t|_::_,_,i+1,h=>by obtain⟨w,r,rfl,h1,t⟩:=h.cW;exact .cons h1 (aH.set hr i t)
theorem aH.take:∀{a:List D}{vs:List V}(n:Nat),aH K F vs a->aH K F (vs.take n) (a.take n)|[],_,n,h=>by rw[h.ie];simpa using aH.nil|_::_,_,0,h=>.nil|_::_,_,n+1,h=>by obtain⟨w,r,rfl,h1,t⟩:=h.cW;exact .cons h1 (t.take n)
theorem aH.drop:∀{a:List D}{vs:List V}(n:Nat),aH K F vs a->aH K F (vs.drop n) (a.drop n)|[],_,n,h=>by rw[h.ie];simpa using aH.nil|_::_,_,0,h=>h|_::_,_,n+1,h=>by obtain⟨w,r,rfl,h1,t⟩:=h.cW;exact t.drop n
theorem aH.rep{a:List D}{vs:List V}(h:aH K F vs a):∀n,aH K F (dV n vs).flatten (dV n a).flatten|0=>by simpa using aH.nil|n+1=>by simpa[kz]using h.append (aH.rep h n)
inductive Oc where|l(ds:List D)|d(m:Dc)|v(kvs:List (Int×D))
noncomputable def lst?:Sl->Option Oc|.own _ a=>aD (.l a)|.lent a=>aD (.l a)|.eG m=>aD (.d m)|.vp kvs=>aD (.v kvs)|_=>b_
noncomputable def uT(K:PySem.W.Frag)(F:Hp)(o:HO):Oc->Prop|.l a=>∃xs,o=.lst xs/\aH K F xs a|.d m=>o=m.ho|.v kvs=>∃vs,o=J1 (kvs.map (·.1)) vs/\aH K F vs (kvs.map (·.2))
theorem uT.mono{o:HO}{x:Oc}(e:aM F F')(h:uT K F o x):uT K F' o x:=by cases x with|l b=>obtain⟨xs,a,h⟩:=h;exact⟨xs,a,h.mono e⟩|d m=>exact h|v kvs=>obtain⟨xs,a,h⟩:=h;exact⟨xs,a,h.mono e⟩
noncomputable def bM(ρ:List Sl)(σ:St)(i:Nat)(a:dQ):Prop:=(∃s b,ρ[i]?=aD s/\lst? s=aD b)/\σ[i]?=aD (aD (V.ref a))
noncomputable def Own(ρ:List Sl)(σ:St)(a:dQ):Prop:=∃i,bM ρ σ i a
structure GS(K:PySem.W.Frag)(F:Hp)(ρ:List Sl)(σ:St)(H:Hp):Prop where
 sub:aM F H
 len:ρ.length=σ.length
 val:∀(i:Nat)(b:Bool)(d:D),ρ[i]?=aD (Sl.val b d)->∃v:V,σ[i]?=aD (aD v)/\Rep K F v d
 own:∀(i:Nat)(s:Sl)(ds:Oc),ρ[i]?=aD s->lst? s=aD ds->∃(a:dQ)(xs:HO),σ[i]?=aD (aD (V.ref a))/\H a=aD xs/\F a=b_/\uT K F xs ds
 dis:∀(i j:Nat)(a:dQ),bM ρ σ i a->bM ρ σ j a->i=j
theorem GS.wC(g:GS K F ρ σ H)(i:Nat)(s:Sl)(b:List D)(e:ρ[i]?=aD s)(c:lst? s=aD (.l b)):∃(a:dQ)(xs:List V),σ[i]?=aD (aD (V.ref a))/\H a=aD (.lst xs)/\F a=b_/\aH K F xs b:=by obtain⟨a,o,h1,f,h,xs,rfl,j⟩:=g.own i s (.l b) e c;exact⟨a,xs,h1,f,h,j⟩
noncomputable def xu:Sl->Bool|.val b _=>b|.own b _=>b|.lent _=>ck|.aN=>a_|.eG _=>a_|.vp _=>a_|.hold _=>ck
noncomputable def oA:Sl->Sl->Prop|.val ck d,s=>s=.val ck d|.own ck _,s=>(∃a,s=.own ck a)\/∃d,s=.val ck d|.lent a,s=>s=.lent a|.hold a,s=>s=.hold a|_,_=>True
theorem oA.refl(s:Sl):oA s s:=by unfold oA;split<;>first|rfl|exact .inl ⟨_,rfl⟩|trivial
theorem oA.xu{s a:Sl}(h:oA s a)(l:xu s=ck):_H.xu a=ck:=by cases s with
 |aN=>cases l|eG _=>cases l|vp _=>cases l|val b d=>cases b with|true=>cases h;rfl|false=>cases l
 |own b d=>cases b with|true=>rcases h with⟨_,rfl⟩|⟨_,rfl⟩<;>rfl|false=>cases l
 |lent d=>cases h;rfl|hold d=>cases h;rfl
theorem oA.trans{s c a:Sl}(l:_H.xu s=ck)(h:oA s c)(h':oA c a):oA s a:=by cases s with
 |aN=>cases l|eG _=>cases l|vp _=>cases l|val b d=>cases b with|true=>cases h;exact h'|false=>cases l
 |own b d=>cases b with
   | true => rcases h with⟨_,rfl⟩|⟨d,rfl⟩;.exact h'
             .exact .inr ⟨d,h'⟩|false=>cases l
 |lent d=>cases h;exact h'|hold d=>cases h;exact h'
noncomputable def nt:Option HO->Option HO|some (.tup _)=>b_|o=>o
theorem mj{o:Option HO}(h:o=b_):nt o=b_:=by rw[h];rfl
theorem K1{H:Hp}{b:dQ}{xs:List V}(h:H b=aD (.lst xs))(z:nt (H b)=b_):False:=by rw[h]at z;cases z
theorem Ij{o:HO}{x:Oc}(h:uT K F o x)(z:nt (aD o)=b_):False:=by cases x with|l a=>obtain⟨xs,rfl,_⟩:=h;cases z|d m=>cases m<;>(cases(show o=_ from h);cases z)|v kvs=>obtain⟨xs,rfl,_⟩:=h;cases z
structure bW(K:PySem.W.Frag)(F:Hp)(ρ:List Sl)(σ:St)(H:Hp)(F':Hp)(ρ':List Sl)(σ':St)(H':Hp):Prop where
 gs:GS K F' ρ' σ' H'
 cI:aM F F'
 zK:∀b,F b=b_->F' b≠b_->Own ρ σ b\/nt (H b)=b_
 keep:∀b o,H b=aD o->¬ Own ρ σ b->H' b=aD o
 xF:∀b,Own ρ' σ' b->Own ρ σ b\/H b=b_
 len:ρ'.length=ρ.length
 lk:∀(i:Nat)(s:Sl),ρ[i]?=aD s->xu s=ck->σ'[i]?=σ[i]?/\∃s',ρ'[i]?=aD s'/\oA s s'
theorem bW.refl{ρ:List Sl}{σ:St}(g:GS K F ρ σ H):bW K F ρ σ H F ρ σ H:=⟨g,aM.refl _,λb h h'=>absurd h h',λ_ _ h _=>h,λ_ h=>.inl h,rfl,λi s h _=>⟨rfl,s,h,.refl s⟩⟩
theorem bW.trans{F1 r p t:Hp}{ρ f j:List Sl}{σ g m:St}(a:bW K F ρ σ H F1 f g p)(b:bW K F1 f g p r j m t):bW K F ρ σ H r j m t:=by
 have back:∀c,Own f g c\/p c=b_->Own ρ σ c\/H c=b_:=λc h=>by
  rcases h with h|h;.exact a.xF c h
  . by_cases ho:Own ρ σ c;.exact .inl ho
    .right;cases e:H c with|none=>rfl|some o=>rw[a.keep c o e ho]at h;cases h
 refine⟨b.gs,a.cI.trans b.cI,λc h h'=>?_,λc o h n=>?_,λc h=>back c (b.xF c h),b.len.trans a.len,λi s h l=>?_⟩
 . by_cases e:F1 c=b_
   . by_cases ho:Own ρ σ c;.exact .inl ho
     . rcases b.zK c e h' with z|z;.exact(back c (.inl z)).imp id mj
       .right;cases q:H c with|none=>rfl|some o=>rw[a.keep c o q ho]at z;exact z
   .exact a.zK c h e
 . refine b.keep c o (a.keep c o h n) λh'=>?_;rcases a.xF c h' with h'|h';.exact n h'
   .rw[h]at h';cases h'
 .obtain⟨w,s1,h1,u⟩:=a.lk i s h l;obtain⟨x,s2,y,A⟩:=b.lk i s1 h1 (u.xu l);exact⟨x.trans w,s2,y,.trans l u A⟩
noncomputable def gq(K:PySem.W.Frag)(F H:Hp)(v:V)(d:D):Prop:=Rep K F v d\/∃a xs b,v=.ref a/\H a=aD (.lst xs)/\aH K F xs b/\d=.lst b
noncomputable def dH(K:PySem.W.Frag)(F':Hp)(b:List Sl)(c:St)(H':Hp)(ρ:List Sl)(σ:St)(H:Hp)(v:V):R->Prop|.val d=>Rep K F' v d|.own e=>∃a xs,v=.ref a/\H' a=aD (.lst xs)/\F' a=b_/\aH K F' xs e/\¬ Own b c a/\(Own ρ σ a\/H a=b_)
theorem aM.eV{F:Hp}{a:dQ}{o:HO}(h:F a=b_):aM F (upd F a o):=λb u e=>by
 have:b≠a:=by rintro rfl;rw[h]at e;cases e
 rw[aG this];exact e
theorem bW.fG{c:List Sl}{f:St}{r:R}(s:bW K F ρ σ H F' c f H')(h:dH K F' c f H' ρ σ H v r):∃g,bW K F ρ σ H g c f H'/\aM F' g/\Rep K g v r.d:=by cases r with|val d=>exact⟨F',s,.refl _,h⟩|own w=>
   obtain⟨a,xs,rfl,h1,x,y,z,A⟩:=h;have sm:aM F' (upd F' a (.lst xs)):=aM.eV x;refine⟨upd F' a (.lst xs),⟨⟨λb o e=>?_,s.gs.len,λi b d e=>?_,λi q l e t=>?_,s.gs.dis⟩,s.cI.trans sm,λb n u=>?_,s.keep,s.xF,s.len,s.lk⟩,sm,?_⟩
   . by_cases j:b=a;.subst j;rw[bf]at e;cases e;exact h1
     .rw[aG j]at e;exact s.gs.sub b o e
   .obtain⟨v,m,p⟩:=s.gs.val i b d e;exact⟨v,m,p.mono sm⟩
   . obtain⟨b,ys,m,p,B,C⟩:=s.gs.own i q l e t;have j:b≠a:=by rintro rfl;exact z ⟨i,⟨q,l,e,t⟩,m⟩
     exact⟨b,ys,m,p,by rw[aG j];exact B,C.mono sm⟩
   . by_cases j:b=a;.subst j;exact A.imp id mj
     .rw[aG j]at u;exact s.zK b n u
   .show Rep K _ _ (.lst w);rw[Rep];exact⟨a,xs,rfl,fU.of bf,y.mono sm⟩
theorem GS.pk{ρ:List Sl}{σ:St}{i:Nat}{d:D}(g:GS K F ρ σ H)(e:_H.pk ρ i=aD d):∃v:V,σ[i]?=aD (aD v)/\gq K F H v d:=by
 unfold _H.pk at e;split at e;.rename_i b d' h;cases e;obtain⟨v,h1,c⟩:=g.val i b d h;exact⟨v,h1,.inl c⟩
 .rename_i b f h;cases e;obtain⟨a,xs,h1,c,l,j⟩:=g.wC i _ f h rfl;exact⟨.ref a,h1,.inr ⟨a,xs,f,rfl,c,j,rfl⟩⟩
 .rename_i f h;cases e;obtain⟨a,xs,h1,c,l,j⟩:=g.wC i _ f h rfl;exact⟨.ref a,h1,.inr ⟨a,xs,f,rfl,c,j,rfl⟩⟩
 .cases e
structure Ext(F H F' H':Hp):Prop where
 hs:aM H H'
 fs:aM F F'
 sub:aM F' H'
 gr:∀b,F b=b_->F' b≠b_->nt (H b)=b_
theorem Ext.refl(h:aM F H):Ext F H F H:=⟨.refl _,.refl _,h,λ_ a b=>absurd a b⟩
theorem Ext.stp(g:GS K F ρ σ H)(e:Ext F H F' H'):bW K F ρ σ H F' ρ σ H':=by
 refine⟨⟨e.sub,g.len,λi b d h=>?_,λi s j h h'=>?_,g.dis⟩,e.fs,λb n l=>.inr (e.gr b n l),λb o h _=>e.hs b o h,λ_ h=>.inl h,rfl,λi s h _=>⟨rfl,s,h,.refl s⟩⟩;.obtain⟨v,h1,c⟩:=g.val i b d h;exact⟨v,h1,c.mono e.fs⟩
 .obtain⟨a,xs,h1,c,m,f⟩:=g.own i s j h h';refine⟨a,xs,h1,e.hs _ _ c,?_,f.mono e.fs⟩;cases q:F' a with|none=>rfl|some o=>have:=e.gr a m (by rw[q];simp);rw[c]at this;exact(Ij f this).elim
noncomputable def dh(K:PySem.W.Frag)(F' H' H:Hp)(v:V):R->Prop|.val d=>Rep K F' v d|.own b=>∃a xs,v=.ref a/\H' a=aD (.lst xs)/\F' a=b_/\aH K F' xs b/\H a=b_
theorem dh.wL{r:R}(g:GS K F ρ σ H)(h:dh K F' H' H v r):dH K F' ρ σ H' ρ σ H v r:=by cases r with|val d=>exact h|own q=>obtain⟨a,xs,rfl,h1,m,n,f⟩:=h;refine⟨a,xs,rfl,h1,m,n,?_,.inr f⟩;rintro⟨i,⟨s,c,e,o⟩,p⟩;obtain⟨b,ys,j,l,_⟩:=g.own i s c e o;rw[p]at j;cases j;rw[f]at l;cases l
theorem dH.later{F1 j l m:Hp}{c f:List Sl}{g i:St}{r:R}(a:bW K F ρ σ H F1 c g j)(h:dH K l f i m c g j v r):dH K l f i m ρ σ H v r:=by cases r with|val d=>exact h|own s=>
   obtain⟨b,xs,rfl,h1,n,p,q,h5⟩:=h;refine⟨b,xs,rfl,h1,n,p,q,?_⟩;rcases h5 with h5|h5;.exact a.xF b h5
   . by_cases ho:Own ρ σ b;.exact .inl ho
     .right;cases e:H b with|none=>rfl|some o=>rw[a.keep b o e ho]at h5;cases h5
end
end _H
end
namespace _H
open PySem _L Spec PyProof.Rows
variable{ρ' ρ ρ₀:List Sl}{es:List eB}{K:PySem.W.Frag}{F H H₀:Hp}{σ:_L.St}{i n:Nat}{ds:List D}{x:Str}{v:V}{vs:List V}{op:CmpOp}{p':Pos}{as:List Arg}
theorem aj{c e:Type}{x:Res c}{f:c->List Sl->Res e}{b:e}(h:x.bind f=.ok b ρ'):∃a ρ,x=.ok a ρ/\f a ρ=.ok b ρ':=by cases x with|ok a ρ=>exact⟨a,ρ,rfl,h⟩|exc _ _=>cases h|stuck=>cases h
theorem aF{c:Type}{o:Option c}{a:c}(h:lift o ρ=.ok a ρ'):o=aD a/\ρ=ρ':=by cases o with|none=>cases h|some b=>cases h;exact⟨rfl,rfl⟩
theorem map_some{c e:Type}{o:Option c}{f:c->e}{b:e}(h:o.map f=aD b):∃a,o=aD a/\f a=b:=by cases o with|none=>cases h|some a=>cases h;exact⟨a,rfl,rfl⟩
theorem bF{c e:Type}{o:Option c}{f:c->Option e}{b:e}(h:o.bind f=aD b):∃a,o=aD a/\f a=aD b:=by cases o with|none=>cases h|some a=>exact⟨a,rfl,h⟩
theorem bL{e:Type}{c:Prop}[Decidable c]{a b:e}(h:(if c then aD a else b_)=aD b):c/\a=b:=by
 split at h;.rename_i hc;cases h;exact⟨hc,rfl⟩
 .cases h
section
variable{X:Cx}{c:Call}{e a b:eB}{p pa pb:P}{pos:Pos}
theorem gG{t t':TE}(h:PE X e t)(i:∀σ H Q,t' σ H Q->t σ H Q):PE X e t':=λf s σ H Q I q=>h f s σ H Q I (i σ H Q q)
theorem JS{t t':TT}(h:PT X e t)(i:∀σ H Q,t' σ H Q->t σ H Q):PT X e t':=λf s σ H Q I q=>h f s σ H Q I (i σ H Q q)
theorem Ra{t t':TT}(h:PW X e t)(i:∀σ H Q,t' σ H Q->t σ H Q):PW X e t':=λg f s σ H Q I q=>h g f s σ H Q I (i σ H Q q)
theorem xT{t t':TA}(h:PA X es t)(i:∀σ H Q,t' σ H Q->t σ H Q):PA X es t':=λpos f s σ H Q I q=>h pos f s σ H Q I (i σ H Q q)
inductive xW(K:PySem.W.Frag)(f:Ev)(σ:_L.St)(H:Hp)(Q:VK):Prop where|mk(F:Hp)(ρ:List Sl)(r:R)(ρ':List Sl)(g:GS K F ρ σ H)(e:f ρ=.ok r ρ')(k:∀v F' H',bW K F ρ σ H F' ρ' σ H'->dH K F' ρ' σ H' ρ σ H v r->Q v H')
inductive J7(K:PySem.W.Frag)(f:List Sl->Res Bool)(σ:_L.St)(H:Hp)(Q:Bool->Hp->Prop):Prop where|mk(F:Hp)(ρ:List Sl)(b:Bool)(ρ':List Sl)(g:GS K F ρ σ H)(e:f ρ=.ok b ρ')(k:∀F' H',bW K F ρ σ H F' ρ' σ H'->Q b H')
inductive afM(K:PySem.W.Frag)(f:List Sl->Res (List D))(σ:_L.St)(H:Hp)(Q:List V->Hp->Prop):Prop where|mk(F:Hp)(ρ:List Sl)(ds:List D)(ρ':List Sl)(g:GS K F ρ σ H)(e:f ρ=.ok ds ρ')(k:∀vs F' H',bW K F ρ σ H F' ρ' σ H'->aH K F' vs ds->Q vs H')
structure SX(X:Cx)(c:Call)(e:eB)(p:P):Prop where ev:PE X e (xW X.K (_H.ev c p))var:∀i,isVar p=aD i->PE X e (JN i)
noncomputable def SA(X:Cx)(c:Call)(es:List eB)(ps:List P):Prop:=PA X es (afM X.K (evs c ps))/\ps.length=es.length
theorem SX.cT(h:SX X c e p):∃t,PE X e t/\∀{σ:_L.St}{H F:Hp}{ρ ρ':List Sl}{d:D}{Q:VK},GS X.K F ρ σ H->cT (isVar p) (_H.ev c p) ρ=.ok d ρ'->(∀v f H',bW X.K F ρ σ H f ρ' σ H'->gq X.K f H' v d->Q v H')->t σ H Q:=by cases hv:isVar p with|none=>refine⟨_,h.ev,λ{σ H F ρ ρ' d Q}g e k=>?_⟩;obtain⟨r,o,j,l⟩:=aj e;cases l;refine⟨F,ρ,r,_,g,j,λv f H' s q=>?_⟩;obtain⟨m,u,_,w⟩:=s.fG q;exact k v m H' u (.inl w)|some i=>refine⟨_,h.var i hv,λ{σ H F ρ ρ' d Q}g e k=>?_⟩;obtain⟨j,l⟩:=aF e;subst l;obtain⟨v,h1,y⟩:=g.pk j;exact⟨v,h1,k v F H (.refl g) y⟩
theorem SX.jH(I:SX X c a pa)(M:SX X c b pb):∃J h,PE X a J/\PE X b h/\∀{σ:_L.St}{H F:Hp}{ρ ρ':List Sl}{j:D×D}{R:V->V->Hp->Prop},GS X.K F ρ σ H->jH (isVar pa) (_H.ev c pa) (isVar pb) (_H.ev c pb) ρ=.ok j ρ'->(∀v u t H',bW X.K F ρ σ H t ρ' σ H'->gq X.K t H' v j.1->gq X.K t H' u j.2->R v u H')->J σ H λx w=>h σ w λy z=>R x y z:=by obtain⟨h,l,m⟩:=M.cT;cases hv:isVar pa with|none=>refine⟨_,h,I.ev,l,λ{σ H F ρ ρ' j R}g e k=>?_⟩;obtain⟨x,A,o,e⟩:=aj e;obtain⟨y,B,f,e⟩:=aj e;cases e;obtain⟨r,L,o,C⟩:=aj o;cases C;refine⟨F,ρ,r,_,g,o,λv t H' s N=>?_⟩;obtain⟨F1,s1,_,O⟩:=s.fG N;refine m s1.gs f λu Q z s2 E=>?_;exact k v u Q z (s1.trans s2) (.inl (O.mono s2.cI)) E|some i=>refine⟨_,h,I.var i hv,l,λ{σ H F ρ ρ' j R}g e k=>?_⟩;obtain⟨x0,U,C,e⟩:=aj e;obtain⟨G,W⟩:=aF C;subst W;obtain⟨y,A,o,e⟩:=aj e;obtain⟨x,B,f,e⟩:=aj e;cases e;have Y:=aF f;clear f;obtain⟨f,Z⟩:=Y;subst Z;obtain⟨v,h1,_⟩:=g.pk G;refine⟨v,h1,m g o λu F1 w s1 E=>?_⟩;obtain⟨v',q,pv⟩:=s1.gs.pk f;rw[h1]at q;cases q;exact k v u F1 w s1 pv E
inductive rD(K:PySem.W.Frag)(f:D->D->Option R)(x y:V)(H:Hp)(Q:VK):Prop where|mk(F:Hp)(d e:D)(r:R)(sm:aM F H)(px:gq K F H x d)(py:gq K F H y e)(he:f d e=aD r)(k:∀v F' H',Ext F H F' H'->dh K F' H' H v r->Q v H')
inductive rD1(K:PySem.W.Frag)(f:D->Option R)(x:V)(H:Hp)(Q:VK):Prop where|mk(F:Hp)(d:D)(r:R)(sm:aM F H)(px:gq K F H x d)(he:f d=aD r)(k:∀v F' H',Ext F H F' H'->dh K F' H' H v r->Q v H')
theorem vP{E:eB}{f:D->D->Option R}{q:P}(t:∀{m o},PE X a m->PE X b o->PE X E (MN (rD X.K f) m o))(y:SX X c a pa)(z:SX X c b pb)(A:∀ρ,_H.ev c q ρ=(_H.jH (isVar pa) (_H.ev c pa) (isVar pb) (_H.ev c pb) ρ).bind λj ρ=>lift (f j.1 j.2) ρ)(hv:isVar q=b_):SX X c E q:=by obtain⟨m,o,h1,B,C⟩:=y.jH z;refine⟨gG (t h1 B) ?_,λi h=>by rw[hv]at h;cases h⟩;rintro σ H Q⟨F,ρ,r,ρ',g,e,k⟩;rw[A]at e;obtain⟨j,G,I,l⟩:=aj e;have J:=aF l;clear l;obtain⟨l,L⟩:=J;subst L;refine C g I λv u M H' s N O=>⟨M,j.1,j.2,r,s.gs.sub,N,O,l,λw U W x Y=>?_⟩;exact k w U W (s.trans (x.stp s.gs)) (.later s (Y.wL s.gs))
theorem IK{E:eB}{f:D->Option R}{q:P}(m:∀{l},PE X a l->PE X E (tUn (rD1 X.K f) l))(o:SX X c a pa)(t:∀ρ,_H.ev c q ρ=(_H.cT (isVar pa) (_H.ev c pa) ρ).bind λx ρ=>lift (f x) ρ)(hv:isVar q=b_):SX X c E q:=by obtain⟨l,h1,u⟩:=o.cT;refine⟨gG (m h1) ?_,λi h=>by rw[hv]at h;cases h⟩;rintro σ H Q⟨F,ρ,r,ρ',g,e,k⟩;rw[t]at e;obtain⟨x,y,z,j⟩:=aj e;have A:=aF j;clear j;obtain⟨j,B⟩:=A;subst B;refine u g z λv C H' s G=>⟨C,x,r,s.gs.sub,G,j,λw I J x L=>?_⟩;exact k w I J (s.trans (x.stp s.gs)) (.later s (L.wL s.gs))
theorem GS.freeze{b:Bool}(g:GS K F ρ σ H)(e:ρ[i]?=aD (.own b ds)):∃v z,σ[i]?=aD (aD v)/\bW K F ρ σ H z (ρ.set i (.val b (.lst ds))) σ H/\Rep K z v (.lst ds):=by
 obtain⟨a,xs,h1,C,E,G⟩:=g.wC i _ ds e rfl;have hi:i<ρ.length:=(gC e).1;have sm:aM F (upd F a (.lst xs)):=aM.eV E;have A:Rep K (upd F a (.lst xs)) (.ref a) (.lst ds):=by rw[Rep];exact⟨a,xs,rfl,fU.of bf,G.mono sm⟩
 have I:Own ρ σ a:=⟨i,⟨_,_,e,rfl⟩,h1⟩;have r:∀j x,bM (ρ.set i (.val b (.lst ds))) σ j x->bM ρ σ j x/\j≠i:=λj x⟨⟨s,h,m,u⟩,y⟩=>by
  by_cases f:j=i;.subst f;rw[dS hi]at m;cases m;cases u
  .rw[jj f]at m;exact⟨⟨⟨s,h,m,u⟩,y⟩,f⟩
 refine⟨.ref a,upd F a (.lst xs),h1,⟨⟨λx o q=>?_,by simpa using g.len,λj J d q=>?_,λj s h q w=>?_,λj k x q w=>g.dis j k x (r j x q).1 (r k x w).1⟩,sm,λx n B=>?_,λ_ _ q _=>q,λx⟨j,q⟩=>.inl ⟨j,(r j x q).1⟩,by simp,λj s q l=>⟨rfl,?_⟩⟩,A⟩
 . by_cases t:x=a;.subst t;rw[bf]at q;cases q;exact C
   .rw[aG t]at q;exact g.sub x o q
 . by_cases f:j=i;.subst f;rw[dS hi]at q;cases q;exact⟨_,h1,A⟩
   .rw[jj f]at q;obtain⟨v,m,u⟩:=g.val j J d q;exact⟨v,m,u.mono sm⟩
 . by_cases f:j=i;.subst f;rw[dS hi]at q;cases q;cases w
   . rw[jj f]at q;obtain⟨x,ys,m,u,y,L⟩:=g.own j s h q w;have t:x≠a:=by rintro rfl;exact f (g.dis j i x ⟨⟨s,h,q,w⟩,m⟩ ⟨⟨_,_,e,rfl⟩,h1⟩)
     exact⟨x,ys,m,u,by rw[aG t];exact y,L.mono sm⟩
 . by_cases t:x=a;.subst t;exact .inl I
   .rw[aG t]at B;exact absurd n B
 . by_cases f:j=i;.subst f;rw[e]at q;cases q;refine⟨_,dS hi,?_⟩;cases b with|true=>exact .inr ⟨_,rfl⟩|false=>cases l
   .exact⟨s,by rw[jj f];exact q,.refl s⟩
theorem GS.EY{m:Dc}(g:GS K F ρ σ H)(e:ρ[i]?=aD (.eG m)):∃a,σ[i]?=aD (aD (.ref a))/\H a=aD m.ho/\∀u,bW K F ρ σ H (upd F a (.fG u m.ho)) (ρ.set i (.val a_ (.dD m))) σ (upd H a (.fG u m.ho))/\Rep K (upd F a (.fG u m.ho)) (.ref a) (.dD m):=by
 obtain⟨a,G,h1,I,J,L⟩:=g.own i _ _ e rfl;cases(show G=m.ho from L);have hi:i<ρ.length:=(gC e).1;refine⟨a,h1,I,λu=>?_⟩;have sm:aM F (upd F a (.fG u m.ho)):=aM.eV J;have B:Rep K (upd F a (.fG u m.ho)) (.ref a) (.dD m):=by rw[Rep];exact⟨a,u,rfl,bf⟩
 have C:Own ρ σ a:=⟨i,⟨_,_,e,rfl⟩,h1⟩;have w:∀j x,bM (ρ.set i (.val a_ (.dD m))) σ j x->bM ρ σ j x/\j≠i:=λj x⟨⟨s,r,t,y⟩,A⟩=>by
  by_cases f:j=i;.subst f;rw[dS hi]at t;cases t;cases y
  .rw[jj f]at t;exact⟨⟨⟨s,r,t,y⟩,A⟩,f⟩
 refine⟨⟨⟨λx o q=>?_,by simpa using g.len,λj M d q=>?_,λj s r q z=>?_,λj k x q z=>g.dis j k x (w j x q).1 (w k x z).1⟩,sm,λx n E=>?_,λx o q n=>?_,λx⟨j,q⟩=>.inl ⟨j,(w j x q).1⟩,by simp,λj s q l=>⟨rfl,?_⟩⟩,B⟩
 . by_cases h:x=a;.subst h;rw[bf]at q ⊢;exact q
   .rw[aG h]at q ⊢;exact g.sub x o q
 . by_cases f:j=i;.subst f;rw[dS hi]at q;cases q;exact⟨_,h1,B⟩
   .rw[jj f]at q;obtain⟨v,t,y⟩:=g.val j M d q;exact⟨v,t,y.mono sm⟩
 . by_cases f:j=i;.subst f;rw[dS hi]at q;cases q;cases z
   . rw[jj f]at q;obtain⟨x,ys,t,y,A,N⟩:=g.own j s r q z;have h:x≠a:=by rintro rfl;exact f (g.dis j i x ⟨⟨s,r,q,z⟩,t⟩ ⟨⟨_,_,e,rfl⟩,h1⟩)
     exact⟨x,ys,t,by rw[aG h];exact y,by rw[aG h];exact A,N.mono sm⟩
 . by_cases h:x=a;.subst h;exact .inl C
   .rw[aG h]at E;exact absurd n E
 . have h:x≠a:=by rintro rfl;exact n C
   rw[aG h];exact q
 . by_cases f:j=i;.subst f;rw[e]at q;cases q;cases l
   .exact⟨s,by rw[jj f];exact q,.refl s⟩
theorem GS.Ei{kvs:List (Int×D)}(g:GS K F ρ σ H)(e:ρ[i]?=aD (.vp kvs)):∃a vs,σ[i]?=aD (aD (.ref a))/\H a=aD (J1 (kvs.map (·.1)) vs)/\∀t,bW K F ρ σ H (upd F a (.fG t (J1 (kvs.map (·.1)) vs))) (ρ.set i (.val a_ (.dv (kvs.map (·.1)) (kvs.map (·.2))))) σ (upd H a (.fG t (J1 (kvs.map (·.1)) vs)))/\Rep K (upd F a (.fG t (J1 (kvs.map (·.1)) vs))) (.ref a) (.dv (kvs.map (·.1)) (kvs.map (·.2))):=by
 obtain⟨a,N,h1,E,G,I⟩:=g.own i _ _ e rfl;obtain⟨vs,rfl,J⟩:=I;have hi:i<ρ.length:=(gC e).1;refine⟨a,vs,h1,E,λt=>?_⟩;have sm:aM F (upd F a (.fG t (J1 (kvs.map (·.1)) vs))):=aM.eV G;have A:Rep K (upd F a (.fG t (J1 (kvs.map (·.1)) vs))) (.ref a) (.dv (kvs.map (·.1)) (kvs.map (·.2))):=by rw[Rep];exact⟨a,t,vs,rfl,bf,J.mono sm,by simp⟩
 have B:Own ρ σ a:=⟨i,⟨_,_,e,rfl⟩,h1⟩;have u:∀j x,bM (ρ.set i (.val a_ (.dv (kvs.map (·.1)) (kvs.map (·.2))))) σ j x->bM ρ σ j x/\j≠i:=λj x⟨⟨s,m,r,w⟩,z⟩=>by
  by_cases f:j=i;.subst f;rw[dS hi]at r;cases r;cases w
  .rw[jj f]at r;exact⟨⟨⟨s,m,r,w⟩,z⟩,f⟩
 refine⟨⟨⟨λx o q=>?_,by simpa using g.len,λj L d q=>?_,λj s m q y=>?_,λj k x q y=>g.dis j k x (u j x q).1 (u k x y).1⟩,sm,λx n C=>?_,λx o q n=>?_,λx⟨j,q⟩=>.inl ⟨j,(u j x q).1⟩,by simp,λj s q l=>⟨rfl,?_⟩⟩,A⟩
 . by_cases h:x=a;.subst h;rw[bf]at q ⊢;exact q
   .rw[aG h]at q ⊢;exact g.sub x o q
 . by_cases f:j=i;.subst f;rw[dS hi]at q;cases q;exact⟨_,h1,A⟩
   .rw[jj f]at q;obtain⟨v,r,w⟩:=g.val j L d q;exact⟨v,r,w.mono sm⟩
 . by_cases f:j=i;.subst f;rw[dS hi]at q;cases q;cases y
   . rw[jj f]at q;obtain⟨x,ys,r,w,z,M⟩:=g.own j s m q y;have h:x≠a:=by rintro rfl;exact f (g.dis j i x ⟨⟨s,m,q,y⟩,r⟩ ⟨⟨_,_,e,rfl⟩,h1⟩)
     exact⟨x,ys,r,by rw[aG h];exact w,by rw[aG h];exact z,M.mono sm⟩
 . by_cases h:x=a;.subst h;exact .inl B
   .rw[aG h]at C;exact absurd n C
 . have h:x≠a:=by rintro rfl;exact n B
   rw[aG h];exact q
 . by_cases f:j=i;.subst f;rw[e]at q;cases q;cases l
   .exact⟨s,by rw[jj f];exact q,.refl s⟩
theorem Inv.Qh{X:Cx}{f:List (dQ×Obj)}{s:cp}{a:dQ}{kvs:List (Key×V)}(I:_L.Inv X f σ H s)(h:H a=aD (.dK kvs)):∃o,_L.Inv X f σ (upd H a (.fG o (.dK kvs))) s:=by obtain⟨j,l,vs,r,g⟩:=(show cM X.prog X.w H s.heap a (.dK kvs)from I.hok a _ h);obtain⟨o,ho,_⟩:=g.typeIs;exact⟨o,I.write (h':=s.heap) (t':=s.toks) (by rw[h];exact trivial) (.inl rfl) (λb u _ e=>e) ⟨o,ho⟩ ⟨ho,j,l,vs,r,g⟩⟩
theorem VV(y:X.N[i]?=aD x)(hv:xR X.env.scope x)(hd:(x==("__debug__":Str))=a_:=by decide)(t:(x==("__classdict__":Str))=a_:=by decide):SX X c (.Name x pos) (.var i):=by
 have h:=gP (X:=X) (pos:=pos) y hv hd t;refine⟨?_,λj z=>by cases z;exact h⟩;rintro f s σ H Q I⟨F,ρ,r,ρ',g,e,k⟩;rw[_H.E1]at e;split at e;.rename_i b d q;cases e;obtain⟨v,h1,l⟩:=g.val i b d q;exact h f s σ H Q I ⟨v,h1,k v F H (.refl g) l⟩
 .rename_i b ds q;cases e;obtain⟨v,A,h1,l,m⟩:=g.freeze q;exact h f s σ H Q I ⟨v,h1,k v A H l m⟩
 .rename_i kvs q;cases e;obtain⟨a,h1,l,m⟩:=g.EY q;refine dz (h f s σ H (λv H'=>v=.ref a/\H'=H) I ⟨.ref a,h1,rfl,rfl⟩) λu s1⟨v,H1,I1,r1,e1,e2⟩=>?_;subst e1 e2;obtain⟨o,w⟩:=Inv.Qh I1 l;exact⟨.ref a,_,w,r1,k _ _ _ (m o).1 (m o).2⟩
 .rename_i kvs q;cases e;obtain⟨a,vs,h1,l,m⟩:=g.Ei q;refine dz (h f s σ H (λv H'=>v=.ref a/\H'=H) I ⟨.ref a,h1,rfl,rfl⟩) λu s1⟨v,H1,I1,r1,e1,e2⟩=>?_;subst e1 e2;obtain⟨o,w⟩:=Inv.Qh I1 l;exact⟨.ref a,_,w,r1,k _ _ _ (m o).1 (m o).2⟩
 .cases e
theorem Ad{d:D}(h:PE X e (tC v))(hr:∀F,Rep X.K F v d):SX X c e (.con d):=⟨gG h λσ H Q⟨F,ρ,r,ρ',g,e,k⟩=>by rw[_H.E2]at e;cases e;exact k v F H (.refl g) (hr F),λi h=>by cases h⟩
theorem aa{i j}:SX X c (.Constant (.int i) j pos) (.con (.int i)):=Ad Im λF=>by rw[Rep]
theorem fL{i j}:SX X c (.Constant (.bool i) j pos) (.con (.bl i)):=Ad YM λF=>by rw[Rep]
theorem nD{j}:SX X c (.Constant .none j pos) (.con .non):=Ad Vw λF=>by rw[Rep]
theorem gq.int{K:PySem.W.Frag}{F H:Hp}{v:V}{i:Int}(h:gq K F H v (.int i)):v=.int i:=by
 rcases h with h|⟨_,_,_,_,_,_,h⟩;.rw[Rep]at h;exact h
 .cases h
theorem gq.bl{K:PySem.W.Frag}{F H:Hp}{v:V}{i:Bool}(h:gq K F H v (.bl i)):v=.bl i:=by
 rcases h with h|⟨_,_,_,_,_,_,h⟩;.rw[Rep]at h;exact h
 .cases h
theorem gq.str{K:PySem.W.Frag}{F H:Hp}{v:V}{i:Str}(h:gq K F H v (.str i)):v=.str i:=by
 rcases h with h|⟨_,_,_,_,_,_,h⟩;.rw[Rep]at h;exact h
 .cases h
theorem gq.non{K:PySem.W.Frag}{F H:Hp}{v:V}(h:gq K F H v .non):v=.non:=by
 rcases h with h|⟨_,_,_,_,_,_,h⟩;.rw[Rep]at h;exact h
 .cases h
theorem gq.tup{K:PySem.W.Frag}{F H:Hp}{v:V}{ds:List D}(s:aM F H)(h:gq K F H v (.tup ds)):∃a xs,v=.ref a/\ir K H a xs/\aH K F xs ds/\Rep K F v (.tup ds):=by
 rcases h with h|⟨_,_,_,_,_,_,h⟩;.have h':=h;rw[Rep]at h;obtain⟨a,xs,rfl,h1,f⟩:=h;exact⟨a,xs,rfl,aM.gO s h1,f,h'⟩
 .cases h
theorem gq.lst{K:PySem.W.Frag}{F H:Hp}{v:V}{ds:List D}(s:aM F H)(h:gq K F H v (.lst ds)):∃a xs,v=.ref a/\fU K H a xs/\aH K F xs ds:=by
 rcases h with h|⟨a,xs,es,h1,f,g,h⟩;.rw[Rep]at h;obtain⟨a,xs,rfl,h1,f⟩:=h;exact⟨a,xs,rfl,s.seq h1,f⟩
 .cases h;exact⟨a,xs,h1,fU.of f,g⟩
theorem gq.dD{m:Dc}(s:aM F H)(h:gq K F H v (.dD m)):∃a o,v=.ref a/\H a=aD (.fG o m.ho):=by
 rcases h with h|⟨_,_,_,_,_,_,h⟩;.rw[Rep]at h;obtain⟨a,o,rfl,h⟩:=h;exact⟨a,o,rfl,s _ _ h⟩
 .cases h
theorem TJ{X:Cx}{f:List (dQ×Obj)}{s:cp}{a:dQ}{g:Obj}{m:Dc}(I:_L.Inv X f σ H s)(h:H a=aD (.fG g m.ho)):∃o,s.heap.get? a=aD o/\o.cls=.type "dict":=by have z:=(show cM X.prog X.w H s.heap a (.fG g m.ho)from I.hok a _ h).2;cases m with|k kvs=>obtain⟨_,_,vs,_,d2⟩:=(show cM X.prog X.w H s.heap a (.dK _)from z);exact d2.typeIs|t kvs=>obtain⟨_,_,xs,_,o,es,ep,h1,j,_⟩:=(show cM X.prog X.w H s.heap a (.dT _)from z);exact⟨o,h1,j.1⟩
theorem gq.dv{ks:List Int}(s:aM F H)(h:gq K F H v (.dv ks ds)):∃a o vs,v=.ref a/\H a=aD (.fG o (J1 ks vs))/\aH K F vs ds/\ks.length=ds.length:=by
 rcases h with h|⟨_,_,_,_,_,_,h⟩;.rw[Rep]at h;obtain⟨a,o,vs,rfl,h,h1,f⟩:=h;exact⟨a,o,vs,rfl,s _ _ h,h1,f⟩
 .cases h
theorem VL{X:Cx}{f:List (dQ×Obj)}{s:cp}{a:dQ}{g:Obj}{ks:List Int}(I:_L.Inv X f σ H s)(h:H a=aD (.fG g (J1 ks vs))):∃o,s.heap.get? a=aD o/\o.cls=.type "dict":=by have z:=(show cM X.prog X.w H s.heap a (.fG g (J1 ks vs))from I.hok a _ h).2;obtain⟨_,_,vs,_,d2⟩:=(show cM X.prog X.w H s.heap a (.dK _)from z);exact d2.typeIs
theorem gq.items{d:D}(s:aM F H)(h:gq K F H v d)(e:items d=aD ds):∃a xs,v=.ref a/\(fU K H a xs\/ir K H a xs)/\aH K F xs ds:=by cases d with|tup es=>cases e;obtain⟨a,xs,h1,f,g,_⟩:=h.tup s;exact⟨a,xs,h1,.inr f,g⟩|lst es=>cases e;obtain⟨a,xs,h1,f,g⟩:=h.lst s;exact⟨a,xs,h1,.inl f,g⟩|_=>cases e
theorem dh.eX{Q:VK}{d:D}(s:aM F H)(r:Rep K F v d)(k:∀v f H',Ext F H f H'->dh K f H' H v (.val d)->Q v H'):Q v H:=k v F H (.refl s) r
theorem bO(i:Int):Rep K F (.int i) (.int i):=by rw[Rep]
theorem lN(i:Bool):Rep K F (.bl i) (.bl i):=by rw[Rep]
theorem Vd(i:Str):Rep K F (.str i) (.str i):=by rw[Rep]
theorem Vf:Rep K F .non .non:=by rw[Rep]
theorem vI{Q:VK}{xs:List V}{p:dQ}(s:aM F H)(r:aH K F xs ds)(f:H p=b_)(k:∀v g H',Ext F H g H'->dh K g H' H v (.own ds)->Q v H'):Q (.ref p) (upd H p (.lst xs)):=by
 have h:F p=b_:=by cases q:F p with|none=>rfl|some o=>rw[s p o q]at f;cases f
 exact k _ F _ ⟨aM.eV f,.refl _,s.trans (aM.eV f),λ_ a b=>absurd a b⟩ ⟨p,xs,rfl,bf,h,r,f⟩
theorem FQ{Q:VK}{xs:List V}{p:dQ}(s:aM F H)(r:aH K F xs ds)(g:H p=b_)(k:∀v h H',Ext F H h H'->dh K h H' H v (.val (.tup ds))->Q v H'):Q (.ref p) (upd H p (.tup xs)):=by
 have l:F p=b_:=by cases q:F p with|none=>rfl|some o=>rw[s p o q]at g;cases g
 have sm:aM F (upd F p (.tup xs)):=aM.eV l;refine k _ (upd F p (.tup xs)) _ ⟨aM.eV g,sm,λb o e=>?_,λb n j=>?_⟩ ?_
 . by_cases f:b=p;.subst f;rw[bf]at e ⊢;exact e
   .rw[aG f]at e ⊢;exact s b o e
 . by_cases f:b=p;.subst f;exact mj g
   .rw[aG f]at j;exact absurd n j
 .show Rep K _ _ (.tup ds);rw[Rep];exact⟨p,xs,rfl,ir.of bf,r.mono sm⟩
end
theorem uc(k:Int)(t:Tok)(l:dQ)(a:Array bV)(n:Nat)(b:Option dQ)(c:Array (Option bV)):nB (gE.«int.__rmul__» ⟨[.int k t,.ref l],[]⟩) (λ_ R s=>s.heap.get? l=aD ⟨.type "list",b,.seq a n,c⟩/\R (.ok (.ret l5)) s):=.of_wp λprog w A R s h=>by obtain⟨e,g,d,f,os⟩:=s;obtain⟨j,h⟩:=h;wp_walk;exact⟨_,rfl,h⟩
theorem Gk(l:dQ)(a:Array bV)(n:Nat)(b:Option dQ)(c:Array (Option bV))(k:Int)(t:Tok)(h0:¬(!rS k)=ck)(h1:¬a.size*k.toNat>(2^63-1)/8)(e:¬mx (a.size*k.toNat)=ck):nB (gE.«list.__mul__» ⟨[.ref l,.int k t],[]⟩) (λ_ R s=>s.heap.get? l=aD ⟨.type "list",b,.seq a n,c⟩/\R (.ok (.ret (eR s.heap.objs.size))) {s with heap:=s.heap.push {cls:=.type "list",data:=.seq (ts (·++·) #[] (dV (if a.isEmpty=ck then 0 else k.toNat) a))}}):=.of_wp λprog w A R s h=>by obtain⟨m,g,d,o,os⟩:=s;obtain⟨f,h⟩:=h;have j:=AutoListH.joined_fits e;wp_walk using hU f;refine wpAny_ite_false (decide_eq_false (Nat.not_lt.mpr j)) ?_;wp_walk;exact⟨_,rfl,h⟩
section
variable{X:Cx}{c:Call}{e a b d:eB}{p pa pb pd:P}{pos:Pos}
theorem Oe:jb X (g_ .Add) (λx y H Q=>∃l b xs t,x=.ref l/\y=.ref b/\fU X.K H l xs/\fU X.K H b t/\xs.length+t.length<=sizeLine/\∀p,H p=b_->Q (.ref p) (upd H p (.lst (xs++t)))):=by
 intro A s σ H x y v u Q I G J h;obtain⟨l,b,xs,t,rfl,rfl,L,M,B,q⟩:=h;cases G;cases J;obtain⟨g,r,pl,_⟩:=I.list L;obtain⟨f,C,N,_⟩:=I.list M;obtain⟨⟨cls,O,data,U⟩,ho,hc,n,hd⟩:=id pl.isList;obtain⟨⟨E,w,data2,z⟩,j,m,W,o⟩:=id N.isList;simp only at hc hd m o;subst hc hd m o;have e:g.toArray++f.toArray=(g++f).toArray:=by simp
 refine n_ ⟨_,ho,rfl⟩ ⟨_,j,rfl⟩ noFill_list_add seq_list_add PySem.F.slot_list_add PySem.F.entry_list_add (PySem.F.args_list_add_2 _ _) (list_addW l b g.toArray f.toArray n W O w U z (by simp only[ec];rw[<-r.length,<-C.length];exact B)) ⟨ho,j,?_⟩;rw[e];exact⟨.ref _,_,I.U8 (t':=s.toks) (r.append C) (by rw[ib];exact B),rfl,q _ I.fresh⟩
theorem Kc:jb X (g_ .Add) (λx y H Q=>∃a b ys,x=.ref a/\y=.ref b/\ir X.K H a []/\ir X.K H b ys/\Q (.ref b) H):=by intro t s σ H x y v u Q I z A h;obtain⟨a,b,ys,rfl,rfl,B,C,q⟩:=h;cases z;cases A;obtain⟨m,r1,E,_⟩:=I.tuple B;obtain⟨f,O,G,_⟩:=I.tuple C;obtain⟨⟨cls,J,data,L⟩,ho,hc,n,hd⟩:=id E;obtain⟨⟨w,o,data2,r⟩,g,j,M,l⟩:=id G;simp only at hc hd j l;subst hc hd j l;have N:m=[]:=r1.qJ.mpr rfl;subst N;exact n_ ⟨_,ho,rfl⟩ ⟨_,g,rfl⟩ oI rq slot_tuple_add entry_tuple_add (args_tuple_add_2 _ _) (tuple_addW0 a b _ f.toArray n M J o L r (by simp)) ⟨ho,g,⟨.ref b,H,I,rfl,q⟩⟩
theorem aO:jb X (g_ .Add) (rD X.K (vV .add)):=by
 rintro f s σ H x y v u Q I g h⟨F,d,e,r,sm,o,q,he,k⟩;replace he:sO d e=aD r:=he;unfold sO at he;split at he;.cases he;rw[o.int]at g;rw[q.int]at h;exact Vj f s σ H _ _ v u Q I g h ⟨_,_,rfl,rfl,dh.eX sm (bO _) k⟩
 .rename_i xs ys;obtain⟨m,he⟩:=bL he;subst he;obtain⟨a,vs,rfl,t,j⟩:=o.lst sm;obtain⟨b,w,rfl,z,l⟩:=q.lst sm;exact Oe f s σ H _ _ v u Q I g h ⟨a,b,vs,w,rfl,rfl,t,z,by rw[j.length,l.length];exact m,λp A=>vI sm (j.append l) A k⟩
 . rename_i xs ys;obtain⟨m,he⟩:=bL he;subst he;obtain⟨a,vs,rfl,t,j,C⟩:=o.tup sm;obtain⟨b,w,rfl,z,l,E⟩:=q.tup sm;by_cases h0:vs=[]
   . subst h0;have B:xs=[]:=by have:=j.length;exact kD this.symm
     subst B;exact Kc f s σ H _ _ v u Q I g h ⟨a,b,w,rfl,rfl,t,z,dh.eX sm E k⟩
   . refine NP f s σ H _ _ v u Q I g h ⟨a,b,vs,w,rfl,rfl,t,z,h0,by rw[j.length,l.length];exact m,λe=>?_,λ_ p A=>FQ sm (j.append l) A k⟩;subst e;have B:ys=[]:=by have:=l.length;exact kD this.symm
     subst B;rw[qk]at k;exact dh.eX sm C k
 .rename_i G J;obtain⟨m,he⟩:=bL he;subst he;rw[o.str]at g;rw[q.str]at h;exact Cv f s σ H _ _ v u Q I g h ⟨_,_,rfl,rfl,m,dh.eX sm (Vd _) k⟩
 .cases he
theorem cL:jb X (g_ .Sub) (rD X.K (vV .sub)):=by
 rintro f s σ H x y v u Q I g h⟨F,d,e,r,sm,j,l,he,k⟩;replace he:yf d e=aD r:=he;unfold yf at he;split at he;.cases he;rw[j.int]at g;rw[l.int]at h;exact Uk f s σ H _ _ v u Q I g h ⟨_,_,rfl,rfl,dh.eX sm (bO _) k⟩
 .cases he
theorem Oh:jb X (g_ .Mult) (λx y H Q=>∃l k xs,x=.ref l/\y=.int k/\fU X.K H l xs/\-(2^63)<=k/\k<2^63/\xs.length*k.toNat<=sizeLine/\∀p,H p=b_->Q (.ref p) (upd H p (.lst (dV k.toNat xs).flatten))):=by
 intro w s σ H x y v u Q I C E h;obtain⟨l,k,xs,rfl,rfl,G,h1,J,z,q⟩:=h;cases C;obtain⟨t,rfl⟩:=E;obtain⟨f,r,pl,_⟩:=I.list G;obtain⟨⟨cls,A,data,B⟩,ho,hc,n,hd⟩:=id pl.isList;simp only at hc hd;subst hc hd;have g:f.toArray.size*k.toNat<=sizeLine:=by rw[ec,<-r.length];exact z
 have o:¬ f.toArray.size*k.toNat>(2^63-1)/8:=by
  have:(sizeLine:Nat)<=(2^63-1)/8:=by decide
  lia
 have j:ts (·++·) #[] (dV (if f.toArray.isEmpty=ck then 0 else k.toNat) f.toArray)=(dV k.toNat f).flatten.toArray:=by
  have f0:∀m:Nat,ts (·++·) #[] (dV m f.toArray)=(dV m f).flatten.toArray:=λm=>by have:=foldl_rep f m [];rw[nN]at this;exact this
  rw[f0];cases f with|nil=>simp|cons a M=>rw[if_neg (by simp)]
 refine q_ (T:="list") (U:="int") (by decide) ⟨_,ho,rfl⟩ (λL=>nL L k t) noFill_list_mul F.fills_int_mul F.slot_int_rmul repeat_list F.slot_int_index.lookup ?_;refine nS F.slot_int_rmul (nL s k t) F.entry_int_rmul (F.args_int_rmul_2 _ _) (uc k t l f.toArray n A B) ⟨ho,rfl,⟨_,ho,rfl⟩,?_⟩;refine nS F.slot_list_mul ⟨_,ho,rfl⟩ F.entry_list_mul (F.args_list_mul_2 _ _) (Gk l f.toArray n A B k t (by rw[fitsIndex_both h1 J];exact eH) o (by rw[K6 g];exact eH)) ⟨ho,?_⟩;rw[j];exact⟨.ref _,_,I.U8 (t':=s.toks) (r.rep k.toNat) (by rw[len_rep,qr];exact z),rfl,q _ I.fresh⟩
theorem pA:fillsNumberSlot (.type "tuple") "mul"=fI a_:=PySem.fillsNumberSlot_seq (id:="tuple.__mul__") (r:=aD (.builtin "tuple.__rmul__")) slot_tuple_mul.lookup (by decide+kernel) PySem.F.slot_tuple_rmul.lookup (by decide+kernel)
theorem wJ:seqRepeat? (.type "tuple")=fI (aD (.builtin "tuple.__mul__")):=by unfold seqRepeat?;rw[PySem.seqSlot_of (T:="tuple") (name:="__mul__") (id:="tuple.__mul__") slot_tuple_mul.lookup (by decide+kernel),PySem.seqSlot_of (T:="tuple") (name:="__rmul__") (id:="tuple.__rmul__") PySem.F.slot_tuple_rmul.lookup (by decide+kernel)];rfl
theorem sY(k:Int)(t:Tok)(l:dQ)(f:Array bV)(n:Nat)(j:Option dQ)(m:Array (Option bV)):nB (gE.«int.__rmul__» ⟨[.int k t,.ref l],[]⟩) (λ_ R s=>s.heap.get? l=aD ⟨.type "tuple",j,.seq f n,m⟩/\R (.ok (.ret l5)) s):=.of_wp λprog w A R s h=>by obtain⟨o,g,d,q,os⟩:=s;obtain⟨r,h⟩:=h;wp_walk;exact⟨_,rfl,h⟩
theorem Aa(l:dQ)(f:Array bV)(n:Nat)(u:Option dQ)(y:Array (Option bV))(k:Int)(t:Tok)(h0:0<=k)(h1:k<2^63)(o:f.size*k.toNat<=sizeLine)(z:0<f.size):nB (gE.«tuple.__mul__» ⟨[.ref l,.int k t],[]⟩) (λ_ R s=>s.heap.get? l=aD ⟨.type "tuple",u,.seq f n,y⟩/\(k=1->R (.ok (.ret (eR l))) s)/\(k≠1->R (.ok (.ret (eR s.heap.objs.size))) {s with heap:=s.heap.push {cls:=.type "tuple",data:=.seq (ts (·++·) #[] (dV k.toNat f))}})):=.of_wp λprog w A R s h=>by
  obtain⟨B,g,d,L,os⟩:=s;obtain⟨m,C,E⟩:=h;have r:f.isEmpty=a_:=by cases e:f.isEmpty with|false=>rfl|true=>rw[Array.isEmpty_iff_size_eq_zero]at e;lia
  show d_ _ _ (asIndex (.int k t)>>=_) _ _ _;wp_walk using hU m;have G:IsTup B l f:=⟨_,m,rfl,n,rfl⟩;rw[if_neg (by simp;lia)];refine bx (PyProof.Rows.tupleItemsOf_ G ?_);try dsimp only
  by_cases j:k=1;.rw[if_pos (by simp[j])];wp_walk using hU m;exact⟨_,rfl,C j⟩
  . have q:=E j;rw[if_neg (by simp[r,j])];by_cases I:k=0;.subst I;rw[if_pos (by simp)];unfold kH;refine bx (eJ ?_);exact c_ ⟨_,rfl,q⟩
    . have M:(f.size:Int)*k<=sizeLine:=by
       have:((f.size*k.toNat:Nat):Int)<=(sizeLine:Nat):=by exact_mod_cast o
       rw[Int.natCast_mul,show((k.toNat:Nat):Int)=k by lia]at this;exact this
      have J:(sizeLine:Int)<=(2^63-1)/8:=by decide
      rw[if_neg (by simp[r];lia),if_neg (by lia),if_neg (by simp[Builtin.Tuple.tupleTooMany];lia)];unfold kH;refine bx (eJ ?_ ?_);.exact c_ ⟨_,rfl,q⟩
      .have:=foldl_rep f.toList k.toNat [];rw[nN,show f.toList.toArray=f by simp]at this;show(ts (·++·) #[] (dV k.toNat f)).size<=sizeLine;rw[show(#[]:Array bV)=([]:List bV).toArray from rfl,this,ec,len_rep,jv,qr];exact o
theorem Ol:jb X (g_ .Mult) (λx y H Q=>∃l k xs,x=.ref l/\y=.int k/\ir X.K H l xs/\0<xs.length/\0<=k/\k<2^63/\xs.length*k.toNat<=sizeLine/\(k=1->Q (.ref l) H)/\(k≠1->∀p,H p=b_->Q (.ref p) (upd H p (.tup (dV k.toNat xs).flatten)))):=by
 intro w s σ H x y v u Q I C E h;obtain⟨l,k,xs,rfl,rfl,G,m,h1,J,z,L,M⟩:=h;cases C;obtain⟨t,rfl⟩:=E;obtain⟨f,r,pl,_⟩:=I.tuple G;obtain⟨⟨cls,A,data,B⟩,ho,hc,n,hd⟩:=id pl;simp only at hc hd;subst hc hd;have g:f.toArray.size*k.toNat<=sizeLine:=by rw[ec,<-r.length];exact z
 have j:ts (·++·) #[] (dV k.toNat f.toArray)=(dV k.toNat f).flatten.toArray:=by have:=foldl_rep f k.toNat [];rw[nN]at this;exact this
 refine q_ (T:="tuple") (U:="int") (by decide) ⟨_,ho,rfl⟩ (λN=>nL N k t) pA F.fills_int_mul F.slot_int_rmul wJ F.slot_int_index.lookup ?_;refine nS F.slot_int_rmul (nL s k t) F.entry_int_rmul (F.args_int_rmul_2 _ _) (sY k t l f.toArray n A B) ⟨ho,rfl,⟨_,ho,rfl⟩,?_⟩;refine nS slot_tuple_mul ⟨_,ho,rfl⟩ PySem.F.entry_tuple_mul (PySem.F.args_tuple_mul_2 _ _) (Aa l f.toArray n A B k t h1 J g (by rw[ec,<-r.length];exact m)) ⟨ho,λe=>⟨.ref l,H,I,rfl,L e⟩,λe=>?_⟩;rw[j];refine⟨.ref s.heap.objs.size,_,I.laid (t':=s.toks) (o:=.tup (dV k.toNat xs).flatten) (λb O q=>eO q) (di) ?_,rfl,M e _ (I.hok.fresh (di))⟩;exact⟨by rw[len_rep,qr];exact z,_,r.rep k.toNat,IsTup.new _ _⟩
theorem gV:jb X (g_ .Mult) (rD X.K (vV .mul)):=by
 rintro f s σ H x y v u Q I l g⟨F,d,e,r,sm,o,q,he,k⟩;replace he:qg d e=aD r:=he;unfold qg at he;split at he;.obtain⟨hc,he⟩:=bL he;subst he;rw[o.int]at l;rw[q.int]at g;exact R6 f s σ H _ _ v u Q I l g ⟨_,_,rfl,rfl,hc,dh.eX sm (bO _) k⟩
 . rename_i xs i;obtain⟨⟨h1,m,j⟩,he⟩:=bL he;subst he;obtain⟨a,vs,rfl,t,h⟩:=o.lst sm;rw[q.int]at g;have w:i<2^63:=by have z:=qA i.toNat m;have B:i.toNat<=16777216:=kb z j;lia
   exact Oh f s σ H _ _ v u Q I l g ⟨a,i,vs,rfl,rfl,t,by lia,w,by rw[h.length];exact j,λp A=>vI sm (h.rep i.toNat) A k⟩
 . rename_i xs i;obtain⟨⟨h1,m,j⟩,he⟩:=bL he;subst he;obtain⟨a,vs,rfl,t,h,C⟩:=o.tup sm;rw[q.int]at g;have w:i<2^63:=by have z:=qA i.toNat m;have B:i.toNat<=16777216:=kb z j;lia
   refine Ol f s σ H _ _ v u Q I l g ⟨a,i,vs,rfl,rfl,t,by rw[h.length];exact m,h1,w,by rw[h.length];exact j,λe=>?_,λe p A=>FQ sm (h.rep i.toNat) A k⟩;subst e;refine dh.eX sm ?_ k;have E:(dV (1:Int).toNat xs).flatten=xs:=by simp
   rw[E];exact C
 .cases he
theorem xG:jb X (g_ .FloorDiv) (rD X.K (vV .fdiv)):=by
 rintro f s σ H x y v u Q I g h⟨F,d,e,r,sm,l,m,he,k⟩;replace he:tD d e=aD r:=he;unfold tD at he;split at he
 . rename_i i j;obtain⟨⟨h1,q⟩,he⟩:=bL he;subst he;rw[l.int]at g;rw[m.int]at h;obtain⟨t,rfl⟩:=g;obtain⟨t',rfl⟩:=h;have o:j.natAbs.log2<9000:=by
    have:j.natAbs<2^200:=by
     have:(2:Nat)^200=1606938044258990275541962092341162602522202993782792835301376:=by decide
     lia
    have w:=(Nat.log2_lt (by lia)).mpr this;lia
   exact floordiv_int (by lia) (by rw[Int.fdiv_eq_ediv_of_nonneg i (by lia)];exact⟨.int _,H,I.tok _,⟨_,rfl⟩,dh.eX sm (bO _) k⟩) (.inl (PyProof.noPylong_of_log2 o))
 .cases he
theorem gU:jb X (g_ .Mod) (rD X.K (vV .mod)):=by
 rintro f s σ H x y v u Q I g h⟨F,d,e,r,sm,j,l,he,k⟩;replace he:yg d e=aD r:=he;unfold yg at he;split at he;.obtain⟨h1,he⟩:=bL he;subst he;rw[j.int]at g;rw[l.int]at h;exact U5 f s σ H _ _ v u Q I g h ⟨_,_,rfl,rfl,h1,dh.eX sm (bO _) k⟩
 .cases he
theorem j5:jb X (g_ .Pow) (rD X.K (vV .pow)):=by
 rintro f s σ H x y v u Q I g h⟨F,d,e,r,sm,j,l,he,k⟩;replace he:yC d e=aD r:=he;unfold yC at he;split at he;.obtain⟨⟨h1,o,m⟩,he⟩:=bL he;subst he;rw[j.int]at g;rw[l.int]at h;exact VN f s σ H _ _ v u Q I g h ⟨_,_,rfl,rfl,⟨h1,by lia,m⟩,dh.eX sm (bO _) k⟩
 .cases he
theorem aA{o:Op}{op:oj}(ho:jb X (g_ op) (rD X.K (vV o)))(f:SX X c a pa)(g:SX X c b pb):SX X c (.BinOp a op b pos) (.bin o pa pb):=vP (λh1 h=>Zu ho h1 h) f g (λρ=>rfl) rfl
theorem By(j:SX X c a pa):SX X c (.UnaryOp .USub a pos) (.neg pa):=by refine IK (f:=Iu) (λh1=>QX ?_ h1) j (λρ=>rfl) rfl;rintro g s σ H x v Q I h⟨F,d,r,sm,l,he,k⟩;unfold Iu at he;obtain⟨i,m,o⟩:=map_some he;subst o;cases d<;>cases m;rw[l.int]at h;exact Mm g s σ H _ v Q I h ⟨_,rfl,dh.eX sm (bO _) k⟩
theorem Dq{f:Int->Int->Bool}(ho:jb X (fE op) (MT λi j=>.bl (f i j))):jb X (fE op) (rD X.K λx y=>(M5 f x y).map λk=>.val (.bl k)):=by
 rintro g s σ H x y v u Q I l m⟨F,d,e,r,sm,o,q,he,k⟩;obtain⟨t,h,w⟩:=map_some (show(M5 f d e).map _=aD r from he);subst w;unfold M5 at h;split at h;.cases h;rw[o.int]at l;rw[q.int]at m;exact ho g s σ H _ _ v u Q I l m ⟨_,_,rfl,rfl,dh.eX sm (lN _) k⟩
 .cases h
theorem Ar{f:Int->Int->Bool}(ho:jb X (fE op) (MT λi j=>.bl (f i j))){o:Cm}(hc:cm o=M5 f):jb X (fE op) (rD X.K (tW o)):=by
 have e:tW o=λx y=>(M5 f x y).map λk=>.val (.bl k):=by funext x y;unfold tW;rw[hc]
 rw[e];exact Dq ho
theorem T7:jb X (fE .Lt) (rD X.K λx y=>(M5 (λi j=>decide (i<j)) x y).map λk=>.val (.bl k)):=Dq Yq
theorem lE:jb X (fE .LtE) (rD X.K (tW .le)):=Ar Zo rfl
theorem wY:jb X (fE .Gt) (rD X.K (tW .gt)):=Ar Y8 rfl
theorem v8:jb X (fE .GtE) (rD X.K (tW .ge)):=Ar aar rfl
theorem Gf{d:D}(h:gq K F H v d):decide (v=.non)=lg d:=by cases d with
 |non=>rw[h.non];rfl|bl _=>rw[h.bl];rfl|int _=>rw[h.int];rfl|str _=>rw[h.str];rfl|tup _=>
   rcases h with h|⟨a,_,_,rfl,_⟩;.rw[Rep]at h;obtain⟨a,_,rfl,_⟩:=h;rfl
   .rfl|lst _=>
   rcases h with h|⟨a,_,_,rfl,_⟩;.rw[Rep]at h;obtain⟨a,_,rfl,_⟩:=h;rfl
   .rfl|dD _=>
   rcases h with h|⟨a,_,_,rfl,_⟩;.rw[Rep]at h;obtain⟨a,_,rfl,_⟩:=h;rfl
   .rfl|dv _ _=>
   rcases h with h|⟨a,_,_,rfl,_⟩;.rw[Rep]at h;obtain⟨a,_,_,rfl,_⟩:=h;rfl
   .rfl
theorem Il:jb X (fE .Is) (rD X.K (tW .isN)):=by
 rintro f s σ H x y v u Q I h j⟨F,d,e,r,sm,l,m,he,k⟩;obtain⟨t,g,o⟩:=map_some (show(cmN a_ d e).map _=aD r from he);subst o;unfold cmN at g;split at g;.cases g;exact VR f s σ H x y v u Q I h j ⟨m.non,by rw[Gf l];exact dh.eX sm (lN _) k⟩
 .cases g
theorem fJ{o:Cm}(ho:jb X (fE op) (rD X.K (tW o)))(f:SX X c a pa)(g:SX X c b pb)(h:kR op b=a_):SX X c (.Compare a [op] [b] pos) (.cmp o pa pb):=vP (λh1 j=>Pq ho h1 j h) f g (λρ=>rfl) rfl
theorem Jj{o E:Cm}{l:CmpOp}(ho:jb X (fE op) (rD X.K (tW o)))(A:jb X (fE l) (rD X.K (tW E)))(G:SX X c a pa)(I:SX X c b pb)(hd:SX X c d pd)(J:lastMarks [op,l] [b,d]=a_:=by with_unfolding_all rfl):SX X c (.Compare a [op,l] [b,d] pos) (.chain o E pa pb pd):=by
 obtain⟨ta,tb,h1,L,M⟩:=G.jH I;obtain⟨td,N,O⟩:=hd.cT;refine⟨gG (Lq ho A h1 L N J) ?_,λi h=>by cases h⟩;rintro σ H Q⟨F,ρ,r,ρ',g,e,k⟩;rw[_H.E9]at e;obtain⟨m,U,W,e⟩:=aj e;obtain⟨t,Y,j,e⟩:=aj e;have Z:=aF j;clear j;obtain⟨j,B⟩:=Z;subst B;have f:flat m.2=ck/\cm o m.1 m.2=aD t:=by
  split at j;.rename_i hf;exact⟨hf,j⟩
  .cases j
 obtain⟨f,j⟩:=f;refine M g W λv u F' H' s pv y=>⟨F',m.1,m.2,.val (.bl t),s.gs.sub,pv,y,by unfold tW;rw[j];rfl,λw C H2 x q=>?_⟩;have s2:=s.trans (x.stp s.gs);have q:Rep X.K C w (.bl t):=q;rw[Rep]at q;subst q;refine⟨t,rfl,?_⟩;cases t with|false=>rw[if_neg eH]at e ⊢;cases e;exact k _ C H2 s2 (show Rep X.K C _ _ from lN _)|true=>
   rw[if_pos rfl]at e ⊢;obtain⟨z,ab,B,e⟩:=aj e;obtain⟨e4,e5⟩:=aF e;subst e5;refine O s2.gs B λw F3 H3 s3 pw=>⟨F3,m.2,z,r,s3.gs.sub,?_,pw,e4,λw' F4 H4 x4 q=>?_⟩
   . have x1:=x.fs;have x2:=s3.cI;rcases y with y|⟨_,_,_,_,_,_,h⟩;.exact .inl ((y.mono x1).mono x2)
     .rw[h]at f;cases f
   .have s4:=s2.trans s3;exact k w' F4 H4 (s4.trans (x4.stp s4.gs)) (.later s4 (q.wL s4.gs))
end
section
variable{X:Cx}{c:Call}{e a b d:eB}{p pa pb pd:P}{pos:Pos}{rest:List eB}
theorem oh{x:D}{k:Bool}(h:Cu x=aD k):x=.bl k:=by cases x<;>cases h;rfl
theorem bK{x:D}{k:Int}(h:gD x=aD k):x=.int k:=by cases x<;>cases h;rfl
theorem dH.bool{g H':Hp}{f:_L.St}{r:R}{k:Bool}(h:dH K g ρ' f H' ρ σ H v r)(e:r.d=.bl k):v=.bl k:=by cases r with|val d=>cases(show d=.bl k from e);have h:Rep K g v (.bl k):=h;rw[Rep]at h;exact h|own ds=>cases e
noncomputable def ST(X:Cx)(c:Call)(e:eB)(p:P):Prop:=PT X e (J7 X.K (lG (_H.ev c p)))
noncomputable def SW(X:Cx)(c:Call)(e:eB)(p:P):Prop:=PW X e (J7 X.K (lG (_H.ev c p)))
theorem SW.st(h:SW X c e p):ST X c e p:=PW.pt h
theorem vA{t:TE}{Q:Bool->Hp->Prop}(hi:∀Q,xW X.K (_H.ev c p) σ H Q->t σ H Q)(h:J7 X.K (lG (_H.ev c p)) σ H Q):t σ H λx l=>∃k,x=.bl k/\Q k l:=by obtain⟨F,ρ,k,ρ',g,e,q⟩:=h;obtain⟨r,j,m,f⟩:=aj e;have o:=aF f;clear f;obtain⟨f,u⟩:=o;subst u;exact hi _ ⟨F,ρ,r,j,g,m,λv w H' s y=>⟨k,y.bool (oh f),q w H' s⟩⟩
theorem iu(h:SX X c e p)(he:∀whole,isTrue e X.env whole=(do let v<-whole;pE e.pos;kq [v] (truthy v)):=by intro _;rfl):ST X c e p:=JS (T3 h.ev he) λσ H Q q=>vA (λ_ z=>z) q
theorem cG{o:Cm}(ho:jb X (fE op) (rD X.K (tW o)))(j:SX X c a pa)(l:SX X c b pb)(m:kR op b=a_):ST X c (.Compare a [op] [b] pos) (.cmp o pa pb):=by obtain⟨y,A,h1,B,C⟩:=j.jH l;refine JS (Qc ho h1 B m) λσ H Q q=>vA (t:=MN (rD X.K (tW o)) y A) (λQ z=>?_) q;obtain⟨F,ρ,r,ρ',g,e,k⟩:=z;rw[_H.E8]at e;obtain⟨h,E,G,f⟩:=aj e;have I:=aF f;clear f;obtain⟨f,J⟩:=I;subst J;refine C g G λv u L H' s M N=>⟨L,h.1,h.2,r,s.gs.sub,M,N,f,λw O U x W=>?_⟩;exact k w O U (s.trans (x.stp s.gs)) (.later s (W.wL s.gs))
theorem il(j:ST X c a pa):ST X c (.UnaryOp .Not a pos) (.not pa):=by
 refine JS (V7 j) ?_;rintro σ H Q⟨F,ρ,k,ρ',g,e,q⟩;unfold lG at e;rw[_H.E5]at e;obtain⟨r,l,m,f⟩:=aj e;obtain⟨h,o,t,u⟩:=aj m;cases u;have w:=aF f;clear f;obtain⟨f,y⟩:=w;subst y;have f:(!h)=k:=by cases f;rfl
 exact⟨F,ρ,h,_,g,t,λz H' s=>by show Q (!h) H';rw[f];exact q z H' s⟩
theorem Pz(ρ:List Sl):lG (_H.ev c (.and pa pb)) ρ=(lG (_H.ev c pa) ρ).bind λx ρ=>if x then lG (_H.ev c pb) ρ else .ok a_ ρ:=by unfold lG;rw[_H.E6];unfold lG;cases _H.ev c pa ρ with|exc _ _=>rfl|stuck=>rfl|ok r f=>simp only[Res.bind];cases h:Cu r.d with|none=>rfl|some k=>cases k with|false=>rfl|true=>simp only[lift,if_true];cases _H.ev c pb f with|exc _ _=>rfl|stuck=>rfl|ok g j=>simp only[Res.bind];cases h2:Cu g.d with|none=>rfl|some l=>rfl
theorem Uc(ρ:List Sl):lG (_H.ev c (.or pa pb)) ρ=(lG (_H.ev c pa) ρ).bind λx ρ=>if x then .ok ck ρ else lG (_H.ev c pb) ρ:=by unfold lG;rw[_H.E7];unfold lG;cases _H.ev c pa ρ with|exc _ _=>rfl|stuck=>rfl|ok r f=>simp only[Res.bind];cases h:Cu r.d with|none=>rfl|some k=>cases k with|true=>rfl|false=>simp only[lift,ii,if_false];cases _H.ev c pb f with|exc _ _=>rfl|stuck=>rfl|ok g j=>simp only[Res.bind];cases h2:Cu g.d with|none=>rfl|some l=>rfl
theorem Oa(f:ST X c a pa):SW X c (.BoolOp .And [a] pos) pa:=QB f
theorem pL(f:ST X c a pa):SW X c (.BoolOp .Or [a] pos) pa:=TV f
theorem Iv(h:ST X c a pa)(j:SW X c (.BoolOp .And (b::rest) pos) pb):SW X c (.BoolOp .And (a::b::rest) pos) (.and pa pb):=by refine Ra (S5 h j) ?_;rintro σ H Q⟨F,ρ,k,ρ',g,e,q⟩;rw[Pz]at e;obtain⟨x,f,l,e⟩:=aj e;refine⟨F,ρ,x,f,g,l,λF1 m s1=>?_⟩;cases x with|true=>rw[if_pos rfl]at e ⊢;exact⟨F1,f,k,ρ',s1.gs,e,λo r s2=>q o r (s1.trans s2)⟩|false=>rw[if_neg eH]at e ⊢;cases e;exact q F1 m s1
theorem vf(h:ST X c a pa)(j:SW X c (.BoolOp .Or (b::rest) pos) pb):SW X c (.BoolOp .Or (a::b::rest) pos) (.or pa pb):=by refine Ra (Y0 h j) ?_;rintro σ H Q⟨F,ρ,k,ρ',g,e,q⟩;rw[Uc]at e;obtain⟨x,f,l,e⟩:=aj e;refine⟨F,ρ,x,f,g,l,λF1 m s1=>?_⟩;cases x with|true=>rw[if_pos rfl]at e ⊢;cases e;exact q F1 m s1|false=>rw[if_neg eH]at e ⊢;exact⟨F1,f,k,ρ',s1.gs,e,λo r s2=>q o r (s1.trans s2)⟩
theorem mH{op}(f:SX X c a pa):PE X (.BoolOp op [a] pos) (xW X.K (_H.ev c pa)):=Vp f.ev
theorem pI(o:SX X c a pa)(q:PE X (.BoolOp .And (b::rest) pos) (xW X.K (_H.ev c pb))):SX X c (.BoolOp .And (a::b::rest) pos) (.and pa pb):=by refine⟨gG (Wb o.ev q) ?_,λi h=>by cases h⟩;rintro σ H Q⟨F,ρ,r,ρ',g,e,k⟩;rw[_H.E6]at e;obtain⟨x,f,s,e⟩:=aj e;refine vA (c:=c) (λ_ z=>z) (Q:=λx j=>if x=ck then xW X.K (_H.ev c pb) σ j Q else Q (.bl a_) j) ⟨F,ρ,x,f,g,s,λF1 j s1=>?_⟩;cases x with|true=>rw[if_pos rfl]at e ⊢;obtain⟨y,t,u,w⟩:=aj e;cases w;obtain⟨A,B,C,l⟩:=aj u;have E:=aF l;clear l;obtain⟨l,G⟩:=E;subst G;refine⟨F1,f,A,_,s1.gs,C,λv m I s2 J=>?_⟩;rw[J.bool (oh l)];exact k _ m I (s1.trans s2) (show Rep X.K m _ _ from lN _)|false=>rw[if_neg eH]at e ⊢;cases e;exact k _ F1 j s1 (show Rep X.K F1 _ _ from lN _)
theorem aai(o:SX X c a pa)(q:PE X (.BoolOp .Or (b::rest) pos) (xW X.K (_H.ev c pb))):SX X c (.BoolOp .Or (a::b::rest) pos) (.or pa pb):=by refine⟨gG (La o.ev q) ?_,λi h=>by cases h⟩;rintro σ H Q⟨F,ρ,r,ρ',g,e,k⟩;rw[_H.E7]at e;obtain⟨x,f,s,e⟩:=aj e;refine vA (c:=c) (λ_ z=>z) (Q:=λx j=>if x=ck then Q (.bl ck) j else xW X.K (_H.ev c pb) σ j Q) ⟨F,ρ,x,f,g,s,λF1 j s1=>?_⟩;cases x with|true=>rw[if_pos rfl]at e ⊢;cases e;exact k _ F1 j s1 (show Rep X.K F1 _ _ from lN _)|false=>rw[if_neg eH]at e ⊢;obtain⟨y,t,u,w⟩:=aj e;cases w;obtain⟨A,B,C,l⟩:=aj u;have E:=aF l;clear l;obtain⟨l,G⟩:=E;subst G;refine⟨F1,f,A,_,s1.gs,C,λv m I s2 J=>?_⟩;rw[J.bool (oh l)];exact k _ m I (s1.trans s2) (show Rep X.K m _ _ from lN _)
theorem Ac(hc:ST X c e p)(u:SX X c a pa)(w:SX X c b pb):SX X c (.IfExp e a b pos) (.Wk p pa pb):=by refine⟨gG (Kw hc u.ev w.ev) ?_,λi h=>by cases h⟩;rintro σ H Q⟨F,ρ,r,ρ',g,e,k⟩;rw[_H.E10]at e;obtain⟨x,f,y,e⟩:=aj e;refine⟨F,ρ,x,f,g,y,λF1 A s1=>?_⟩;cases x with|true=>rw[if_pos rfl]at e ⊢;obtain⟨j,l,m,o⟩:=aj e;cases o;refine⟨F1,f,j,_,s1.gs,m,λv z q s2 s=>?_⟩;obtain⟨F3,s3,_,t⟩:=s2.fG s;exact k v F3 q (s1.trans s3) t|false=>rw[if_neg eH]at e ⊢;obtain⟨j,l,m,o⟩:=aj e;cases o;refine⟨F1,f,j,_,s1.gs,m,λv z q s2 s=>?_⟩;obtain⟨F3,s3,_,t⟩:=s2.fG s;exact k v F3 q (s1.trans s3) t
theorem mC:∀{ps:List P}{ρ ρ':List Sl}{ds:List D},evs c ps ρ=.ok ds ρ'->ds.length=ps.length|[],_,_,_,h=>by rw[vY]at h;cases h;rfl|p::ps,_,_,_,h=>by rw[pD]at h;obtain⟨r,f,_,h⟩:=aj h;obtain⟨xs,g,j,h⟩:=aj h;cases h;simp[mC j]
theorem aK:SA X c [] []:=⟨xT jr λσ H Q⟨F,ρ,ds,ρ',g,e,k⟩=>by rw[vY]at e;cases e;exact k [] F H (.refl g) .nil,rfl⟩
theorem qO{ps:List P}(h:SX X c a pa)(hr:SA X c es ps)(hs:ea (a::es) X.env=(a_,fF a X.env)::ea es X.env:=by rfl):SA X c (a::es) (pa::ps):=by refine⟨xT (eN h.ev hr.1 hs) ?_,by simp[hr.2]⟩;rintro σ H Q⟨F,ρ,ds,ρ',g,e,k⟩;rw[pD]at e;obtain⟨r,f,j,e⟩:=aj e;obtain⟨xs,l,m,e⟩:=aj e;cases e;refine⟨F,ρ,r,f,g,j,λv y H' s o=>?_⟩;obtain⟨F1,s1,_,q⟩:=s.fG o;refine⟨F1,f,xs,_,s1.gs,m,λvs t u s2 w=>?_⟩;exact k _ t u (s1.trans s2) (.cons (q.mono s2.cI) w)
theorem Ext.Dj{g h:Hp}{Q:VK}{xs:List V}(s:bW K h ρ σ g F ρ' σ H)(r:aH K F xs ds)(k:∀v f H',bW K h ρ σ g f ρ' σ H'->dH K f ρ' σ H' ρ σ g v (.val (.tup ds))->Q v H')(p:dQ)(j:H p=b_):Q (.ref p) (upd H p (.tup xs)):=FQ s.gs.sub r j λv f H' x l=>k v f H' (s.trans (x.stp s.gs)) l
theorem cN{ps:List P}{x1}(h:SA X c es ps)(l:ps.length<=sizeLine:=by decide):SX X c (.Tuple es x1 pos) (.tup ps):=by refine⟨gG (vZ h.1) ?_,λi h=>by cases h⟩;rintro σ H Q⟨F,ρ,r,ρ',g,e,k⟩;rw[_H.E11]at e;obtain⟨ds,m,f,e⟩:=aj e;cases e;exact⟨F,ρ,ds,_,g,f,λvs q H' s j=>⟨by rw[j.length,mC f];exact l,λp o=>Ext.Dj s j k p o⟩⟩
theorem cQ{ps:List P}(h:SA X c es ps)(l:ps.length<=sizeLine:=by decide):SX X c (.List es pos) (.lst ps):=by refine⟨gG (Wa h.1) ?_,λi h=>by cases h⟩;rintro σ H Q⟨F,ρ,r,ρ',g,e,k⟩;rw[_H.E12]at e;obtain⟨ds,m,f,e⟩:=aj e;cases e;exact⟨F,ρ,ds,_,g,f,λvs w H' s j=>⟨by rw[j.length,mC f];exact l,λp o=>vI s.gs.sub j o λv q t x u=>k v q t (s.trans (x.stp s.gs)) (.later s (u.wL s.gs))⟩⟩
theorem Ja{i:Int}{d:D}(h:at' ds i=aD d):∃j,_L.kZ ds.length i=aD j/\ds[j]?=aD d:=bF h
theorem adz:IxR X (rD X.K pG):=by
 rintro f slice g s σ H x y v u Q I m l⟨F,d,e,r,sm,t,A,he,k⟩hs;unfold pG at he;obtain⟨ds,B,he⟩:=bF he;obtain⟨i,C,he⟩:=bF he;obtain⟨z,E,he⟩:=map_some he;subst he;cases bK C;rw[A.int]at l;obtain⟨p,xs,rfl,hq,o⟩:=t.items sm B;obtain⟨j,h1,G⟩:=Ja E;obtain⟨w,J,q⟩:=o.get G;have h:JT xs i=aD w:=by unfold JT;rw[o.length,h1];exact J
 rcases hq with hq|hq;.exact mK f slice g s σ H _ _ v u Q I m l ⟨p,xs,i,w,rfl,rfl,hq,h,dh.eX sm q k⟩ hs
 .exact UG f slice g s σ H _ _ v u Q I m l ⟨p,xs,i,w,rfl,rfl,hq,h,dh.eX sm q k⟩ hs
theorem ao(g:SX X c a pa)(h:SX X c b pb)(hs:jO b:=by intro _ _;rfl):SX X c (.Subscript a b pos) (.idx pa pb):=vP (f:=pG) (λh1 j=>uU adz h1 j hs) g h (λρ=>rfl) rfl
noncomputable def Hm(K:PySem.W.Frag)(f:D->Option R):List V->Hp->VK->Prop:=λxs H Q=>∃x,xs=[x]/\rD1 K f x H Q
theorem kI{E:eB}{f:D->Option R}{q:P}(l:∀{t},PA X [a] t->PE X E (tCB (Hm X.K f) t))(m:SX X c a pa)(o:∀ρ,_H.ev c q ρ=(_H.cT (isVar pa) (_H.ev c pa) ρ).bind λx ρ=>lift (f x) ρ)(hv:isVar q=b_)(hs:ea [a] X.env=(a_,fF a X.env)::ea [] X.env:=by rfl):SX X c E q:=by obtain⟨M,h1,u⟩:=m.cT;refine⟨gG (l (eN h1 jr hs)) ?_,λi h=>by rw[hv]at h;cases h⟩;rintro σ H Q⟨F,ρ,r,ρ',g,e,k⟩;rw[o]at e;obtain⟨x,y,z,j⟩:=aj e;have A:=aF j;clear j;obtain⟨j,B⟩:=A;subst B;refine u g z λv C H' s G=>⟨v,rfl,C,x,r,s.gs.sub,G,j,λw I J x L=>?_⟩;exact k w I J (s.trans (x.stp s.gs)) (.later s (L.wL s.gs))
theorem Zz:dO X (.builtin "len") (Hm X.K λx=>blt .len [x]):=by rintro f s σ H xs g Q I r⟨x,h,F,d,j,sm,l,he,k⟩;obtain⟨ds,m,he⟩:=map_some (show(items d).map _=aD j from he);subst he;obtain⟨p,ys,rfl,o,q⟩:=l.items sm m;exact wM f s σ H xs g Q I r ⟨p,ys,h,o,by rw[q.length];exact dh.eX sm (bO _) k⟩
theorem Ti:dO X (.type "list") (Hm X.K λx=>blt .list [x]):=by rintro f s σ H xs g Q I r⟨x,h,F,d,j,sm,m,he,k⟩;obtain⟨ds,o,he⟩:=map_some (show(items d).map _=aD j from he);subst he;obtain⟨p,ys,rfl,q,t⟩:=m.items sm o;exact wj f s σ H xs g Q I r ⟨p,ys,h,q,λl u=>vI sm t u k⟩
theorem Qa:dO X (.type "tuple") (Hm X.K λx=>blt .tuple [x]):=by rintro f s σ H xs j Q I r⟨x,m,F,d,t,sm,o,he,k⟩;obtain⟨ds,g,he⟩:=map_some (show(items d).map _=aD t from he);subst he;cases d with|tup es=>cases g;obtain⟨a,ys,rfl,h,q,rt⟩:=o.tup sm;exact mU f s σ H xs j Q I r ⟨a,ys,m,.inr ⟨h,dh.eX sm rt k⟩⟩|lst es=>cases g;obtain⟨a,ys,rfl,h,q⟩:=o.lst sm;exact mU f s σ H xs j Q I r ⟨a,ys,m,.inl ⟨h,λl u=>FQ sm q u k⟩⟩|_=>cases g
theorem lR(f:x="len")(g:Gl X x)(j:X.mg x=b_)(l:SX X c a pa)(hs:ea [a] X.env=(a_,fF a X.env)::ea [] X.env:=by rfl):SX X c (.Call (.Name x p') [a] [] pos) (.blt .len [pa]):=by subst f;exact kI (λh=>fj Zz g j PySem.boot_len h (he:=hs)) l (λρ=>rfl) rfl hs
theorem Pr(f:x="list")(g:Gl X x)(j:X.mg x=b_)(l:SX X c a pa)(hs:ea [a] X.env=(a_,fF a X.env)::ea [] X.env:=by rfl):SX X c (.Call (.Name x p') [a] [] pos) (.blt .list [pa]):=by subst f;exact kI (λh=>mJ Ti g j (by decide+kernel) h (he:=hs)) l (λρ=>rfl) rfl hs
theorem cX(f:x="tuple")(g:Gl X x)(j:X.mg x=b_)(l:SX X c a pa)(hs:ea [a] X.env=(a_,fF a X.env)::ea [] X.env:=by rfl):SX X c (.Call (.Name x p') [a] [] pos) (.blt .tuple [pa]):=by subst f;exact kI (λh=>mJ Qa g j (by decide+kernel) h (he:=hs)) l (λρ=>rfl) rfl hs
end
noncomputable def PX(K:PySem.W.Frag)(np:Nat)(f:List Sl->Res R):Sp:=λvs H Q _=>vs.length=np/\∃F args r a,GS K F args (vs.map aD) H/\f args=.ok r a/\∀v c b H',bW K F args (vs.map aD) H c a b H'->dH K c a b H' args (vs.map aD) H v r->Q v H'
section
variable{K:PySem.W.Frag}
noncomputable def Ak(K:PySem.W.Frag)(F:Hp)(ρ:List Sl)(σ:_L.St)(H:Hp)(ρ₀:List Sl)(H₀:Hp)(v:V):Arg->Prop|.dat d=>Rep K F v d|.tmp ds=>∃x xs,v=.ref x/\H x=aD (.lst xs)/\F x=b_/\aH K F xs ds/\¬ Own ρ σ x/\(Own ρ₀ σ x\/H₀ x=b_)|.gW i=>σ[i]?=aD (aD v)
structure yU(K:PySem.W.Frag)(F:Hp)(ρ:List Sl)(σ:_L.St)(H:Hp)(ρ₀:List Sl)(H₀:Hp)(as:List Arg)(vs:List V):Prop where
 len:as.length=vs.length
 one:∀(j:Nat)(a:Arg)(v:V),as[j]?=aD a->vs[j]?=aD v->Ak K F ρ σ H ρ₀ H₀ v a
 dis:∀(j k:Nat)(ds es:List D)(x:dQ),as[j]?=aD (.tmp ds)->as[k]?=aD (.tmp es)->vs[j]?=aD (.ref x)->vs[k]?=aD (.ref x)->j=k
theorem Ak.later{b H':Hp}{a:Arg}(s:bW K F ρ σ H b ρ' σ H')(h:Ak K F ρ σ H ρ₀ H₀ v a):Ak K b ρ' σ H' ρ₀ H₀ v a:=by cases a with|dat d=>exact Rep.mono s.cI h|gW i=>exact h|tmp ds=>
   obtain⟨x,xs,h1,c,f,g,e,j⟩:=h;refine⟨x,xs,h1,s.keep x _ c e,?_,g.mono s.cI,λo=>?_,j⟩;.cases q:b x with|none=>rfl|some o=>
       rcases s.zK x f (by rw[q];simp)with z|z;.exact absurd z e
       .exact(K1 c z).elim
   . rcases s.xF x o with z|z;.exact e z
     .rw[c]at z;cases z
theorem yU.nil:yU K F ρ σ H ρ₀ H₀ [] []:=⟨rfl,λj a v h=>by simp at h,λj k ds es x h=>by simp at h⟩
theorem yU.cons{F H H₀:Hp}{ρ ρ₀:List Sl}{σ:_L.St}{a:Arg}{v:V}{as:List Arg}{vs:List V}(h:Ak K F ρ σ H ρ₀ H₀ v a)(t:yU K F ρ σ H ρ₀ H₀ as vs)(hd:∀ds x,a=.tmp ds->v=.ref x->∀(k:Nat)es,as[k]?=aD (.tmp es)->vs[k]?≠aD (.ref x)):yU K F ρ σ H ρ₀ H₀ (a::as) (v::vs):=by
 refine⟨by simp[t.len],λj b u h1 c=>?_,λj k ds es x h1 c e f=>?_⟩;.cases j with|zero=>simp at h1 c;subst h1;subst c;exact h|succ j=>exact t.one j b u (by simpa using h1) (by simpa using c)
 .cases j with
   |zero=>cases k with|zero=>rfl|succ k=>simp at h1 e;exact absurd (by simpa using f) (hd ds x h1 e k es (by simpa using c))
   |succ j=>cases k with|zero=>simp at c f;exact absurd (by simpa using e) (hd es x c f j ds (by simpa using h1))|succ k=>rw[t.dis j k ds es x (by simpa using h1) (by simpa using c) (by simpa using e) (by simpa using f)]
noncomputable def Km(ρ:List Sl):Arg->Sl->Prop|.dat d,s=>s=.val a_ d|.tmp ds,s=>s=.own a_ ds|.gW i,s=>(∃b d,ρ[i]?=aD (.val b d)/\s=.val a_ d)\/(∃b ds,ρ[i]?=aD (.own b ds)/\s=.own ck ds)\/∃ds,ρ[i]?=aD (.lent ds)/\s=.lent ds
theorem qT{ρ:List Sl}:∀{as:List Arg}{c:List Nat}{args:List Sl},cO ρ as c=aD args->args.length=as.length/\(∀(j:Nat)(a:Arg)(s:Sl),as[j]?=aD a->args[j]?=aD s->Km ρ a s)/\(∀(j:Nat)(i:Nat)(s:Sl)ds,as[j]?=aD (.gW i)->args[j]?=aD s->lst? s=aD ds->i∉c)/\(∀(j k:Nat)(i:Nat)(s t:Sl)ds es,as[j]?=aD (.gW i)->as[k]?=aD (.gW i)->args[j]?=aD s->args[k]?=aD t->lst? s=aD ds->lst? t=aD es->j=k)
 |[],c,args,h=>by rw[Bc]at h;cases h;exact⟨rfl,λj a s h=>by simp at h,λj i s ds h=>by simp at h,λj k i s t ds es h=>by simp at h⟩|a::as,c,args,h=>by--the af8 slot,the af9
   have A:∃s0 r u,args=s0::r/\cO ρ as u=aD r/\Km ρ a s0/\((∃i ds,a=.gW i/\lst? s0=aD ds/\u=i::c/\i∉c)\/((∀i ds,a=.gW i->lst? s0≠aD ds)/\u=c)):=by cases a with|dat d=>rw[Bm]at h;obtain⟨r,g,l⟩:=map_some h;exact⟨_,r,c,l.symm,g,rfl,.inr ⟨λi ds z=>(by cases z),rfl⟩⟩|tmp d=>rw[Ae]at h;obtain⟨r,g,l⟩:=map_some h;exact⟨_,r,c,l.symm,g,rfl,.inr ⟨λi ds z=>(by cases z),rfl⟩⟩|gW i=>
      rw[rG]at h;split at h;.rename_i b d q;obtain⟨r,g,l⟩:=map_some h;exact⟨_,r,c,l.symm,g,.inl ⟨b,d,q,rfl⟩,.inr ⟨λ_ _ _ z=>(by cases z),rfl⟩⟩
      . rename_i b ds q;split at h;.cases h
        .rename_i o;obtain⟨r,g,l⟩:=map_some h;exact⟨_,r,_,l.symm,g,.inr (.inl ⟨b,ds,q,rfl⟩),.inl ⟨i,_,rfl,rfl,rfl,by simpa using o⟩⟩
      . rename_i ds q;split at h;.cases h
        .rename_i o;obtain⟨r,g,l⟩:=map_some h;exact⟨_,r,_,l.symm,g,.inr (.inr ⟨ds,q,rfl⟩),.inl ⟨i,_,rfl,rfl,rfl,by simpa using o⟩⟩
      .cases h
   obtain⟨s0,r,u,rfl,hr,B,o⟩:=A;obtain⟨O,Q,C,U⟩:=qT hr;have sub:∀i,i∉u->i∉c:=λi hi M=>by
    rcases o with⟨_,_,_,_,rfl,_⟩|⟨_,rfl⟩;.exact hi (fP _ M)
    .exact hi M
   refine⟨by simp[O],λj b s h1 f=>?_,λj i s ds h1 f p=>?_,λj k i s t ds es h1 f p y E G=>?_⟩;.cases j with|zero=>simp at h1 f;subst h1;subst f;exact B|succ j=>exact Q j b s (by simpa using h1) (by simpa using f)
   .cases j with|zero=>
       simp at h1 f;subst h1;subst f;rcases o with⟨N,_,e,_,_,m⟩|⟨m,_⟩;.cases e;exact m
       .exact absurd p (m i ds rfl)|succ j=>exact sub i (C j i s ds (by simpa using h1) (by simpa using f) p)
   . have W:∀(k:Nat)(t:Sl)es,a=.gW i->lst? s0=aD ds->(as[k]?=aD (.gW i))->r[k]?=aD t->lst? t=aD es->False:=λk t es w I J L he=>by
      rcases o with⟨N,_,e,_,rfl,m⟩|⟨m,_⟩;.rw[w]at e;cases e;exact C k i t es J L he jp
      .exact m i ds w I
     have X:∀(k:Nat)(t:Sl)es,a=.gW i->lst? s0=aD es->(as[k]?=aD (.gW i))->r[k]?=aD t->lst? t=aD ds->False:=λk t es w I J L he=>by
      rcases o with⟨N,_,e,_,rfl,m⟩|⟨m,_⟩;.rw[w]at e;cases e;exact C k i t ds J L he jp
      .exact m i es w I
     cases j with
     |zero=>cases k with|zero=>rfl|succ k=>simp at h1 p;subst p;exact(W k t es h1 E (by simpa using f) (by simpa using y) G).elim
     |succ j=>cases k with|zero=>simp at f y;subst y;exact(X j s es f G (by simpa using h1) (by simpa using p) E).elim|succ k=>rw[U j k i s t ds es (by simpa using h1) (by simpa using f) (by simpa using p) (by simpa using y) E G]
theorem yU.get(A:yU K F ρ σ H ρ₀ H₀ as vs){args:List Sl}{j:Nat}{s:Sl}(c:args.length=as.length)(h:args[j]?=aD s):∃a v,as[j]?=aD a/\vs[j]?=aD v/\Ak K F ρ σ H ρ₀ H₀ v a:=by
 have e:j<args.length:=(gC h).1;have h1:j<as.length:=by lia
 have b:j<vs.length:=by rw[<-A.len];exact h1
 exact⟨as[j],vs[j],by simp[h1],by simp[b],A.one j _ _ (by simp[h1]) (by simp[b])⟩
theorem args_gs{args:List Sl}(g:GS K F ρ σ H)(A:yU K F ρ σ H ρ₀ H₀ as vs)(h:cO ρ as []=aD args):GS K F args (vs.map aD) H:=by
 obtain⟨I,M,l3,l4⟩:=qT h;have up:∀{j:Nat}{v:V},vs[j]?=aD v->(vs.map aD)[j]?=aD (aD v):=λe=>by rw[eI,e];rfl
 have Y:∀{j:Nat}{v:V},(vs.map aD)[j]?=aD (aD v)->vs[j]?=aD v:=λ{j v}e=>by rw[eI]at e;cases q:vs[j]?with|none=>rw[q]at e;cases e|some w=>rw[q]at e;cases e;rfl
 refine⟨g.sub,by rw[I,A.len,en],λj b d e=>?_,λj s ds e J=>?_,λj k x⟨⟨s,ds,e1,e2⟩,N⟩⟨⟨t,es,f1,f2⟩,f3⟩=>?_⟩;.obtain⟨a,v,h1,u,m⟩:=A.get I e;have B:=M j a _ h1 e;refine⟨v,up u,?_⟩;cases a with|dat d'=>cases B;exact m|tmp ds=>cases B|gW i=>
     rcases B with⟨O,d',r,c⟩|⟨_,_,_,c⟩|⟨_,_,c⟩;.cases c;obtain⟨w,f,p⟩:=g.val i O d r;have m:σ[i]?=aD (aD v):=m;rw[m]at f;cases f;exact p
     .cases c
     .cases c
 .obtain⟨a,v,h1,u,m⟩:=A.get I e;have B:=M j a _ h1 e;cases a with|dat d'=>cases B;cases J|tmp es=>cases B;cases J;obtain⟨x,xs,rfl,c,f,p,_⟩:=m;exact⟨x,_,up u,c,f,xs,rfl,p⟩|gW i=>
     have m:σ[i]?=aD (aD v):=m;rcases B with⟨O,d',r,c⟩|⟨O,es,r,c⟩|⟨es,r,c⟩;.cases c;cases J
     .cases c;cases J;obtain⟨x,xs,f,p⟩:=g.own i _ _ r rfl;rw[m]at f;cases f;exact⟨x,xs,up u,p⟩
     .cases c;cases J;obtain⟨x,xs,f,p⟩:=g.own i _ _ r rfl;rw[m]at f;cases f;exact⟨x,xs,up u,p⟩
 . obtain⟨a,v,h1,u,m⟩:=A.get I e1;obtain⟨Q,v',C,L,E⟩:=A.get I f1;have N:=Y N;have f3:=Y f3;rw[u]at N;cases N;rw[L]at f3;cases f3;have s1:=M j a _ h1 e1;have s2:=M k Q _ C f1;have U:∀{i:Nat}{s:Sl}{ds:Oc},lst? s=aD ds->Km ρ (.gW i) s->∃G o,ρ[i]?=aD G/\lst? G=aD o:=λ{i s ds}l z=>by
    rcases z with⟨_,_,_,z⟩|⟨b,es,q,_⟩|⟨es,q,_⟩;.subst z;cases l
    .exact⟨_,_,q,rfl⟩
    .exact⟨_,_,q,rfl⟩
   cases a with
   |dat d=>cases s1;cases e2|tmp Wm=>cases Q with|dat d=>cases s2;cases f2|tmp Z=>exact A.dis j k Wm Z x h1 C u L|gW i=>obtain⟨y,_,r,_,_,_,c,_⟩:=m;cases r;obtain⟨G,o,f,p⟩:=U f2 s2;exact absurd ⟨i,⟨G,o,f,p⟩,E⟩ c
   |gW i=>obtain⟨G,o,f,p⟩:=U e2 s1;cases Q with|dat d=>cases s2;cases f2|tmp Z=>obtain⟨y,_,r,_,_,_,c,_⟩:=E;cases r;exact absurd ⟨i,⟨G,o,f,p⟩,m⟩ c|gW i'=>obtain⟨W,X,q5,q6⟩:=U f2 s2;have:=g.dis i i' x ⟨⟨G,o,f,p⟩,m⟩ ⟨⟨W,X,q5,q6⟩,E⟩;subst this;exact l4 j k i s t ds es h1 C e1 f1 e2 f2
theorem pN{as:List Arg}{ss:List Sl}:∀(ρ:List Sl)(n i:Nat),(gn as ss n ρ)[i]?=(ρ[i]?).map λs=>gF s (bD (n+i) as ss)
 |[],n,i=>by simp[rO,nG]|s::ρ,n,0=>by simp[rO,nG]|s::ρ,n,i+1=>by
   rw[nG];simp only[ki];rw[pN ρ (n+1) i];have:n+1+i=n+(i+1):=by lia
   rw[this]
theorem pF{as:List Arg}{ss:List Sl}:∀(ρ:List Sl)(n:Nat),(gn as ss n ρ).length=ρ.length|[],n=>rfl|s::ρ,n=>by rw[nG];simp[pF ρ]
theorem jR{i:Nat}:∀{as:List Arg}{ss:List Sl}{t:Sl},bD i as ss=aD t->∃j:Nat,as[j]?=aD (.gW i)/\ss[j]?=aD t
 |[],_,_,h=>by simp[bD]at h|a::as,[],_,h=>by cases a<;>simp[bD]at h|a::as,s::ss,t,h=>by
   have b:bD i as ss=aD t->∃j:Nat,(a::as)[j]?=aD (.gW i)/\(s::ss)[j]?=aD t:=λh=>by obtain⟨j,h1,c⟩:=jR h;exact⟨j+1,by simpa using h1,by simpa using c⟩
   cases a with|dat d=>exact b (by simpa[bD]using h)|tmp d=>exact b (by simpa[bD]using h)|gW k=>
     rw[bD]at h;split at h;.rename_i e;cases h;subst e;exact⟨0,rfl,rfl⟩
     .exact b h
theorem nu{i:Nat}:∀{as:List Arg}{ss:List Sl},as.length=ss.length->bD i as ss=b_->∀j:Nat,as[j]?≠aD (.gW i)
 |[],_,_,_=>λj h=>by simp at h|a::as,[],b,_=>by simp at b|a::as,s::ss,b,h=>λj c=>by
   have f:as.length=ss.length:=by simpa using b
   have g:bD i as ss=b_/\a≠.gW i:=by cases a with|dat d=>exact⟨by simpa[bD]using h,by simp⟩|tmp d=>exact⟨by simpa[bD]using h,by simp⟩|gW k=>
      rw[bD]at h;split at h;.cases h
      .rename_i l;exact⟨h,λe=>l (by cases e;rfl)⟩
   cases j with|zero=>simp at c;exact g.2 c|succ j=>exact nu f g.1 j (by simpa using c)
theorem J9{U Y H':Hp}{args c:List Sl}{Z:_L.St}(s0:bW K U ρ₀ σ H₀ F ρ σ H)(A:yU K F ρ σ H ρ₀ H₀ as vs)(hb:cO ρ as []=aD args)(s:bW K F args (vs.map aD) H Y c Z H'):bW K U ρ₀ σ H₀ Y (gn as c 0 ρ) σ H'/\∀v r,dH K Y c Z H' args (vs.map aD) H v r->dH K Y (gn as c 0 ρ) σ H' ρ₀ σ H₀ v r:=by
 have g:=s0.gs;obtain⟨N,l2,l3,l4⟩:=qT hb;have up:∀{j:Nat}{v:V},vs[j]?=aD v->(vs.map aD)[j]?=aD (aD v):=λe=>by rw[eI,e];rfl
 have dn:∀{j:Nat}{v:V},(vs.map aD)[j]?=aD (aD v)->vs[j]?=aD v:=λ{j v}e=>by rw[eI]at e;cases q:vs[j]?with|none=>rw[q]at e;cases e|some w=>rw[q]at e;cases e;rfl
 have la:as.length=c.length:=by rw[s.len,N]--whose are the lists that the callee holds
 have own:∀b,Own args (vs.map aD) b->(∃(j:Nat)(ds:List D),as[j]?=aD (Arg.tmp ds)/\vs[j]?=aD (V.ref b)/\¬ Own ρ σ b/\(Own ρ₀ σ b\/H₀ b=b_))\/Own ρ σ b:=λb⟨j,⟨sl,ds,G,W⟩,e3⟩=>by obtain⟨a,v,h1,E,L⟩:=A.get N G;have s1:=l2 j a _ h1 G;have e3:=dn e3;rw[E]at e3;cases e3;cases a with|dat d=>cases s1;cases W|tmp es=>obtain⟨x,_,p,_,_,_,f,O⟩:=L;cases p;exact .inl ⟨j,es,h1,E,f,O⟩|gW i=>
    right;rcases s1 with⟨_,_,_,z⟩|⟨b',es,q,_⟩|⟨es,q,_⟩;.subst z;cases W
    .exact⟨i,⟨_,_,q,rfl⟩,L⟩
    .exact⟨i,⟨_,_,q,rfl⟩,L⟩
 have back:∀b,Own ρ σ b\/H b=b_->Own ρ₀ σ b\/H₀ b=b_:=λb h=>by
  rcases h with h|h;.exact s0.xF b h
  . by_cases ho:Own ρ₀ σ b;.exact .inl ho
    .right;cases e:H₀ b with|none=>rfl|some o=>rw[s0.keep b o e ho]at h;cases h
 have M:∀b,Own args (vs.map aD) b->Own ρ₀ σ b\/H₀ b=b_:=λb h=>by
  rcases own b h with⟨_,_,_,_,_,z⟩|z;.exact z
  .exact back b (.inl z)--a name's slot behind the call
 have slot:∀{i:Nat}{t:Sl},(gn as c 0 ρ)[i]?=aD t->∃s1,ρ[i]?=aD s1/\t=gF s1 (bD i as c):=λ{i t}h=>by rw[pN]at h;obtain⟨s1,G,W⟩:=map_some h;exact⟨s1,G,by rw[<-W,qq]⟩
 have ac:∀{i:Nat}{s1:Sl},ρ[i]?=aD s1->(gn as c 0 ρ)[i]?=aD (gF s1 (bD i as c)):=λ{i s1}h=>by rw[pN,h,qq];rfl--what the callee left of a list that was lent to it
 have lent:∀{i j:Nat}{s1 t:Sl}{ds:List D},ρ[i]?=aD s1->lst? s1=aD (.l ds)->as[j]?=aD (.gW i)->c[j]?=aD t->∃v s2,σ[i]?=aD (aD v)/\Z[j]?=aD (aD v)/\args[j]?=aD s2/\oA s2 t/\((∃b,s1=.own b ds/\s2=.own ck ds)\/(s1=.lent ds/\s2=.lent ds)):=λ{i j s1 t ds}h1 E L h4=>by
  have hj:j<args.length:=by rw[N];exact(gC L).1
  have G:args[j]?=aD args[j]:=by simp[hj]
  obtain⟨a,v,p,f,O⟩:=A.get N G;rw[L]at p;cases p;have q4:=l2 j _ _ L G;have kind:(∃b,s1=.own b ds/\args[j]=.own ck ds)\/(s1=.lent ds/\args[j]=.lent ds):=by
   rcases q4 with⟨_,_,z,_⟩|⟨b,es,z,z'⟩|⟨es,z,z'⟩;.rw[h1]at z;cases z;cases E
   .rw[h1]at z;cases z;cases E;exact .inl ⟨b,rfl,z'⟩
   .rw[h1]at z;cases z;cases E;exact .inr ⟨rfl,z'⟩
  have lk:xu args[j]=ck:=by rcases kind with⟨_,_,z⟩|⟨_,z⟩<;>rw[z]<;>rfl
  obtain⟨y,s',B,z3⟩:=s.lk j _ G lk;rw[h4]at B;cases B;exact⟨v,_,O,by rw[y];exact up f,G,z3,kind⟩
 have QM:∀{i:Nat}{x:dQ},bM (gn as c 0 ρ) σ i x->bM ρ σ i x:=λ{i x}⟨⟨t,ds,G,W⟩,e3⟩=>by obtain⟨s1,p,f⟩:=slot G;refine⟨?_,e3⟩;cases s1 with|aN=>subst f;cases W|val b d=>subst f;cases W|own b es=>exact⟨_,_,p,rfl⟩|lent es=>exact⟨_,_,p,rfl⟩|eG m=>exact⟨_,_,p,rfl⟩|vp m=>exact⟨_,_,p,rfl⟩|hold _=>subst f;cases W
 refine⟨?_,λv r h=>?_⟩;rotate_left;.cases r with|val d=>exact h|own ds=>
     obtain⟨x,xs,h1,E,L,h4,h5,h6⟩:=h;refine⟨x,xs,h1,E,L,h4,λ⟨i,h⟩=>?_,?_⟩
     . have hO:=QM h;obtain⟨⟨s1,Wm,p,f⟩,O⟩:=hO;obtain⟨x',ah,w1,w2,_⟩:=g.own i s1 Wm p f;rw[O]at w1;cases w1;rcases h6 with h6|h6
       . rcases own x h6 with⟨_,_,_,_,z,_⟩|_;.exact z ⟨i,⟨s1,Wm,p,f⟩,O⟩
         .--a name was lent
           obtain⟨j,⟨sl,es,w3,w4⟩,w5⟩:=h6;obtain⟨a',v',I,Q,y3⟩:=A.get N w3;have sa:=l2 j a' _ I w3;have w5:=dn w5;rw[Q]at w5;cases w5;cases a' with|dat d=>cases sa;cases w4|tmp ai=>obtain⟨_,_,u1,_,_,_,u2,_⟩:=y3;cases u1;exact u2 ⟨i,⟨s1,Wm,p,f⟩,O⟩|gW i'=>
             have ex:∃s' ab,ρ[i']?=aD s'/\lst? s'=aD ab:=by
              rcases sa with⟨_,_,_,z⟩|⟨b,es,q,_⟩|⟨es,q,_⟩;.subst z;cases w4
              .exact⟨_,_,q,rfl⟩
              .exact⟨_,_,q,rfl⟩
             have:=g.dis i i' x ⟨⟨s1,Wm,p,f⟩,O⟩ ⟨ex,y3⟩;subst this;have hk:∃QL,Wm=.l QL:=by
              rcases sa with⟨_,_,_,z⟩|⟨b,es,q,_⟩|⟨es,q,_⟩;.subst z;cases w4
              .rw[p]at q;cases q;cases f;exact⟨_,rfl⟩
              .rw[p]at q;cases q;cases f;exact⟨_,rfl⟩
             obtain⟨QL,rfl⟩:=hk;have hj:j<c.length:=by rw[<-la];exact(gC I).1
             have C:c[j]?=aD c[j]:=by simp[hj]
             obtain⟨v2,s2,u1,u2,u3,u4,u5⟩:=lent p f I C;rw[O]at u1;cases u1--the slot behind the call is a list's
             obtain⟨⟨t,dt,t1,t2⟩,_⟩:=h;obtain⟨s3,t3,t4⟩:=slot t1;rw[p]at t3;cases t3;have lo:∃t5,bD i as c=aD t5:=by cases J:bD i as c with|none=>exact absurd I (nu la J j)|some t5=>exact⟨t5,rfl⟩
             obtain⟨t5,J⟩:=lo;obtain⟨j2,t6,t7⟩:=jR J;have am:j2<args.length:=by rw[N];exact(gC t6).1
             obtain⟨_,s6,_,ap,ae,ar,af⟩:=lent p f t6 t7;have ag:j2=j:=by
              have a1:lst? s6=aD (.l QL):=by rcases af with⟨_,_,z⟩|⟨_,z⟩<;>rw[z]<;>rfl
              have a2:lst? s2=aD (.l QL):=by rcases u5 with⟨_,_,z⟩|⟨_,z⟩<;>rw[z]<;>rfl
              exact l4 j2 j i s6 s2 _ _ t6 I ae u3 a1 a2
             subst ag;rw[C]at t7;cases t7;rw[J]at t4;refine h5 ⟨j2,?_,u2⟩;rcases u5 with⟨b,y,B⟩|⟨y,B⟩
             . subst y;subst B;rcases u4 with⟨d2,z⟩|⟨d2,z⟩;.exact⟨_,.l d2,C,by rw[z];rfl⟩
               .rw[z]at t4;subst t4;cases t2
             .subst y;subst B;exact⟨_,.l QL,C,by rw[show c[j2]=.lent QL from u4];rfl⟩
       .rw[w2]at h6;cases h6
     . rcases h6 with h6|h6;.exact M x h6
       .exact back x (.inr h6)
 refine⟨⟨s.gs.sub,by rw[pF];exact g.len,λi b d e=>?_,λi t ds e C=>?_,λi j x h1 E=>g.dis i j x (QM h1) (QM E)⟩,s0.cI.trans s.cI,λb n n'=>?_,λb o h n=>?_,λb⟨i,h⟩=>back b (.inl ⟨i,QM h⟩),by rw[pF];exact s0.len,λi s1 h l=>?_⟩;.--data
   obtain⟨s1,p,f⟩:=slot e;cases s1 with|aN=>cases f|lent es=>cases f|eG _=>cases f|vp _=>cases f|hold _=>cases f|val b' d'=>cases f;obtain⟨v,y,B⟩:=g.val i b d p;exact⟨v,y,B.mono s.cI⟩|own b' es=>cases J:bD i as c with|none=>rw[J]at f;cases f|some t=>rw[J]at f;obtain⟨j,y,B⟩:=jR J;obtain⟨v,s2,I,Q,y3,y4,u⟩:=lent p rfl y B;cases t with|aN=>cases f|own _ _=>cases f|lent _=>cases f|eG _=>cases f|vp _=>cases f|hold _=>cases f|val b2 d2=>cases f;obtain⟨w,X,x2⟩:=s.gs.val j b2 d B;rw[Q]at X;cases X;exact⟨v,I,x2⟩
 .--lists
   obtain⟨s1,p,f⟩:=slot e--a list that was not lent
   have stay:∀es,lst? s1=aD es->(∀j:Nat,as[j]?≠aD (.gW i))->t=s1->∃(a:dQ)(xs:HO),σ[i]?=aD (aD (V.ref a))/\H' a=aD xs/\Y a=b_/\uT K Y xs ds:=λes he hn ht=>by
    subst ht;rw[he]at C;cases C;obtain⟨a,xs,y,B,z3,z4⟩:=g.own i _ ds p he;have no:¬ Own args (vs.map aD) a:=λh=>by obtain⟨j,⟨sl,es,w1,w2⟩,w3⟩:=h;obtain⟨a',v,h1,E,L⟩:=A.get N w1;have sa:=l2 j a' _ h1 w1;have w3:=dn w3;rw[E]at w3;cases w3;cases a' with|dat d=>cases sa;cases w2|tmp es=>obtain⟨x,_,I,_,_,_,Q,_⟩:=L;cases I;exact Q ⟨i,⟨_,ds,p,he⟩,y⟩|gW i'=>
       have:∃s' ab,ρ[i']?=aD s'/\lst? s'=aD ab:=by
        rcases sa with⟨_,_,_,z⟩|⟨b,es,q,_⟩|⟨es,q,_⟩;.subst z;cases w2
        .exact⟨_,_,q,rfl⟩
        .exact⟨_,_,q,rfl⟩
       have:=g.dis i i' a ⟨⟨_,ds,p,he⟩,y⟩ ⟨this,L⟩;subst this;exact hn j h1
    refine⟨a,xs,y,s.keep a _ B no,?_,z4.mono s.cI⟩;cases q:Y a with|none=>rfl|some o=>
      rcases s.zK a z3 (by rw[q];simp)with z|z;.exact absurd z no
      .rw[B]at z;exact(Ij z4 z).elim
   cases J:bD i as c with
   |none=>have hn:=nu la J;rw[J]at f;cases s1 with|aN=>subst f;cases C|val b' d'=>subst f;cases C|own b' es=>exact stay _ rfl hn f|lent es=>exact stay _ rfl hn f|eG m=>exact stay _ rfl hn f|vp m=>exact stay _ rfl hn f|hold _=>subst f;cases C
   |some t2=>rw[J]at f;obtain⟨j,y,B⟩:=jR J;cases s1 with
     |aN=>subst f;cases C|val b' d'=>subst f;cases C|hold _=>subst f;cases C|eG m=>
       have hj:j<args.length:=by rw[N];exact(gC y).1
       rcases l2 j _ _ y (show args[j]?=aD args[j]by simp[hj])with⟨_,_,z,_⟩|⟨_,_,z,_⟩|⟨_,z,_⟩<;>(rw[p]at z;cases z)|vp m=>
       have hj:j<args.length:=by rw[N];exact(gC y).1
       rcases l2 j _ _ y (show args[j]?=aD args[j]by simp[hj])with⟨_,_,z,_⟩|⟨_,_,z,_⟩|⟨_,z,_⟩<;>(rw[p]at z;cases z)|own b' es=>
       obtain⟨v,s2,I,Q,y3,y4,u⟩:=lent p rfl y B;have:t2≠.aN/\∀x,t2≠.lent x:=by
        rcases u with⟨_,_,u⟩|⟨u,_⟩;.subst u;rcases y4 with⟨_,rfl⟩|⟨_,rfl⟩<;>simp
        .cases u
       cases t2 with
       |aN=>exact absurd rfl this.1|hold x=>
         rcases u with⟨_,_,u⟩|⟨u,_⟩;.subst u;rcases y4 with⟨_,h⟩|⟨_,h⟩<;>cases h
         .cases u|eG x=>
         rcases u with⟨_,_,u⟩|⟨u,_⟩;.subst u;rcases y4 with⟨_,h⟩|⟨_,h⟩<;>cases h
         .cases u|vp x=>
         rcases u with⟨_,_,u⟩|⟨u,_⟩;.subst u;rcases y4 with⟨_,h⟩|⟨_,h⟩<;>cases h
         .cases u|lent x=>exact absurd rfl (this.2 x)|val b2 d2=>subst f;cases C|own b2 av=>subst f;cases C;obtain⟨a,xs,X,x2⟩:=s.gs.own j _ _ B rfl;rw[Q]at X;cases X;exact⟨a,xs,I,x2⟩
     |lent es=>
       obtain⟨v,s2,I,Q,y3,y4,u⟩:=lent p rfl y B;have ht:t=.lent es:=by rw[f];cases t2<;>rfl
       subst ht;cases C;rcases u with⟨_,u,_⟩|⟨_,u⟩;.cases u
       .subst u;cases(show t2=.lent es from y4);obtain⟨a,xs,X,x2⟩:=s.gs.own j _ _ B rfl;rw[Q]at X;cases X;exact⟨a,xs,I,x2⟩
 . by_cases q:F b=b_
   . rcases s.zK b q n' with z|z;.exact(M b z).imp id mj
     . by_cases ho:Own ρ₀ σ b;.exact .inl ho
       .right;cases f:H₀ b with|none=>rfl|some o=>rw[s0.keep b o f ho]at z;exact z
   .exact s0.zK b n q
 . refine s.keep b o (s0.keep b o h n) λz=>?_;rcases M b z with z|z;.exact n z
   .rw[h]at z;cases z
 .obtain⟨G,s2,E,k2⟩:=s0.lk i s1 h l;refine⟨G,_,ac E,?_⟩;have Yi:=k2.xu l;refine oA.trans l k2 ?_;cases s2 with
   |aN=>cases Yi|eG _=>cases Yi|vp _=>cases Yi|hold _=>exact oA.refl _|val b d=>exact oA.refl _|lent es=>cases bD i as c with|none=>rfl|some t=>cases t<;>rfl
   |own b es=>cases b with|false=>cases Yi|true=>cases bD i as c with|none=>exact .inl ⟨_,rfl⟩|some t=>cases t with|aN=>exact .inl ⟨_,rfl⟩|lent _=>exact .inl ⟨_,rfl⟩|eG _=>exact .inl ⟨_,rfl⟩|vp _=>exact .inl ⟨_,rfl⟩|hold _=>exact .inl ⟨_,rfl⟩|own _ ds=>exact .inl ⟨_,rfl⟩|val _ d=>exact .inr ⟨_,rfl⟩
theorem yU.rebase{F1 g l m:Hp}{c f:List Sl}(a:bW K F ρ σ H F1 c σ g)(A:yU K l f σ m c g as vs):yU K l f σ m ρ H as vs:=by refine⟨A.len,λj b v h1 p=>?_,A.dis⟩;have h:=A.one j b v h1 p;cases b with|dat d=>exact h|gW i=>exact h|tmp ds=>
   obtain⟨x,xs,q,r,s,t,u,q6⟩:=h;refine⟨x,xs,q,r,s,t,u,?_⟩;rcases q6 with q6|q6;.exact a.xF x q6
   . by_cases ho:Own ρ σ x;.exact .inl ho
     .right;cases e:H x with|none=>rfl|some o=>rw[a.keep x o e ho]at q6;cases q6
theorem yU.aas{F1 c e f:Hp}{a b:List Sl}{r:R}(s1:bW K F ρ σ H F1 a σ c)(g:dH K F1 a σ c ρ σ H v r)(s2:bW K F1 a σ c e b σ f)(A:yU K e b σ f a c as vs):yU K e b σ f ρ H (uW r::as) (v::vs):=by
 have h1:Ak K F1 a σ c ρ H v (uW r):=by cases r with|val d=>exact g|own ds=>exact g
 refine .cons (h1.later s2) (A.rebase s1) λds x m ev k es o j=>?_;cases r with|val d=>cases m|own p=>
   obtain⟨y,xs,l,q,t,u,s,w⟩:=g;rw[ev]at l;cases l;have h:=A.one k _ _ o j;obtain⟨z,B,w1,_,_,_,_,w6⟩:=h;cases w1;rcases w6 with w6|w6;.exact s w6
   .rw[q]at w6;cases w6
end
section
variable{K:PySem.W.Frag}{F F1 H H1:Hp}{ρ ρ1 ρ2:List Sl}{σ σ1:_L.St}
theorem jf{s:Sl}(h:put ρ i s=aD ρ1):∃s0,ρ[i]?=aD s0/\xu s0=a_/\ρ1=ρ.set i s:=by
 unfold put at h;split at h;.rename_i q;cases h;exact⟨_,q,rfl,rfl⟩
 .rename_i q;cases h;exact⟨_,q,rfl,rfl⟩
 .rename_i q;cases h;exact⟨_,q,rfl,rfl⟩
 .cases h
theorem bW.put{r:R}(s:bW K F ρ σ H F1 ρ1 σ1 H1)(y:dH K F1 ρ1 σ1 H1 ρ σ H v r)(h:_H.put ρ1 i (BK r)=aD ρ2):bW K F ρ σ H F1 ρ2 (σ1.set i (aD v)) H1:=by
 obtain⟨s0,h0,B,rfl⟩:=jf h;have hi:i<ρ1.length:=(gC h0).1;have m:i<σ1.length:=by rw[<-s.gs.len];exact hi
 have f:∀{j:Nat}{a:dQ},j≠i->bM (ρ1.set i (BK r)) (σ1.set i (aD v)) j a->bM ρ1 σ1 j a:=λ{j a}c⟨⟨t,ds,o,p⟩,g⟩=>by rw[jj c]at o g;exact⟨⟨t,ds,o,p⟩,g⟩
 have q:∀{a:dQ},bM (ρ1.set i (BK r)) (σ1.set i (aD v)) i a->¬ Own ρ1 σ1 a/\(Own ρ σ a\/H a=b_):=λ{a}⟨⟨t,ds,o,p⟩,g⟩=>by rw[dS hi]at o;rw[dS m]at g;cases o;cases g;cases r with|val d=>cases p|own es=>obtain⟨x,xs,I,C,E,G,J,L⟩:=y;cases I;exact⟨J,L⟩
 refine⟨⟨s.gs.sub,by simp[s.gs.len],λj b d e=>?_,λj t ds e z=>?_,λj k a h1 A=>?_⟩,s.cI,s.zK,s.keep,λa⟨j,c⟩=>?_,by simp[s.len],λj t e l=>?_⟩
 . by_cases c:j=i;.subst c;rw[dS hi]at e;cases r with|own es=>cases e|val d'=>cases e;exact⟨v,dS m,y⟩
   .rw[jj c]at e ⊢;exact s.gs.val j b d e
 . by_cases c:j=i;.subst c;rw[dS hi]at e;cases r with|val d'=>cases e;cases z|own es=>cases e;cases z;obtain⟨x,xs,rfl,C,E,G,_⟩:=y;exact⟨x,_,dS m,C,E,xs,rfl,G⟩
   .rw[jj c]at e ⊢;exact s.gs.own j t ds e z
 . by_cases c:j=i
   . by_cases u:k=i;.rw[c,u]
     .subst c;exact absurd ⟨k,f u A⟩ (q h1).1
   . by_cases u:k=i;.subst u;exact absurd ⟨j,f c h1⟩ (q A).1
     .exact s.gs.dis j k a (f c h1) (f u A)
 . by_cases w:j=i;.subst w;exact(q c).2
   .exact s.xF a ⟨j,f w c⟩
 . obtain⟨o,t1,p,g⟩:=s.lk j t e l;have c:j≠i:=by rintro rfl;rw[h0]at p;cases p;rw[g.xu l]at B;cases B
   exact⟨by rw[jj c];exact o,t1,by rw[jj c];exact p,g⟩
theorem GS.mut{x:Nat}{b:Bool}{es:List D}{a:dQ}{ys:List V}(g:GS K F ρ σ H)(e:ρ[x]?=aD (.own b ds))(s:σ[x]?=aD (aD (.ref a)))(r:aH K F ys es):bW K F ρ σ H F (ρ.set x (.own b es)) σ (upd H a (.lst ys)):=by
 have hi:x<ρ.length:=(gC e).1;have y:bM ρ σ x a:=⟨⟨_,_,e,rfl⟩,s⟩;obtain⟨J,xs,h1,L,z,M⟩:=g.wC x _ ds e rfl;rw[s]at h1;cases h1;have h:∀{j:Nat}{c:dQ},bM (ρ.set x (.own b es)) σ j c->bM ρ σ j c:=λ{j c}⟨⟨t,m,p,u⟩,q3⟩=>by
  by_cases f:j=x;.subst f;exact⟨⟨_,_,e,rfl⟩,q3⟩
  .rw[jj f]at p;exact⟨⟨t,m,p,u⟩,q3⟩
 refine⟨⟨λc o q=>?_,by simp[g.len],λj A d q=>?_,λj t m q w=>?_,λj k c p u=>g.dis j k c (h p) (h u)⟩,.refl _,λc n B=>absurd n B,λc o q n=>?_,λc⟨j,q⟩=>.inl ⟨j,h q⟩,by simp,λj t q l=>⟨rfl,?_⟩⟩
 . have:c≠a:=by rintro rfl;rw[z]at q;cases q
   rw[aG this];exact g.sub c o q
 . by_cases f:j=x;.subst f;rw[dS hi]at q;cases q
   .rw[jj f]at q;exact g.val j A d q
 . by_cases f:j=x;.subst f;rw[dS hi]at q;cases q;cases w;exact⟨a,_,s,bf,z,ys,rfl,r⟩
   . rw[jj f]at q;obtain⟨c,C,w1,E,G,I⟩:=g.own j t m q w;have:c≠a:=by rintro rfl;exact f (g.dis j x c ⟨⟨t,m,q,w⟩,w1⟩ y)
     exact⟨c,C,w1,by rw[aG this];exact E,G,I⟩
 . have:c≠a:=by rintro rfl;exact n ⟨x,y⟩
   rw[aG this];exact q
 . by_cases f:j=x;.subst f;rw[e]at q;cases q;refine⟨_,dS hi,?_⟩;cases b with|true=>exact .inl ⟨_,rfl⟩|false=>cases l
   .exact⟨t,by rw[jj f];exact q,.refl t⟩
theorem GS.lend{b:Bool}(g:GS K F ρ σ H)(e:ρ[i]?=aD (.own b ds)):GS K F (ρ.set i (.lent ds)) σ H:=by
 have hi:i<ρ.length:=(gC e).1;have f:∀{j:Nat}{c:dQ},bM (ρ.set i (.lent ds)) σ j c->bM ρ σ j c:=λ{j c}⟨⟨t,l,h,m⟩,q3⟩=>by
  by_cases a:j=i;.subst a;exact⟨⟨_,_,e,rfl⟩,q3⟩
  .rw[jj a]at h;exact⟨⟨t,l,h,m⟩,q3⟩
 refine⟨g.sub,by simp[g.len],λj p d q=>?_,λj t l q o=>?_,λj k c h m=>g.dis j k c (f h) (f m)⟩
 . by_cases a:j=i;.subst a;rw[dS hi]at q;cases q
   .rw[jj a]at q;exact g.val j p d q
 . by_cases a:j=i;.subst a;rw[dS hi]at q;cases q;cases o;exact g.own j _ _ e rfl
   .rw[jj a]at q;exact g.own j t l q o
theorem bW.bG{b:Bool}(g:GS K F ρ σ H)(e:ρ[i]?=aD (.own b ds))(s:bW K F (ρ.set i (.lent ds)) σ H F1 ρ1 σ1 H1):bW K F ρ σ H F1 (ρ1.set i (.own b ds)) σ1 H1/\∀v r,dH K F1 ρ1 σ1 H1 (ρ.set i (.lent ds)) σ H v r->dH K F1 (ρ1.set i (.own b ds)) σ1 H1 ρ σ H v r:=by
 have hi:i<ρ.length:=(gC e).1;have h1:(ρ.set i (.lent ds))[i]?=aD (.lent ds):=dS hi;obtain⟨C,E,A,G⟩:=s.lk i _ h1 rfl;cases(show E=.lent ds from G);have u:i<ρ1.length:=(gC A).1;have o1:∀{j:Nat}{c:dQ},bM (ρ.set i (.lent ds)) σ j c->bM ρ σ j c:=λ{j c}⟨⟨t,y,f,p⟩,m⟩=>by
  by_cases a:j=i;.subst a;exact⟨⟨_,_,e,rfl⟩,m⟩
  .rw[jj a]at f;exact⟨⟨t,y,f,p⟩,m⟩
 have I:∀{c:dQ},Own ρ σ c->Own (ρ.set i (.lent ds)) σ c:=λ{c}⟨j,⟨t,y,f,p⟩,m⟩=>by
  by_cases a:j=i;.subst a;exact⟨j,⟨_,_,h1,rfl⟩,m⟩
  .exact⟨j,⟨t,y,by rw[jj a];exact f,p⟩,m⟩
 have z:∀{j:Nat}{c:dQ},bM (ρ1.set i (.own b ds)) σ1 j c->bM ρ1 σ1 j c:=λ{j c}⟨⟨t,y,f,p⟩,m⟩=>by
  by_cases a:j=i;.subst a;exact⟨⟨_,_,A,rfl⟩,m⟩
  .rw[jj a]at f;exact⟨⟨t,y,f,p⟩,m⟩
 have w:∀{c:dQ}{h:Hp},Own (ρ.set i (.lent ds)) σ c\/h c=b_->Own ρ σ c\/h c=b_:=λ{c h}q=>q.imp (λ⟨j,q⟩=>⟨j,o1 q⟩) id;have J:∀{c:dQ}{h:Hp},Own (ρ.set i (.lent ds)) σ c\/nt (h c)=b_->Own ρ σ c\/nt (h c)=b_:=λ{c h}q=>q.imp (λ⟨j,q⟩=>⟨j,o1 q⟩) id;refine⟨⟨⟨s.gs.sub,by simp[s.gs.len],λj L d q=>?_,λj t y q B=>?_,λj k c f p=>s.gs.dis j k c (z f) (z p)⟩,s.cI,λc n M=>J (s.zK c n M),λc o q n=>s.keep c o q λ⟨j,x⟩=>n ⟨j,o1 x⟩,λc⟨j,q⟩=>w (s.xF c ⟨j,z q⟩),by simpa using s.len,λj t q l=>?_⟩,λv r h=>?_⟩
 . by_cases a:j=i;.subst a;rw[dS u]at q;cases q
   .rw[jj a]at q;exact s.gs.val j L d q
 . by_cases a:j=i;.subst a;rw[dS u]at q;cases q;cases B;exact s.gs.own j _ _ A rfl
   .rw[jj a]at q;exact s.gs.own j t y q B
 . by_cases a:j=i;.subst a;rw[e]at q;cases q;refine⟨C,_,dS u,?_⟩;cases b with|true=>exact .inl ⟨_,rfl⟩|false=>cases l
   .obtain⟨N,t',O,Q⟩:=s.lk j t (by rw[jj a];exact q) l;exact⟨N,t',by rw[jj a];exact O,Q⟩
 .cases r with|val d=>exact h|own es=>obtain⟨x,xs,f,p,m,U,W,X⟩:=h;exact⟨x,xs,f,p,m,U,λ⟨j,q⟩=>W ⟨j,z q⟩,w X⟩
theorem GS.give(g:GS K F ρ σ H)(e:ρ[i]?=aD (.own a_ ds)):∃v,σ[i]?=aD (aD v)/\bW K F ρ σ H F (ρ.set i .aN) σ H/\dH K F (ρ.set i .aN) σ H ρ σ H v (.own ds):=by
 have hi:i<ρ.length:=(gC e).1;obtain⟨a,xs,h1,s,u,w⟩:=g.wC i _ ds e rfl;have f:∀{j:Nat}{c:dQ},bM (ρ.set i .aN) σ j c->bM ρ σ j c/\j≠i:=λ{j c}⟨⟨t,o,h,m⟩,q3⟩=>by
  by_cases b:j=i;.subst b;rw[dS hi]at h;cases h;cases m
  .rw[jj b]at h;exact⟨⟨⟨t,o,h,m⟩,q3⟩,b⟩
 have p:bM ρ σ i a:=⟨⟨_,_,e,rfl⟩,h1⟩;refine⟨.ref a,h1,⟨⟨g.sub,by simp[g.len],λj y d q=>?_,λj t o q r=>?_,λj k c h m=>g.dis j k c (f h).1 (f m).1⟩,.refl _,λc n z=>absurd n z,λ_ _ q _=>q,λc⟨j,q⟩=>.inl ⟨j,(f q).1⟩,by simp,λj t q l=>⟨rfl,?_⟩⟩,a,xs,rfl,s,u,w,λ⟨j,q⟩=>?_,.inl ⟨i,p⟩⟩
 . by_cases b:j=i;.subst b;rw[dS hi]at q;cases q
   .rw[jj b]at q;exact g.val j y d q
 . by_cases b:j=i;.subst b;rw[dS hi]at q;cases q;cases r
   .rw[jj b]at q;exact g.own j t o q r
 . by_cases b:j=i;.subst b;rw[e]at q;cases q;cases l
   .exact⟨t,by rw[jj b];exact q,.refl t⟩
 .exact(f q).2 (g.dis j i a (f q).1 p)
theorem GS.more{τ:List (Option V)}(g:GS K F ρ σ H)(u:τ.length=n):GS K F (ρ++dV n .aN) (σ++τ) H:=by
 have get:∀{j:Nat}{t:Sl},(ρ++dV n Sl.aN)[j]?=aD t->t≠.aN->ρ[j]?=aD t/\j<ρ.length:=λ{j t}q ne=>by
  by_cases h:j<ρ.length;.rw[ei h]at q;exact⟨q,h⟩
  . rw[eW (by lia),im]at q;split at q;.cases q;exact absurd rfl ne
    .cases q
 have up:∀{j:Nat}{v:Option V},j<ρ.length->(σ[j]?=aD v↔(σ++τ)[j]?=aD v):=λ{j v}h=>by rw[ei (by rw[<-g.len];exact h)]
 have e:∀{j:Nat}{c:dQ},bM (ρ++dV n .aN) (σ++τ) j c->bM ρ σ j c:=λ{j c}⟨⟨t,m,o,l⟩,q3⟩=>by obtain⟨h1,f⟩:=get o (by rintro rfl;cases l);exact⟨⟨t,m,h1,l⟩,(up f).mpr q3⟩
 refine⟨g.sub,by simp[g.len,u],λj b d q=>?_,λj t m q s=>?_,λj k c o l=>g.dis j k c (e o) (e l)⟩;.obtain⟨h1,f⟩:=get q (by simp);obtain⟨v,p,r⟩:=g.val j b d h1;exact⟨v,(up f).mp p,r⟩
 .obtain⟨h1,f⟩:=get q (by rintro rfl;cases s);obtain⟨a,xs,p,r⟩:=g.own j t m h1 s;exact⟨a,xs,(up f).mp p,r⟩
theorem bW.less{τ:List (Option V)}{m:Nat}(L:m=ρ.length)(g:GS K F ρ σ H)(hn:τ.length=n)(s:bW K F (ρ++dV n .aN) (σ++τ) H F1 ρ1 σ1 H1):bW K F ρ σ H F1 (ρ1.take m) (σ1.take m) H1/\∀v r,dH K F1 ρ1 σ1 H1 (ρ++dV n .aN) (σ++τ) H v r->dH K F1 (ρ1.take m) (σ1.take m) H1 ρ σ H v r:=by
 subst L;have M:ρ.length<=ρ1.length:=by rw[s.len];simp
 have l2:ρ.length<=σ1.length:=by rw[<-s.gs.len];exact M
 have A:∀{y:Type}{l:List y}{j:Nat}{x:y},(l.take ρ.length)[j]?=aD x->l[j]?=aD x/\j<ρ.length:=λ{y l j x}q=>by
  rw[mr]at q;split at q;.exact⟨q,by assumption⟩
  .cases q
 have B:∀{y:Type}{l:List y}{j:Nat}{x:y},j<ρ.length->l[j]?=aD x->(l.take ρ.length)[j]?=aD x:=λ{y l j x}f q=>by rw[mr,if_pos f];exact q
 have C:∀{c:dQ},Own (ρ++dV n .aN) (σ++τ) c->Own ρ σ c:=λ{c}⟨j,⟨t,z,e,p⟩,u⟩=>by
  by_cases f:j<ρ.length;.rw[ei f]at e;rw[ei (by rw[<-g.len];exact f)]at u;exact⟨j,⟨t,z,e,p⟩,u⟩
  . rw[eW (by lia),im]at e;split at e;.cases e;cases p
    .cases e
 have N:∀{c:dQ},Own ρ σ c->Own (ρ++dV n .aN) (σ++τ) c:=λ{c}⟨j,⟨t,z,e,p⟩,u⟩=>by have f:j<ρ.length:=(gC e).1;exact⟨j,⟨t,z,by rw[ei f];exact e,p⟩,by rw[ei (by rw[<-g.len];exact f)];exact u⟩
 have o1:∀{j:Nat}{c:dQ},bM (ρ1.take ρ.length) (σ1.take ρ.length) j c->bM ρ1 σ1 j c:=λ{j c}⟨⟨t,z,e,p⟩,u⟩=>⟨⟨t,z,(A e).1,p⟩,(A u).1⟩;have w:∀{c:dQ}{h:Hp},Own (ρ++dV n .aN) (σ++τ) c\/h c=b_->Own ρ σ c\/h c=b_:=λ{c h}q=>q.imp C id;have O:∀{c:dQ}{h:Hp},Own (ρ++dV n .aN) (σ++τ) c\/nt (h c)=b_->Own ρ σ c\/nt (h c)=b_:=λ{c h}q=>q.imp C id;refine⟨⟨⟨s.gs.sub,by simp only[mA];lia,λj b d q=>?_,λj t z q Q=>?_,λj k c e p=>s.gs.dis j k c (o1 e) (o1 p)⟩,s.cI,λc a b=>O (s.zK c a b),λc o q n=>s.keep c o q λx=>n (C x),λc⟨j,q⟩=>w (s.xF c ⟨j,o1 q⟩),by simp only[mA];lia,λj t q l=>?_⟩,λv r h=>?_⟩;.obtain⟨h1,E⟩:=A q;obtain⟨v,G,I⟩:=s.gs.val j b d h1;exact⟨v,B E G,I⟩
 .obtain⟨h1,E⟩:=A q;obtain⟨a,xs,G,I⟩:=s.gs.own j t z h1 Q;exact⟨a,xs,B E G,I⟩
 .have f:j<ρ.length:=(gC q).1;obtain⟨J,t',U,W⟩:=s.lk j t (by rw[ei f];exact q) l;rw[ei (by rw[<-g.len];exact f)]at J;refine⟨?_,t',B f U,W⟩;rw[mr,if_pos f];exact J
 .cases r with|val d=>exact h|own es=>obtain⟨x,xs,e,p,u,X,Y,Z⟩:=h;exact⟨x,xs,e,p,u,X,λ⟨j,q⟩=>Y ⟨j,o1 q⟩,w Z⟩
end
section
variable{X:Cx}{c:Call}{n:Nat}{e a b d:eB}{p pa pb pd:P}{pos:Pos}{es:List eB}{ps:List P}
inductive afo(K:PySem.W.Frag)(f:List Sl->Res (List Arg))(σ:_L.St)(H:Hp)(Q:List V->Hp->Prop):Prop where|mk(F:Hp)(ρ:List Sl)(as:List Arg)(ρ':List Sl)(g:GS K F ρ σ H)(e:f ρ=.ok as ρ')(k:∀vs F' H',bW K F ρ σ H F' ρ' σ H'->yU K F' ρ' σ H' ρ H as vs->Q vs H')
noncomputable def SG(X:Cx)(c:Call)(es:List eB)(ps:List P):Prop:=PA X es (afo X.K (BV c ps))
theorem aB:SG X c [] []:=xT jr λσ H Q⟨F,ρ,as,ρ',g,e,k⟩=>by rw[Kf]at e;cases e;exact k [] F H (.refl g) .nil
theorem Og(q:SX X c a pa)(hr:SG X c es ps)(hs:ea (a::es) X.env=(a_,fF a X.env)::ea es X.env:=by rfl):SG X c (a::es) (pa::ps):=by cases hv:isVar pa with|none=>refine xT (eN q.ev hr hs) ?_;rintro σ H Q⟨F,ρ,as,ρ',g,e,k⟩;rw[Ce,hv]at e;obtain⟨r,f,s,e⟩:=aj e;obtain⟨xs,h,j,e⟩:=aj e;cases e;refine⟨F,ρ,r,f,g,s,λv F1 B s1 t=>⟨F1,f,xs,_,s1.gs,j,λvs l m s2 A=>k _ l m (s1.trans s2) (yU.aas s1 t s2 A)⟩⟩|some i=>refine xT (eN (q.var i hv) hr hs) ?_;rintro σ H Q⟨F,ρ,as,ρ',g,e,k⟩;rw[Ce,hv]at e;obtain⟨x0,u,w,e⟩:=aj e;obtain⟨o,y⟩:=aF w;subst y;obtain⟨xs,h,j,e⟩:=aj e;cases e;obtain⟨v,h1,_⟩:=g.pk o;exact⟨v,h1,F,ρ,xs,_,g,j,λvs l m s2 A=>k _ l m s2 (.cons h1 A λds x z=>by cases z)⟩
theorem NT{k f:Nat}{t:dQ}{fd:ja}{j:List Str}(J:o7 X.prog X.w X.K X.mg X.base JC k t fd j (PX X.K j.length (c f)))(hr:lM k X.A)(L:Gl X x)(M:X.mg x=aD (.ref t))(N:keepIn X.K (.ref t)=ck)(O:Binds X.K fd j [])(U:SG X c (e::es) ps)(W:(e::es).length=j.length)(u:(x==("__debug__":Str))=a_:=by decide)(he:ea (e::es) X.env=(a_,fF e X.env)::ea es X.env:=by rfl)(hpl:(kN pos (ea es X.env)).any (·.1)=a_:=by rfl)(y:ps.length=(e::es).length:=by rfl):SX X c (.Call (.Name x p') (e::es) [] pos) (.call f ps):=by
 refine⟨gG (QC (E:=E0) J hr L M N O .nil aam U u he hpl) ?_,λi h=>by cases h⟩;rintro σ H Q⟨F,ρ,r,ρ',g,e,k⟩;rw[_H.E15]at e;obtain⟨as,z,G,e⟩:=aj e;unfold tG at e;split at e;.cases e
 . rename_i args m;split at e
   . rename_i r' l hc;cases e;refine⟨F,ρ,as,z,g,G,λvs F1 Y s1 A=>?_⟩;have o:vs.length=j.length:=by
      have:∀{ps:List P}{ρ ρ':List Sl}{as:List Arg},BV c ps ρ=.ok as ρ'->as.length=ps.length:=by intro ps;induction ps with|nil=>intro ρ ρ' as h;rw[Kf]at h;cases h;rfl|cons q j I=>
         intro ρ ρ' as h;rw[Ce]at h;split at h;.obtain⟨_,_,_,h⟩:=aj h;obtain⟨xs,B,C,h⟩:=aj h;cases h;simp[I C]
         .obtain⟨_,_,_,h⟩:=aj h;obtain⟨xs,B,C,h⟩:=aj h;cases h;simp[I C]
      rw[<-A.len,this G,y,W]
     show PX X.K j.length (c f) (vs++[]) Y Q E0;rw[qk];refine⟨o,F1,args,r,l,args_gs s1.gs A m,hc,λv Z ab H' s rr=>?_⟩;obtain⟨z1,z2⟩:=J9 s1 A m s;exact k v Z H' z1 (z2 v r rr)
   .cases e
   .cases e
noncomputable def KQ(K:PySem.W.Frag)(D:Ends)(g:Hp)(ρ':List Sl)(f:_L.St)(H':Hp)(ρ:List Sl)(σ:_L.St)(H:Hp)(h:Fl):Prop:=match h with|.next=>D.nx f H'|.brk=>D.bk f H'|.cont=>D.ct f H'|.ret r=>∀v,dH K g ρ' f H' ρ σ H v r->D.rt v H'
inductive tEx(K:PySem.W.Frag)(f:List Sl->Res Fl)(D:Ends)(σ:_L.St)(H:Hp):Prop where|mk(F:Hp)(ρ:List Sl)(fl:Fl)(ρ':List Sl)(g:GS K F ρ σ H)(e:f ρ=.ok fl ρ')(k:∀F' σ' H',bW K F ρ σ H F' ρ' σ' H'->KQ K D F' ρ' σ' H' ρ σ H fl)
noncomputable def SS(X:Cx)(c:Call)(n:Nat)(st:fR)(s:S):Prop:=PS X st (tEx X.K (ex c n s))
noncomputable def SB(X:Cx)(c:Call)(n:Nat)(st:List fR)(s:List S):Prop:=zW X st (tEx X.K (jC c n s))
theorem gH{st:fR}{t t':TS}(h:PS X st t)(i:∀D σ H,t' D σ H->t D σ H):PS X st t':=λf s σ H D I q=>h f s σ H D I (i D σ H q)
theorem pJ{st:List fR}{t t':TS}(h:zW X st t)(i:∀D σ H,t' D σ H->t D σ H):zW X st t':=λf s σ H D I q=>h f s σ H D I (i D σ H q)
theorem xs0{c:Call}:jC c n [] ρ=.ok .next ρ:=rfl
theorem XC{c:Call}{s:S}{r:List S}:jC c n (s::r) ρ=(ex c n s ρ).bind λfl ρ=>match fl with|.next=>jC c n r ρ|fl=>.ok fl ρ:=rfl
theorem au:SB X c n [] []:=pJ vN λD σ H⟨F,ρ,fl,ρ',g,e,k⟩=>by rw[xs0]at e;cases e;exact k F σ H (.refl g)
theorem aR{st:fR}{s:S}{f:List fR}{ss:List S}(h1:SS X c n st s)(o:SB X c n f ss):SB X c n (st::f) (s::ss):=by refine pJ (lq h1 o) ?_;rintro D σ H⟨F,ρ,m,ρ',g,e,k⟩;rw[XC]at e;obtain⟨f1,h,j,e⟩:=aj e;cases f1 with
 |next=>refine⟨F,ρ,.next,h,g,j,λF1 t z s1=>⟨F1,h,m,ρ',s1.gs,e,λu l w s2=>?_⟩⟩;have q:=k u l w (s1.trans s2);cases m with|next=>exact q|brk=>exact q|cont=>exact q|ret r=>exact λv y=>q v (y.later s1)
 |brk=>cases e;exact⟨F,ρ,.brk,_,g,j,k⟩|cont=>cases e;exact⟨F,ρ,.cont,_,g,j,k⟩|ret r=>cases e;exact⟨F,ρ,.ret r,_,g,j,k⟩
theorem R5:SS X c n (.Break pos) .brk:=gH KN λD σ H⟨F,ρ,fl,ρ',g,e,k⟩=>by rw[_H.X2]at e;cases e;exact k F σ H (.refl g)
theorem La{t1 g:TE}(h1:PE X e t1)(j:PE X e g):PE X e (λσ H Q=>t1 σ H Q\/g σ H Q):=λf s σ H Q I h=>h.elim (h1 f s σ H Q I) (j f s σ H Q I)
theorem Tn(he:SX X c e p):SS X c n (.Return (aD e) pos) (.ret p):=by
 have plain:∀(D:Ends)(σ:_L.St)(H:Hp),(∃F ρ h ρ',GS X.K F ρ σ H/\((_H.ev c p ρ).bind λr ρ=>.ok (Fl.ret r) ρ)=.ok h ρ'/\∀j f H',bW X.K F ρ σ H j ρ' f H'->(match h with|.next=>D.nx f H'|.brk=>D.bk f H'|.cont=>D.ct f H'|.ret r=>∀v,dH X.K j ρ' f H' ρ σ H v r->D.rt v H'))->xW X.K (_H.ev c p) σ H D.rt:=λD σ H⟨F,ρ,h,ρ',g,e,k⟩=>by obtain⟨r,l,m,e⟩:=aj e;cases e;exact⟨F,ρ,r,_,g,m,λv F1 o s1 s=>k F1 σ o s1 v s⟩
 cases hv:isVar p with|none=>refine gH (IV he.ev) λD σ H⟨F,ρ,h,ρ',g,e,k⟩=>plain D σ H ⟨F,ρ,h,ρ',g,?_,k⟩;rw[_H.X10,hv]at e;exact e|some i=>--by the name itself:its own list is handed back,else its data
   have t:p=.var i:=by cases p<;>cases hv;rfl
   subst t;refine gH (IV (La (he.var i hv) he.ev)) ?_;rintro D σ H⟨F,ρ,h,ρ',g,e,k⟩;rw[_H.X10,hv]at e;dsimp only at e;split at e;.rename_i ds q;cases e;obtain⟨v,h1,u,w⟩:=g.give q;exact .inl ⟨v,h1,k F σ H u v w⟩
   .exact .inr (plain D σ H ⟨F,ρ,h,ρ',g,e,k⟩)
theorem dU{o s:List fR}{t u:List S}(hc:ST X c e p)(w:SB X c n o t)(y:SB X c n s u):SS X c n (.If e o s pos) (.ifs p t u):=by refine gH (aaj hc w y) ?_;rintro D σ H⟨F,ρ,l,ρ',g,e,k⟩;rw[_H.X12]at e;obtain⟨x,j,z,e⟩:=aj e;refine⟨F,ρ,x,j,g,z,λF1 A s1=>?_⟩;have go:∀{f:List Sl->Res Fl},f j=.ok l ρ'->tEx X.K f D σ A:=λ{f}h=>⟨F1,j,l,ρ',s1.gs,h,λB m C s2=>by have q:=k B m C (s1.trans s2);cases l with|next=>exact q|brk=>exact q|cont=>exact q|ret r=>exact λv E=>q v (E.later s1)⟩;cases x with|true=>rw[if_pos rfl]at e;exact go e|false=>rw[if_neg eH]at e;exact go e
theorem iy{f:Pos}(l:X.N.Nodup)(hi:X.N[i]?=aD x)(m:Loc X.env.scope x)(he:SX X c e p)(hs:jn e (aD (.Name x f)) pos.line X.env=fI a_:=by rfl)(o:X.fn x=ck\/X.env.scope.names.lookup x=aD .local:=by first|(left;rfl)|(right;rfl)|assumption):SS X c n (.Assign [.Name x f] e pos) (.asg i p):=by refine gH (Bh l hi m he.ev hs o) ?_;rintro D σ H⟨F,ρ,z,ρ',g,e,k⟩;rw[_H.X6]at e;obtain⟨r,j,q,e⟩:=aj e;obtain⟨s,t,h,e⟩:=aj e;cases e;have u:=aF h;clear h;obtain⟨h,A⟩:=u;exact⟨F,ρ,r,j,g,q,λv F1 w s1 y=>k F1 _ w (s1.put y h)⟩
end
end _H
namespace _L
open PySem Spec PyProof.Rows
variable{env:Env}{scope:k8}{X:Cx}
noncomputable def uY(X:Cx)(scope:k8)(N':List Str)(cl:List (Str×dQ))(C:dQ)(s₀:cp)(H₀:Hp)(ex:List dQ):Cx:={X with N:=N',s₀:=s₀,H₀:=H₀,env:=compEnvC scope cl C X.env,outer:=X.stack,stack:=X.stack,ex:=ex,fn:=λx=>scope.names.lookup x==aD .cell,pn:=[],xe:=λ_ _=>False}
theorem Cq(l:List (Str×lj)):∀(b:List (Str×dQ)),(∀n,(n,fN)∈l->∃c,env.cells.lookup n=aD c)->(∀n c,b.lookup n=aD c->env.cells.lookup n=aD c)->∃ cl,(forIn l b (λ(x:Str × lj)(r:List (Str × dQ))=>(if(x.2==fN)=ck then(do let a<-cellOf env x.1;fI (iL ((x.1,a)::r)))else fI (iL r):Sem (ForInStep (List (Str × dQ))))):Sem (List (Str × dQ)))=fI cl/\(∀n c,cl.lookup n=aD c->env.cells.lookup n=aD c)/\(∀n,((n,fN)∈l\/(b.lookup n).isSome)->(cl.lookup n).isSome):=by induction l with|nil=>intro b _ h;exact⟨b,rfl,h,λn hn=>by rcases hn with hn|hn;cases hn;exact hn⟩|cons y l j=>
   obtain⟨n,k⟩:=y;intro b f hc;rw[forIn_cons];by_cases g:k=.free
   . subst g;obtain⟨a,o⟩:=f n jp;obtain⟨cl,e,h1,i⟩:=j ((n,a)::b) (λm hm=>f m (fP _ hm)) λm c hm=>by
      rw[hJ]at hm;split at hm;.rename_i q;have q:=eq_of_beq q;subst q;cases hm;exact o
      .exact hc m c hm
     refine⟨cl,?_,h1,λm hm=>i m ?_⟩
     . rw[<-e];have:cellOf env n=fI a:=by unfold cellOf;rw[o]
       simp only[beq_self_eq_true,if_true,this];rfl
     . rcases hm with hm|hm
       . rcases eM.mp hm with hm|hm;.cases hm;right;simp[hJ]
         .exact .inl hm
       . right;rw[hJ];split;.rfl
         .exact hm
   . obtain⟨cl,e,h1,i⟩:=j b (λm hm=>f m (fP _ hm)) hc;refine⟨cl,?_,h1,λm hm=>i m ?_⟩
     . rw[<-e];have:(k==fN)=a_:=by simpa using g
       simp only[this,ii,if_false];rfl
     . rcases hm with hm|hm
       . rcases eM.mp hm with hm|hm;.cases hm;exact absurd rfl g
         .exact .inl hm
       .exact .inr hm
theorem Bf(a:∀n,(n,fN)∈scope.names->∃c,env.cells.lookup n=aD c):∃cl,closureFor scope env=fI cl/\(∀n c,cl.lookup n=aD c->env.cells.lookup n=aD c)/\∀n,(n,fN)∈scope.names->(cl.lookup n).isSome:=by obtain⟨cl,e,h1,b⟩:=Cq (env:=env) scope.names [] a (by simp);refine⟨cl,?_,h1,λn f=>b n (.inl f)⟩;unfold closureFor;exact(congrArg (λt=>t>>=λr=>fI r) e).trans rfl
theorem gj{env:Env}:∀(names:List (Str×lj))(x:Str),(names.map λ(n,k)=>if(k==fN&&env.scope.kind==.function&&env.kindOf n==aD .cell)then(n,ik)else(n,k)).lookup x=(names.lookup x).map λk=>if(k==fN&&env.scope.kind==.function&&env.kindOf x==aD .cell)=ck then ik else k
 |[],x=>rfl|(n,k)::r,x=>by
   have a:=gj (env:=env) r x;show List.lookup x ((if(k==fN&&env.scope.kind==.function&&env.kindOf n==aD .cell)=ck then(n,ik)else(n,k))::_)=_;by_cases hc:(k==fN&&env.scope.kind==.function&&env.kindOf n==aD .cell)=ck;.rw[if_pos hc,hJ,hJ];cases hx:x==n with|true=>have:=eq_of_beq hx;subst this;show aD ik=aD (if _ then _ else _);rw[if_pos hc]|false=>exact a
   .rw[if_neg hc,hJ,hJ];cases hx:x==n with|true=>have:=eq_of_beq hx;subst this;show aD k=aD (if _ then _ else _);rw[if_neg hc]|false=>exact a
noncomputable def ZD(N N':List Str)(a:k8):Bool:=(N.zip N').all λp=>(p.1==p.2&&a.names.lookup p.2==aD .free)||(a.names.lookup p.2!=aD .local&&a.names.lookup p.2!=aD .cell&&a.names.lookup p.2!=aD .free)
structure iz(X:Cx)(scope:k8)(N':List Str)(n:Nat):Prop where
 kind:scope.kind=.function
 cons:∀y∈scope.names,scope.names.lookup y.1=aD y.2
 names:∀y∈scope.names,y.2=.local->scope.names.lookup y.1=aD .local
 cap:∀y∈scope.names,y.2=.free->X.env.scope.names.lookup y.1=aD .cell\/X.env.scope.names.lookup y.1=aD .free
 len:N'.length=X.N.length+n
 same:ZD X.N N' scope=ck
theorem iz.get{N':List Str}{n:Nat}(c:iz X scope N' n){i:Nat}{x:Str}(hi:i<X.N.length)(h:N'[i]?=aD x)(hv:xR (kQ scope X.env) x):X.N[i]?=aD x/\scope.names.lookup x=aD .free:=by
 have f:(X.N.zip N')[i]?=aD (X.N[i],x):=by rw[iA];exact⟨by simp[hi],h⟩
 have:=(eL.mp c.same) _ (ko f);simp only[li,gi]at this;rcases this with⟨h1,a⟩|⟨⟨h1,a⟩,b⟩;.have h1:=eq_of_beq h1;have a:=eq_of_beq a;exact⟨by simp[hi,h1],a⟩
 . exfalso;have h1:scope.names.lookup x≠aD .local:=by simpa using h1
   have a:scope.names.lookup x≠aD .cell:=by simpa using a
   have b:scope.names.lookup x≠aD .free:=by simpa using b
   have e:=gj (env:=X.env) scope.names x;have hv:(kQ scope X.env).names.lookup x=aD .local\/(kQ scope X.env).names.lookup x=aD .cell\/(kQ scope X.env).names.lookup x=aD .free:=hv;rw[show(kQ scope X.env).names.lookup x=_ from e]at hv;cases q:scope.names.lookup x with|none=>rw[q]at hv;simp at hv|some k=>
     rw[q]at hv h1 a b;have g:(k==fN)=a_:=by cases k<;>first|rfl|exact absurd rfl b
     simp only[fh,g,oy,ii,if_false,Option.some.injEq]at hv;rcases hv with rfl|rfl|rfl;.exact h1 rfl
     .exact a rfl
     .exact b rfl
structure CI(cl:List (Str×dQ))(z:Nat)(h:Heap)(acc:List (Str×dQ)):Prop where from':∀n c,acc.lookup n=aD c->cl.lookup n=aD c\/(z<=c/\h.IsCell c b_)inj:∀n n' c,acc.lookup n=aD c->acc.lookup n'=aD c->n=n'
theorem Kz{cl:List (Str×dQ)}{z:Nat}(i:∀n c,cl.lookup n=aD c->c<z):∀(names:List (Str×lj))(h:Heap)(f:List (Str×dQ)),z<=h.objs.size->CI cl z h f->CI cl z (pushCells h names) (lf h.objs.size names f)/\(∀n,(f.lookup n).isSome->((lf h.objs.size names f).lookup n).isSome)/\(∀n,((∃c,f.lookup n=aD c/\z<=c)\/(n,ik)∈names)->∃c,(lf h.objs.size names f).lookup n=aD c/\z<=c)/\(∀n c,(n,ik)∉names->(lf h.objs.size names f).lookup n=aD c->f.lookup n=aD c)
 |[],h,f,j,x=>by
   refine⟨x,λ_ q=>q,λn q=>?_,λ_ _ _ q=>q⟩;rcases q with q|q;.exact q
   .cases q|(name,kind)::r,h,f,j,x=>by
   unfold pushCells lf;by_cases p:kind=.cell
   . subst p;rw[if_pos (by rfl),if_pos (by rfl)];have t:CI cl z (h.push {cls:=.type "cell",data:=.cell b_}) ((name,h.objs.size)::f):=by
      have lt:∀n c,f.lookup n=aD c->c<h.objs.size:=λn c e=>by
       rcases x.from' n c e with q|q;.exact eT (i n c q) j
       .exact q.2.lt
      refine⟨λn c e=>?_,λn s c e l=>?_⟩
      . rw[hJ]at e;split at e;.cases e;exact .inr ⟨j,_,dZ _ rfl,rfl⟩
        . rcases x.from' n c e with q|q;.exact .inl q
          .exact .inr ⟨q.1,q.2.keeps λb o e=>eO e⟩
      . rw[hJ]at e l;split at e<;>split at l;.rename_i _ a _ b;rw[eq_of_beq a,eq_of_beq b]
        .cases e;exact absurd (lt s _ l) (kg _)
        .cases l;exact absurd (lt n _ e) (kg _)
        .exact x.inj n s c e l
     have g:=Kz i r (h.push {cls:=.type "cell",data:=.cell b_}) ((name,h.objs.size)::f) (by rw[fv];lia) t;rw[fv]at g;refine⟨g.1,λn q=>g.2.1 n ?_,λn q=>g.2.2.1 n ?_,λn c q e=>?_⟩
     . rw[hJ];split;.rfl
       .exact q
     . rcases q with⟨c,e,hc⟩|q
       . left;rw[hJ];split;.exact⟨_,rfl,j⟩
         .exact⟨c,e,hc⟩
       . rcases eM.mp q with q|q;.cases q;left;exact⟨_,by simp[hJ],j⟩
         .exact .inr q
     . have:=g.2.2.2 n c (λz=>q (fP _ z)) e;rw[hJ]at this;split at this;.rename_i a;exact absurd (by rw[eq_of_beq a];exact jp) q
       .exact this
   . have m:(kind==ik)=a_:=by simpa using p
     rw[if_neg (by rw[m];decide),if_neg (by rw[m];decide)];have g:=Kz i r h f j x;refine⟨g.1,g.2.1,λn q=>g.2.2.1 n ?_,λn c q e=>g.2.2.2 n c (λz=>q (fP _ z)) e⟩;rcases q with q|q;.exact .inl q
     . rcases eM.mp q with q|q;.cases q;exact absurd rfl p
       .exact .inr q
structure Mg(X:Cx)(scope:k8)(z:Nat)(h:Heap)(cs:List (Str×dQ)):Prop where
 from':∀n c,cs.lookup n=aD c->X.env.cells.lookup n=aD c\/(z<c/\h.IsCell c b_)inj:∀n n' c,cs.lookup n=aD c->cs.lookup n'=aD c->n=n'
 has:∀n,(scope.names.lookup n=aD .free\/scope.names.lookup n=aD .cell)->∃c,cs.lookup n=aD c
 fre:∀n c,scope.names.lookup n=aD .free->cs.lookup n=aD c->X.env.cells.lookup n=aD c
 own:∀n c,scope.names.lookup n=aD .cell->cs.lookup n=aD c->z<c
theorem Hj{M:o_}{A:fb}{E:bV->cp->Prop}{s:cp}{N':List Str}{n:Nat}{cl:List (Str×dQ)}{Q:Env->cp->Prop}(ok:iz X scope N' n)(h:∀n c,X.env.cells.lookup n=aD c->c<s.heap.objs.size)(f:∀x y c,X.env.cells.lookup x=aD c->X.env.cells.lookup y=aD c->x=y)(a:∀n c,cl.lookup n=aD c->X.env.cells.lookup n=aD c)(p:∀n,(n,fN)∈scope.names->(cl.lookup n).isSome)(r:∀ l h',h'.Ns s.heap.objs.size (λ_=>b_)->(∀ b o,s.heap.get? b=aD o->h'.get? b=aD o)->Mg X scope s.heap.objs.size h' l->Q {scope:=scope,locals:=s.heap.objs.size,globals:=X.env.globals,cells:=l,qual:=X.env.qual,func:=b_,code:=X.env.code,frame:=X.env.frame,builtins:=X.env.builtins} {s with heap:=h'}):d_ M A (p_ scope X.env.globals cl [] X.env.qual b_ .none (aD X.env)) Q E s:=by
 simp only[p_,Option.isSome_some,if_true];refine bx (wpAny_alloc ?_);refine bx (wpAny_layCells _ (λname kind cells=>by cases i:kind==ik<;>simp[i]) _ _ _ _ ?_);have t:=Kz (cl:=cl) (z:=s.heap.objs.size+1) (λn c e=>nh (h n c (a n c e))) scope.names (s.heap.push {cls:=.type "dict",data:=.dict #[]}) cl (by rw[fv];exact di) ⟨λn c e=>.inl e,λn m c e g=>f n m c (a n c e) (a m c g)⟩;obtain⟨c1,c2,c3,c4⟩:=t;rw[show({s with heap:=s.heap.push {cls:=.type "dict",data:=.dict #[]}}:cp).heap.objs.size=(s.heap.push {cls:=.type "dict",data:=.dict #[]}).objs.size from rfl];refine bx ?_;rw[forIn_nil];refine c_ (c_ (r _ _ ((Heap.Ns.new s.heap (.type "dict")).keeps (pushCells_keeps _ _)) (λb o e=>pushCells_keeps _ _ b o (eO e)) ⟨λn c e=>?_,c1.inj,λn q=>?_,λn c q e=>?_,λn c q e=>?_⟩))
 . rcases c1.from' n c e with z|z;.exact .inl (a n c z)
   .exact .inr ⟨z.1,z.2⟩
 . rcases q with q|q;.exact oq.mp (c2 n (p n (PySem.mem_of_lookup q)))
   .obtain⟨c,e,_⟩:=c3 n (.inr (PySem.mem_of_lookup q));exact⟨c,e⟩
 .refine a n c (c4 n c (λz=>?_) e);have:=ok.cons _ z;rw[q]at this;cases this
 .obtain⟨u,g,j⟩:=c3 n (.inr (PySem.mem_of_lookup q));rw[e]at g;cases g;exact j
section
variable{X:Cx}{pins:List (dQ×Obj)}{σ:_L.St}{H:Hp}{s:cp}{scope:k8}{N':List Str}{n:Nat}{fp:List dQ}{cl:List (Str×dQ)}
theorem Ma{h1:Heap}{m:Str->Option bV}{t:Nat}{W:List (Str×dQ)}(ok:iz X scope N' n)(I:Inv X pins σ H s)(J:∀b∈fp,pO X pins H b/\b<s.heap.objs.size)(w:Mg X scope s.heap.objs.size h1 W)(Y:h1.Ns s.heap.objs.size m)(j:∀b u,s.heap.get? b=aD u->h1.get? b=aD u):Inv (uY X scope N' W s.heap.objs.size s H fp) [] (σ++dV n b_) H {s with heap:=h1,toks:=t}:=by
 have L:∀x,scope.names.lookup x=aD .free->(kQ scope X.env).names.lookup x=aD .cell\/(kQ scope X.env).names.lookup x=aD .free:=λx h=>by
  have e:=gj (env:=X.env) scope.names x;rw[h]at e;have M:(kQ scope X.env).names.lookup x=_:=e;rw[M];simp only[fh];split;.exact .inl rfl
  .exact .inr rfl
 refine⟨⟨I.ok.mod,ok.kind,I.ok.glob,I.ok.blt,di,λx y c h1 Z=>w.inj x y c h1 Z,λx z=>?_,λx c h e=>n8 (w.own x c (eq_of_beq (show(scope.names.lookup x==aD ik)=ck from h)) e),I.ok.hd,I.ok.frames,.inl rfl,λb B=>?_,I.bs,kb I.ok.RQ I.sz,λb u e B=>?_,λb B N=>?_,I.stack,I.Dw⟩,rfl,I.bare,Un.kept j,⟨m,Y,λi x v e1 C hv=>?_⟩,λx c e=>?_,I.hok.fresh (di),λx c e=>?_,λp hp=>(by cases hp),I.hok.kept j,?_⟩;.--a aa7 name has its cell
   have z:(kQ scope X.env).names.lookup x=aD .cell\/(kQ scope X.env).names.lookup x=aD .free:=z;have e:=gj (env:=X.env) scope.names x;have M:(kQ scope X.env).names.lookup x=_:=e;rw[M]at z;refine w.has x ?_;cases q:scope.names.lookup x with|none=>rw[q]at z;simp at z|some k=>
     rw[q]at z;by_cases hk:k=.free;.rw[hk];exact .inl rfl
     . have g:(k==fN)=a_:=by simpa using hk
       simp only[fh,g,oy,ii,if_false,Option.some.injEq]at z;rcases z with rfl|rfl;.exact .inr rfl
       .exact absurd rfl hk
 . obtain⟨f,lt⟩:=J b B;refine⟨eS lt,λx c e=>?_⟩;rcases w.from' x c e with e|e;.exact f.2.2.2.2.1 x c e
   .rintro rfl;exact absurd (qv e.1 lt) (kg _)
 . obtain⟨f,lt⟩:=J b B;rcases f.2.2.2.1 with h|h;.exact I.ok.Mv b u e h
   .have this:b<X.base.objs.size:=eA e;exact absurd (eT this (kb I.ok.RQ h)) (kg _)
 . obtain⟨f,lt⟩:=J b B;rcases eM.mp (I.wW b N)with h|h;.exact f.2.1 h
   .exact f.2.2.1 h
 .--the names
   have hi:i<σ.length:=by
    by_cases hi:i<σ.length;.exact hi
    .rw[eW (by lia),im]at C;split at C<;>cases C
   rw[ei hi]at C;obtain⟨O,o⟩:=ok.get (by rw[<-I.len];exact hi) e1 hv;have hk:=ok.cap (x,.free) (PySem.mem_of_lookup o) rfl;obtain⟨m0,ab,hl⟩:=I.loc;obtain⟨u,r,l⟩:=hl i x v O C (.inr hk);refine⟨u,r,.inr ⟨L x o,?_⟩⟩;rcases l with⟨g,_⟩|⟨_,c,hc,A⟩;.have g:X.env.scope.names.lookup x=aD .local:=g;rcases hk with hk|hk<;>(rw[g]at hk;cases hk)
   .obtain⟨c',E⟩:=w.has x (.inl o);have:=w.fre x c' o E;rw[hc]at this;cases this;refine⟨c,E,?_⟩;obtain⟨G,Q,U⟩:=A;exact⟨G,j c G Q,U⟩
 . rcases w.from' x c e with e|e;.obtain⟨v,G,Q,U⟩:=I.cell x c e;exact⟨v,G,j c G Q,U⟩
   .exact⟨_,e.2⟩
 . rcases w.from' x c e with e|e;.exact I.m6 x c e
   .exact I.hok.fresh (n8 e.1)
 .show(σ++dV n b_).length=N'.length;rw[ib,ij,I.len,ok.len]
theorem wZ{prog:ek}{w:fg}{A:fb}{R:Result->cp->Prop}{q a iter:eB}{ifs:List eB}{pos:Pos}{it t:bV}(I:Nat->cp->Prop)(turn:∀ n s,I n s->d_ (ef prog w) A (kK it) (λr b=>match r with|none=>R (.ok .next) b|some v=>d_ (ef prog w) A (ma a it v) (λ_ b=>d_ (ef prog w) A (kC a env v) (λ_ j=>d_ (ef prog w) A (forIn ifs ck λc r=>if r=ck then do let ok<-isTrue c env (fF c env);fI (iL ok)else fI (iL r)) (λok g=>if ok=ck then d_ (ef prog w) A (fF q env) (λx l=>d_ (ef prog w) A (call (.builtin "list.append") [t,x]) (λ_ o=>∃m,m<n/\I m o) (pV (ef prog w) A env λe i=>R (.error e) i) l) (pV (ef prog w) A env λe i=>R (.error e) i) g else ∃m,m<n/\I m g) (pV (ef prog w) A env λe i=>R (.error e) i) j) (pV (ef prog w) A env λe i=>R (.error e) i) b) (pV (ef prog w) A env λe i=>R (.error e) i) b) (pV (ef prog w) A env λe i=>R (.error e) i) s)(n:Nat){s:cp}(h:I n s):mT (ef prog w) A (.compLoop (.ListComp q [⟨a,iter,ifs,0⟩] scope pos) 0 it t env) R s:=by refine codeAny_loop rfl I (λn s B=>?_) n h;show d_ _ A ((compTurn (.ListComp q [⟨a,iter,ifs,0⟩] scope pos) 0 it t env).onRaise (λx=>do noteFrame x env;theTreesLotGoes x)) _ _ s;refine wpAny_noted ?_;rw[compTurn_list];refine bx (rf (bx (fy (turn n s B) (λr b f=>?_) λ_ _ h'=>h')));cases r with|none=>exact c_ f|some v=>refine bx (fy f (λ_ b f=>?_) λ_ _ h'=>h');refine bx (fy f (λ_ j u=>bx (fy u (λok g p=>?_) λ_ _ h'=>h')) λ_ _ h'=>h');cases ok with|false=>exact c_ ⟨rfl,p⟩|true=>exact bx (bx (fy p (λx l y=>bx (fy y (λ_ o z=>c_ (c_ ⟨rfl,z⟩)) λ_ _ h'=>h')) λ_ _ h'=>h'))
noncomputable def Vc(X:Cx)(ifs:List eB)(t:TT):Prop:=∀(pins:List (dQ × Obj))(s:cp)(σ:_L.St)(H:Hp)(Q:Bool->Hp->Prop),Inv X pins σ H s->t σ H Q->d_ (ef X.prog X.w) X.A (forIn ifs ck λc r=>if r=ck then do let ok<-isTrue c X.env (fF c X.env);fI (iL ok)else fI (iL r)) (TP X pins σ Q) X.xe s
theorem Px:Vc X [] (λ_ H Q=>Q ck H):=λpins s σ H Q I h=>wpAny_tests_nil ⟨H,I,h⟩
theorem Qg{c:eB}{t:TT}(h:PT X c t):Vc X [c] t:=λpins s σ H Q I q=>wpAny_tests_one (h pins s σ H Q I q)
noncomputable def Rg(J:It)(g:TG)(tt:TT)(te:TE)(D:dQ)(Q:Hp->Prop)(W:Nat->Nat->List V->_L.St->Hp->Prop):Prop:=∀ i m ys σ H,W i m ys σ H->H D=aD (.lst ys)/\((J.stop i H/\Q H)\/(J.go i H/\∀ x e,J.Ia i H x e->g x σ e λa j=>tt a j λb f=>if b=ck then te a f λy h=>h D=aD (.lst ys)/\ys.length<sizeLine/\∃c,c<m/\W (i+1) c (ys++[y]) a (upd h D (.lst (ys++[y])))else ∃c,c<m/\W (i+1) c ys a f))
theorem u9{E:bV->cp->Prop}{ae a iter:eB}{ifs:List eB}{pos:Pos}{it:dQ}{tn:Nat->Heap->Prop}{J:It}{g:TG}{tt:TT}{te:TE}{Q:dQ->Hp->Prop}{RR:bV->dQ->Result->cp->Prop}(hc:X.calm=ck)(ok:iz X scope N' n)(I:Inv X pins σ H s)(bm:∀n c,cl.lookup n=aD c->X.env.cells.lookup n=aD c)(CQ:∀n,(n,fN)∈scope.names->(cl.lookup n).isSome)(T:Turn X.prog X.w X.K a J fp it tn)(h0:tn 0 s.heap)(hf:∀b∈fp,pO X pins H b)(hg:∀cl C s₀ H₀ ex,PG (uY X scope N' cl C s₀ H₀ ex) a g)(ht:∀cl C s₀ H₀ ex,Vc (uY X scope N' cl C s₀ H₀ ex) ifs tt)(he:∀cl C s₀ H₀ ex,PE (uY X scope N' cl C s₀ H₀ ex) ae te)(hw:∀D,H D=b_->∃W,(∃m,W 0 m [] (σ++dV n b_) (upd H D (.lst [])))/\Rg J g tt te D (Q D) W)(bn:∀D C l H',Q D H'->(∃m,l.heap.Ns C m)->pO X pins H' C->Inv X pins σ H' l->RR (.ref D) C (.ok .next) l):d_ (ef X.prog X.w) X.A (newList []) (λav aw=>d_ (ef X.prog X.w) X.A (p_ scope X.env.globals cl [] X.env.qual b_ .none (aD X.env)) (λai ax=>mT (ef X.prog X.w) X.A (.compStart (.ListComp ae [⟨a,iter,ifs,0⟩] scope pos) 0 (.ref it) av {ai with scope:=kQ scope X.env}) (RR av ai.locals) ax) E aw) E s:=by
 refine eJ (Hj ok (λx c e=>?lt) I.ok.inj bm CQ (λcs L am hold bc=>?_));case lt=>obtain⟨v,z⟩:=I.cell x c e;exact eT z.lt (by show _<=(s.heap.push _).objs.size;rw[fv];exact le_succ _)
 dsimp only at am hold bc ⊢--the new list,tracked
 have I3:Inv X pins σ (upd H s.heap.objs.size (.lst [])) {s with heap:=s.heap.push {cls:=.type "list",data:=.seq ([]:List bV).toArray}}:=I.U8 (t':=s.toks) .nil (tY);generalize ap:({s with heap:=s.heap.push {cls:=.type "list",data:=.seq ([]:List bV).toArray}}:cp)=s3 at I3;have hsz:s3.heap.objs.size=s.heap.objs.size+1:=by rw[<-ap];exact fv _ _
 have RZ:s3.heap=s.heap.push {cls:=.type "list",data:=.seq ([]:List bV).toArray}:=by rw[<-ap]
 obtain⟨W,⟨m0,w0⟩,turn⟩:=hw s.heap.objs.size I.fresh;have ay:∀{h':Heap},(∀b o,s.heap.get? b=aD o->h'.get? b=aD o)->tn 0 h':=λk=>T.keep _ _ _ h0 λb j o e=>k b o e;have af:∀b∈fp,pO X pins (upd H s.heap.objs.size (.lst [])) b/\b<s3.heap.objs.size:=λb j=>by obtain⟨o,e,_⟩:=T.obj 0 _ h0 b j;have lt:=eA e;obtain⟨f1,f2⟩:=hf b j;exact⟨⟨by rw[aG (eS lt)];exact f1,f2⟩,by rw[hsz];exact nh lt⟩
 rw[<-RZ]at am hold bc ⊢;have I4:=Ma (t:=s3.toks) ok I3 af bc am hold;have aE:∀b o,s.heap.get? b=aD o->L.get? b=aD o:=λb o e=>hold b o (by rw[RZ];exact eO e);generalize O:uY X scope N' cs s3.heap.objs.size s3 (upd H s.heap.objs.size (.lst [])) fp=B at I4;have hA:B.A=X.A:=by rw[<-O];rfl
 have M:B.prog=X.prog:=by rw[<-O];rfl
 have N:B.w=X.w:=by rw[<-O];rfl
 have aI:B.K=X.K:=by rw[<-O];rfl
 have U:B.calm=ck:=by rw[<-O];exact hc
 have bo:B.xe=λ_ _=>False:=by rw[<-O];rfl
 have aS:B.env=compEnvC scope cs s3.heap.objs.size X.env:=by rw[<-O];rfl
 have bp:PG B a g:=by rw[<-O];exact hg _ _ _ _ _
 have bq:Vc B ifs tt:=by rw[<-O];exact ht _ _ _ _ _
 have br:PE B ae te:=by rw[<-O];exact he _ _ _ _ _
 have ff:∀{H':Hp}{b:dQ},b∈fp->H' b=b_->pO B [] H' b:=λ{H' b}j hn=>by
  obtain⟨f,lt⟩:=af b j;rw[<-O];refine⟨hn,eS lt,λbt=>?_,.inl j,λx c e=>?_,λp hp=>by cases hp⟩
  . rcases eM.mp (I3.wW b bt)with h|h;.exact f.2.1 h
    .exact f.2.2.1 h
  . rcases bc.from' x c e with e|e;.exact f.2.2.2.2.1 x c e
    .rintro rfl;exact absurd (qv e.1 lt) (kg _)--behind the block
 have fin:∀{G:_L.St}{H':Hp}{l:cp},Inv B [] G H' l->Q s.heap.objs.size H'->RR (.ref s.heap.objs.size) s3.heap.objs.size (.ok .next) l:=λ{G H' l}Y q=>by
  rw[<-O]at Y;have hC:H' s3.heap.objs.size=b_:=Y.free;obtain⟨hh,gg,dd,bv,bE⟩:=l;have bP:bE=s3.os:=Y.os;subst bP;refine bn _ _ _ H' q (let⟨m,hm,_⟩:=Y.loc;⟨m,hm⟩) ?_ (I3.call (h':=hh) (g':=gg) (d':=dd) (t':=bv) (ch:=fp) Y.base Y.hok Y.bare λb j=>?_);.exact I3.xg (di) hC
  .obtain⟨f,lt⟩:=af b j;exact⟨f.2.2.2.1,f.2.1,f.2.2.2.2.1,f.2.2.2.2.2⟩
 have ab:mT (ef X.prog X.w) X.A (.compLoop (.ListComp ae [⟨a,iter,ifs,0⟩] scope pos) 0 (.ref it) (.ref s.heap.objs.size) B.env) (RR (.ref s.heap.objs.size) s3.heap.objs.size) {s3 with heap:=L,toks:=s3.toks}:=by
  refine wZ (λk l=>∃i ys G H',Inv B [] G H' l/\tn i l.heap/\(∀b∈fp,H' b=b_)/\W i k ys G H') (λk s5 hI=>?_) m0 ⟨0,[],_,_,I4,ay aE,λb j=>(af b j).1.1,w0⟩;obtain⟨i,ys,ag,H5,I5,t5,f5,w5⟩:=hI;obtain⟨hD,ar⟩:=turn i k ys ag H5 w5;have ah:∀{Z:bV->cp->Prop},∀(e:bV)(l:cp),B.xe e l->Z e l:=λe l z=>by rw[bo]at z;exact gu z
  rcases ar with⟨stop,q⟩|⟨go,step⟩;.have z:=T.done B M N aI U i [] s5 ag H5 (λ_ _=>False) I5 (λb j=>ff j (f5 b j)) t5 stop;rw[hA]at z;refine fy z (?_) λ_ _ z=>gu z;rintro r s6⟨hr,I6⟩;subst hr;exact fin I6 q
  . have z:=T.item B M N aI U i [] s5 ag H5 (λ_ _=>False) I5 (λb j=>ff j (f5 b j)) t5 go;rw[hA]at z;refine fy z (?_) λ_ _ z=>gu z;rintro r s6⟨u,hr,z6⟩;subst hr;refine fy z6 (?_) λ_ _ z=>gu z;rintro _ s7⟨x,H7,I7,r7,y7,t7,f7⟩;have bS:=I7.pinned (λb j=>ff j (f7 b j)) (T.obj _ _ t7)--what the pins keep
    have back:∀{G:_L.St}{H':Hp}{l:cp},Inv B ([]++tu fp s7.heap) G H' l->Inv B [] G H' l/\tn (i+1) l.heap/\∀b∈fp,H' b=b_:=λ{G H' l}Y=>by refine⟨Y.oW,T.keep _ _ _ t7 λb j o e=>(Y.pin (b,o) (gA _ (gA _ (jV j e)))).1,λb j=>?_⟩;obtain⟨o,e,_⟩:=T.obj _ _ t7 b j;exact(Y.pin (b,o) (gA _ (gA _ (jV j e)))).2.1
    have z7:=bp _ s7 ag H7 x u _ bS r7 (step x H7 y7);rw[hA,M,N]at z7;refine fy z7 (?_) ah;rintro _ s8⟨ac,H8,I8,q8⟩;have z8:=bq _ s8 ac H8 _ I8 q8;rw[hA,M,N]at z8;refine fy z8 (?_) ah;rintro b s9⟨H9,I9,q9⟩;cases b with|false=>rw[if_neg eH]at q9 ⊢;obtain⟨m',hm,w'⟩:=q9;obtain⟨b1,b2,b3⟩:=back I9;exact⟨m',hm,i+1,ys,ac,H9,b1,b2,b3,w'⟩|true=>rw[if_pos rfl]at q9 ⊢;have z9:=br _ s9 ac H9 _ I9 q9;rw[hA,M,N]at z9;refine fy z9 (?_) ah;rintro y jM⟨yv,aT,bX,ca,cb,ba,m',hm,w'⟩;have bg:=uV _ jM ac aT (.ref s.heap.objs.size) [yv] (.ref s.heap.objs.size) [y] (λv bi=>bi=upd aT s.heap.objs.size (.lst (ys++[yv]))) bX rfl (.cons ca .nil) ⟨_,ys,yv,rfl,rfl,cb,ba,rfl⟩;rw[hA,M,N]at bg;refine fy bg (?_) ah;rintro _ jD⟨_,bi,cf,_,ci⟩;subst ci;obtain⟨b1,b2,b3⟩:=back cf;exact⟨m',hm,i+1,ys++[yv],ac,_,b1,b2,b3,w'⟩
 have e3:({s3 with heap:=L,toks:=s3.toks}:cp)={s with heap:=L}:=by rw[<-ap]
 rw[aS,e3]at ab;exact codeAny_compStart_list ab (T.self _ 0 _ _ _ (ay aE) ab)
end
section
variable{X:Cx}{elt target iter:eB}{ifs:List eB}{scope:k8}{pos:Pos}{N':List Str}{n:Nat}{wi:TI}{g:TG}{tt:TT}{te:TE}
noncomputable def uQ(n:Nat)(wi:TI)(g:TG)(tt:TT)(te:TE):TE:=λσ H Q=>wi σ H λJ a=>∀D,a D=b_->∃W,(∃m,W 0 m [] (σ++dV n b_) (upd a D (.lst [])))/\Rg J g tt te D (λH'=>Q (.ref D) H') W
theorem oE{a:List (dQ×Obj)}{σ:_L.St}{H:Hp}{s:cp}(I:Inv X a σ H s)(ok:iz X scope N' n):∃cl,closureFor scope X.env=fI cl/\(∀n c,cl.lookup n=aD c->X.env.cells.lookup n=aD c)/\∀n,(n,fN)∈scope.names->(cl.lookup n).isSome:=Bf λm b=>I.ok.has m (ok.cap (m,.free) b rfl)
theorem Od(hc:X.calm=ck)(ok:iz X scope N' n)(hi:PI X target iter wi)(r:∀cl C s₀ H₀ ex,PG (uY X scope N' cl C s₀ H₀ ex) target g)(t:∀cl C s₀ H₀ ex,Vc (uY X scope N' cl C s₀ H₀ ex) ifs tt)(he:∀cl C s₀ H₀ ex,PE (uY X scope N' cl C s₀ H₀ ex) elt te)(hs:∀x,gd iter X.env x=fI x:=by intro _;rfl):PE X (.ListComp elt [⟨target,iter,ifs,0⟩] scope pos) (uQ n wi g tt te):=by intro a s σ H Q I h;obtain⟨cl,c,i,u⟩:=oE I ok;rw[eval_ListComp];refine rj (use:=b_) rfl hs c ok.kind ok.names (dz (hi a s σ H _ I h) λv s1 h1=>dz h1 λy s2 z=>?_);obtain⟨it,N,O,J,U,rfl,B,T,t0,f2,E⟩:=z;refine u9 (Q:=λD H'=>Q (.ref D) H') (RR:=λj C=>compPost (ef X.prog X.w) X.A X.xe b_ (EP X a σ Q) j C) hc ok B i u T t0 f2 r t he E λD C G H' q l f L=>?_;obtain⟨m,l⟩:=l;refine⟨m,l,λh' p=>⟨.ref D,H',?_,rfl,q⟩⟩;exact L.turned (t':=G.toks) (λb o M e=>p.extBut b o M e) f.1 f.2.1 f.2.2.2.1 f.2.2.2.2.1 f.2.2.2.2.2
theorem Fo{i:Nat}{x:Str}{c j:Pos}(hc:X.calm=ck)(U:X.N.Nodup)(t:X.N[i]?=aD x)(W:Loc X.env.scope x)(ok:iz X scope N' n)(hi:PI X target iter wi)(Y:∀cl C s₀ H₀ ex,PG (uY X scope N' cl C s₀ H₀ ex) target g)(Z:∀cl C s₀ H₀ ex,Vc (uY X scope N' cl C s₀ H₀ ex) ifs tt)(he:∀cl C s₀ H₀ ex,PE (uY X scope N' cl C s₀ H₀ ex) elt te)(u:jn (.ListComp elt [⟨target,iter,ifs,0⟩] scope pos) (aD (.Name x c)) j.line X.env=fI ck)(hs:∀x,gd iter X.env x=fI x:=by intro _;rfl)(hf:X.fn x=ck\/X.env.scope.names.lookup x=aD .local:=by first|(left;rfl)|(right;rfl)|assumption):PS X (.Assign [.Name x c] (.ListComp elt [⟨target,iter,ifs,0⟩] scope pos) j) (Ov (uQ n wi g tt te) (jG i)):=by
 intro f s σ H D I h;obtain⟨cl,l,y,CQ⟩:=oE I ok;rw[exec_Assign_Name_used _ _ _ _ u];refine bx (rf (bx ?_));show d_ _ X.A (do let _<-comprehension (.ListComp elt [⟨target,iter,ifs,0⟩] scope pos) scope X.env _ (newList []) a_ (fF iter X.env) (aD (kC (.Name x c) X.env))) _ _ s;refine bx (fy (rj (use:=aD (kC (.Name x c) X.env)) (Q:=λ_ r=>SP X f D .next r) rfl hs l ok.kind ok.names (dz (hi f s σ H _ I h) λv s1 h1=>dz h1 λab s2 h2=>?_)) (λ_ r hq=>c_ (c_ hq)) λ_ _ e=>e);obtain⟨it,fp,tn,J,H2,rfl,I2,T,t0,f2,hw⟩:=h2;refine u9 (Q:=λDa H'=>D.nx (σ.set i (aD (.ref Da))) H') (RR:=λB C=>compPost (ef X.prog X.w) X.A X.xe (aD (kC (.Name x c) X.env)) (λ_ r=>SP X f D .next r) B C) hc ok I2 y CQ T t0 f2 Y Z he hw λDa C r H' q E p I'=>?_;obtain⟨m,E⟩:=E;show d_ _ X.A (kC (.Name x c) X.env (.ref Da)) _ _ _;refine wpAny_assign_Name (uL I' U t W (show RelV (.ref Da) (.ref Da)from rfl) (?_) hf);rintro G L⟨a,sb,ha⟩;have M:C≠a:=by
  rcases ha with rfl|ha;.exact p.2.1
  .exact λz=>p.2.2.2.2.1 x a ha z.symm
 refine⟨m,E.sameBut sb M,λh' O=>⟨_,H',?_,q⟩⟩;exact L.turned (t':=G.toks) (λb o hb e=>O.extBut b o hb e) p.1 p.2.1 p.2.2.2.1 p.2.2.2.2.1 p.2.2.2.2.2
noncomputable def afx(K:PySem.W.Frag)(c:TE):TI:=λσ H R=>c σ H λx b=>∃a,x=.ref a/\(((∃xs,fU K b a xs)/\R (VD K a) b)\/((∃xs,ir K b a xs)/\R (WY K a) b))
theorem vR{w l:eB}{t:TE}(y:PE X l t):PI X w l (afx X.K t):=by
 intro f s σ H R I h;refine dz (y f s σ H _ I h) ?_;rintro v s1⟨x,u,c,r1,j⟩;obtain⟨a,e,j⟩:=j;subst e;cases r1;rcases j with⟨⟨xs,m⟩,q⟩|⟨⟨xs,m⟩,q⟩
 . obtain⟨i,z,p,A⟩:=c.list m;refine iq p.isList ?_;refine⟨s1.heap.objs.size,[s1.heap.objs.size],_,_,u,rfl,c.kept (t':=s1.toks) λb o e=>eO e,G3 a _,⟨_,dZ _ rfl,rfl,rfl⟩,λb r=>?_,q⟩;have e:b=s1.heap.objs.size:=by simpa using r
   subst e;exact c.xg (di) (c.hok.fresh (di))
 . obtain⟨i,z,p,A⟩:=c.tuple m;refine gx (show s1.heap.IsTuple a i.toArray from p) ?_;refine⟨s1.heap.objs.size,[s1.heap.objs.size],_,_,u,rfl,c.kept (t':=s1.toks) λb o e=>eO e,Bq a _,⟨_,dZ _ rfl,rfl,rfl⟩,λb r=>?_,q⟩;have e:b=s1.heap.objs.size:=by simpa using r
   subst e;exact c.xg (di) (c.hok.fresh (di))
end
end _L
namespace _H
open PySem _L Spec PyProof.Rows
variable{v:V}{i m:Nat}{K:PySem.W.Frag}{F H:Hp}{ρ:List Sl}{σ:_L.St}{x:Str}{p':Pos}{is:List Nat}{ds:List D}{s:cp}{A:fb}{u':bV}
structure Walk(K:PySem.W.Frag)(F:Hp)(ρ:List Sl)(σ:_L.St)(H:Hp)(ul:List Sl->List Sl)(J:It)(ds:List D)(F1:Hp)(ρ1:List Sl)(H1:Hp):Prop where
 gs:GS K F1 ρ1 σ H1
 src:∀(n k:Nat)(F':Hp)(ρ':List Sl)(σ':_L.St)(H':Hp),bW K F1 (ρ1++dV n .aN) (σ++dV n b_) H1 F' ρ' σ' H'->(∀d,ds[k]?=aD d->J.go k H'/\∀x kW,J.Ia k H' x kW->∃F'',Ext F' H' F'' kW/\Rep K F'' x d)/\(ds.length<=k->J.stop k H')fin:∀F2 ρ2 σ2 H2,bW K F1 ρ1 σ H1 F2 ρ2 σ2 H2->bW K F ρ σ H F2 (ul ρ2) σ2 H2/\∀v r,dH K F2 ρ2 σ2 H2 ρ1 σ H1 v r->dH K F2 (ul ρ2) σ2 H2 ρ σ H v r
inductive tIt(K:PySem.W.Frag)(iv:Option Nat)(f:Ev)(σ:_L.St)(H:Hp)(R:It->Hp->Prop):Prop where|mk(F:Hp)(ρ:List Sl)(ds:List D)(ρ1:List Sl)(g:GS K F ρ σ H)(e:srcOf iv f ρ=.ok ds ρ1)(k:∀J F1 H1,Walk K F ρ σ H (bG ρ iv) J ds F1 ρ1 H1->R J H1)
section
variable{K:PySem.W.Frag}{F F1 H H1:Hp}{ρ ρ1:List Sl}{σ:_L.St}{ds:List D}{a:dQ}
theorem Eo{xs:List V}{c H':Hp}(f:ir K H' a xs)(r:aH K c xs ds)(s:aM c H')(k:Nat):(∀d,ds[k]?=aD d->(WY K a).go k H'/\∀x g,(WY K a).Ia k H' x g->∃b,Ext c H' b g/\Rep K b x d)/\(ds.length<=k->(WY K a).stop k H'):=by refine⟨λd hd=>?_,λh=>⟨xs,f,by rw[r.length];exact h⟩⟩;obtain⟨w,h1,j⟩:=r.get hd;refine⟨⟨xs,w,f,h1⟩,?_⟩;rintro x g⟨e,y⟩;subst e;have:=y xs f;rw[h1]at this;cases this;exact⟨c,.refl s,j⟩
theorem qY{xs:List V}{c H':Hp}(f:fU K H' a xs)(r:aH K c xs ds)(s:aM c H')(k:Nat):(∀d,ds[k]?=aD d->(VD K a).go k H'/\∀x g,(VD K a).Ia k H' x g->∃b,Ext c H' b g/\Rep K b x d)/\(ds.length<=k->(VD K a).stop k H'):=by refine⟨λd hd=>?_,λh=>⟨xs,f,by rw[r.length];exact h⟩⟩;obtain⟨w,h1,j⟩:=r.get hd;refine⟨⟨xs,w,f,h1⟩,?_⟩;rintro x g⟨e,y⟩;subst e;have:=y xs f;rw[h1]at this;cases this;exact⟨c,.refl s,j⟩
theorem zy{ul:List Sl->List Sl}{d:D}(s:bW K F ρ σ H F1 ρ1 σ H1)(r:Rep K F1 v d)(hi:items d=aD ds)(fin:∀f b c g,bW K F1 ρ1 σ H1 f b c g->bW K F ρ σ H f (ul b) c g/\∀v r,dH K f b c g ρ1 σ H1 v r->dH K f (ul b) c g ρ σ H v r):∃a,v=.ref a/\(((∃xs,fU K H1 a xs)/\Walk K F ρ σ H ul (VD K a) ds F1 ρ1 H1)\/((∃xs,ir K H1 a xs)/\Walk K F ρ σ H ul (WY K a) ds F1 ρ1 H1)):=by cases d with|tup es=>cases hi;rw[Rep]at r;obtain⟨a,xs,rfl,h1,h⟩:=r;exact⟨a,rfl,.inr ⟨⟨xs,aM.gO s.gs.sub h1⟩,s.gs,λn k o j l H' e=>Eo (aM.gO e.gs.sub (aM.gO e.cI h1)) (h.mono e.cI) e.gs.sub k,fin⟩⟩|lst es=>cases hi;rw[Rep]at r;obtain⟨a,xs,rfl,h1,h⟩:=r;exact⟨a,rfl,.inl ⟨⟨xs,s.gs.sub.seq h1⟩,s.gs,λn k o j l H' e=>qY (e.gs.sub.seq (e.cI.seq h1)) (h.mono e.cI) e.gs.sub k,fin⟩⟩|_=>cases hi
theorem vm{ul:List Sl->List Sl}(g:GS K F ρ1 σ H)(e:ρ1[i]?=aD (.lent ds))(fin:∀f b c h,bW K F ρ1 σ H f b c h->bW K F ρ σ H f (ul b) c h/\∀v r,dH K f b c h ρ1 σ H v r->dH K f (ul b) c h ρ σ H v r):∃a,σ[i]?=aD (aD (.ref a))/\(∃xs,fU K H a xs)/\Walk K F ρ σ H ul (VD K a) ds F ρ1 H:=by obtain⟨a,xs,h1,o,B,C⟩:=g.wC i _ ds e rfl;have hi:i<ρ1.length:=(gC e).1;refine⟨a,h1,⟨xs,fU.of o⟩,g,λn k E p q H' j=>?_,fin⟩;obtain⟨l,t,u,w⟩:=j.lk i _ (by rw[ei hi];exact e) rfl;cases(show t=.lent ds from w);rw[ei (by rw[<-g.len];exact hi),h1]at l;obtain⟨G,ys,w1,y,I,z⟩:=j.gs.wC i _ ds u rfl;rw[l]at w1;cases w1;exact qY (fU.of y) z j.gs.sub k
end
section
variable{X:Cx}{c:Call}{n:Nat}{e a b d tg:eB}{p pa pb pd:P}{pos:Pos}
theorem mW{t t':TI}(h:PI X tg e t)(i:∀σ H R,t' σ H R->t σ H R):PI X tg e t':=λf s σ H R I q=>h f s σ H R I (i σ H R q)
noncomputable def SI(X:Cx)(c:Call)(tg e:eB)(p:P):Prop:=PI X tg e (tIt X.K (isVar p) (_H.ev c p))
theorem cY(h:SX X c e p):SI X c tg e p:=by unfold SI;cases hv:isVar p with|none=>refine mW (vR h.ev) ?_;rintro σ H R⟨F,ρ,ds,u,g,e,k⟩;obtain⟨r,f,L,t⟩:=aj e;have y:=aF t;clear t;obtain⟨t,B⟩:=y;subst B;refine⟨F,ρ,r,_,g,L,λv U H' s C=>?_⟩;obtain⟨l,s2,_,M⟩:=s.fG C;obtain⟨a,E,G⟩:=zy (ul:=bG ρ b_) s2 M t λF3 N O W s3=>⟨s2.trans s3,λv r C=>C.later s2⟩;exact⟨a,E,G.imp (λ⟨z,w⟩=>⟨z,k _ _ _ w⟩) (λ⟨z,w⟩=>⟨z,k _ _ _ w⟩)⟩|some i=>
   refine mW (vR (h.var i hv)) ?_;rintro σ H R⟨F,ρ,ds,u,g,e,k⟩;unfold srcOf at e;dsimp only at e;split at e
   . rename_i b d q;have y:=aF e;clear e;obtain⟨t,B⟩:=y;subst B;obtain⟨v,h1,Q⟩:=g.val i b d q;have fin:∀l f j o,bW X.K F ρ σ H l f j o->bW X.K F ρ σ H l (bG ρ (aD i) f) j o/\∀v r,dH X.K l f j o ρ σ H v r->dH X.K l (bG ρ (aD i) f) j o ρ σ H v r:=λl f j o s=>by unfold bG;dsimp only;rw[q];exact⟨s,λ_ _ z=>z⟩
     obtain⟨a,E,G⟩:=zy (ul:=bG ρ (aD i)) (.refl g) Q t fin;exact⟨v,h1,a,E,G.imp (λ⟨z,w⟩=>⟨z,k _ _ _ w⟩) (λ⟨z,w⟩=>⟨z,k _ _ _ w⟩)⟩
   . rename_i b I q;cases e;have hi:i<ρ.length:=(gC q).1;have fin:∀l f j o,bW X.K F (ρ.set i (.lent ds)) σ H l f j o->bW X.K F ρ σ H l (bG ρ (aD i) f) j o/\∀v r,dH X.K l f j o (ρ.set i (.lent ds)) σ H v r->dH X.K l (bG ρ (aD i) f) j o ρ σ H v r:=λl f j o s=>by unfold bG;dsimp only;rw[q];exact bW.bG g q s
     obtain⟨a,h1,J,w⟩:=vm (ul:=bG ρ (aD i)) (g.lend q) (dS hi) fin;exact⟨_,h1,a,rfl,.inl ⟨J,k _ _ _ w⟩⟩
   . rename_i I q;cases e;have fin:∀l f j o,bW X.K F ρ σ H l f j o->bW X.K F ρ σ H l (bG ρ (aD i) f) j o/\∀v r,dH X.K l f j o ρ σ H v r->dH X.K l (bG ρ (aD i) f) j o ρ σ H v r:=λl f j o s=>by unfold bG;dsimp only;rw[q];exact⟨s,λ_ _ z=>z⟩
     obtain⟨a,h1,J,w⟩:=vm (ul:=bG ρ (aD i)) g q fin;exact⟨_,h1,a,rfl,.inl ⟨J,k _ _ _ w⟩⟩
   .cases e
theorem zj{F1 g:Hp}{f:List Sl}(s:bW K F ρ σ H F1 f σ g)(i j:Int):Walk K F ρ σ H (bG ρ b_) (Wu i (j-i).toNat) ((ej (j-i).toNat).map λ(k:Nat)=>D.int (i+(k:Int))) F1 f g:=by
 refine⟨s.gs,λn k o q t H' u=>⟨λd hd=>?_,λh=>?_⟩,λF3 w y I s3=>⟨s.trans s3,λv r z=>z.later s⟩⟩;.rw[eI]at hd;obtain⟨m,B,C⟩:=map_some hd;obtain⟨h1,l⟩:=gC B;rw[nv]at l;subst l;subst C;rw[i6]at h1;refine⟨h1,?_⟩;rintro x J⟨E,G⟩;subst E;subst G;exact⟨o,.refl u.gs.sub,bO _⟩
 .rw[en,i6]at h;exact h
theorem dm(t:x="range")(u:Gl X x)(w:X.mg x=b_)(y:SX X c a pa)(hs:ea [a] X.env=[(a_,fF a X.env)]:=by rfl):SI X c tg (.Call (.Name x p') [a] [] pos) (.nJ (.con (.int 0)) pa):=by
 subst t;obtain⟨Q,h1,z⟩:=y.cT;refine mW (Gr u w (eN h1 jr hs) hs) ?_;rintro σ H R⟨F,ρ,ds,B,g,e,k⟩;obtain⟨r,C,q,h⟩:=aj e;have l:=aF h;clear h;obtain⟨h,E⟩:=l;subst E;rw[_H.E19]at q;obtain⟨U,G,I,f⟩:=aj q;have l:=aF f;clear f;obtain⟨f,J⟩:=l;subst J;obtain⟨W,L,M,o⟩:=aj I;cases o;obtain⟨i,f1,f⟩:=bF f;obtain⟨j,f2,f⟩:=bF f;obtain⟨⟨b1,b2,b3,b4⟩,f⟩:=bL f;have f1:i=0:=by cases f1;rfl
 subst f1;subst f;cases h;cases bK f2;refine z g M λv N H' s O=>⟨j,by rw[O.int],by lia,by lia,?_⟩;have:=zj s 0 j;rw[Int.sub_zero]at this;refine k _ N H' ?_;rw[Int.sub_zero];exact this
theorem qQ(y:x="range")(z:Gl X x)(B:X.mg x=b_)(C:SX X c a pa)(E:SX X c b pb)(hs:ea [a,b] X.env=[(a_,fF a X.env),(a_,fF b X.env)]:=by rfl)(h:ea [b] X.env=[(a_,fF b X.env)]:=by rfl):SI X c tg (.Call (.Name x p') [a,b] [] pos) (.nJ pa pb):=by subst y;obtain⟨W,Y,h1,G,I⟩:=C.jH E;refine mW (uM z B (eN h1 (eN G jr h) (by rw[hs,h])) hs h) ?_;rintro σ H R⟨F,ρ,ds,J,g,e,k⟩;obtain⟨r,L,o,l⟩:=aj e;have q:=aF l;clear l;obtain⟨l,M⟩:=q;subst M;rw[_H.E19]at o;obtain⟨Z,N,O,f⟩:=aj o;have q:=aF f;clear f;obtain⟨f,Q⟩:=q;subst Q;obtain⟨i,f1,f⟩:=bF f;obtain⟨j,f2,f⟩:=bF f;obtain⟨⟨b1,b2,b3,b4⟩,f⟩:=bL f;subst f;cases l;refine I g O λv u U H' s t w=>⟨i,j,?_,by lia,k _ U H' (zj s i j)⟩;have o:=bK f1;have l:=bK f2;rw[o]at t;rw[l]at w;rw[t.int,w.int]
end
section
variable{X:Cx}{c:Call}{n:Nat}{e a b d tg iter:eB}{p pa pb pd:P}{pos:Pos}{body:List fR}{ss:List S}
noncomputable def KC(K:PySem.W.Frag)(bd:List Sl->D->Option (List Sl))(g:TG):Prop:=∀(x:V)(d:D)(F:Hp)(ρ f:List Sl)(σ:_L.St)(H:Hp)(Q:_L.St->Hp->Prop),GS K F ρ σ H->Rep K F x d->bd ρ d=aD f->(∀h,bW K F ρ σ H F f h H->Q h H)->g x σ H Q
theorem Dl(i:Nat):KC K (λρ d=>put ρ i (.val a_ d)) (jG i):=λx d F ρ f σ H Q g r h k=>k _ (bW.put (r:=.val d) (.refl g) r h)
theorem aY:∀(is:List Nat)(gs:HW),(∀(xs:List V)(ds:List D)(F:Hp)(ρ f:List Sl)(σ:_L.St)(H:Hp)(Q:_L.St->Hp->Prop),GS K F ρ σ H->aH K F xs ds->putAll ρ is ds=aD f->(∀j,bW K F ρ σ H F f j H->Q j H)->gs xs σ H Q)->∀i,∀(xs:List V)(ds:List D)(F:Hp)(ρ f:List Sl)(σ:_L.St)(H:Hp)(Q:_L.St->Hp->Prop),GS K F ρ σ H->aH K F xs ds->putAll ρ (i::is) ds=aD f->(∀j,bW K F ρ σ H F f j H->Q j H)->uO (jG i) gs xs σ H Q:=by intro is gs o i xs ds F ρ f σ H Q g r h k;cases ds with|nil=>simp[jZ,iB,nF,nC]at h|cons d ds=>obtain⟨v,vs,rfl,h1,q⟩:=r.cW;rw[iB]at h;obtain⟨l,t,u⟩:=bF h;have s1:=bW.put (r:=.val d) (.refl g) h1 t;refine⟨v,vs,rfl,o vs ds F l f _ H _ s1.gs q u λj s2=>k j (s1.trans s2)⟩
theorem fX:∀(xs:List V)(ds:List D)(F:Hp)(ρ f:List Sl)(σ:_L.St)(H:Hp)(Q:_L.St->Hp->Prop),GS K F ρ σ H->aH K F xs ds->putAll ρ [] ds=aD f->(∀j,bW K F ρ σ H F f j H->Q j H)->P0 xs σ H Q:=by intro xs ds F ρ f σ H Q g r h k;cases ds with|nil=>rw[jZ]at h;cases h;exact⟨r.ie,k σ (.refl g)⟩|cons d ds=>simp[jZ,iB,nF,nC]at h
theorem m8:∀{is:List Nat}{ds:List D}{ρ f:List Sl},putAll ρ is ds=aD f->ds.length=is.length|[],[],_,_,_=>rfl|[],_::_,_,_,h=>by simp[jZ,iB,nF,nC]at h|_::_,[],_,_,h=>by simp[jZ,iB,nF,nC]at h|i::is,d::ds,ρ,f,h=>by rw[iB]at h;obtain⟨g,l,j⟩:=bF h;simp[m8 j]
theorem jc{gs:HW}(q:m=is.length)(h:∀(xs:List V)(ds:List D)(F:Hp)(ρ f:List Sl)(σ:_L.St)(H:Hp)(Q:_L.St->Hp->Prop),GS K F ρ σ H->aH K F xs ds->putAll ρ is ds=aD f->(∀l,bW K F ρ σ H F f l H->Q l H)->gs xs σ H Q):KC K (λρ d=>cF ρ is a_ d) (Np K m gs):=by intro x d F ρ f σ H Q g r j k;replace j:cF ρ is a_ d=aD f:=j;cases d with|tup ds=>replace j:putAll ρ is ds=aD f:=j;rw[Rep]at r;obtain⟨a,xs,rfl,h1,o⟩:=r;exact⟨a,xs,rfl,aM.gO g.sub h1,by rw[o.length,m8 j,q],h xs _ F ρ f σ H Q g o j k⟩|_=>cases j
theorem pK{g:TG}{one:Bool}(hp:oQ (ef X.prog X.w) X.A X.env X.xe)(hc:X.calm=ck)(hi:SI X c tg iter p)(hg:PG X tg g)(Y:KC X.K (λρ d=>cF ρ is one d) g)(hb:SB X c n body ss)(hs:∀x,gd iter X.env x=fI x:=by intro _;rfl):SS X c n (.For tg iter body [] pos) (.jk p is one ss):=by
 refine gH (Ay hp hc hi hg hb hs) ?_;rintro D σ H⟨F,ρ,fl,q,g0,e,k⟩;rw[_H.X13]at e;obtain⟨ds,l,e1,e⟩:=aj e;obtain⟨ac,G,e2,e⟩:=aj e;cases e;refine⟨F,ρ,ds,l,g0,e1,λJ F1 Z w=>?_⟩;have src:∀(i:Nat)(Q:Hp)(q:List Sl)(h:_L.St)(H':Hp),bW X.K F1 l σ Z Q q h H'->(∀d,ds[i]?=aD d->J.go i H'/\∀x kW,J.Ia i H' x kW->∃I,Ext Q H' I kW/\Rep X.K I x d)/\(ds.length<=i->J.stop i H'):=λi Q q h H' s=>w.src 0 i Q q h H' (by simpa using s);refine⟨λi m o U=>∃E f,bW X.K F1 l σ Z E f o U/\m=ds.length-i/\i<=ds.length/\ju is one (jC c n ss) (ds.drop i) f=.ok fl G,⟨_,F1,l,.refl w.gs,rfl,tY,e2⟩,?_⟩;rintro i m o U⟨E,f,W,rfl,ae,j⟩;obtain⟨s1,s2⟩:=src i E f o U W;by_cases t:i<ds.length
 . right;have hd:ds[i]?=aD ds[i]:=by simp[t]
   obtain⟨go,step⟩:=s1 _ hd;refine⟨go,λh H'=>∃m',m'<ds.length-i/\∃E f,bW X.K F1 l σ Z E f h H'/\m'=ds.length-(i+1)/\i+1<=ds.length/\ju is one (jC c n ss) (ds.drop (i+1)) f=.ok fl G,λh H' z=>z,λx H' y=>?_⟩;obtain⟨F2,ext,rx⟩:=step x H' y;have L:=W.trans (ext.stp W.gs);rw[hR t,Bv]at j;cases hbd:cF f is one ds[i]with|none=>rw[hbd]at j;cases j|some M=>rw[hbd]at j;obtain⟨N,B,eb,j⟩:=aj j;refine Y x _ F2 f M o H' _ L.gs rx hbd λaf sb=>?_;have C:=L.trans sb;refine⟨F2,M,N,B,C.gs,eb,λF4 O H4 s4=>?_⟩;have u:=C.trans s4;cases N with|next=>exact⟨_,by lia,F4,B,u,rfl,t,j⟩|cont=>exact⟨_,by lia,F4,B,u,rfl,t,j⟩|brk=>cases j;exact k F4 O H4 (w.fin _ _ _ _ u).1|ret r=>cases j;intro v rr;obtain⟨z1,z2⟩:=w.fin _ _ _ _ u;exact k F4 O H4 z1 v (z2 v r (rr.later C))
 . left;have ab:ds.drop i=[]:=by rw[md];lia
   rw[ab,Jd]at j;cases j;exact⟨s2 (by lia),k E o U (w.fin _ _ _ _ W).1⟩
theorem uR(i:Nat):(λ(ρ:List Sl)(d:D)=>cF ρ [i] ck d)=λρ d=>put ρ i (.val a_ d):=by funext ρ d;rfl
theorem Ex{f:Pos}(h:oQ (ef X.prog X.w) X.A X.env X.xe)(hc:X.calm=ck)(j:X.N.Nodup)(g:X.N[i]?=aD x)(l:Loc X.env.scope x)(hi:SI X c (.Name x f) iter p)(o:SB X c n body ss)(hs:∀x,gd iter X.env x=fI x:=by intro _;rfl)(q:X.fn x=ck\/X.env.scope.names.lookup x=aD .local:=by first|(left;rfl)|(right;rfl)|assumption):SS X c n (.For (.Name x f) iter body [] pos) (.jk p [i] ck ss):=pK h hc hi (aq j g l q) (by rw[uR];exact Dl i) o hs
end
section
variable{X:Cx}{c:Call}{n:Nat}{e elt tg iter:eB}{p ps pe:P}{pos:Pos}{scope:k8}{N':List Str}{ifs:List eB}
theorem Ut{t t':TE}(h:PE X e t)(i:∀σ H Q,σ.length=X.N.length->t' σ H Q->t σ H Q):PE X e t':=λa s σ H Q I q=>h a s σ H Q I (i σ H Q I.len q)
theorem V6{st:fR}{t t':TS}(h:PS X st t)(i:∀D σ H,σ.length=X.N.length->t' D σ H->t D σ H):PS X st t':=λa s σ H D I q=>h a s σ H D I (i D σ H I.len q)
noncomputable def qd(K:PySem.W.Frag)(m:Nat)(is:List Nat)(one:Bool)(g:TG):Prop:=∀(x:V)(d:D)(F:Hp)(ρ b:List Sl)(σ:_L.St)(H:Hp)(Q:_L.St->Hp->Prop),GS K F ρ σ H->Rep K F x d->cF ρ is one d=aD b->(∀a,bW K F ρ σ H F b a H->a.take m=σ.take m->Q a H)->g x σ H Q
theorem take_set{b:Type}{l:List b}{a:b}(h:m<=i):(l.set i a).take m=l.take m:=by rw[List.take_set_of_le h]
theorem bI(h:m<=i):qd K m [i] ck (jG i):=λx d F ρ a σ H Q g r b k=>k _ (bW.put (r:=.val d) (.refl g) r b) (take_set h)
noncomputable def N5(K:PySem.W.Frag)(m:Nat)(is:List Nat)(gs:HW):Prop:=∀(xs:List V)(ds:List D)(F:Hp)(ρ b:List Sl)(σ:_L.St)(H:Hp)(Q:_L.St->Hp->Prop),GS K F ρ σ H->aH K F xs ds->putAll ρ is ds=aD b->(∀a,bW K F ρ σ H F b a H->a.take m=σ.take m->Q a H)->gs xs σ H Q
theorem aX{gs:HW}(hi:m<=i)(j:N5 K m is gs):N5 K m (i::is) (uO (jG i) gs):=by intro xs ds F ρ a σ H Q g r h k;cases ds with|nil=>simp[jZ,iB,nF,nC]at h|cons d ds=>obtain⟨v,vs,rfl,h1,l⟩:=r.cW;rw[iB]at h;obtain⟨b,o,q⟩:=bF h;have s1:=bW.put (r:=.val d) (.refl g) h1 o;exact⟨v,vs,rfl,j vs ds F b a _ H _ s1.gs l q λf s2 z=>k f (s1.trans s2) (z.trans (take_set hi))⟩
theorem fB:N5 K m [] P0:=by intro xs ds F ρ a σ H Q g r h k;cases ds with|nil=>rw[jZ]at h;cases h;exact⟨r.ie,k σ (.refl g) rfl⟩|cons d ds=>simp[jZ,iB,nF,nC]at h
theorem fC{gs:HW}{l:Nat}(o:l=is.length)(h:N5 K m is gs):qd K m is a_ (Np K l gs):=by intro x d F ρ b σ H Q g r f k;cases d with|tup ds=>replace f:putAll ρ is ds=aD b:=f;rw[Rep]at r;obtain⟨a,xs,rfl,h1,j⟩:=r;exact⟨a,xs,rfl,aM.gO g.sub h1,by rw[j.length,m8 f,o],h xs _ F ρ b σ H Q g j f k⟩|_=>cases f
noncomputable def SQ(X:Cx)(c:Call)(ifs:List eB)(t:Option P):Prop:=Vc X ifs (J7 X.K (lr c t))
theorem bB:SQ X c [] b_:=λa s σ H Q I⟨F,ρ,k,ρ',g,e,q⟩=>by rw[lr]at e;cases e;exact Px a s σ H Q I (q F H (.refl g))
theorem qM(h:ST X c e p):SQ X c [e] (aD p):=λa s σ H Q I⟨F,ρ,k,ρ',g,e,q⟩=>by rw[lr]at e;exact Qg h a s σ H Q I ⟨F,ρ,k,ρ',g,e,q⟩
theorem bW.K7{F1 j:Hp}{f:List Sl}{g:_L.St}{Da:dQ}{o:HO}(s:bW K F ρ σ H F1 f g j)(h:H Da=b_)(r:F1 Da=b_)(ho:¬ Own f g Da):bW K F ρ σ H F1 f g (upd j Da o):=by
 refine⟨⟨λb u e=>?_,s.gs.len,s.gs.val,λi t ds e l=>?_,s.gs.dis⟩,s.cI,s.zK,λb u e n=>?_,s.xF,s.len,s.lk⟩
 . have:b≠Da:=by rintro rfl;rw[r]at e;cases e
   rw[aG this];exact s.gs.sub b u e
 . obtain⟨a,xs,q,w,y,z⟩:=s.gs.own i t ds e l;have:a≠Da:=by rintro rfl;exact ho ⟨i,⟨t,ds,e,l⟩,q⟩
   exact⟨a,xs,q,by rw[aG this];exact w,y,z⟩
 . have:b≠Da:=by rintro rfl;rw[h]at e;cases e
   rw[aG this];exact s.keep b u e n
theorem Ir{b r:List Sl}{ul:List Sl->List Sl}{ti:TI}{one:Bool}{u:List Sl->Res Bool}{el:Ev}{g:TG}{Q:VK}{xs:List D}(hm:σ.length=m)(ah:qd K m is one g)(ai:∀R:It->Hp->Prop,(∀J F1 W,Walk K F ρ σ H ul J ds F1 b W->R J W)->ti σ H R)(ar:ds.length<=lim)(e2:turns is one u el ds [] (b++dV n .aN)=.ok xs r)(k:∀v F' H',bW K F ρ σ H F' (ul (r.take b.length)) σ H'->dH K F' (ul (r.take b.length)) σ H' ρ σ H v (.own xs)->Q v H'):uQ n ti g (J7 K u) (xW K el) σ H Q:=by
 refine ai _ λJ F1 W w Da O=>?_;have am:b.length=σ.length:=w.gs.len;have gm:=w.gs.more (n:=n) (τ:=dV n b_) (by simp);have fD:F1 Da=b_:=by cases q:F1 Da with|none=>rfl|some o=>rw[w.gs.sub Da o q]at O;cases O
 have nO:¬ Own (b++dV n .aN) (σ++dV n b_) Da:=λ⟨i,⟨t,dt,q1,q2⟩,q3⟩=>by obtain⟨a,ys,z1,z2,_⟩:=gm.own i t dt q1 q2;rw[q3]at z1;cases z1;rw[O]at z2;cases z2
 refine⟨λi mm ys f G=>∃E h l,bW K F1 (b++dV n .aN) (σ++dV n b_) W E h f G/\f.take m=σ/\G Da=aD (.lst ys)/\E Da=b_/\¬ Own h f Da/\aH K E ys l/\l.length<=i/\mm=ds.length-i/\i<=ds.length/\turns is one u el (ds.drop i) l h=.ok xs r,⟨_,F1,_,[],(bW.refl gm).K7 O fD nO,by rw[nX (by lia),jI (by lia)],bf,fD,nO,.nil,tY,rfl,tY,e2⟩,?_⟩;rintro i mm ys f G⟨E,h,l,Y,I,Z,hF,hO,rs,av,rfl,aw,j⟩;refine⟨Z,?_⟩--what stays of the new list through a step
 have stay:∀{L U:Hp}{M:List Sl}{B:_L.St},bW K E h f G L M B U->U Da=aD (.lst ys)/\L Da=b_/\¬ Own M B Da:=λ{L U M B}s=>by
  refine⟨s.keep Da _ Z hO,?_,λo=>?_⟩;.cases q:L Da with|none=>rfl|some o=>
      rcases s.zK Da hF (by rw[q];simp)with z|z;.exact absurd z hO
      .exact(K1 Z z).elim
  . rcases s.xF Da o with z|z;.exact hO z
    .rw[Z]at z;cases z
 obtain⟨s1,s2⟩:=w.src n i E h f G Y;by_cases C:i<ds.length
 . right;have hd:ds[i]?=aD ds[i]:=by simp[C]
   obtain⟨go,step⟩:=s1 _ hd;refine⟨go,λx U y=>?_⟩;obtain⟨L,ext,rx⟩:=step x U y;have t2:=ext.stp Y.gs;rw[hR C,Bj]at j;cases hbd:cF h is one ds[i]with|none=>rw[hbd]at j;cases j|some ab=>rw[hbd]at j;obtain⟨bb,N,eb,j⟩:=aj j;refine ah x _ L h ab f U _ t2.gs rx hbd λB sb ac=>?_;have t3:=t2.trans sb;refine⟨L,ab,bb,N,t3.gs,eb,λF4 H4 s4=>?_⟩;have t4:=t3.trans s4;cases bb with|false=>rw[if_neg eH]at j;obtain⟨y1,y2,y3⟩:=stay t4;exact⟨_,by lia,F4,N,l,Y.trans t4,ac.trans I,y1,y2,y3,rs.mono t4.cI,by lia,rfl,C,j⟩|true=>
       rw[if_pos rfl]at j;obtain⟨re,ae,ee,j⟩:=aj j;refine(show xW K el B H4 _ from⟨F4,N,re,ae,t4.gs,ee,λv F5 H5 s5 rr=>?_⟩);obtain⟨F6,s6,_,rp⟩:=s5.fG rr;have t6:=t4.trans s6;obtain⟨y1,y2,y3⟩:=stay t6;have af:ys.length<sizeLine:=by have h1:=rs.length;have h2:lim=sizeLine:=rfl;lia
       exact⟨y1,af,_,by lia,F6,ae,l++[re.d],(Y.trans t6).K7 O y2 y3,ac.trans I,bf,y2,y3,(rs.mono t6.cI).append (.cons rp .nil),by simp;lia,rfl,C,j⟩
 . left;have ap:ds.drop i=[]:=by rw[md];lia
   rw[ap,Bp]at j;cases j;refine⟨s2 (by lia),?_⟩;obtain⟨l1,l2⟩:=bW.less (m:=b.length) rfl w.gs (by simp) Y;have ag:f.take b.length=σ:=by rw[am,hm];exact I
   rw[ag]at l1;have rr:dH K E r f G (b++dV n .aN) (σ++dV n b_) W (.ref Da) (.own xs):=⟨Da,ys,rfl,Z,hF,rs,hO,.inr O⟩;have R0:=l2 _ _ rr;rw[ag]at R0;obtain⟨z1,z2⟩:=w.fin _ _ _ _ l1;exact k _ E G z1 (z2 _ _ R0)
theorem Ew{q:Option Nat}{f:Ev}{one:Bool}{b:List Sl->Res Bool}{w:Ev}{g:TG}{Q:VK}{r:R}{j:List Sl}(z:σ.length=m)(t:qd K m is one g)(B:GS K F ρ σ H)(e:((srcOf q f ρ).bind λds a=>if ds.length<=lim then(turns is one b w ds [] (a++dV n .aN)).bind λxs l=>Res.ok (R.own xs) (bG ρ q (l.take a.length))else .stuck)=.ok r j)(k:∀v y H',bW K F ρ σ H y j σ H'->dH K y j σ H' ρ σ H v r->Q v H'):uQ n (tIt K q f) g (J7 K b) (xW K w) σ H Q:=by
 obtain⟨ds,u,C,e⟩:=aj e;split at e;.rename_i o;obtain⟨xs,E,G,e⟩:=aj e;cases e;exact Ir z t (λR h=>⟨F,ρ,ds,u,B,C,h⟩) o G k
 .cases e
theorem bZ{g:TG}{one:Bool}{t:Option P}(hc:X.calm=ck)(ok:iz X scope N' n)(hi:SI X c tg iter ps)(b:∀cl C s₀ H₀ ex,PG (uY X scope N' cl C s₀ H₀ ex) tg g)(a:qd X.K X.N.length is one g)(f:∀cl C s₀ H₀ ex,SQ (uY X scope N' cl C s₀ H₀ ex) c ifs t)(he:∀cl C s₀ H₀ ex,SX (uY X scope N' cl C s₀ H₀ ex) c elt pe)(hs:∀x,gd iter X.env x=fI x:=by intro _;rfl):SX X c (.ListComp elt [⟨tg,iter,ifs,0⟩] scope pos) (.comp ps n is one t pe):=by refine⟨Ut (Od (tt:=J7 X.K (lr c t)) (te:=xW X.K (_H.ev c pe)) hc ok hi b f (λcl C s₀ H₀ ex=>(he cl C s₀ H₀ ex).ev) hs) ?_,λi h=>by cases h⟩;rintro σ H Q j⟨F,ρ,r,l,o,e,k⟩;rw[_H.E18]at e;exact Ew j a o e k
theorem gR{a b:Pos}{nn:Nat}{g:TG}{one:Bool}{t:Option P}(hc:X.calm=ck)(q:X.N.Nodup)(h:X.N[i]?=aD x)(u:Loc X.env.scope x)(ok:iz X scope N' n)(hi:SI X c tg iter ps)(w:∀cl C s₀ H₀ ex,PG (uY X scope N' cl C s₀ H₀ ex) tg g)(j:qd X.K X.N.length is one g)(y:∀cl C s₀ H₀ ex,SQ (uY X scope N' cl C s₀ H₀ ex) c ifs t)(he:∀cl C s₀ H₀ ex,SX (uY X scope N' cl C s₀ H₀ ex) c elt pe)(l:jn (.ListComp elt [⟨tg,iter,ifs,0⟩] scope pos) (aD (.Name x a)) b.line X.env=fI ck:=by rfl)(hs:∀x,gd iter X.env x=fI x:=by intro _;rfl)(z:X.fn x=ck\/X.env.scope.names.lookup x=aD .local:=by first|(left;rfl)|(right;rfl)|assumption):SS X c nn (.Assign [.Name x a] (.ListComp elt [⟨tg,iter,ifs,0⟩] scope pos) b) (.asg i (.comp ps n is one t pe)):=by refine V6 (Fo (tt:=J7 X.K (lr c t)) (te:=xW X.K (_H.ev c pe)) hc q h u ok hi w y (λcl C s₀ H₀ ex=>(he cl C s₀ H₀ ex).ev) l hs z) ?_;rintro D σ H B⟨F,ρ,U,E,G,e,k⟩;rw[_H.X6]at e;obtain⟨r,I,o,e⟩:=aj e;obtain⟨J,L,f,e⟩:=aj e;cases e;have M:=aF f;clear f;obtain⟨f,W⟩:=M;rw[_H.E18]at o;exact Ew B j G o λv F1 O s1 Q=>k F1 _ O (s1.put Q f)
end
section
variable{X:Cx}{c:Call}{n:Nat}{e a b d:eB}{p pa pb pd:P}{pos:Pos}{es:List eB}{ps:List P}
inductive rBn(K:PySem.W.Frag)(f:List D->Option R)(xs:List V)(H:Hp)(Q:VK):Prop where|mk(F:Hp)(ds:List D)(r:R)(sm:aM F H)(rs:aH K F xs ds)(he:f ds=aD r)(k:∀v F' H',Ext F H F' H'->dh K F' H' H v r->Q v H')
theorem Q5{E:eB}{f:List D->Option R}{q:P}(o:∀{t},PA X es t->PE X E (tCB (rBn X.K f) t))(u:SA X c es ps)(y:∀ρ,_H.ev c q ρ=(evs c ps ρ).bind λds ρ=>lift (f ds) ρ)(hv:isVar q=b_):SX X c E q:=by refine⟨gG (o u.1) ?_,λi h=>by rw[hv]at h;cases h⟩;rintro σ H Q⟨F,ρ,r,z,g,e,k⟩;rw[y]at e;obtain⟨ds,l,B,j⟩:=aj e;have C:=aF j;clear j;obtain⟨j,G⟩:=C;subst G;exact⟨F,ρ,ds,l,g,B,λvs I H' s J=>⟨I,ds,r,s.gs.sub,J,j,λw L M x N=>k w L M (s.trans (x.stp s.gs)) (.later s (N.wL s.gs))⟩⟩
theorem RM{xs:List V}{i j:Int}(h:aH K F xs [.int i,.int j]):xs=[.int i,.int j]:=by obtain⟨v,r,rfl,h1,g⟩:=h.cW;obtain⟨u,o,rfl,f,l⟩:=g.cW;rw[Rep]at h1 f;rw[h1,f,l.ie]
theorem inv2{f:Blt}{g:Int->Int->Int}{r:R}(h0:blt f []=b_)(h1:∀a,blt f [a]=b_)(q:∀a b c l,blt f (a::b::c::l)=b_)(t:∀a b,dX a=a_->blt f [a,b]=b_)(u:∀i b,dX b=a_->blt f [.int i,b]=b_)(hi:∀i j,blt f [.int i,.int j]=aD (.val (.int (g i j))))(he:blt f ds=aD r):∃i j,ds=[.int i,.int j]/\r=.val (.int (g i j)):=by
 rcases ds with _|⟨a,_|⟨b,_|⟨c,l⟩⟩⟩;.rw[h0]at he;cases he
 .rw[h1]at he;cases he
 . by_cases h:dX a=ck
   . obtain⟨i,rfl⟩:∃i,a=.int i:=by cases a<;>first|exact⟨_,rfl⟩|cases h
     by_cases o:dX b=ck
     . obtain⟨j,rfl⟩:∃j,b=.int j:=by cases b<;>first|exact⟨_,rfl⟩|cases o
       rw[hi]at he;cases he;exact⟨i,j,rfl,rfl⟩
     .rw[u i b (by simpa using o)]at he;cases he
   .rw[t a b (by simpa using h)]at he;cases he
 .rw[q]at he;cases he
theorem Tg(hc:X.calm=ck):dO X (.builtin "min") (rBn X.K (blt .min2)):=by rintro f s σ H xs o Q I r⟨F,ds,t,sm,q,he,k⟩;obtain⟨i,j,rfl,rfl⟩:=inv2 (g:=λi j=>if j<i then j else i) rfl (λa=>by cases a<;>rfl) (λa b c l=>by cases a<;>first|rfl|(cases b<;>rfl)) (λa b h=>by cases a<;>first|rfl|cases h) (λi b h=>by cases b<;>first|rfl|cases h) (λ_ _=>rfl) he;rw[RM q]at r;exact Gi hc f s σ H _ o Q I r ⟨_,_,rfl,dh.eX sm (bO _) k⟩
theorem Vi(hc:X.calm=ck):dO X (.builtin "max") (rBn X.K (blt .max2)):=by rintro f s σ H xs o Q I r⟨F,ds,t,sm,q,he,k⟩;obtain⟨i,j,rfl,rfl⟩:=inv2 (g:=λi j=>if i<j then j else i) rfl (λa=>by cases a<;>rfl) (λa b c l=>by cases a<;>first|rfl|(cases b<;>rfl)) (λa b h=>by cases a<;>first|rfl|cases h) (λi b h=>by cases b<;>first|rfl|cases h) (λ_ _=>rfl) he;rw[RM q]at r;exact Hg hc f s σ H _ o Q I r ⟨_,_,rfl,dh.eX sm (bO _) k⟩
theorem boot_min:gc "min"=aD (.builtin "min"):=by decide+kernel
theorem boot_max:gc "max"=aD (.builtin "max"):=by decide+kernel
theorem wk(f:x="min")(hc:X.calm=ck)(g:Gl X x)(j:X.mg x=b_)(l:SA X c [a,b] [pa,pb])(hs:ea [a,b] X.env=(a_,fF a X.env)::ea [b] X.env:=by rfl)(hpl:(kN pos (ea [b] X.env)).any (·.1)=a_:=by rfl):SX X c (.Call (.Name x p') [a,b] [] pos) (.blt .min2 [pa,pb]):=by subst f;exact Q5 (λh=>fj (Tg hc) g j boot_min h (he:=hs) (hpl:=hpl)) l (λρ=>rfl) rfl
theorem vO(f:x="max")(hc:X.calm=ck)(g:Gl X x)(j:X.mg x=b_)(l:SA X c [a,b] [pa,pb])(hs:ea [a,b] X.env=(a_,fF a X.env)::ea [b] X.env:=by rfl)(hpl:(kN pos (ea [b] X.env)).any (·.1)=a_:=by rfl):SX X c (.Call (.Name x p') [a,b] [] pos) (.blt .max2 [pa,pb]):=by subst f;exact Q5 (λh=>fj (Vi hc) g j boot_max h (he:=hs) (hpl:=hpl)) l (λρ=>rfl) rfl
end
section
variable{X:Cx}{c:Call}{n:Nat}{e a b d:eB}{p pa pb pd:P}{pos:Pos}{es:List eB}{ps:List P}
theorem PK(g:GS K F ρ σ H)(h:pkL ρ i=aD ds):∃a xs,σ[i]?=aD (aD (V.ref a))/\fU K H a xs:=by
 unfold pkL at h;split at h;.rename_i q;cases h;obtain⟨v,h1,f⟩:=g.pk q;obtain⟨a,xs,rfl,j,_⟩:=f.lst g.sub;exact⟨a,xs,h1,j⟩
 .cases h
theorem qI{k:Nat}{h f:Pos}(J:X.N[k]?=aD x)(hv:xR X.env.scope x)(hi:SX X c b pb)(he:SX X c e p)(L:∀ v,kC (.Subscript (.Name x h) b f) X.env v=(do
  let l<-kq [v] (fF (.Name x h) X.env)let u<-kq [v,l] (fF b X.env)pE f
  kq [v,l,u] (pS l u v)release [v,l,u] []):=by intro _;rfl)(hs:ls [.Subscript (.Name x h) b f] e pos.line X.env=fI a_:=by rfl)(M:lv [.Subscript (.Name x h) b f] e X.env=fI b_:=by rfl)(h1:(kd [.Subscript (.Name x h) b f] X.env).map (·.2)=[kC (.Subscript (.Name x h) b f) X.env]:=by rfl)(hd:(x==("__debug__":Str))=a_:=by decide)(w:(x==("__classdict__":Str))=a_:=by decide):SS X c n (.Assign [.Subscript (.Name x h) b f] e pos) (.CN k pb p):=by
 obtain⟨ti,y,z⟩:=hi.cT;refine gH (vM he.ev (Bd (gP J hv hd w) y set_list L) hs M h1) ?_;rintro D σ H⟨F,ρ,fl,O,g,e,Q⟩;rw[_H.X8]at e;obtain⟨r,B,U,e⟩:=aj e;obtain⟨x0,E,t,e⟩:=aj e;have W:=aF t;clear t;obtain⟨t,Y⟩:=W;subst Y;obtain⟨dk,Z,e2,e⟩:=aj e;refine⟨F,ρ,r,B,g,U,λv F1 H1 s1 rr=>?_⟩;obtain⟨F2,s2,_,rp⟩:=s1.fG rr;obtain⟨o,ho,_⟩:=s2.gs.pk t;refine⟨o,ho,z s2.gs e2 λvi F3 H3 s3 pi=>?_⟩;split at e
 . rename_i bb ds C q;split at e;.rename_i j hj;cases e;obtain⟨ad,xs,G,q2,q3,I⟩:=s3.gs.wC k _ ds q rfl;rw[ho]at G;cases G;refine⟨ad,xs,C,j,rfl,pi.int,q2,by rw[I.length];exact hj,?_⟩;exact Q F3 σ _ ((s2.trans s3).trans (s3.gs.mut q ho (I.set (rp.mono s3.cI) j)))
   .cases e
 .cases e
theorem dC{k:Nat}{o h f:Pos}(G:X.N[k]?=aD x)(hv:xR X.env.scope x)(he:SX X c e p)(j:(h.endLine==f.line)=ck:=by rfl)(hs:ea [e] X.env=(a_,fF e X.env)::ea [] X.env:=by rfl)(l:rX (.Name x o) "append" X.env (fF (.Name x o) X.env)=fF (.Name x o) X.env:=by rfl)(t:((kN f (ea [e] X.env)).all (λx=>!x.1)&&(backToKw f (tq [] X.env)).all (λx=>x.1.isSome)&&decide ([e].length+([]:List pX).length+(if([]:List pX).isEmpty then 0 else 1)<30))=ck:=by rfl)(w:jn (.Call (.Attribute (.Name x o) "append" h) [e] [] f) b_ pos.line X.env=fI a_:=by rfl)(hd:(x==("__debug__":Str))=a_:=by decide)(y:(x==("__classdict__":Str))=a_:=by decide):SS X c n (.Expr (.Call (.Attribute (.Name x o) "append" h) [e] [] f) pos) (.app k p):=by
 refine gH (O5 (aat PySem.F.plainAttrs_list PySem.F.slot_list_append PySem.F.type_list_append uV (gP G hv hd y) (eN he.ev jr hs) l t j hs) w) ?_;rintro D σ H⟨F,ρ,fl,I,g,e,J⟩;rw[_H.X9]at e;obtain⟨d0,L,u,e⟩:=aj e;have M:=aF u;clear u;obtain⟨u,O⟩:=M;subst O;obtain⟨r,z,Q,e⟩:=aj e;obtain⟨a,xs,h1,U⟩:=PK g u;refine⟨.ref a,h1,.inl ⟨rfl,xs,U⟩,F,ρ,r,z,g,Q,λv F1 H1 s1 W=>?_⟩;obtain⟨Y,s2,_,Z⟩:=s1.fG W;split at e
 . rename_i bb ds q;split at e;.rename_i B;cases e;obtain⟨ad,ys,C,q2,q3,E⟩:=s2.gs.wC k _ ds q rfl;rw[h1]at C;cases C;exact⟨_,ys,v,rfl,rfl,q2,by rw[E.length];exact B,J Y σ _ (s2.trans (s2.gs.mut q h1 (E.append (.cons Z .nil))))⟩
   .cases e
 .cases e
theorem Ib{bs:List Bool}(h:ds.mapM Cu=aD bs):ds=bs.map D.bl:=by induction ds generalizing bs with|nil=>simp at h;subst h;rfl|cons d ds f=>rw[sd]at h;cases hd:Cu d with|none=>rw[hd]at h;cases h|some k=>rw[hd]at h;cases hr:ds.mapM Cu with|none=>rw[hr]at h;cases h|some r=>rw[hr]at h;cases h;rw[eK,<-f hr,oh hd]
theorem Ed{K:PySem.W.Frag}{F:Hp}:∀{bs:List Bool}{xs:List V},aH K F xs (bs.map D.bl)->xs=bs.map V.bl|[],_,h=>h.ie|k::bs,_,h=>by obtain⟨v,r,rfl,h1,f⟩:=h.cW;rw[Rep]at h1;rw[h1,Ed f];rfl
theorem Dn:∀{bs:List Bool}{f:List bV},Vals (bs.map V.bl) f->f=bs.map kT|[],_,h=>h.zero|k::bs,_,.cons r t=>by rw[eK,<-Dn t,show _=_ from r]
theorem Qt{id:String}{f:List Bool->Bool}(hc:X.calm=ck)(rule:∀{x:bV}{Q:bV->cp->Prop}{s:cp},d_ (ef X.prog X.w) X.A.in1 (oD x) (λit g=>∃ I E q n P St t,it=.ref I/\Walks X.prog X.w X.A.in1 I E q n P St/\St 0 g.heap/\TruthOf X.prog X.w X.A.in1 P t/\∀h' y,(∀b o,b∉q->g.heap.get? b=aD o->h'.get? b=aD o)->Q (.bool (f ((ej n).map t))) {g with heap:=h',toks:=y}) X.xe s->d_ (ef X.prog X.w) X.A (call (.builtin id) [x]) Q X.xe s):dO X (.builtin id) (λxs H Q=>∃p ys bs,xs=[.ref p]/\fU X.K H p ys/\ys=bs.map V.bl/\Q (.bl (f bs)) H):=by
 rintro B s σ H xs Z Q I r⟨p,ys,bs,G,J,L,k⟩;subst G;subst L;obtain⟨u,rfl,M⟩:=r.one;cases M;obtain⟨N,O,pl,hz⟩:=I.list J;have h:=Dn O;subst h;refine rule (iq pl.isList ?_);have l:p≠s.heap.objs.size:=by obtain⟨o,h1,_⟩:=pl.isList;exact eS (eA h1)
 refine⟨s.heap.objs.size,_,_,_,_,_,λi=>bs.getD i a_,rfl,Walks.list (prog:=X.prog) (w:=X.w) (A:=X.A.in1) (show X.A.in1.handled=b_ from I.ok.hd hc) s.heap.objs.size p l (bs.map kT).toArray,⟨⟨_,dZ _ rfl,rfl,rfl⟩,?_⟩,?_,λh' y kp=>?_⟩;.obtain⟨o,h1,C⟩:=pl.isList;exact⟨o,eO h1,C⟩
 . intro i v s' Q' E' j U;have hv:v=.bool (bs.getD i a_):=by
    have j:(bs.map kT)[i]?=aD v:=by simpa using j
    rw[eI]at j;obtain⟨k',W,Y⟩:=map_some j;rw[<-Y,ow,W];rfl
   subst hv;exact jx U
 . have e:f ((ej (bs.map kT).toArray.size).map λi=>bs.getD i a_)=f bs:=by
    congr 1;apply kc;.simp
    .intro i h1 C;simp at h1;simp[h1]
   rw[e];exact⟨.bl _,H,I.kept (λb o z=>kp b o (by simp;exact eS (eA z)) (eO z)),rfl,k⟩
theorem Zc(hc:X.calm=ck):dO X (.builtin "all") (Hm X.K λx=>blt .all [x]):=by rintro g s σ H xs q Q I r⟨x,t,F,d,u,sm,w,he,k⟩;obtain⟨bs,y,he⟩:=map_some (show((sI d).bind λds=>ds.mapM Cu).map _=aD u from he);subst he;obtain⟨ds,j,B⟩:=bF y;have C:=Ib B;cases d with|lst es=>cases j;obtain⟨p,ys,rfl,E,l⟩:=w.lst sm;rw[C]at l;refine Qt (f:=λbs=>bs.all id) hc (λh=>call_all_walk (fy h (λit o⟨I,fp,wr,n,P,Sx,tr,h1,h2,h3,h4,h5⟩=>⟨I,fp,wr,n,P,Sx,tr,h1,h2,h3,h4,λh' G kp=>?_⟩) λ_ _ z=>z)) g s σ H xs q Q I r ⟨p,ys,bs,t,E,Ed l,dh.eX sm (lN _) k⟩;have z:=h5 h' G kp;rw[lm]at z;exact z|_=>cases j
theorem boot_all:gc "all"=aD (.builtin "all"):=by decide+kernel
theorem jq(f:x="all")(hc:X.calm=ck)(g:Gl X x)(j:X.mg x=b_)(l:SX X c a pa)(hs:ea [a] X.env=(a_,fF a X.env)::ea [] X.env:=by rfl):SX X c (.Call (.Name x p') [a] [] pos) (.blt .all [pa]):=by subst f;exact kI (λh=>fj (Zc hc) g j boot_all h (he:=hs)) l (λρ=>rfl) rfl hs
end
section
variable{K:PySem.W.Frag}
theorem lB:∀{xs ys:List D},xs.length≠ys.length->jt xs ys=a_|[],[],h=>absurd rfl h|[],_::_,_=>by simp[nH,jN,qX,sX]|_::_,[],_=>by simp[nH,jN,qX,sX]|x::xs,y::ys,h=>by rw[jN,lB (xs:=xs) (ys:=ys) (by simpa using h),oz]
theorem je:∀{xs ys:List D},xs.length=ys.length->jt xs ys=(ej xs.length).all λj=>mZ (xs.getD j .non) (ys.getD j .non)|[],[],_=>by rw[nH];rfl|[],_::_,h=>by simp at h|_::_,[],h=>by simp at h|x::xs,y::ys,h=>by rw[jN,je (xs:=xs) (ys:=ys) (by simpa using h),ia,List.range_succ_eq_map,oe,lm];rfl
mutual
theorem yI:∀d:D,mZ d d=ck|.non=>rfl|.bl _=>by exact beq_self_eq_true _|.int _=>by exact beq_self_eq_true _|.str _=>by exact beq_self_eq_true _|.tup ds=>by exact my ds|.lst ds=>by exact my ds|.dD _=>by exact decide_eq_true rfl|.dv ks ds=>by show(decide (ks=ks)&&jt ds ds)=ck;rw[my ds];simp
theorem my:∀ds:List D,jt ds ds=ck|[]=>by rw[nH]|d::ds=>by rw[jN,yI d,my ds];rfl
end
theorem gZ{d e:D}(b:flat d=ck)(h1:Rep K F v d)(a:Rep K F v e):d=e:=by cases d with
 |tup _=>cases b|lst _=>cases b|dD _=>cases b|dv _ _=>cases b|non=>rw[Rep]at h1;subst h1;cases e with|non=>rfl|tup _=>rw[Rep]at a;obtain⟨_,_,q,_⟩:=a;cases q|lst _=>rw[Rep]at a;obtain⟨_,_,q,_⟩:=a;cases q|dD _=>rw[Rep]at a;obtain⟨_,_,q,_⟩:=a;cases q|dv _ _=>rw[Rep]at a;obtain⟨_,_,_,q,_⟩:=a;cases q|_=>rw[Rep]at a;cases a
 |bl k=>rw[Rep]at h1;subst h1;cases e with|bl _=>rw[Rep]at a;cases a;rfl|tup _=>rw[Rep]at a;obtain⟨_,_,q,_⟩:=a;cases q|lst _=>rw[Rep]at a;obtain⟨_,_,q,_⟩:=a;cases q|dD _=>rw[Rep]at a;obtain⟨_,_,q,_⟩:=a;cases q|dv _ _=>rw[Rep]at a;obtain⟨_,_,_,q,_⟩:=a;cases q|_=>rw[Rep]at a;cases a
 |int k=>rw[Rep]at h1;subst h1;cases e with|int _=>rw[Rep]at a;cases a;rfl|tup _=>rw[Rep]at a;obtain⟨_,_,q,_⟩:=a;cases q|lst _=>rw[Rep]at a;obtain⟨_,_,q,_⟩:=a;cases q|dD _=>rw[Rep]at a;obtain⟨_,_,q,_⟩:=a;cases q|dv _ _=>rw[Rep]at a;obtain⟨_,_,_,q,_⟩:=a;cases q|_=>rw[Rep]at a;cases a
 |str k=>rw[Rep]at h1;subst h1;cases e with|str _=>rw[Rep]at a;cases a;rfl|tup _=>rw[Rep]at a;obtain⟨_,_,q,_⟩:=a;cases q|lst _=>rw[Rep]at a;obtain⟨_,_,q,_⟩:=a;cases q|dD _=>rw[Rep]at a;obtain⟨_,_,q,_⟩:=a;cases q|dv _ _=>rw[Rep]at a;obtain⟨_,_,_,q,_⟩:=a;cases q|_=>rw[Rep]at a;cases a
theorem QH{X:Cx}{t:List (dQ×Obj)}(I:_L.Inv X t σ H s)(sm:aM F H):∀n:Nat,(∀d:D,iV n d=ck->∀(v:V)(e:D),Rep X.K F v d->Rep X.K F v e->d=e):=by
 have L:∀{a:dQ}{xs ys:List V},ir X.K F a xs->fU X.K F a ys->False:=λ{a xs ys}h1 b=>by obtain⟨_,_,⟨o,g,j,_⟩,_⟩:=I.tuple (aM.gO sm h1);obtain⟨_,_,pl,_⟩:=I.list (sm.seq b);obtain⟨z,c,f,_⟩:=pl.isList;rw[g]at c;cases c;rw[j]at f;exact absurd f (by decide)
 have M:∀{a:dQ}{kvs:Dc},Rep X.K F (.ref a) (.dD kvs)->∃o,s.heap.get? a=aD o/\o.cls=.type "dict":=λ{a kvs}h=>by rw[Rep]at h;obtain⟨u,_,q,B⟩:=h;cases q;exact TJ I (sm _ _ B)
 have N:∀{a:dQ}{xs:List V}{kvs:Dc},ir X.K F a xs->Rep X.K F (.ref a) (.dD kvs)->False:=λ{a xs kvs}h1 b=>by obtain⟨_,_,⟨o,g,j,_⟩,_⟩:=I.tuple (aM.gO sm h1);obtain⟨z,c,f⟩:=M b;rw[g]at c;cases c;rw[j]at f;exact absurd f (by decide)
 have ld:∀{a:dQ}{xs:List V}{kvs:Dc},fU X.K F a xs->Rep X.K F (.ref a) (.dD kvs)->False:=λ{a xs kvs}h1 b=>by obtain⟨_,_,pl,_⟩:=I.list (sm.seq h1);obtain⟨o,g,j,_⟩:=pl.isList;obtain⟨z,c,f⟩:=M b;rw[g]at c;cases c;rw[j]at f;exact absurd f (by decide)
 have w:∀{a:dQ}{ks:List Int}{es:List D},Rep X.K F (.ref a) (.dv ks es)->∃o,s.heap.get? a=aD o/\o.cls=.type "dict":=λ{a ks es}h=>by rw[Rep]at h;obtain⟨u,_,_,q,B,_⟩:=h;cases q;exact VL I (sm _ _ B)
 have C:∀{a:dQ}{xs:List V}{ks:List Int}{es:List D},ir X.K F a xs->Rep X.K F (.ref a) (.dv ks es)->False:=λ{a xs ks es}h1 b=>by obtain⟨_,_,⟨o,g,j,_⟩,_⟩:=I.tuple (aM.gO sm h1);obtain⟨z,c,f⟩:=w b;rw[g]at c;cases c;rw[j]at f;exact absurd f (by decide)
 have E:∀{a:dQ}{xs:List V}{ks:List Int}{es:List D},fU X.K F a xs->Rep X.K F (.ref a) (.dv ks es)->False:=λ{a xs ks es}h1 b=>by obtain⟨_,_,pl,_⟩:=I.list (sm.seq h1);obtain⟨o,g,j,_⟩:=pl.isList;obtain⟨z,c,f⟩:=w b;rw[g]at c;cases c;rw[j]at f;exact absurd f (by decide)
 intro n;induction n with
 |zero=>intro d hd v e h1 b;cases d with|tup _=>simp[cA,bY,cu,cz,cj,cC]at hd|lst _=>simp[cA,bY,cu,cz,cj,cC]at hd|dD _=>simp[cA,bY,cu,cz,cj,cC]at hd|dv _ _=>simp[cA,bY,cu,cz,cj,cC]at hd|non=>exact gZ rfl h1 b|bl k=>exact gZ rfl h1 b|int k=>exact gZ rfl h1 b|str k=>exact gZ rfl h1 b
 |succ n O=>
   have all:∀{xs:List V}{ds es:List D},ds.all (iV n)=ck->aH X.K F xs ds->aH X.K F xs es->ds=es:=λ{xs ds}=>by induction ds generalizing xs with|nil=>intro es _ h1 b;rw[h1.ie]at b;have:=b.length;exact(kD this.symm).symm|cons d ds G=>intro es p h1 b;rw[oe,gi]at p;obtain⟨v,r,rfl,g,j⟩:=h1.cW;cases es with|nil=>cases b.ie|cons e es=>obtain⟨U,W,Q,c,f⟩:=b.cW;cases Q;rw[O d p.1 v e g c,G p.2 j f]
   intro d hd v e h1 b;cases d with
   |dD _=>simp[cA,bY,cu,cz,cj,cC]at hd|dv _ _=>simp[cA,bY,cu,cz,cj,cC]at hd|tup ds=>
     have p:ds.all (iV n)=ck:=by simpa[cA,bY,cu,cz,cj,cC]using hd
     rw[Rep]at h1;obtain⟨a,xs,rfl,l,J⟩:=h1;cases e with|tup es=>rw[Rep]at b;obtain⟨u,ys,q,w1,y⟩:=b;cases q;have:=I.jL (aM.gO sm l) (aM.gO sm w1);subst this;rw[all p J y]|lst es=>rw[Rep]at b;obtain⟨u,ys,q,w1,y⟩:=b;cases q;exact(L l w1).elim|dD _=>exact(N l b).elim|dv _ _=>exact(C l b).elim|_=>rw[Rep]at b;cases b
   |lst ds=>
     have p:ds.all (iV n)=ck:=by simpa[cA,bY,cu,cz,cj,cC]using hd
     rw[Rep]at h1;obtain⟨a,xs,rfl,l,J⟩:=h1;cases e with|lst es=>rw[Rep]at b;obtain⟨u,ys,q,w1,y⟩:=b;cases q;have:=I.nP (sm.seq l) (sm.seq w1);subst this;rw[all p J y]|tup es=>rw[Rep]at b;obtain⟨u,ys,q,w1,y⟩:=b;cases q;exact(L w1 l).elim|dD _=>exact(ld l b).elim|dv _ _=>exact(E l b).elim|_=>rw[Rep]at b;cases b
   |non=>exact gZ rfl h1 b|bl k=>exact gZ rfl h1 b|int k=>exact gZ rfl h1 b|str k=>exact gZ rfl h1 b
theorem Ec{d e:D}{u:V}{c:bV}(hd:flat d=ck)(he:flat e=ck)(h1:Rep K F v d)(a:Rep K F u e)(r1:RelV v c)(b:RelV u u'):kh A s c u' (mZ d e):=by cases d with
 |tup _=>cases hd|lst _=>cases hd|dD _=>cases hd|dv _ _=>cases hd|non=>rw[Rep]at h1;subst h1;cases(show c=.none from r1);cases e with|tup _=>cases he|lst _=>cases he|dD _=>cases he|dv _ _=>cases he|non=>rw[Rep]at a;subst a;cases(show u'=.none from b);exact SeqAt.EqAt.same _|bl _=>rw[Rep]at a;subst a;cases(show u'=.bool _ from b);exact SeqAt.EqAt.none_bool _|int _=>rw[Rep]at a;subst a;obtain⟨t,rfl⟩:=b;exact SeqAt.EqAt.none_int _ _|str _=>rw[Rep]at a;subst a;obtain⟨t,rfl⟩:=b;exact SeqAt.EqAt.none_str _ _
 |bl _=>rw[Rep]at h1;subst h1;cases(show c=.bool _ from r1);cases e with|tup _=>cases he|lst _=>cases he|dD _=>cases he|dv _ _=>cases he|non=>rw[Rep]at a;subst a;cases(show u'=.none from b);exact SeqAt.EqAt.bool_none _|bl _=>rw[Rep]at a;subst a;cases(show u'=.bool _ from b);exact SeqAt.EqAt.bool_bool _ _|int _=>rw[Rep]at a;subst a;obtain⟨t,rfl⟩:=b;exact SeqAt.EqAt.bool_int _ _ _|str _=>rw[Rep]at a;subst a;obtain⟨t,rfl⟩:=b;exact SeqAt.EqAt.bool_str _ _ _
 |int _=>rw[Rep]at h1;subst h1;obtain⟨t0,rfl⟩:=r1;cases e with|tup _=>cases he|lst _=>cases he|dD _=>cases he|dv _ _=>cases he|non=>rw[Rep]at a;subst a;cases(show u'=.none from b);exact SeqAt.EqAt.int_none _ _|bl _=>rw[Rep]at a;subst a;cases(show u'=.bool _ from b);exact SeqAt.EqAt.int_bool _ _ _|int _=>rw[Rep]at a;subst a;obtain⟨t,rfl⟩:=b;exact SeqAt.EqAt.int_int _ _ _ _|str _=>rw[Rep]at a;subst a;obtain⟨t,rfl⟩:=b;exact int_str _ _ _ _
 |str _=>rw[Rep]at h1;subst h1;obtain⟨t0,rfl⟩:=r1;cases e with|tup _=>cases he|lst _=>cases he|dD _=>cases he|dv _ _=>cases he|non=>rw[Rep]at a;subst a;cases(show u'=.none from b);exact SeqAt.EqAt.str_none _ _|bl _=>rw[Rep]at a;subst a;cases(show u'=.bool _ from b);exact SeqAt.EqAt.str_bool _ _ _|int _=>rw[Rep]at a;subst a;obtain⟨t,rfl⟩:=b;exact str_int _ _ _ _|str _=>rw[Rep]at a;subst a;obtain⟨t,rfl⟩:=b;exact SeqAt.EqAt.str_str _ _ _ _
theorem oG{e:D}{u:V}{a:dQ}{h:Array bV}(b:s.heap.IsTuple a h)(c:A.units<i9)(he:flat e=ck)(f:Rep K F u e)(g:RelV u u'):kh A s (.ref a) u' (mZ (.tup ds) e)/\kh A s u' (.ref a) (mZ e (.tup ds)):=by cases e with|tup _=>cases he|lst _=>cases he|dD _=>cases he|dv _ _=>cases he|non=>rw[Rep]at f;subst f;cases(show u'=.none from g);exact⟨SeqAt.EqAt.tuple_none b c,SeqAt.EqAt.none_tuple b c⟩|bl _=>rw[Rep]at f;subst f;cases(show u'=.bool _ from g);exact⟨SeqAt.EqAt.tuple_bool _ b c,SeqAt.EqAt.bool_tuple _ b c⟩|int _=>rw[Rep]at f;subst f;obtain⟨t,rfl⟩:=g;exact⟨SeqAt.EqAt.tuple_int _ _ b c,SeqAt.EqAt.int_tuple _ _ b c⟩|str _=>rw[Rep]at f;subst f;obtain⟨t,rfl⟩:=g;exact⟨SeqAt.EqAt.tuple_str _ _ b c,SeqAt.EqAt.str_tuple _ _ b c⟩
theorem oV{e:D}{u:V}{a:dQ}{h:Array bV}(b:s.heap.IsList a h)(c:A.units<i9)(he:flat e=ck)(f:Rep K F u e)(g:RelV u u'):kh A s (.ref a) u' (mZ (.lst ds) e)/\kh A s u' (.ref a) (mZ e (.lst ds)):=by cases e with|tup _=>cases he|lst _=>cases he|dD _=>cases he|dv _ _=>cases he|non=>rw[Rep]at f;subst f;cases(show u'=.none from g);exact⟨SeqAt.EqAt.list_none b c,SeqAt.EqAt.none_list b c⟩|bl _=>rw[Rep]at f;subst f;cases(show u'=.bool _ from g);exact⟨SeqAt.EqAt.list_bool _ b c,SeqAt.EqAt.bool_list _ b c⟩|int _=>rw[Rep]at f;subst f;obtain⟨t,rfl⟩:=g;exact⟨SeqAt.EqAt.list_int _ _ b c,SeqAt.EqAt.int_list _ _ b c⟩|str _=>rw[Rep]at f;subst f;obtain⟨t,rfl⟩:=g;exact⟨SeqAt.EqAt.list_str _ _ b c,SeqAt.EqAt.str_list _ _ b c⟩
theorem ym{n:Nat}{d:D}(h:iV n d=ck)(h0:n=0):flat d=ck:=by subst h0;cases d<;>first|rfl|simp[cA,bY,cu,cz,cj,cC]at h
theorem ady{X:Cx}{M:List (dQ×Obj)}(I:_L.Inv X M σ H s)(sm:aM F H):∀(n:Nat)(A:fb),A.units+n<i9->∀(d e:D),iV n d=ck->iV n e=ck->∀(v u:V)(N u':bV),Rep X.K F v d->Rep X.K F u e->RelV v N->RelV u u'->kh A s N u' (mZ d e):=by intro n;induction n with|zero=>intro A hu d e hd he v u N u' h1 f r1 g;exact Ec (ym hd rfl) (ym he rfl) h1 f r1 g|succ n ih=>
   intro A hu d e hd he v u N u' h1 f r1 g;have c:A.units<i9:=by lia
   have U:A.in1.units+n<i9:=by show A.units+1+n<i9;lia--items by place
   have O:∀{xs ys:List V}{t ws:List bV}{ds es:List D}{j:Nat}(E:j<t.toArray.size)(G:j<ws.toArray.size),ds.all (iV n)=ck->es.all (iV n)=ck->Vals xs t->Vals ys ws->aH X.K F xs ds->aH X.K F ys es->kh A.in1 s t.toArray[j] ws.toArray[j] (mZ (ds.getD j .non) (es.getD j .non)):=λ{xs ys t ws ds es j}E G a1 a2 J o h l=>by
    have E:j<t.length:=by simpa using E
    have G:j<ws.length:=by simpa using G
    have w:j<ds.length:=by rw[<-h.length,J.length];exact E
    have L:j<es.length:=by rw[<-l.length,o.length];exact G
    obtain⟨x,g1,g2⟩:=h.get (show ds[j]?=aD ds[j]by simp[w]);obtain⟨y,g3,g4⟩:=l.get (show es[j]?=aD es[j]by simp[L]);obtain⟨x',g5,g6⟩:=J.get g1;obtain⟨y',g7,g8⟩:=o.get g3;have e1:t.toArray[j]=x':=by have:=(gC g5).2;simpa using this
    have e2:ws.toArray[j]=y':=by have:=(gC g7).2;simpa using this
    have e3:ds.getD j .non=ds[j]:=by simp[kj,w]
    have e4:es.getD j .non=es[j]:=by simp[kj,L]
    rw[e1,e2,e3,e4];exact ih A.in1 U _ _ (eL.mp a1 _ (ic w)) (eL.mp a2 _ (ic L)) x y x' y' g2 g4 g6 g8--the same object
   have same:∀{a:dQ},v=.ref a->u=.ref a->kh A s N u' (mZ d e):=λ{a}q1 q2=>by subst q1;subst q2;have:=QH I sm (n+1) d hd _ e h1 f;subst this;rw[yI];cases r1;cases g;exact SeqAt.EqAt.same _
   cases d with
   |dD _=>simp[cA,bY,cu,cz,cj,cC]at hd|dv _ _=>simp[cA,bY,cu,cz,cj,cC]at hd|tup ds=>
     have W:ds.all (iV n)=ck:=by simpa[cA,bY,cu,cz,cj,cC]using hd
     have p:=h1;rw[Rep]at p;obtain⟨a,xs,rfl,Y,Q⟩:=p;cases r1;obtain⟨t,J,h,_⟩:=I.tuple (aM.gO sm Y)
     cases e with|dD _=>simp[cA,bY,cu,cz,cj,cC]at he|dv _ _=>simp[cA,bY,cu,cz,cj,cC]at he|tup es=>
       have Z:es.all (iV n)=ck:=by simpa[cA,bY,cu,cz,cj,cC]using he
       have q:=f;rw[Rep]at q;obtain⟨b,ys,rfl,w1,B⟩:=q;by_cases r:a=b;.subst r;exact same rfl rfl
       . cases g;obtain⟨ws,o,l,_⟩:=I.tuple (aM.gO sm w1);refine .of_refs r ?_;have z:=SeqAt.RcAt.tuples (A:=A) (e:=λj=>mZ (ds.getD j .non) (es.getD j .non)) h l c λj E G=>O E G W Z J o Q B;have w:t.toArray.size=ds.length:=by rw[ec,<-J.length,Q.length]
         have L:ws.toArray.size=es.length:=by rw[ec,<-o.length,B.length]
         rw[w,L]at z;have e0:mZ (.tup ds) (.tup es)=((ej (min ds.length es.length)).all (λj=>mZ (ds.getD j .non) (es.getD j .non))&&ds.length==es.length):=by
          rw[pqt];by_cases C:ds.length=es.length;.rw[je C,C];simp
          . rw[lB C];have:(ds.length==es.length)=a_:=by simpa using C
            rw[this,oz]
         rw[e0];exact z|lst es=>rw[Rep]at f;obtain⟨b,ys,rfl,w1,B⟩:=f;cases g;obtain⟨ws,o,l,_⟩:=I.list (sm.seq w1);exact SeqAt.EqAt.tuple_list h l.isList c|non=>exact(oG h c rfl f g).1|bl _=>exact(oG h c rfl f g).1|int _=>exact(oG h c rfl f g).1|str _=>exact(oG h c rfl f g).1
   |lst ds=>
     have W:ds.all (iV n)=ck:=by simpa[cA,bY,cu,cz,cj,cC]using hd
     have p:=h1;rw[Rep]at p
     obtain⟨a,xs,rfl,Y,Q⟩:=p;cases r1;obtain⟨t,J,h,_⟩:=I.list (sm.seq Y);cases e with|dD _=>simp[cA,bY,cu,cz,cj,cC]at he|dv _ _=>simp[cA,bY,cu,cz,cj,cC]at he|lst es=>
       have Z:es.all (iV n)=ck:=by simpa[cA,bY,cu,cz,cj,cC]using he
       have q:=f;rw[Rep]at q;obtain⟨b,ys,rfl,w1,B⟩:=q;by_cases r:a=b;.subst r;exact same rfl rfl
       . cases g;obtain⟨ws,o,l,_⟩:=I.list (sm.seq w1);refine .of_refs r ?_;have w:t.toArray.size=ds.length:=by rw[ec,<-J.length,Q.length]
         have L:ws.toArray.size=es.length:=by rw[ec,<-o.length,B.length]
         rw[pql];by_cases C:ds.length=es.length;.have z:=SeqAt.RcAt.lists (A:=A) (e:=λj=>mZ (ds.getD j .non) (es.getD j .non)) h.isList l.isList (by rw[w,L,C]) c λj E G=>O E G W Z J o Q B;rw[w]at z;rw[je C];exact z
         .rw[lB C];exact lists_lengths h.isList l.isList (by rw[w,L];simpa using C) c|tup es=>rw[Rep]at f;obtain⟨b,ys,rfl,w1,B⟩:=f;cases g;obtain⟨ws,o,l,_⟩:=I.tuple (aM.gO sm w1);exact SeqAt.EqAt.list_tuple h.isList l c|non=>exact(oV h.isList c rfl f g).1|bl _=>exact(oV h.isList c rfl f g).1|int _=>exact(oV h.isList c rfl f g).1|str _=>exact(oV h.isList c rfl f g).1
   |non|bl _|int _|str _=>cases e with|dD _=>simp[cA,bY,cu,cz,cj,cC]at he|dv _ _=>simp[cA,bY,cu,cz,cj,cC]at he|tup es=>rw[Rep]at f;obtain⟨b,ys,rfl,w1,B⟩:=f;cases g;obtain⟨ws,o,l,_⟩:=I.tuple (aM.gO sm w1);exact(oG l c rfl h1 r1).2|lst es=>rw[Rep]at f;obtain⟨b,ys,rfl,w1,B⟩:=f;cases g;obtain⟨ws,o,l,_⟩:=I.list (sm.seq w1);exact(oV l.isList c rfl h1 r1).2|_=>exact Ec rfl rfl h1 f r1 g
end
section
variable{X:Cx}{pins:List (dQ×Obj)}{σ:_L.St}{H F:Hp}{s:cp}{A:fb}
noncomputable abbrev RC(A:fb)(s:cp)(v u:bV)(k:Bool):Prop:=SeqAt.RcAt A s v u k/\SeqAt.RcNeAt A s v u (!k)
inductive Top(X:Cx)(F H:Hp)(s:cp):bV->D->Prop where|non:Top X F H s .none .non|bl(b:Bool):Top X F H s (.bool b) (.bl b)|int(i:Int)(t:Tok):Top X F H s (.int i t) (.int i)|str(x:Str)(t:Tok):Top X F H s (.str x t) (.str x)|tup{a:dQ}{us:List bV}{xs:List V}{ds:List D}(ht:s.heap.IsTuple a us.toArray)(hv:Vals xs us)(hr:aH X.K F xs ds):Top X F H s (.ref a) (.tup ds)|lst{a:dQ}{us:List bV}{xs:List V}{ds:List D}(ht:s.heap.IsList a us.toArray)(hv:Vals xs us)(hr:aH X.K F xs ds):Top X F H s (.ref a) (.lst ds)
theorem wU(I:_L.Inv X pins σ H s)(sm:aM F H){g:bV}{d:D}(hd:iV 8 d=ck)(h:gq X.K F H v d)(r:RelV v g):Top X F H s g d:=by cases d with|dD _=>simp[cA,bY,cu,cz,cj,cC]at hd|dv _ _=>simp[cA,bY,cu,cz,cj,cC]at hd|non=>rw[h.non]at r;cases r;exact .non|bl b=>rw[h.bl]at r;cases r;exact .bl b|int i=>rw[h.int]at r;obtain⟨t,rfl⟩:=r;exact .int i t|str x=>rw[h.str]at r;obtain⟨t,rfl⟩:=r;exact .str x t|tup ds=>obtain⟨a,xs,rfl,h1,c,_⟩:=h.tup sm;cases r;obtain⟨j,e,f,_⟩:=I.tuple h1;exact .tup f e c|lst ds=>obtain⟨a,xs,rfl,h1,c⟩:=h.lst sm;cases r;obtain⟨j,e,f,_⟩:=I.list h1;exact .lst f.isList e c
theorem YJ(I:_L.Inv X pins σ H s)(sm:aM F H){n:Nat}(hu:A.units+(n+1)<i9){d e:D}(hd:iV (n+1) d=ck)(he:iV (n+1) e=ck){M:bV}(h1:Top X F H s M d)(B:Top X F H s u' e):RC A s M u' (mZ d e):=by
 have c:A.units<i9:=by lia
 have L:A.in1.units+n<i9:=by show A.units+1+n<i9;lia
 have z:∀{xs ys:List V}{u ws:List bV}{ds es:List D}{j:Nat}(o:j<u.toArray.size)(p:j<ws.toArray.size),ds.all (iV n)=ck->es.all (iV n)=ck->Vals xs u->Vals ys ws->aH X.K F xs ds->aH X.K F ys es->kh A.in1 s u.toArray[j] ws.toArray[j] (mZ (ds.getD j .non) (es.getD j .non)):=λ{xs ys u ws ds es j}o p Z a2 N O Q U=>by
  have o:j<u.length:=by simpa using o
  have p:j<ws.length:=by simpa using p
  have q:j<ds.length:=by rw[<-Q.length,N.length];exact o
  have w:j<es.length:=by rw[<-U.length,O.length];exact p
  obtain⟨x,g1,g2⟩:=Q.get (show ds[j]?=aD ds[j]by simp[q]);obtain⟨y,g3,g4⟩:=U.get (show es[j]?=aD es[j]by simp[w]);obtain⟨W,g5,g6⟩:=N.get g1;obtain⟨Y,g7,g8⟩:=O.get g3;have e1:u.toArray[j]=W:=by have:=(gC g5).2;simpa using this
  have e2:ws.toArray[j]=Y:=by have:=(gC g7).2;simpa using this
  have e3:ds.getD j .non=ds[j]:=by simp[kj,q]
  have e4:es.getD j .non=es[j]:=by simp[kj,w]
  rw[e1,e2,e3,e4];exact ady I sm n A.in1 L _ _ (eL.mp Z _ (ic q)) (eL.mp a2 _ (ic w)) x y W Y g2 g4 g6 g8
 cases h1 with
 |non=>cases B with|non=>exact⟨SeqAt.RcAt.none_none,SeqAt.RcNeAt.none_none⟩|bl b=>exact⟨SeqAt.RcAt.none_bool _,SeqAt.RcNeAt.none_bool _⟩|int i t=>exact⟨SeqAt.RcAt.none_int _ _,none_int _ _⟩|str i t=>exact⟨SeqAt.RcAt.none_str _ _,none_str _ _⟩|tup f _ _=>exact⟨SeqAt.RcAt.none_tuple f c,SeqAt.RcNeAt.none_tuple f c⟩|lst f _ _=>exact⟨SeqAt.RcAt.none_list f c,SeqAt.RcNeAt.none_list f c⟩
 |bl b0=>cases B with|non=>exact⟨SeqAt.RcAt.bool_none _,SeqAt.RcNeAt.bool_none _⟩|bl b=>exact⟨SeqAt.RcAt.bool_bool _ _,SeqAt.RcNeAt.bool_bool _ _⟩|int i t=>exact⟨SeqAt.RcAt.bool_int _ _ _,bool_int _ _ _⟩|str i t=>exact⟨SeqAt.RcAt.bool_str _ _ _,bool_str _ _ _⟩|tup f _ _=>exact⟨SeqAt.RcAt.bool_tuple _ f c,SeqAt.RcNeAt.bool_tuple _ f c⟩|lst f _ _=>exact⟨SeqAt.RcAt.bool_list _ f c,SeqAt.RcNeAt.bool_list _ f c⟩
 |int i0 t0=>cases B with|non=>exact⟨SeqAt.RcAt.int_none _ _,int_none _ _⟩|bl b=>exact⟨SeqAt.RcAt.int_bool _ _ _,int_bool _ _ _⟩|int i t=>exact⟨SeqAt.RcAt.int_int _ _ _ _,int_int _ _ _ _⟩|str i t=>exact⟨SeqAt.RcAt.int_str _ _ _ _,SeqAt.RcNeAt.int_str _ _ _ _⟩|tup f _ _=>exact⟨SeqAt.RcAt.int_tuple _ _ f c,SeqAt.RcNeAt.int_tuple _ _ f c⟩|lst f _ _=>exact⟨SeqAt.RcAt.int_list _ _ f c,int_list _ _ f c⟩
 |str i0 t0=>cases B with|non=>exact⟨SeqAt.RcAt.str_none _ _,str_none _ _⟩|bl b=>exact⟨SeqAt.RcAt.str_bool _ _ _,str_bool _ _ _⟩|int i t=>exact⟨SeqAt.RcAt.str_int _ _ _ _,SeqAt.RcNeAt.str_int _ _ _ _⟩|str i t=>exact⟨SeqAt.RcAt.str_str _ _ _ _,str_str _ _ _ _⟩|tup f _ _=>exact⟨SeqAt.RcAt.str_tuple _ _ f c,SeqAt.RcNeAt.str_tuple _ _ f c⟩|lst f _ _=>exact⟨SeqAt.RcAt.str_list _ _ f c,str_list _ _ f c⟩
 |@tup a u xs ds f hv hr=>
   have C:ds.all (iV n)=ck:=by simpa[cA,bY,cu,cz,cj,cC]using hd
   cases B with|non=>exact⟨SeqAt.RcAt.tuple_none f c,SeqAt.RcNeAt.tuple_none f c⟩|bl b=>exact⟨SeqAt.RcAt.tuple_bool _ f c,SeqAt.RcNeAt.tuple_bool _ f c⟩|int i t=>exact⟨SeqAt.RcAt.tuple_int _ _ f c,SeqAt.RcNeAt.tuple_int _ _ f c⟩|str i t=>exact⟨SeqAt.RcAt.tuple_str _ _ f c,SeqAt.RcNeAt.tuple_str _ _ f c⟩|lst l _ _=>exact⟨SeqAt.RcAt.tuple_list f l c,SeqAt.RcNeAt.tuple_list f l c⟩|@tup b ws ys es l g h=>
     have E:es.all (iV n)=ck:=by simpa[cA,bY,cu,cz,cj,cC]using he
     have q:u.toArray.size=ds.length:=by rw[ec,<-hv.length,hr.length]
     have w:ws.toArray.size=es.length:=by rw[ec,<-g.length,h.length]
     have G:=SeqAt.RcAt.tuples (A:=A) (e:=λj=>mZ (ds.getD j .non) (es.getD j .non)) f l c λj o p=>z o p C E hv g hr h;have J:=SeqAt.RcNeAt.tuples (A:=A) (e:=λj=>mZ (ds.getD j .non) (es.getD j .non)) f l c λj o p=>z o p C E hv g hr h;rw[q,w]at G J;have e0:mZ (.tup ds) (.tup es)=((ej (min ds.length es.length)).all (λj=>mZ (ds.getD j .non) (es.getD j .non))&&ds.length==es.length):=by
      rw[pqt];by_cases r:ds.length=es.length;.rw[je r,r];simp
      . rw[lB r];have:(ds.length==es.length)=a_:=by simpa using r
        rw[this,oz]
     rw[e0];exact⟨G,J⟩
 |@lst a u xs ds f hv hr=>
   have C:ds.all (iV n)=ck:=by simpa[cA,bY,cu,cz,cj,cC]using hd
   cases B with|non=>exact⟨SeqAt.RcAt.list_none f c,SeqAt.RcNeAt.list_none f c⟩|bl b=>exact⟨SeqAt.RcAt.list_bool _ f c,SeqAt.RcNeAt.list_bool _ f c⟩|int i t=>exact⟨SeqAt.RcAt.list_int _ _ f c,list_int _ _ f c⟩|str i t=>exact⟨SeqAt.RcAt.list_str _ _ f c,list_str _ _ f c⟩|tup l _ _=>exact⟨SeqAt.RcAt.list_tuple f l c,SeqAt.RcNeAt.list_tuple f l c⟩|@lst b ws ys es l g h=>
     have E:es.all (iV n)=ck:=by simpa[cA,bY,cu,cz,cj,cC]using he
     have q:u.toArray.size=ds.length:=by rw[ec,<-hv.length,hr.length]
     have w:ws.toArray.size=es.length:=by rw[ec,<-g.length,h.length]
     rw[pql];by_cases r:ds.length=es.length;.have G:=SeqAt.RcAt.lists (A:=A) (e:=λj=>mZ (ds.getD j .non) (es.getD j .non)) f l (by rw[q,w,r]) c λj o p=>z o p C E hv g hr h;have J:=SeqAt.RcNeAt.lists (A:=A) (e:=λj=>mZ (ds.getD j .non) (es.getD j .non)) f l (by rw[q,w,r]) c λj o p=>z o p C E hv g hr h;rw[q]at G J;rw[je r];exact⟨G,J⟩
     .rw[lB r];exact⟨lists_lengths f l (by rw[q,w];simpa using r) c,SeqAt.RcNeAt.lists_lengths f l (by rw[q,w];simpa using r) c⟩
theorem iZ(b:X.A.units+8<i9):jb X (fE .Eq) (rD X.K (tW .eq)):=by rintro pins s σ H x y v u Q I c f⟨F,d,e,r,sm,g,h,he,k⟩;obtain⟨t,a,j⟩:=map_some (show(Mh d e).map _=aD r from he);subst j;unfold Mh at a;obtain⟨hd,a⟩:=bL a;rw[gi]at hd;subst a;exact(YJ I sm (n:=7) b hd.1 hd.2 (wU I sm hd.1 g c) (wU I sm hd.2 h f)).1 _ _ _ _ ⟨.bl _,H,I,rfl,dh.eX sm (lN _) k⟩
theorem jz(b:X.A.units+8<i9):jb X (fE .NotEq) (rD X.K (tW .ne)):=by rintro pins s σ H x y v u Q I c f⟨F,d,e,r,sm,g,h,he,k⟩;obtain⟨t,a,j⟩:=map_some (show(Ld d e).map _=aD r from he);subst j;unfold Ld at a;obtain⟨hd,a⟩:=bL a;rw[gi]at hd;subst a;exact(YJ I sm (n:=7) b hd.1 hd.2 (wU I sm hd.1 g c) (wU I sm hd.2 h f)).2 _ _ _ _ ⟨.bl _,H,I,rfl,dh.eX sm (lN _) k⟩
end
section
variable{Pg:ek}{w:fg}{K:PySem.W.Frag}{mg:Str->Option bV}{base:Heap}
theorem aaA{qual:Str}{st:fR}{f:dQ}{fd:ja}{N ps:List Str}{k n:Nat}{c:Call}{d:Fd}(C:iM K x qual st f fd)(S:aL N ps (aC st))(h1:d.np=ps.length)(t:d.nn=N.length)(G:∀(cdv:bV)(A:fb)(outer:List Env)(s:cp)(H:Hp)(E:XK),lM k (A.deeper (mE qual (aC st) s.heap.objs.size f cdv))->SB (Ax JC Pg w K mg base N qual (aC st) f cdv A outer s H E).ZR c n (iI st) d.body):o7 Pg w K mg base JC (k+1) f fd ps (PX K ps.length (λargs=>enter c n d args)):=by
 refine C.ok S (λvs H Q E h=>h.1) λcdv A outer s H vs Q E hr h=>?_;obtain⟨u,F,args,r,l,g,e,q⟩:=h;refine⟨_,G cdv A outer s H E hr,?_⟩;replace e:enter c n d args=.ok r l:=e;unfold enter at e;split at e
 . rename_i hc;obtain⟨c1,c2⟩:=hc;have I:=g.more (n:=d.nn-d.np) (τ:=dV (N.length-vs.length) b_) (by simp[h1,t,u]);have o:args.length=d.np:=c1;have go:∀{p:Fl}{a:List Sl},jC c n d.body (args++dV (d.nn-d.np) .aN)=.ok p a->(∀j b H',bW K F (args++dV (d.nn-d.np) .aN) (start N vs) H j a b H'->(match p with|.next=>Q .non H'|.brk=>False|.cont=>False|.ret r=>∀v,dH K j a b H' (args++dV (d.nn-d.np) .aN) (start N vs) H v r->Q v H'))->tEx K (jC c n d.body) {nx:=λ_ H'=>Q .non H',rt:=Q} (start N vs) H:=λ{p a}z k=>⟨F,_,p,a,I,z,λj b H' s=>by have:=k j b H' s;cases p<;>exact this⟩;split at e;.rename_i a z;cases e;refine go z λj b H' s=>?_;obtain⟨y,B⟩:=bW.less (m:=d.np) o.symm g (by simp[h1,t,u]) s;exact q .non j _ H' y (show Rep K j _ _ from Vf)
   .rename_i L a z;cases e;refine go z λj b H' s v J=>?_;obtain⟨y,B⟩:=bW.less (m:=d.np) o.symm g (by simp[h1,t,u]) s;exact q v j _ H' y (B v r J)
   .split at e<;>cases e
 .cases e
structure aW(Pg:ek)(w:fg)(K:PySem.W.Frag)(mg:Str->Option bV)(base:Heap)(k:Nat)(c:Call)(i:Nat)(x:Str)(np:Nat):Prop where ex:∃fa fd qs,o7 Pg w K mg base JC k fa fd qs (PX K qs.length (c i))/\mg x=aD (.ref fa)/\keepIn K (.ref fa)=ck/\Binds K fd qs []/\qs.length=np
end
section
variable{X:Cx}{c:Call}{n k:Nat}{e a b:eB}{es:List eB}{p pa pb:P}{ps:List P}{pos:Pos}
theorem sv(i:Nat)(g:X.N[i]?=aD x:=by rfl)(hv:xR X.env.scope x:=by first|exact et rfl|exact eu (et rfl)|exact eu (eu rfl))(hd:(x==("__debug__":Str))=a_:=by rfl)(f:(x==("__classdict__":Str))=a_:=by rfl):SX X c (.Name x pos) (.var i):=VV g hv hd f
theorem cV{np:Nat}(C:aW X.prog X.w X.K X.mg X.base k c i x np)(hr:lM k X.A)(h:SG X c (e::es) ps)(j:Gl X x:=by rfl)(l:(e::es).length=np:=by rfl)(f:(x==("__debug__":Str))=a_:=by rfl)(he:ea (e::es) X.env=(a_,fF e X.env)::ea es X.env:=by rfl)(hpl:(kN pos (ea es X.env)).any (·.1)=a_:=by rfl)(g:ps.length=(e::es).length:=by rfl):SX X c (.Call (.Name x p') (e::es) [] pos) (.call i ps):=by obtain⟨u,fd,y,h1,o,q,r,t⟩:=C.ex;exact NT h1 hr j o q r h (l.trans t.symm) f he hpl g
noncomputable def Rf(names outer:List (Str×lj))(N N':List Str)(n:Nat):Bool:=(names.all λy=>names.lookup y.1==aD y.2)&&(names.all λy=>y.2!=.local||names.lookup y.1==aD .local)&&(names.all λy=>y.2!=.free||outer.lookup y.1==aD .cell||outer.lookup y.1==aD .free)&&N'.length==N.length+n&&((N.zip N').all λp=>(p.1==p.2&&names.lookup p.2==aD .free)||(names.lookup p.2!=aD .local&&names.lookup p.2!=aD .cell&&names.lookup p.2!=aD .free))
theorem mR{scope:k8}{N':List Str}(g:scope.kind=.function)(h:Rf scope.names X.env.scope.names X.N N' n=ck):iz X scope N' n:=by
 unfold Rf at h;simp only[gi]at h;obtain⟨⟨⟨⟨h1,j⟩,l⟩,o⟩,q⟩:=h;refine⟨g,λy f=>eq_of_beq (eL.mp h1 y f),λy f e=>?_,λy f e=>?_,by simpa using o,q⟩;.have:=eL.mp j y f;rw[e]at this;simpa using this
 . have:=eL.mp l y f;rw[e]at this;simp only[li]at this;rcases this with(z|z)|z;.cases z
   .exact .inl (eq_of_beq z)
   .exact .inr (eq_of_beq z)
theorem bA(h:lM k A):A.units+8<i9:=by have:=h.un;lia
end
end _H
namespace PySem
section
variable{prog:ek}{w:fg}{A:fb}{E:bV->cp->Prop}{s:cp}
theorem jl{it l:dQ}{i:Nat}{items:Array bV}{x:bV}{Q:bV->cp->Prop}(a:s.heap.IsTupleIter it l i)(e:s.heap.IsTuple l items)(f:items[i]?=aD x)(g:∀h',h'.IsTupleIter it l (i+1)->og it s.heap h'->Q x {s with heap:=h'}):d_ (ef prog w) A (mw (.ref it)) Q E s:=by obtain⟨o,ho,hc,hd⟩:=id a;obtain⟨h,b,_,j,c⟩:=e;unfold mw;refine bx (fq (name:=gI "__next__") a.typeIs F.slot_tuple_iterator_next (fm F.slot_tuple_iterator_next a.typeIs F.entry_tuple_iterator_next ?_ (F.args_tuple_iterator_next_1 _)));show d_ _ _ (o3 (.ref it) 0>>=_) _ _ s;refine bx (fo ho hd (x:=.ref l) rfl ?_);show d_ _ _ (if(eR l==eP)=ck then _ else _) _ _ s;rw[if_neg (show ¬((eR l==eP)=ck)from eH)];show d_ _ _ (o3 (.ref it) 1>>=_) _ _ s;refine bx (fo ho hd (x:=.int i 0) rfl ?_);show d_ _ _ (seqItems? (.ref l)>>=_) _ _ s;refine bx (iN b c ?_);simp only[lh,f];refine bx (j8 ho hd (by simp) (c_ ⟨x,rfl,c_ (g _ ?_ (Heap.SameBut.update ..))⟩));exact⟨_,iS _ ho (ku (gY hd _)),(ng ..).trans hc,by rw[gY hd];simp[hY]⟩
theorem gJ{it l:dQ}{i:Nat}{items:Array bV}{Q:bV->cp->Prop}(g:A.handled=b_)(b:s.heap.IsTupleIter it l i)(h:s.heap.IsTuple l items)(j:items[i]?=b_)(n:∀h' e,ExtBut it s.heap h'->(∃o,h'.get? e=aD o/\o.cls=.type "StopIteration")->E (.ref e) {s with heap:=h'}):d_ (ef prog w) A (mw (.ref it)) Q E s:=by
 obtain⟨o,ho,hc,hd⟩:=id b;obtain⟨p,c,_,q,f⟩:=h;unfold mw;refine bx (fq (name:=gI "__next__") b.typeIs F.slot_tuple_iterator_next (fm F.slot_tuple_iterator_next b.typeIs F.entry_tuple_iterator_next ?_ (F.args_tuple_iterator_next_1 _)));show d_ _ _ (o3 (.ref it) 0>>=_) _ _ s;refine bx (fo ho hd (x:=.ref l) rfl ?_);show d_ _ _ (if(eR l==eP)=ck then _ else _) _ _ s;rw[if_neg (show ¬((eR l==eP)=ck)from eH)];show d_ _ _ (o3 (.ref it) 1>>=_) _ _ s;refine bx (fo ho hd (x:=.int i 0) rfl ?_);show d_ _ _ (seqItems? (.ref l)>>=_) _ _ s;refine bx (iN c f ?_);simp only[lh,j];refine bx (j9 (bx (j8 ho hd (by simp) ?_)));show d_ _ _ (sA (.type "StopIteration") []>>=_) _ _ _;refine bx ?_;simp only[sA,newTuple];refine bx (eJ ?_ (by size_fits));refine bx (m:=kA _ _) (hZ (a:=eP) (by first|rfl|(simp only[kA];rfl)) ?_);refine eJ ?_ (by size_fits);simp only[raiseNew];refine bx (rh ?_);first|rw[show A.in1.handled=b_ from g]|rw[g]
 refine bx (c_ (sL ?_));exact n _ _ (((Heap.SameBut.update ..).extBut.push _).push _) ⟨_,dZ _ rfl,rfl⟩
end
theorem lC(l:dQ)(items:Array bV)(n:Nat)(b:Option dQ)(i:Array (Option bV)):nB (gE.«enumerate.__new__» ⟨[.type "enumerate",.ref l],[]⟩) (λ_ R s=>s.heap.get? l=aD {cls:=.type "tuple",dict:=b,data:=.seq items n,slots:=i}/\R (.ok (.ret (.ref (s.heap.push {cls:=.type "tuple_iterator",data:=.fields #[.ref l,.int 0 0]}).objs.size))) {s with heap:=(s.heap.push {cls:=.type "tuple_iterator",data:=.fields #[.ref l,.int 0 0]}).push {cls:=.type "enumerate",data:=.fields #[.none,.bool a_,.ref s.heap.objs.size,hY 0,.none,.none]}}):=.of_wp λprog w A R s h=>by
  obtain⟨j,g,d,m,os⟩:=s;obtain⟨a,h⟩:=h;have f:=sub_enumerate;have e:sF (i8 ⟨j,g,d,m,os⟩) l items:=⟨_,a,rfl,n,rfl⟩;wp_walk using hU a;refine wpAny_stack_any λst=>c_ ?_;split
  . rename_i c _ _ _ _ _;cases(c==i_ "enumerate");.wp_walk using hU a,gx e;exact⟨_,rfl,h⟩
    .wp_walk using hU a,gx e;exact⟨_,rfl,h⟩
  .wp_walk using hU a,gx e;exact⟨_,rfl,h⟩
section
variable{prog:ek}{w:fg}{A:fb}{E:bV->cp->Prop}{s:cp}
theorem lQ{l:dQ}{items:Array bV}{Q:bV->cp->Prop}(f:s.heap.IsTuple l items)(h:∀ h',IsEnum h' (s.heap.objs.size+1) s.heap.objs.size 0 .none->h'.IsTupleIter s.heap.objs.size l 0->h'.objs.size=s.heap.objs.size+2->(∀b o,s.heap.get? b=aD o->h'.get? b=aD o)->Q (.ref (s.heap.objs.size+1)) {s with heap:=h'}):d_ (ef prog w) A (call (.type "enumerate") [.ref l]) Q E s:=by
 obtain⟨⟨c,a,g,i⟩,j,hc,n,hd⟩:=f;replace hc:c=.type "tuple":=hc;replace hd:g=.seq items n:=hd;subst hc hd;refine kB F.called_enumerate (by decide) (F.typeCall_enumerate_1 _) (F.newCall_enumerate_1 _) (λobj=>F.args_object_init_2 obj _) F.entry_enumerate_new (lC l items n a i) ⟨j,?_⟩;have e:(s.heap.push {cls:=.type "tuple_iterator",data:=.fields #[.ref l,.int 0 0]}).objs.size=s.heap.objs.size+1:=fv ..;show _/\_;rw[e];have he:IsEnum ((s.heap.push {cls:=.type "tuple_iterator",data:=.fields #[.ref l,.int 0 0]}).push {cls:=.type "enumerate",data:=.fields #[.none,.bool a_,.ref s.heap.objs.size,hY 0,.none,.none]}) (s.heap.objs.size+1) s.heap.objs.size 0 .none:=by have:=dZ (s.heap.push {cls:=.type "tuple_iterator",data:=.fields #[.ref l,.int 0 0]}) (o:={cls:=.type "enumerate",data:=.fields #[.none,.bool a_,.ref s.heap.objs.size,hY 0,.none,.none]}) rfl;rw[e]at this;exact this
 refine⟨⟨_,he,rfl⟩,h _ he ⟨_,eO (dZ _ rfl),rfl,rfl⟩ (by rw[fv,e]) λb o x=>eO (eO x)⟩
end
end PySem
namespace _L
open PySem Spec PyProof.Rows
variable{prog:ek}{w:fg}{A:fb}
section
variable{X:Cx}{pins:List (dQ×Obj)}{σ:_L.St}{H:Hp}{s:cp}
theorem Inv.Al{ch:List dQ}{h':Heap}{o:HO}{t':Nat}(I:Inv X pins σ H s)(k:∀b u,b∉ch->s.heap.get? b=aD u->h'.get? b=aD u)(j:∀b∈ch,∃u,h'.get? b=aD u)(g:∀b∈ch,pO X pins H b)(h:cM X.prog X.w (upd H s.heap.objs.size o) h' s.heap.objs.size o):Inv X pins σ (upd H s.heap.objs.size o) {s with heap:=h',toks:=t'}:=by
 have fr:H s.heap.objs.size=b_:=I.hok.fresh (di);have i:∀b u,H b=aD u->b∉ch:=λb u e a=>by rw[(g b a).1]at e;cases e
 have up:∀b u,H b=aD u->upd H s.heap.objs.size o b=aD u:=λb u e=>by
  have:b≠s.heap.objs.size:=by rintro rfl;rw[fr]at e;cases e
  rw[aG this];exact e
 refine I.call (g':=s.gens) (d':=s.drawn) (ch:=ch) ⟨λb u e n _ f=>k b u f e,λb u e n _ f=>⟨u.slots,k b u f e⟩,λb u e n f=>?_,λb u e f=>⟨u,k b u f e⟩,λb xs e=>up b _ e,λb l u e=>up b _ e,λb ps e=>⟨#[],by rw[up b _ e];simp⟩⟩ ?_ I.bare λb a=>⟨(g b a).2.2.2.1,(g b a).2.1,(g b a).2.2.2.2.1,(g b a).2.2.2.2.2⟩;.have:b≠s.heap.objs.size:=eS (eA e);rw[aG this];exact n
 . intro b u e;by_cases a:b=s.heap.objs.size;.subst a;rw[bf]at e;cases e;exact h
   . rw[aG a]at e;refine(I.hok b u e).stay (λc v hc q=>k c v ?_ q) (λc q=>up c _ q) λc xs q=>up c _ q;rcases hc with rfl|hc;.exact i _ _ e
     .exact i _ _ hc
end
noncomputable def BW(K:PySem.W.Frag)(a:dQ):It:=⟨λi H=>∃xs x,fU K H a xs/\xs[i]?=aD x,λi H x H'=>∃T v,H T=b_/\x=.ref T/\H'=upd H T (.tup [.int (i:Int),v])/\∀xs,fU K H a xs->xs[i]?=aD v,λi H=>∃xs,fU K H a xs/\xs.length<=i⟩
theorem Vn(f:A.handled=b_)(it l:dQ)(c:l≠it)(items:Array bV):Draws prog w A it [it,l] items.size (λi v=>items[i]?=aD v) (λi h=>h.IsListIter it l i/\h.IsList l items)where
 live:=λ_ _ st=>let⟨o,ho,_⟩:=st.1;⟨o,ho⟩;frame:=λ_ _ _ st e=>⟨(let⟨o,ho,r⟩:=st.1;⟨o,e it (by simp) o ho,r⟩),(let⟨o,ho,r⟩:=st.2;⟨o,e l (by simp) o ho,r⟩)⟩;item:=λi s Q E hi st g=>by refine sk st.1 st.2 (x:=items[i]) (by simp[hi]) λh' a b=>?_;exact g _ h' s.toks (by simp[hi]) ⟨a,(let⟨o,ho,r⟩:=st.2;⟨o,b.extBut l o c ho,r⟩)⟩ b
 done:=λs Q E st j=>mh f st.1 st.2 (by simp) j
theorem Hc(b:A.handled=b_)(it l:dQ)(items:Array bV)(n:Nat)(c:items.size<=n):Draws prog w A it [it,l] n (λ_ _=>True) (λi h=>i=n/\h.IsListIter it l i/\h.IsList l items)where live:=λ_ _ st=>let⟨o,ho,_⟩:=st.2.1;⟨o,ho⟩;frame:=λ_ _ _ st a=>⟨st.1,(let⟨o,ho,r⟩:=st.2.1;⟨o,a it (by simp) o ho,r⟩),(let⟨o,ho,r⟩:=st.2.2;⟨o,a l (by simp) o ho,r⟩)⟩;item:=λi s Q E hi st f=>absurd st.1 (eS hi);done:=λs Q E st e=>mh b st.2.1 st.2.2 (by simp;exact c) e
theorem GZ{P:ek}{K:PySem.W.Frag}{p:List eB}{x1}{tp:Pos}(a it e:dQ)(m:e≠it):Turn P w K (.Tuple p x1 tp) (BW K a) [e,it] e (λi h=>(∃g,IsEnum h e it (i:Int) g)/\h.IsListIter it a i)where
 mem:=by simp
 obj:=λi h st b hb=>by
  obtain⟨⟨g,h1⟩,o,j,J,h4⟩:=st;rcases eM.mp hb with rfl|hb;.exact⟨_,h1,λv z=>by cases z⟩
  . have:b=it:=by simpa using hb
    subst this;exact⟨o,j,λv z=>by rw[h4]at z;cases z⟩
 keep:=λi h h' st k=>by obtain⟨⟨g,h1⟩,o,j,J⟩:=st;exact⟨⟨g,k e (by simp) _ h1⟩,o,k it (by simp) _ j,J⟩
 item:=λX hP hw hK hc i t s σ H E I L st go=>by
  subst hP hw hK;obtain⟨⟨g,he⟩,l⟩:=st;obtain⟨xs,x,M,B⟩:=go;obtain⟨c,N,pl,hz⟩:=I.list M;have O:s.heap.IsList a c.toArray:=pl.isList;obtain⟨oa,U,n,_⟩:=id O;have ab:e≠a:=by rintro rfl;rw[he]at U;cases U;exact absurd (show i_ "enumerate"=i_ _ from n) (by decide)
  have ac:a≠it:=by rintro rfl;obtain⟨o,j,J,_⟩:=id l;rw[j]at U;cases U;rw[J]at n;exact absurd n (by decide)
  have ae:i<c.toArray.size:=by rw[ec,<-N.length];exact(gC B).1
  refine r_ (Vn (show X.A.in1.handled=b_ from I.ok.hd hc) it a ac c.toArray) he ⟨l,O⟩ ae m (by simp[m,ab]) λy h' tk Y af C ht hsz kp=>?_;refine⟨_,rfl,p5 af λG Mz Z=>?_⟩;obtain⟨u,ag,ah⟩:=N.get B;have ai:y=u:=by
   have Y:c[i]?=aD y:=by simpa using Y
   rw[ag]at Y;cases Y;rfl
  subst ai;have hT:∀b∈[e,it],b≠s.heap.objs.size:=λb hb=>by
   rcases eM.mp hb with rfl|hb;.exact eS (eA he)
   . have:b=it:=by simpa using hb
     subst this;obtain⟨o,j,_⟩:=id l;exact eS (eA j)
  have am:s.heap.objs.size≠e:=(hT e (by simp)).symm;have Yj:∀b o,b∉[e,it]->s.heap.get? b=aD o->G.get? b=aD o:=λb o hb q=>by have h1:b≠e:=λz=>hb (by simp[z]);have j:b≠it:=λz=>hb (by simp[z]);exact Z.extBut b o h1 (kp b o h1 j q)
  have zM:G.get? s.heap.objs.size=aD {cls:=.type "tuple",data:=.seq #[.int i tk,y]}:=Z.extBut _ _ am ht;refine⟨.ref s.heap.objs.size,upd H s.heap.objs.size (.tup [.int (i:Int),x]),?_,rfl,⟨_,x,I.fresh,rfl,rfl,λys ap=>?_⟩,⟨⟨_,Mz⟩,?_⟩,λb hb=>?_⟩
  . refine I.Al (ch:=[e,it]) (t':=tk+1) Yj (λb hb=>?_) (λb hb=>(L b hb)) ⟨(by show 2<=sizeLine;decide),[.int i tk,y],.cons ⟨_,rfl⟩ (.cons ah .nil),⟨_,zM,rfl,_,rfl⟩⟩;rcases eM.mp hb with rfl|hb;.exact⟨_,Mz⟩
    . have:b=it:=by simpa using hb
      subst this;obtain⟨o,j,_⟩:=id C.1;exact⟨o,Z.extBut _ _ (iF m) j⟩
  .rw[I.nP ap M];exact B
  .obtain⟨o,j,r⟩:=C.1;exact⟨o,Z.extBut _ _ (iF m) j,r⟩
  .rw[aG (hT b hb)];exact(L b hb).1
 done:=λX hP hw hK hc i t s σ H E I L st stop=>by subst hP hw hK;obtain⟨⟨g,he⟩,l⟩:=st;obtain⟨xs,M,B⟩:=stop;obtain⟨c,N,pl,hz⟩:=I.list M;have O:s.heap.IsList a c.toArray:=pl.isList;refine sj (Hc (show X.A.in1.handled=b_ from I.ok.hd hc) it a c.toArray i (by rw[ec,<-N.length];exact B)) he ⟨rfl,l,O⟩ λh' hs=>⟨rfl,?_⟩;have f:=L it (by simp);exact I.turned (t':=s.toks) (λb o hb q=>hs b o hb q) f.1 f.2.1 f.2.2.2.1 f.2.2.2.2.1 f.2.2.2.2.2
 self:=λA i s Q E st q=>n3 st.1.choose_spec q
noncomputable def Bu(K:PySem.W.Frag)(a:dQ):It:=⟨λi H=>∃xs x,ir K H a xs/\xs[i]?=aD x,λi H x H'=>∃T v,H T=b_/\x=.ref T/\H'=upd H T (.tup [.int (i:Int),v])/\∀xs,ir K H a xs->xs[i]?=aD v,λi H=>∃xs,ir K H a xs/\xs.length<=i⟩
theorem Ve(f:A.handled=b_)(it l:dQ)(c:l≠it)(items:Array bV):Draws prog w A it [it,l] items.size (λi v=>items[i]?=aD v) (λi h=>h.IsTupleIter it l i/\h.IsTuple l items)where
 live:=λ_ _ st=>let⟨o,ho,_⟩:=st.1;⟨o,ho⟩;frame:=λ_ _ _ st e=>⟨(let⟨o,ho,r⟩:=st.1;⟨o,e it (by simp) o ho,r⟩),(let⟨o,ho,r⟩:=st.2;⟨o,e l (by simp) o ho,r⟩)⟩;item:=λi s Q E hi st g=>by refine jl st.1 st.2 (x:=items[i]) (by simp[hi]) λh' a b=>?_;exact g _ h' s.toks (by simp[hi]) ⟨a,(let⟨o,ho,r⟩:=st.2;⟨o,b.extBut l o c ho,r⟩)⟩ b
 done:=λs Q E st j=>gJ f st.1 st.2 (by simp) j
theorem FW(b:A.handled=b_)(it l:dQ)(items:Array bV)(n:Nat)(c:items.size<=n):Draws prog w A it [it,l] n (λ_ _=>True) (λi h=>i=n/\h.IsTupleIter it l i/\h.IsTuple l items)where live:=λ_ _ st=>let⟨o,ho,_⟩:=st.2.1;⟨o,ho⟩;frame:=λ_ _ _ st a=>⟨st.1,(let⟨o,ho,r⟩:=st.2.1;⟨o,a it (by simp) o ho,r⟩),(let⟨o,ho,r⟩:=st.2.2;⟨o,a l (by simp) o ho,r⟩)⟩;item:=λi s Q E hi st f=>absurd st.1 (eS hi);done:=λs Q E st e=>gJ b st.2.1 st.2.2 (by simp;exact c) e
theorem Gd{P:ek}{K:PySem.W.Frag}{p:List eB}{x1}{tp:Pos}(a it e:dQ)(m:e≠it):Turn P w K (.Tuple p x1 tp) (Bu K a) [e,it] e (λi h=>(∃g,IsEnum h e it (i:Int) g)/\h.IsTupleIter it a i)where
 mem:=by simp
 obj:=λi h st b hb=>by
  obtain⟨⟨g,h1⟩,o,j,J,h4⟩:=st;rcases eM.mp hb with rfl|hb;.exact⟨_,h1,λv z=>by cases z⟩
  . have:b=it:=by simpa using hb
    subst this;exact⟨o,j,λv z=>by rw[h4]at z;cases z⟩
 keep:=λi h h' st k=>by obtain⟨⟨g,h1⟩,o,j,J⟩:=st;exact⟨⟨g,k e (by simp) _ h1⟩,o,k it (by simp) _ j,J⟩
 item:=λX hP hw hK hc i t s σ H E I L st go=>by
  subst hP hw hK;obtain⟨⟨g,he⟩,l⟩:=st;obtain⟨xs,x,M,B⟩:=go;obtain⟨c,N,pl,hz⟩:=I.tuple M;have O:s.heap.IsTuple a c.toArray:=pl;obtain⟨oa,U,n,_⟩:=id O;have ab:e≠a:=by rintro rfl;rw[he]at U;cases U;exact absurd (show i_ "enumerate"=i_ _ from n) (by decide)
  have ac:a≠it:=by rintro rfl;obtain⟨o,j,J,_⟩:=id l;rw[j]at U;cases U;rw[J]at n;exact absurd n (by decide)
  have ae:i<c.toArray.size:=by rw[ec,<-N.length];exact(gC B).1
  refine r_ (Ve (show X.A.in1.handled=b_ from I.ok.hd hc) it a ac c.toArray) he ⟨l,O⟩ ae m (by simp[m,ab]) λy h' tk Y af C ht hsz kp=>?_;refine⟨_,rfl,p5 af λG Mz Z=>?_⟩;obtain⟨u,ag,ah⟩:=N.get B;have ai:y=u:=by
   have Y:c[i]?=aD y:=by simpa using Y
   rw[ag]at Y;cases Y;rfl
  subst ai;have hT:∀b∈[e,it],b≠s.heap.objs.size:=λb hb=>by
   rcases eM.mp hb with rfl|hb;.exact eS (eA he)
   . have:b=it:=by simpa using hb
     subst this;obtain⟨o,j,_⟩:=id l;exact eS (eA j)
  have am:s.heap.objs.size≠e:=(hT e (by simp)).symm;have Yj:∀b o,b∉[e,it]->s.heap.get? b=aD o->G.get? b=aD o:=λb o hb q=>by have h1:b≠e:=λz=>hb (by simp[z]);have j:b≠it:=λz=>hb (by simp[z]);exact Z.extBut b o h1 (kp b o h1 j q)
  have zM:G.get? s.heap.objs.size=aD {cls:=.type "tuple",data:=.seq #[.int i tk,y]}:=Z.extBut _ _ am ht;refine⟨.ref s.heap.objs.size,upd H s.heap.objs.size (.tup [.int (i:Int),x]),?_,rfl,⟨_,x,I.fresh,rfl,rfl,λys ap=>?_⟩,⟨⟨_,Mz⟩,?_⟩,λb hb=>?_⟩
  . refine I.Al (ch:=[e,it]) (t':=tk+1) Yj (λb hb=>?_) (λb hb=>(L b hb)) ⟨(by show 2<=sizeLine;decide),[.int i tk,y],.cons ⟨_,rfl⟩ (.cons ah .nil),⟨_,zM,rfl,_,rfl⟩⟩;rcases eM.mp hb with rfl|hb;.exact⟨_,Mz⟩
    . have:b=it:=by simpa using hb
      subst this;obtain⟨o,j,_⟩:=id C.1;exact⟨o,Z.extBut _ _ (iF m) j⟩
  .rw[I.jL ap M];exact B
  .obtain⟨o,j,r⟩:=C.1;exact⟨o,Z.extBut _ _ (iF m) j,r⟩
  .rw[aG (hT b hb)];exact(L b hb).1
 done:=λX hP hw hK hc i t s σ H E I L st stop=>by subst hP hw hK;obtain⟨⟨g,he⟩,l⟩:=st;obtain⟨xs,M,B⟩:=stop;obtain⟨c,N,pl,hz⟩:=I.tuple M;have O:s.heap.IsTuple a c.toArray:=pl;refine sj (FW (show X.A.in1.handled=b_ from I.ok.hd hc) it a c.toArray i (by rw[ec,<-N.length];exact B)) he ⟨rfl,l,O⟩ λh' hs=>⟨rfl,?_⟩;have f:=L it (by simp);exact I.turned (t':=s.toks) (λb o hb q=>hs b o hb q) f.1 f.2.1 f.2.2.2.1 f.2.2.2.2.1 f.2.2.2.2.2
 self:=λA i s Q E st q=>n3 st.1.choose_spec q
section
variable{X:Cx}{elts:List eB}{x1:Nat}{tp:Pos}
noncomputable def adv(K:PySem.W.Frag)(c:TE):TI:=λσ H R=>c σ H λx b=>∃a,x=.ref a/\(((∃xs,fU K b a xs)/\R (BW K a) b)\/((∃xs,ir K b a xs)/\R (Bu K a) b))
theorem boot_enumerate:gc "enumerate"=aD (.type "enumerate"):=by decide+kernel
theorem V0{a:eB}{t:TE}{p pos:Pos}(v:Gl X "enumerate")(y:X.mg "enumerate"=b_)(z:PE X a t)(hs:ea [a] X.env=[(a_,fF a X.env)]:=by rfl):PI X (.Tuple elts x1 tp) (.Call (.Name "enumerate" p) [a] [] pos) (adv X.K t):=by
 intro e s σ H R I h;refine tO (j6 I v y boot_enumerate (fx (dz ((eN z jr hs) pos e s σ H (λvs c=>match vs with|[x]=>∃a,x=.ref a/\(((∃xs,fU X.K c a xs)/\R (BW X.K a) c)\/((∃xs,ir X.K c a xs)/\R (Bu X.K a) c))|_=>False) I h) ?_) hs rfl));rintro G s1⟨vs,c,f,r1,j⟩
 . obtain⟨ad,q,l⟩:∃ad,(((∃xs,fU X.K c ad xs)/\R (BW X.K ad) c)\/((∃xs,ir X.K c ad xs)/\R (Bu X.K ad) c))/\vs=[.ref ad]:=by cases vs with|nil=>cases j|cons x r=>cases r with|nil=>obtain⟨ad,rfl,q⟩:=j;exact⟨ad,q,rfl⟩|cons _ _=>cases j
   subst l;obtain⟨u,rfl,B⟩:=r1.one;cases B;have fin:∀(h':Heap)(i:Nat->Heap->Prop)(J:It),Turn X.prog X.w X.K (.Tuple elts x1 tp) J [s1.heap.objs.size+1,s1.heap.objs.size] (s1.heap.objs.size+1) i->i 0 h'->IsEnum h' (s1.heap.objs.size+1) s1.heap.objs.size 0 .none->(∀b o,s1.heap.get? b=aD o->h'.get? b=aD o)->R J c->d_ (ef X.prog X.w) X.A (oD (.ref (s1.heap.objs.size+1))) (PIE X e σ (.Tuple elts x1 tp) R) X.xe {s1 with heap:=h'}:=λh' i J T t0 he kp q=>by
    refine n3 he ⟨_,_,i,J,c,rfl,f.kept (t':=s1.toks) kp,T,t0,λb hb=>?_,q⟩;have g:s1.heap.objs.size<=b:=by
     rcases eM.mp hb with rfl|hb;.exact le_succ _
     . have:b=s1.heap.objs.size:=by simpa using hb
       rw[this];exact di
    exact f.xg g (f.hok.fresh g)
   rcases q with⟨⟨xs,m⟩,q⟩|⟨⟨xs,m⟩,q⟩;.obtain⟨n,C,pl,E⟩:=f.list m;exact call_enumerate_list pl.isList λh' he hi hsz kp=>fin h' _ _ (GZ ad s1.heap.objs.size (s1.heap.objs.size+1) (Nat.succ_ne_self _)) ⟨⟨_,he⟩,hi⟩ he kp q
   .obtain⟨n,C,pl,E⟩:=f.tuple m;exact lQ pl λh' he hi hsz kp=>fin h' _ _ (Gd ad s1.heap.objs.size (s1.heap.objs.size+1) (Nat.succ_ne_self _)) ⟨⟨_,he⟩,hi⟩ he kp q
end
end _L
namespace _H
open PySem _L Spec PyProof.Rows
section
variable{K:PySem.W.Frag}{F F1 H H1:Hp}{ρ ρ1:List Sl}{σ:_L.St}{ds:List D}{a:dQ}
theorem tE{c H':Hp}{T:dQ}{v w:V}{d1 d2:D}(sm:aM c H')(f:H' T=b_)(r1:Rep K c v d1)(g:Rep K c w d2):∃b,Ext c H' b (upd H' T (.tup [v,w]))/\Rep K b (.ref T) (.tup [d1,d2]):=FQ (Q:=λv e=>∃b,Ext c H' b e/\Rep K b v (.tup [d1,d2])) sm (.cons r1 (.cons g .nil)) f λv b e x h=>⟨b,x,h⟩
theorem Kr{xs:List V}{c H':Hp}(e:fU K H' a xs)(r:aH K c xs ds)(s:aM c H')(k:Nat):(∀d,(ds.mapIdx λi d=>D.tup [.int (i:Int),d])[k]?=aD d->(BW K a).go k H'/\∀x f,(BW K a).Ia k H' x f->∃b,Ext c H' b f/\Rep K b x d)/\((ds.mapIdx λi d=>D.tup [.int (i:Int),d]).length<=k->(BW K a).stop k H'):=by refine⟨λd hd=>?_,λh=>⟨xs,e,by rw[r.length];simpa using h⟩⟩;rw[rc]at hd;obtain⟨d0,g,j⟩:=map_some hd;subst j;obtain⟨w,h1,l⟩:=r.get g;refine⟨⟨xs,w,e,h1⟩,?_⟩;rintro x f⟨T,v,m,n,o,y⟩;subst n;subst o;have:=y xs e;rw[h1]at this;cases this;exact tE s m (bO _) l
theorem Ko{xs:List V}{c H':Hp}(e:ir K H' a xs)(r:aH K c xs ds)(s:aM c H')(k:Nat):(∀d,(ds.mapIdx λi d=>D.tup [.int (i:Int),d])[k]?=aD d->(Bu K a).go k H'/\∀x f,(Bu K a).Ia k H' x f->∃b,Ext c H' b f/\Rep K b x d)/\((ds.mapIdx λi d=>D.tup [.int (i:Int),d]).length<=k->(Bu K a).stop k H'):=by refine⟨λd hd=>?_,λh=>⟨xs,e,by rw[r.length];simpa using h⟩⟩;rw[rc]at hd;obtain⟨d0,g,j⟩:=map_some hd;subst j;obtain⟨w,h1,l⟩:=r.get g;refine⟨⟨xs,w,e,h1⟩,?_⟩;rintro x f⟨T,v,m,n,o,y⟩;subst n;subst o;have:=y xs e;rw[h1]at this;cases this;exact tE s m (bO _) l
end
section
variable{X:Cx}{c:Call}{e a:eB}{pa:P}{pos:Pos}{elts:List eB}{x1:Nat}{tp:Pos}
theorem UT{x:Str}{z:Pos}(A:x="enumerate")(B:Gl X x)(C:X.mg x=b_)(E:SX X c a pa)(hs:ea [a] X.env=[(a_,fF a X.env)]:=by rfl):SI X c (.Tuple elts x1 tp) (.Call (.Name x z) [a] [] pos) (.enm pa):=by subst A;refine mW (V0 B C E.ev hs) ?_;rintro σ H R⟨F,ρ,O,G,g,e,k⟩;obtain⟨r,I,w,j⟩:=aj e;have m:=aF j;clear j;obtain⟨j,J⟩:=m;subst J;rw[_H.E20]at w;obtain⟨r0,h,L,l⟩:=aj w;have m:=aF l;clear l;obtain⟨l,M⟩:=m;subst M;obtain⟨es,f1,f2⟩:=map_some l;subst f2;cases j;refine⟨F,ρ,r0,_,g,L,λv y H' s i=>?_⟩;obtain⟨Q,s2,_,f⟩:=s.fG i;cases hd:r0.d with|tup o=>rw[hd]at f1 f;cases f1;rw[Rep]at f;obtain⟨ad,xs,rfl,h1,p⟩:=f;exact⟨ad,rfl,.inr ⟨⟨xs,aM.gO s2.gs.sub h1⟩,k _ _ _ ⟨s2.gs,λn k y q t H' b=>Ko (aM.gO b.gs.sub (aM.gO b.cI h1)) (p.mono b.cI) b.gs.sub k,λF3 h u N s3=>⟨s2.trans s3,λv r i=>i.later s2⟩⟩⟩⟩|lst o=>rw[hd]at f1 f;cases f1;rw[Rep]at f;obtain⟨ad,xs,rfl,h1,p⟩:=f;exact⟨ad,rfl,.inl ⟨⟨xs,s2.gs.sub.seq h1⟩,k _ _ _ ⟨s2.gs,λn k y q t H' b=>Kr (b.gs.sub.seq (b.cI.seq h1)) (p.mono b.cI) b.gs.sub k,λF3 h u N s3=>⟨s2.trans s3,λv r i=>i.later s2⟩⟩⟩⟩|_=>rw[hd]at f1;cases f1
end
end _H
namespace PySem
structure Nx(prog:ek)(w:fg)(A:fb)(it src:dQ)(Sx:Nat->Heap->Prop)(get:Nat->Option bV):Prop where
 obj:∀k h,Sx k h->∃o,h.get? it=aD o/\∀v,o.data≠.cell v
 keep:∀k h h',Sx k h->(∀o,h.get? it=aD o->h'.get? it=aD o)->(∀o,h.get? src=aD o->h'.get? src=aD o)->Sx k h'
 item:∀k(s:cp)(Q:bV->cp->Prop)(E:bV->cp->Prop)x,Sx k s.heap->get k=aD x->(∀h',Sx (k+1) h'->og it s.heap h'->Q x {s with heap:=h'})->d_ (ef prog w) A (mw (.ref it)) Q E s
 fin:∀k(s:cp)(Q:bV->cp->Prop)(E:bV->cp->Prop),Sx k s.heap->get k=b_->(∀h' e,ExtBut it s.heap h'->(∃o,h'.get? e=aD o/\o.cls=.type "StopIteration")->E (.ref e) {s with heap:=h'})->d_ (ef prog w) A (mw (.ref it)) Q E s
variable{Q:bV->cp->Prop}{l1 l2:dQ}{xs ys:Array bV}
section
variable{prog:ek}{w:fg}{A:fb}{E:bV->cp->Prop}{s:cp}
theorem Nx.list(g:A.handled=b_)(it l:dQ)(c:l≠it)(items:Array bV):Nx prog w A it l (λk h=>h.IsListIter it l k/\h.IsList l items) (λk=>items[k]?)where obj:=λk h st=>let⟨o,h1,_,h3⟩:=st.1;⟨o,h1,λv z=>by rw[h3]at z;cases z⟩;keep:=λk h h' st a b=>⟨(let⟨o,ho,r⟩:=st.1;⟨o,a o ho,r⟩),(let⟨o,ho,r⟩:=st.2;⟨o,b o ho,r⟩)⟩;item:=λk s Q E x st e i=>sk st.1 st.2 e λh' f hs=>i h' ⟨f,(let⟨o,ho,r⟩:=st.2;⟨o,hs.extBut l o c ho,r⟩)⟩ hs;fin:=λk s Q E st e j=>mh g st.1 st.2 e j
theorem Nx.tuple(g:A.handled=b_)(it l:dQ)(c:l≠it)(items:Array bV):Nx prog w A it l (λk h=>h.IsTupleIter it l k/\h.IsTuple l items) (λk=>items[k]?)where obj:=λk h st=>let⟨o,h1,_,h3⟩:=st.1;⟨o,h1,λv z=>by rw[h3]at z;cases z⟩;keep:=λk h h' st a b=>⟨(let⟨o,ho,r⟩:=st.1;⟨o,a o ho,r⟩),(let⟨o,ho,r⟩:=st.2;⟨o,b o ho,r⟩)⟩;item:=λk s Q E x st e i=>jl st.1 st.2 e λh' f hs=>i h' ⟨f,(let⟨o,ho,r⟩:=st.2;⟨o,hs.extBut l o c ho,r⟩)⟩ hs;fin:=λk s Q E st e j=>gJ g st.1 st.2 e j
variable{z TI TO i1 i2 l1 l2:dQ}{k:Nat}{S1 S2:Nat->Heap->Prop}{g1 g2:Nat->Option bV}{a b:bV}
theorem Gu{x y:bV}(D:mI z TI TO i1 i2 l1 l2)(t:Nx prog w A i1 l1 S1 g1)(u:Nx prog w A i2 l2 S2 g2)(p:kE s.heap z TI TO .none)(G:gL s.heap TI (.ref i1) (.ref i2))(H:gL s.heap TO a b)(h1:S1 k s.heap)(Y:S2 k s.heap)(Z:g1 k=aD x)(hy:g2 k=aD y)(hQ:∀ h',kE h' z TI TO (hY s.heap.objs.size)->gL h' TO x y->S1 (k+1) h'->S2 (k+1) h'->gL h' s.heap.objs.size x y->h'.objs.size=s.heap.objs.size+1->(∀c o,c≠z->c≠TO->c≠i1->c≠i2->s.heap.get? c=aD o->h'.get? c=aD o)->Q (.ref s.heap.objs.size) {s with heap:=h'}):d_ (ef prog w) A (gE.«zip.__next__» ⟨[.ref z],[]⟩) (λfin s'=>∃v,fin=.done (.ret v)/\Q v s') E s:=by
 show d_ _ _ (o3 (.ref z) 2>>=_) _ _ _;refine bx (fo p rfl (x:=.bool a_) rfl ?_);show d_ _ _ (o3 (.ref z) 3>>=_) _ _ _;refine bx (fo p rfl (x:=.ref TI) rfl (bx (iN G rfl ?_)));show d_ _ _ (lY (.ref z)>>=_) _ _ _;refine bx ?_;unfold lY;refine bx (fo p rfl (x:=.none) rfl (c_ ?_));simp only[if_true];refine bx (j9 (bx (fo p rfl (x:=.ref TO) rfl (bx (i5 p (by simp) λt1 I g=>?_)))));have I:kE t1 z TI TO .ellipsis:=I;refine bx ?_;simp only[List.zipIdx_cons,List.zipIdx_nil,forIn_cons,forIn_nil];refine bx (bx (nl ?_));show d_ _ _ (mw (.ref i1)>>=_) _ _ _;have q1:S1 k t1:=t.keep _ _ _ h1 (λo e=>g.extBut _ _ D.i1z e) λo e=>g.extBut _ _ D.l1z e;refine bx (t.item k _ _ _ x q1 Z λt2 q2 m=>c_ ?_);have M:gL t2 TO a b:=m.extBut _ _ D.TOi1 (g.extBut _ _ D.TOz H);refine bx (iN M rfl (bx (ms M λN J h=>?_)));have J:gL N TO x b:=J;refine bx (sP (c_ (bx (bx (nl ?_)))));show d_ _ _ (mw (.ref i2)>>=_) _ _ _;have w3:S2 k N:=u.keep _ _ _ Y (λo e=>h.extBut _ _ D.TOi2.symm (m.extBut _ _ D.i12.symm (g.extBut _ _ D.i2z e))) λo e=>h.extBut _ _ D.l2TO (m.extBut _ _ D.l2i1 (g.extBut _ _ D.l2z e));refine bx (u.item k _ _ _ y w3 hy λt4 w4 n=>c_ ?_);have O:gL t4 TO x b:=n.extBut _ _ D.TOi2 J;refine bx (iN O rfl (bx (ms O λf B i=>?_)));have B:gL f TO x y:=B;refine bx (sP (c_ (c_ (bx (iN B rfl (bx (wpAny_newTuple ?_)))))));have hsz:f.objs.size=s.heap.objs.size:=by rw[i.1,n.1,h.1,m.1,g.1]
 have U:kE f z TI TO .ellipsis:=i.extBut _ _ D.TOz.symm (n.extBut _ _ D.i2z.symm (h.extBut _ _ D.TOz.symm (m.extBut _ _ D.i1z.symm I)));have kp:∀c o,c≠z->c≠TO->c≠i1->c≠i2->s.heap.get? c=aD o->f.get? c=aD o:=λc o c1 c2 c3 c4 e=>i.extBut _ _ c2 (n.extBut _ _ c4 (h.extBut _ _ c2 (m.extBut _ _ c3 (g.extBut _ _ c1 e))));have q5:S1 (k+1) f:=t.keep _ _ _ q2 (λo e=>i.extBut _ _ D.TOi1.symm (n.extBut _ _ D.i12 (h.extBut _ _ D.TOi1.symm e))) λo e=>i.extBut _ _ D.l1TO (n.extBut _ _ D.l1i2 (h.extBut _ _ D.l1TO e));have w5:S2 (k+1) f:=u.keep _ _ _ w4 (λo e=>i.extBut _ _ D.TOi2.symm e) λo e=>i.extBut _ _ D.l2TO e;have q:z<f.objs.size:=eA U;show d_ _ _ (ownedTupleHandOut (.ref z) (.ref f.objs.size)>>=_) _ _ _;refine bx ?_;unfold ownedTupleHandOut;have z6:kE (f.push {cls:=.type "tuple",data:=.seq #[x,y]}) z TI TO .ellipsis:=eO U;refine bx (i5 z6 (by simp) λt7 L j=>?_);have L:kE t7 z TI TO (hY f.objs.size):=L;refine i5 L (by simp) λr C l=>?_;have C:kE r z TI TO (hY f.objs.size):=C;have up:∀c o,c≠z->f.get? c=aD o->r.get? c=aD o:=λc o c1 e=>l.extBut _ _ c1 (j.extBut _ _ c1 (eO e));have W:gL r f.objs.size x y:=l.extBut _ _ (qa q) (j.extBut _ _ (qa q) (dZ _ rfl));have X:r.objs.size=f.objs.size+1:=by rw[l.1,j.1,fv]
 rw[hsz]at C W X;refine c_ ⟨_,rfl,?_⟩;show Q (.ref f.objs.size) _;rw[hsz];exact hQ r C (up _ _ D.TOz B) (t.keep _ _ _ q5 (λo e=>up _ o D.i1z e) λo e=>up _ o D.l1z e) (u.keep _ _ _ w5 (λo e=>up _ o D.i2z e) λo e=>up _ o D.l2z e) W X λc o c1 c2 c3 c4 e=>up c o c1 (kp c o c1 c2 c3 c4 e)
theorem Lx{Q:Fin->cp->Prop}(D:mI z TI TO i1 i2 l1 l2)(r:Nx prog w A i1 l1 S1 g1)(C:Nx prog w A i2 l2 S2 g2)(n:kE s.heap z TI TO .none)(t:gL s.heap TI (.ref i1) (.ref i2))(u:gL s.heap TO a b)(h1:S1 k s.heap)(O:S2 k s.heap)(p:g1 k=b_\/g2 k=b_)(G:∀h' e,(∀c o,c≠z->c≠TO->c≠i1->c≠i2->s.heap.get? c=aD o->h'.get? c=aD o)->(∃o,h'.get? e=aD o/\o.cls=.type "StopIteration")->E (.ref e) {s with heap:=h'}):d_ (ef prog w) A (gE.«zip.__next__» ⟨[.ref z],[]⟩) Q E s:=by
 show d_ _ _ (o3 (.ref z) 2>>=_) _ _ _;refine bx (fo n rfl (x:=.bool a_) rfl ?_);show d_ _ _ (o3 (.ref z) 3>>=_) _ _ _;refine bx (fo n rfl (x:=.ref TI) rfl (bx (iN t rfl ?_)));show d_ _ _ (lY (.ref z)>>=_) _ _ _;refine bx ?_;unfold lY;refine bx (fo n rfl (x:=.none) rfl (c_ ?_));simp only[if_true];refine bx (j9 (bx (fo n rfl (x:=.ref TO) rfl (bx (i5 n (by simp) λt1 q j=>?_)))));have q:kE t1 z TI TO .ellipsis:=q;refine bx ?_;simp only[List.zipIdx_cons,List.zipIdx_nil,forIn_cons,forIn_nil];refine bx (bx (nl ?_));show d_ _ _ (mw (.ref i1)>>=_) _ _ _
 have H:S1 k t1:=r.keep _ _ _ h1 (λo e=>j.extBut _ _ D.i1z e) λo e=>j.extBut _ _ D.l1z e;cases hx:g1 k with|none=>
   refine bx (r.fin k _ _ _ H hx λv e i he=>?_);obtain⟨y,f,g⟩:=he;have I:kE v z TI TO .ellipsis:=i _ _ D.i1z.symm q;have l:e≠z:=λx=>by subst x;rw[I]at f;cases f;simp at g
   exact i5 I (by simp) λB _ m=>G B e (λc o c1 _ c3 _ x=>m.extBut _ _ c1 (i _ _ c3 (j.extBut _ _ c1 x))) ⟨y,m.extBut _ _ l f,g⟩|some x=>
   have U:g2 k=b_:=by rcases p with h|h;rw[hx]at h;cases h;exact h
   refine bx (r.item k _ _ _ x H hx λv Z i=>c_ ?_);have J:gL v TO a b:=i.extBut _ _ D.TOi1 (j.extBut _ _ D.TOz u);refine bx (iN J rfl (bx (ms J λB p3 m=>?_)));refine bx (sP (c_ (bx (bx (nl ?_)))));show d_ _ _ (mw (.ref i2)>>=_) _ _ _;have W:S2 k B:=C.keep _ _ _ O (λo e=>m.extBut _ _ D.TOi2.symm (i.extBut _ _ D.i12.symm (j.extBut _ _ D.i2z e))) λo e=>m.extBut _ _ D.l2TO (i.extBut _ _ D.l2i1 (j.extBut _ _ D.l2z e));refine bx (C.fin k _ _ _ W U λX e L he=>?_);obtain⟨y,f,g⟩:=he;have M:kE X z TI TO .ellipsis:=L _ _ D.i2z.symm (m.extBut _ _ D.TOz.symm (i.extBut _ _ D.i1z.symm q));have l:e≠z:=λx=>by subst x;rw[M]at f;cases f;simp at g
   exact i5 M (by simp) λY _ N=>G Y e (λc o c1 c2 c3 c4 x=>N.extBut _ _ c1 (L _ _ c4 (m.extBut _ _ c2 (i.extBut _ _ c3 (j.extBut _ _ c1 x))))) ⟨y,N.extBut _ _ l f,g⟩
theorem pC{x y:bV}{Q:Option bV->cp->Prop}(D:mI z TI TO i1 i2 l1 l2)(i:Nx prog w A.in1 i1 l1 S1 g1)(j:Nx prog w A.in1 i2 l2 S2 g2)(g:kE s.heap z TI TO .none)(e:gL s.heap TI (.ref i1) (.ref i2))(f:gL s.heap TO a b)(h1:S1 k s.heap)(l:S2 k s.heap)(m:g1 k=aD x)(n:g2 k=aD y)(p:∀ h',kE h' z TI TO (hY s.heap.objs.size)->gL h' TO x y->S1 (k+1) h'->S2 (k+1) h'->gL h' s.heap.objs.size x y->h'.objs.size=s.heap.objs.size+1->(∀c o,c≠z->c≠TO->c≠i1->c≠i2->s.heap.get? c=aD o->h'.get? c=aD o)->Q (aD (.ref s.heap.objs.size)) {s with heap:=h'}):d_ (ef prog w) A (kK (.ref z)) Q E s:=by have h:s.TypeIs (.ref z) "zip":=⟨_,g,rfl⟩;unfold kK;exact bx (iE (fq (name:=gI "__next__") h F.slot_zip_next (fm F.slot_zip_next h F.entry_zip_next (Gu D i j g e f h1 l m n λh' q r t u v B C=>c_ (p h' q r t u v B C)) (F.args_zip_next_1 _))))
theorem qu{Q:Option bV->cp->Prop}(D:mI z TI TO i1 i2 l1 l2)(l:Nx prog w A.in1 i1 l1 S1 g1)(m:Nx prog w A.in1 i2 l2 S2 g2)(i:kE s.heap z TI TO .none)(g:gL s.heap TI (.ref i1) (.ref i2))(h:gL s.heap TO a b)(h1:S1 k s.heap)(n:S2 k s.heap)(f:g1 k=b_\/g2 k=b_)(p:∀h',(∀c o,c≠z->c≠TO->c≠i1->c≠i2->s.heap.get? c=aD o->h'.get? c=aD o)->Q b_ {s with heap:=h'}):d_ (ef prog w) A (kK (.ref z)) Q E s:=by have j:s.TypeIs (.ref z) "zip":=⟨_,i,rfl⟩;unfold kK;refine bx (iE (fq (name:=gI "__next__") j F.slot_zip_next (fm F.slot_zip_next j F.entry_zip_next (Lx D l m i g h h1 n f λh' e q he=>?_) (F.args_zip_next_1 _))));obtain⟨o,ho,hc⟩:=he;exact bx (kF (T:="StopIteration") (b:=ck) ⟨o,ho,hc⟩ qf (c_ (p _ q)))
end
theorem qD(l1 l2:dQ)(xs ys:Array bV):nB (gE.«zip.__new__» ⟨[.type "zip",.ref l1,.ref l2],[]⟩) (λ_ R s=>s.heap.IsList l1 xs/\s.heap.IsList l2 ys/\R (.ok (.ret (.ref (s.heap.objs.size+4)))) {s with heap:=((((s.heap.push {cls:=.type "list_iterator",data:=.fields #[.ref l1,.int 0 0]}).push {cls:=.type "list_iterator",data:=.fields #[.ref l2,.int 0 0]}).push {cls:=.type "tuple",data:=.seq #[.ref s.heap.objs.size,.ref (s.heap.objs.size+1)]}).push {cls:=.type "tuple",data:=.seq #[.none,.none]}).push {cls:=.type "zip",data:=.fields #[.none,.bool a_,.bool a_,.ref (s.heap.objs.size+2),.ref (s.heap.objs.size+3)]}}):=.of_wp λprog w A R s h=>by obtain⟨f,g,d,i,os⟩:=s;obtain⟨a,b,h⟩:=h;have j:=sub_zip;have c:IsList (i8 ⟨f,g,d,i,os⟩) l1 xs:=a;have e:IsList (i8 ⟨f.push {cls:=.type "list_iterator",data:=.fields #[.ref l1,.int 0 0]},g,d,i,os⟩) l2 ys:=Heap.IsList.push b _;wp_walk using iq c,iq e;simp only[fv]at*;exact⟨_,rfl,h⟩
section
variable{prog:ek}{w:fg}{A:fb}{E:bV->cp->Prop}{s:cp}
theorem Bx(j:s.heap.IsList l1 xs)(l:s.heap.IsList l2 ys)(h:∀ h',kE h' (s.heap.objs.size+4) (s.heap.objs.size+2) (s.heap.objs.size+3) .none->gL h' (s.heap.objs.size+2) (.ref s.heap.objs.size) (.ref (s.heap.objs.size+1))->gL h' (s.heap.objs.size+3) .none .none->h'.IsListIter s.heap.objs.size l1 0->h'.IsListIter (s.heap.objs.size+1) l2 0->(∀c o,s.heap.get? c=aD o->h'.get? c=aD o)->Q (.ref (s.heap.objs.size+4)) {s with heap:=h'}):d_ (ef prog w) A (call (.type "zip") [.ref l1,.ref l2]) Q E s:=by
 refine kB F.called_zip (by decide) (F.typeCall_zip_2 _ _) (F.newCall_zip_2 _ _) (λobj=>F.args_object_init_3 obj _ _) F.entry_zip_new (qD l1 l2 xs ys) ⟨j,l,?_⟩;generalize m:s.heap.push {cls:=.type "list_iterator",data:=.fields #[.ref l1,.int 0 0]}=t1;have u:t1.objs.size=s.heap.objs.size+1:=by rw[<-m,fv]
 have C:t1.get? s.heap.objs.size=aD {cls:=.type "list_iterator",data:=.fields #[.ref l1,.int 0 0]}:=by rw[<-m];exact dZ _ rfl
 have G:∀c o,s.heap.get? c=aD o->t1.get? c=aD o:=λc o e=>by rw[<-m];exact eO e
 generalize n:t1.push {cls:=.type "list_iterator",data:=.fields #[.ref l2,.int 0 0]}=a;have v:a.objs.size=s.heap.objs.size+2:=by rw[<-n,fv,u]
 have H:a.get? (s.heap.objs.size+1)=aD {cls:=.type "list_iterator",data:=.fields #[.ref l2,.int 0 0]}:=by rw[<-u,<-n];exact dZ _ rfl
 have x:∀c o,t1.get? c=aD o->a.get? c=aD o:=λc o e=>by rw[<-n];exact eO e
 generalize p:a.push {cls:=.type "tuple",data:=.seq #[.ref s.heap.objs.size,.ref (s.heap.objs.size+1)]}=b;have y:b.objs.size=s.heap.objs.size+3:=by rw[<-p,fv,v]
 have I:b.get? (s.heap.objs.size+2)=aD {cls:=.type "tuple",data:=.seq #[.ref s.heap.objs.size,.ref (s.heap.objs.size+1)]}:=by rw[<-v,<-p];exact dZ _ rfl
 have q:∀c o,a.get? c=aD o->b.get? c=aD o:=λc o e=>by rw[<-p];exact eO e
 generalize r:b.push {cls:=.type "tuple",data:=.seq #[.none,.none]}=f;have J:f.objs.size=s.heap.objs.size+4:=by rw[<-r,fv,y]
 have L:f.get? (s.heap.objs.size+3)=aD {cls:=.type "tuple",data:=.seq #[.none,.none]}:=by rw[<-y,<-r];exact dZ _ rfl
 have i:∀c o,b.get? c=aD o->f.get? c=aD o:=λc o e=>by rw[<-r];exact eO e
 generalize z:f.push {cls:=.type "zip",data:=.fields #[.none,.bool a_,.bool a_,.ref (s.heap.objs.size+2),.ref (s.heap.objs.size+3)]}=t;have B:t.get? (s.heap.objs.size+4)=aD {cls:=.type "zip",data:=.fields #[.none,.bool a_,.bool a_,.ref (s.heap.objs.size+2),.ref (s.heap.objs.size+3)]}:=by rw[<-J,<-z];exact dZ _ rfl
 have g:∀c o,f.get? c=aD o->t.get? c=aD o:=λc o e=>by rw[<-z];exact eO e
 exact⟨⟨_,B,rfl⟩,h t B (g _ _ (i _ _ I)) (g _ _ L) ⟨_,g _ _ (i _ _ (q _ _ (x _ _ C))),rfl,rfl⟩ ⟨_,g _ _ (i _ _ (q _ _ H)),rfl,rfl⟩ λc o e=>g _ _ (i _ _ (q _ _ (x _ _ (G _ _ e))))⟩
end
theorem qx(l1 l2:dQ)(xs ys:Array bV):nB (gE.«zip.__new__» ⟨[.type "zip",.ref l1,.ref l2],[]⟩) (λ_ R s=>s.heap.IsList l1 xs/\s.heap.IsTuple l2 ys/\R (.ok (.ret (.ref (s.heap.objs.size+4)))) {s with heap:=((((s.heap.push {cls:=.type "list_iterator",data:=.fields #[.ref l1,.int 0 0]}).push {cls:=.type "tuple_iterator",data:=.fields #[.ref l2,.int 0 0]}).push {cls:=.type "tuple",data:=.seq #[.ref s.heap.objs.size,.ref (s.heap.objs.size+1)]}).push {cls:=.type "tuple",data:=.seq #[.none,.none]}).push {cls:=.type "zip",data:=.fields #[.none,.bool a_,.bool a_,.ref (s.heap.objs.size+2),.ref (s.heap.objs.size+3)]}}):=.of_wp λprog w A R s h=>by obtain⟨f,g,d,i,os⟩:=s;obtain⟨a,b,h⟩:=h;have j:=sub_zip;have c:IsList (i8 ⟨f,g,d,i,os⟩) l1 xs:=a;have e:sF (i8 ⟨f.push {cls:=.type "list_iterator",data:=.fields #[.ref l1,.int 0 0]},g,d,i,os⟩) l2 ys:=Heap.IsTuple.push b _;wp_walk using iq c,gx e;simp only[fv]at*;exact⟨_,rfl,h⟩
section
variable{prog:ek}{w:fg}{A:fb}{E:bV->cp->Prop}{s:cp}
theorem Aj(j:s.heap.IsList l1 xs)(l:s.heap.IsTuple l2 ys)(h:∀ h',kE h' (s.heap.objs.size+4) (s.heap.objs.size+2) (s.heap.objs.size+3) .none->gL h' (s.heap.objs.size+2) (.ref s.heap.objs.size) (.ref (s.heap.objs.size+1))->gL h' (s.heap.objs.size+3) .none .none->h'.IsListIter s.heap.objs.size l1 0->h'.IsTupleIter (s.heap.objs.size+1) l2 0->(∀c o,s.heap.get? c=aD o->h'.get? c=aD o)->Q (.ref (s.heap.objs.size+4)) {s with heap:=h'}):d_ (ef prog w) A (call (.type "zip") [.ref l1,.ref l2]) Q E s:=by
 refine kB F.called_zip (by decide) (F.typeCall_zip_2 _ _) (F.newCall_zip_2 _ _) (λobj=>F.args_object_init_3 obj _ _) F.entry_zip_new (qx l1 l2 xs ys) ⟨j,l,?_⟩;generalize m:s.heap.push {cls:=.type "list_iterator",data:=.fields #[.ref l1,.int 0 0]}=t1;have u:t1.objs.size=s.heap.objs.size+1:=by rw[<-m,fv]
 have C:t1.get? s.heap.objs.size=aD {cls:=.type "list_iterator",data:=.fields #[.ref l1,.int 0 0]}:=by rw[<-m];exact dZ _ rfl
 have G:∀c o,s.heap.get? c=aD o->t1.get? c=aD o:=λc o e=>by rw[<-m];exact eO e
 generalize n:t1.push {cls:=.type "tuple_iterator",data:=.fields #[.ref l2,.int 0 0]}=a;have v:a.objs.size=s.heap.objs.size+2:=by rw[<-n,fv,u]
 have H:a.get? (s.heap.objs.size+1)=aD {cls:=.type "tuple_iterator",data:=.fields #[.ref l2,.int 0 0]}:=by rw[<-u,<-n];exact dZ _ rfl
 have x:∀c o,t1.get? c=aD o->a.get? c=aD o:=λc o e=>by rw[<-n];exact eO e
 generalize p:a.push {cls:=.type "tuple",data:=.seq #[.ref s.heap.objs.size,.ref (s.heap.objs.size+1)]}=b;have y:b.objs.size=s.heap.objs.size+3:=by rw[<-p,fv,v]
 have I:b.get? (s.heap.objs.size+2)=aD {cls:=.type "tuple",data:=.seq #[.ref s.heap.objs.size,.ref (s.heap.objs.size+1)]}:=by rw[<-v,<-p];exact dZ _ rfl
 have q:∀c o,a.get? c=aD o->b.get? c=aD o:=λc o e=>by rw[<-p];exact eO e
 generalize r:b.push {cls:=.type "tuple",data:=.seq #[.none,.none]}=f;have J:f.objs.size=s.heap.objs.size+4:=by rw[<-r,fv,y]
 have L:f.get? (s.heap.objs.size+3)=aD {cls:=.type "tuple",data:=.seq #[.none,.none]}:=by rw[<-y,<-r];exact dZ _ rfl
 have i:∀c o,b.get? c=aD o->f.get? c=aD o:=λc o e=>by rw[<-r];exact eO e
 generalize z:f.push {cls:=.type "zip",data:=.fields #[.none,.bool a_,.bool a_,.ref (s.heap.objs.size+2),.ref (s.heap.objs.size+3)]}=t;have B:t.get? (s.heap.objs.size+4)=aD {cls:=.type "zip",data:=.fields #[.none,.bool a_,.bool a_,.ref (s.heap.objs.size+2),.ref (s.heap.objs.size+3)]}:=by rw[<-J,<-z];exact dZ _ rfl
 have g:∀c o,f.get? c=aD o->t.get? c=aD o:=λc o e=>by rw[<-z];exact eO e
 exact⟨⟨_,B,rfl⟩,h t B (g _ _ (i _ _ I)) (g _ _ L) ⟨_,g _ _ (i _ _ (q _ _ (x _ _ C))),rfl,rfl⟩ ⟨_,g _ _ (i _ _ (q _ _ H)),rfl,rfl⟩ λc o e=>g _ _ (i _ _ (q _ _ (x _ _ (G _ _ e))))⟩
end
theorem qz(l1 l2:dQ)(xs ys:Array bV):nB (gE.«zip.__new__» ⟨[.type "zip",.ref l1,.ref l2],[]⟩) (λ_ R s=>s.heap.IsTuple l1 xs/\s.heap.IsList l2 ys/\R (.ok (.ret (.ref (s.heap.objs.size+4)))) {s with heap:=((((s.heap.push {cls:=.type "tuple_iterator",data:=.fields #[.ref l1,.int 0 0]}).push {cls:=.type "list_iterator",data:=.fields #[.ref l2,.int 0 0]}).push {cls:=.type "tuple",data:=.seq #[.ref s.heap.objs.size,.ref (s.heap.objs.size+1)]}).push {cls:=.type "tuple",data:=.seq #[.none,.none]}).push {cls:=.type "zip",data:=.fields #[.none,.bool a_,.bool a_,.ref (s.heap.objs.size+2),.ref (s.heap.objs.size+3)]}}):=.of_wp λprog w A R s h=>by obtain⟨f,g,d,i,os⟩:=s;obtain⟨a,b,h⟩:=h;have j:=sub_zip;have c:sF (i8 ⟨f,g,d,i,os⟩) l1 xs:=a;have e:IsList (i8 ⟨f.push {cls:=.type "tuple_iterator",data:=.fields #[.ref l1,.int 0 0]},g,d,i,os⟩) l2 ys:=Heap.IsList.push b _;wp_walk using gx c,iq e;simp only[fv]at*;exact⟨_,rfl,h⟩
section
variable{prog:ek}{w:fg}{A:fb}{E:bV->cp->Prop}{s:cp}
theorem Am(j:s.heap.IsTuple l1 xs)(l:s.heap.IsList l2 ys)(h:∀ h',kE h' (s.heap.objs.size+4) (s.heap.objs.size+2) (s.heap.objs.size+3) .none->gL h' (s.heap.objs.size+2) (.ref s.heap.objs.size) (.ref (s.heap.objs.size+1))->gL h' (s.heap.objs.size+3) .none .none->h'.IsTupleIter s.heap.objs.size l1 0->h'.IsListIter (s.heap.objs.size+1) l2 0->(∀c o,s.heap.get? c=aD o->h'.get? c=aD o)->Q (.ref (s.heap.objs.size+4)) {s with heap:=h'}):d_ (ef prog w) A (call (.type "zip") [.ref l1,.ref l2]) Q E s:=by
 refine kB F.called_zip (by decide) (F.typeCall_zip_2 _ _) (F.newCall_zip_2 _ _) (λobj=>F.args_object_init_3 obj _ _) F.entry_zip_new (qz l1 l2 xs ys) ⟨j,l,?_⟩;generalize m:s.heap.push {cls:=.type "tuple_iterator",data:=.fields #[.ref l1,.int 0 0]}=t1;have u:t1.objs.size=s.heap.objs.size+1:=by rw[<-m,fv]
 have C:t1.get? s.heap.objs.size=aD {cls:=.type "tuple_iterator",data:=.fields #[.ref l1,.int 0 0]}:=by rw[<-m];exact dZ _ rfl
 have G:∀c o,s.heap.get? c=aD o->t1.get? c=aD o:=λc o e=>by rw[<-m];exact eO e
 generalize n:t1.push {cls:=.type "list_iterator",data:=.fields #[.ref l2,.int 0 0]}=a;have v:a.objs.size=s.heap.objs.size+2:=by rw[<-n,fv,u]
 have H:a.get? (s.heap.objs.size+1)=aD {cls:=.type "list_iterator",data:=.fields #[.ref l2,.int 0 0]}:=by rw[<-u,<-n];exact dZ _ rfl
 have x:∀c o,t1.get? c=aD o->a.get? c=aD o:=λc o e=>by rw[<-n];exact eO e
 generalize p:a.push {cls:=.type "tuple",data:=.seq #[.ref s.heap.objs.size,.ref (s.heap.objs.size+1)]}=b;have y:b.objs.size=s.heap.objs.size+3:=by rw[<-p,fv,v]
 have I:b.get? (s.heap.objs.size+2)=aD {cls:=.type "tuple",data:=.seq #[.ref s.heap.objs.size,.ref (s.heap.objs.size+1)]}:=by rw[<-v,<-p];exact dZ _ rfl
 have q:∀c o,a.get? c=aD o->b.get? c=aD o:=λc o e=>by rw[<-p];exact eO e
 generalize r:b.push {cls:=.type "tuple",data:=.seq #[.none,.none]}=f;have J:f.objs.size=s.heap.objs.size+4:=by rw[<-r,fv,y]
 have L:f.get? (s.heap.objs.size+3)=aD {cls:=.type "tuple",data:=.seq #[.none,.none]}:=by rw[<-y,<-r];exact dZ _ rfl
 have i:∀c o,b.get? c=aD o->f.get? c=aD o:=λc o e=>by rw[<-r];exact eO e
 generalize z:f.push {cls:=.type "zip",data:=.fields #[.none,.bool a_,.bool a_,.ref (s.heap.objs.size+2),.ref (s.heap.objs.size+3)]}=t;have B:t.get? (s.heap.objs.size+4)=aD {cls:=.type "zip",data:=.fields #[.none,.bool a_,.bool a_,.ref (s.heap.objs.size+2),.ref (s.heap.objs.size+3)]}:=by rw[<-J,<-z];exact dZ _ rfl
 have g:∀c o,f.get? c=aD o->t.get? c=aD o:=λc o e=>by rw[<-z];exact eO e
 exact⟨⟨_,B,rfl⟩,h t B (g _ _ (i _ _ I)) (g _ _ L) ⟨_,g _ _ (i _ _ (q _ _ (x _ _ C))),rfl,rfl⟩ ⟨_,g _ _ (i _ _ (q _ _ H)),rfl,rfl⟩ λc o e=>g _ _ (i _ _ (q _ _ (x _ _ (G _ _ e))))⟩
end
theorem qy(l1 l2:dQ)(xs ys:Array bV):nB (gE.«zip.__new__» ⟨[.type "zip",.ref l1,.ref l2],[]⟩) (λ_ R s=>s.heap.IsTuple l1 xs/\s.heap.IsTuple l2 ys/\R (.ok (.ret (.ref (s.heap.objs.size+4)))) {s with heap:=((((s.heap.push {cls:=.type "tuple_iterator",data:=.fields #[.ref l1,.int 0 0]}).push {cls:=.type "tuple_iterator",data:=.fields #[.ref l2,.int 0 0]}).push {cls:=.type "tuple",data:=.seq #[.ref s.heap.objs.size,.ref (s.heap.objs.size+1)]}).push {cls:=.type "tuple",data:=.seq #[.none,.none]}).push {cls:=.type "zip",data:=.fields #[.none,.bool a_,.bool a_,.ref (s.heap.objs.size+2),.ref (s.heap.objs.size+3)]}}):=.of_wp λprog w A R s h=>by obtain⟨f,g,d,i,os⟩:=s;obtain⟨a,b,h⟩:=h;have j:=sub_zip;have c:sF (i8 ⟨f,g,d,i,os⟩) l1 xs:=a;have e:sF (i8 ⟨f.push {cls:=.type "tuple_iterator",data:=.fields #[.ref l1,.int 0 0]},g,d,i,os⟩) l2 ys:=Heap.IsTuple.push b _;wp_walk using gx c,gx e;simp only[fv]at*;exact⟨_,rfl,h⟩
section
variable{prog:ek}{w:fg}{A:fb}{E:bV->cp->Prop}{s:cp}
theorem Aq(j:s.heap.IsTuple l1 xs)(l:s.heap.IsTuple l2 ys)(h:∀ h',kE h' (s.heap.objs.size+4) (s.heap.objs.size+2) (s.heap.objs.size+3) .none->gL h' (s.heap.objs.size+2) (.ref s.heap.objs.size) (.ref (s.heap.objs.size+1))->gL h' (s.heap.objs.size+3) .none .none->h'.IsTupleIter s.heap.objs.size l1 0->h'.IsTupleIter (s.heap.objs.size+1) l2 0->(∀c o,s.heap.get? c=aD o->h'.get? c=aD o)->Q (.ref (s.heap.objs.size+4)) {s with heap:=h'}):d_ (ef prog w) A (call (.type "zip") [.ref l1,.ref l2]) Q E s:=by
 refine kB F.called_zip (by decide) (F.typeCall_zip_2 _ _) (F.newCall_zip_2 _ _) (λobj=>F.args_object_init_3 obj _ _) F.entry_zip_new (qy l1 l2 xs ys) ⟨j,l,?_⟩;generalize m:s.heap.push {cls:=.type "tuple_iterator",data:=.fields #[.ref l1,.int 0 0]}=t1;have u:t1.objs.size=s.heap.objs.size+1:=by rw[<-m,fv]
 have C:t1.get? s.heap.objs.size=aD {cls:=.type "tuple_iterator",data:=.fields #[.ref l1,.int 0 0]}:=by rw[<-m];exact dZ _ rfl
 have G:∀c o,s.heap.get? c=aD o->t1.get? c=aD o:=λc o e=>by rw[<-m];exact eO e
 generalize n:t1.push {cls:=.type "tuple_iterator",data:=.fields #[.ref l2,.int 0 0]}=a;have v:a.objs.size=s.heap.objs.size+2:=by rw[<-n,fv,u]
 have H:a.get? (s.heap.objs.size+1)=aD {cls:=.type "tuple_iterator",data:=.fields #[.ref l2,.int 0 0]}:=by rw[<-u,<-n];exact dZ _ rfl
 have x:∀c o,t1.get? c=aD o->a.get? c=aD o:=λc o e=>by rw[<-n];exact eO e
 generalize p:a.push {cls:=.type "tuple",data:=.seq #[.ref s.heap.objs.size,.ref (s.heap.objs.size+1)]}=b;have y:b.objs.size=s.heap.objs.size+3:=by rw[<-p,fv,v]
 have I:b.get? (s.heap.objs.size+2)=aD {cls:=.type "tuple",data:=.seq #[.ref s.heap.objs.size,.ref (s.heap.objs.size+1)]}:=by rw[<-v,<-p];exact dZ _ rfl
 have q:∀c o,a.get? c=aD o->b.get? c=aD o:=λc o e=>by rw[<-p];exact eO e
 generalize r:b.push {cls:=.type "tuple",data:=.seq #[.none,.none]}=f;have J:f.objs.size=s.heap.objs.size+4:=by rw[<-r,fv,y]
 have L:f.get? (s.heap.objs.size+3)=aD {cls:=.type "tuple",data:=.seq #[.none,.none]}:=by rw[<-y,<-r];exact dZ _ rfl
 have i:∀c o,b.get? c=aD o->f.get? c=aD o:=λc o e=>by rw[<-r];exact eO e
 generalize z:f.push {cls:=.type "zip",data:=.fields #[.none,.bool a_,.bool a_,.ref (s.heap.objs.size+2),.ref (s.heap.objs.size+3)]}=t;have B:t.get? (s.heap.objs.size+4)=aD {cls:=.type "zip",data:=.fields #[.none,.bool a_,.bool a_,.ref (s.heap.objs.size+2),.ref (s.heap.objs.size+3)]}:=by rw[<-J,<-z];exact dZ _ rfl
 have g:∀c o,f.get? c=aD o->t.get? c=aD o:=λc o e=>by rw[<-z];exact eO e
 exact⟨⟨_,B,rfl⟩,h t B (g _ _ (i _ _ I)) (g _ _ L) ⟨_,g _ _ (i _ _ (q _ _ (x _ _ C))),rfl,rfl⟩ ⟨_,g _ _ (i _ _ (q _ _ H)),rfl,rfl⟩ λc o e=>g _ _ (i _ _ (q _ _ (x _ _ (G _ _ e))))⟩
end
end PySem
namespace _L
open PySem Spec PyProof.Rows
variable{t:Bool}{a:dQ}
noncomputable def Sq(t:Bool)(K:PySem.W.Frag)(H:Hp)(a:dQ)(xs:List V):Prop:=if t then ir K H a xs else fU K H a xs
noncomputable def W4(t:Bool)(h:Heap)(a:dQ)(xs:Array bV):Prop:=if t then h.IsTuple a xs else h.IsList a xs
noncomputable def HY(t:Bool)(h:Heap)(i a:dQ)(k:Nat):Prop:=if t then h.IsTupleIter i a k else h.IsListIter i a k
section
variable{X:Cx}{pins:List (dQ×Obj)}{σ:_L.St}{H:Hp}{s:cp}
theorem Inv.sq{xs:List V}(I:Inv X pins σ H s)(h:Sq t X.K H a xs):∃b:List bV,Vals xs b/\W4 t s.heap a b.toArray:=by cases t with|true=>obtain⟨b,c,pl,_⟩:=I.tuple h;exact⟨b,c,pl⟩|false=>obtain⟨b,c,pl,_⟩:=I.list h;exact⟨b,c,pl.isList⟩
theorem Inv.Mq{xs ys:List V}(I:Inv X pins σ H s)(h:Sq t X.K H a xs)(h':Sq t X.K H a ys):xs=ys:=by cases t with|true=>exact I.jL h h'|false=>exact I.nP h h'
theorem W4.lt{h:Heap}{xs:Array bV}(q:W4 t h a xs):a<h.objs.size:=by cases t with|true=>obtain⟨o,e,_⟩:=id q;exact eA e|false=>obtain⟨o,e,_⟩:=id q;exact eA e
theorem HY.obj{h:Heap}{i:dQ}{k:Nat}(q:HY t h i a k):∃o,h.get? i=aD o/\∀v,o.data≠.cell v:=by cases t with|true=>obtain⟨o,b,e,c⟩:=id q;exact⟨o,b,λv z=>by rw[c]at z;cases z⟩|false=>obtain⟨o,b,e,c⟩:=id q;exact⟨o,b,λv z=>by rw[c]at z;cases z⟩
theorem HY.keep{h h':Heap}{i:dQ}{k:Nat}(q:HY t h i a k)(e:∀o,h.get? i=aD o->h'.get? i=aD o):HY t h' i a k:=by cases t with|true=>obtain⟨o,b,r⟩:=id q;exact⟨o,e o b,r⟩|false=>obtain⟨o,b,r⟩:=id q;exact⟨o,e o b,r⟩
theorem Nv(t:Bool){prog:ek}{w:fg}{A:fb}(c:A.handled=b_)(it l:dQ)(b:l≠it)(items:Array bV):Nx prog w A it l (λk h=>HY t h it l k/\W4 t h l items) (λk=>items[k]?):=by cases t with|true=>exact Nx.tuple c it l b items|false=>exact Nx.list c it l b items
theorem Inv.JX{ch:List dQ}{h':Heap}(I:Inv X pins σ H s)(k:∀b u,b∉ch->s.heap.get? b=aD u->h'.get? b=aD u)(h:∀b∈ch,pO X pins H b):Inv X pins σ H {s with heap:=h'}:=by
 have i:∀b u,H b=aD u->b∉ch:=λb u e f=>by rw[(h b f).1]at e;cases e
 refine I.call (g':=s.gens) (d':=s.drawn) (t':=s.toks) (ch:=ch) ⟨λb u e n _ g=>k b u g e,λb u e n _ g=>⟨u.slots,k b u g e⟩,λb u e n g=>n,λb u e g=>⟨u,k b u g e⟩,λb xs e=>e,λb j u e=>e,λb ps e=>⟨#[],by rw[e];simp⟩⟩ ?_ I.bare λb f=>⟨(h b f).2.2.2.1,(h b f).2.1,(h b f).2.2.2.2.1,(h b f).2.2.2.2.2⟩;intro b u e;refine(I.hok b u e).stay (λc v hc q=>k c v ?_ q) (λc q=>q) λc xs q=>q;rcases hc with rfl|hc;.exact i _ _ e
 .exact i _ _ hc
end
noncomputable def Zb(t1 c:Bool)(K:PySem.W.Frag)(a b:dQ):It:=⟨λi H=>∃ xs ys x y,Sq t1 K H a xs/\Sq c K H b ys/\xs[i]?=aD x/\ys[i]?=aD y,λi H x H'=>∃T v w,H T=b_/\x=.ref T/\H'=upd H T (.tup [v,w])/\(∀xs,Sq t1 K H a xs->xs[i]?=aD v)/\∀ys,Sq c K H b ys->ys[i]?=aD w,λi H=>∃xs ys,Sq t1 K H a xs/\Sq c K H b ys/\(xs.length<=i\/ys.length<=i)⟩
theorem Ip{P:ek}{w:fg}{K:PySem.W.Frag}{M:List eB}{x1}{tp:Pos}(t1 N:Bool){z TI TO f g J L:dQ}(D:mI z TI TO f g J L):Turn P w K (.Tuple M x1 tp) (Zb t1 N K J L) [z,TI,TO,f,g] z (λi h=>kE h z TI TO .none/\gL h TI (.ref f) (.ref g)/\(∃a b,gL h TO a b)/\HY t1 h f J i/\HY N h g L i)where
 mem:=by simp
 obj:=λi h st b c=>by
  obtain⟨h1,m,⟨u,v,r⟩,B,C⟩:=st;simp only[eM,ka,or_false]at c;rcases c with rfl|rfl|rfl|rfl|rfl;.exact⟨_,h1,λv z=>by cases z⟩
  .exact⟨_,m,λv z=>by cases z⟩
  .exact⟨_,r,λv z=>by cases z⟩
  .exact B.obj
  .exact C.obj
 keep:=λi h h' st k=>by obtain⟨h1,m,⟨u,v,r⟩,B,C⟩:=st;exact⟨k z (by simp) _ h1,k TI (by simp) _ m,⟨u,v,k TO (by simp) _ r⟩,B.keep (k f (by simp)),C.keep (k g (by simp))⟩
 item:=λX hP hw hK hc i O s σ H E I hf st go=>by
  subst hP hw hK;obtain⟨h1,m,⟨u,v,r⟩,B,C⟩:=st;obtain⟨xs,ys,x,y,n,p,hx,hy⟩:=go;obtain⟨QR,G,Yk⟩:=I.sq n;obtain⟨j,Wn,RX⟩:=I.sq p;obtain⟨ux,ab,ac⟩:=G.get hx;obtain⟨uy,ae,af⟩:=Wn.get hy;have U:X.A.in1.handled=b_:=I.ok.hd hc;refine pC D (Nv t1 U f J D.l1i1 QR.toArray) (Nv N U g L D.l2i2 j.toArray) h1 m r (k:=i) ⟨B,Yk⟩ ⟨C,RX⟩ (x:=ux) (y:=uy) (by simpa using ab) (by simpa using ae) λh' z1 p1 s1 s2 pT hsz kp=>?_;refine⟨_,rfl,wpAny_letOwnedTupleGo_zip z1 λl z2 Y=>?_⟩;have Z:∀b∈[z,TI,TO,f,g],b≠s.heap.objs.size:=λb c=>by
   simp only[eM,ka,or_false]at c;rcases c with rfl|rfl|rfl|rfl|rfl;.exact eS (eA h1)
   .exact eS (eA m)
   .exact eS (eA r)
   .exact eS (eA B.obj.choose_spec.1)
   .exact eS (eA C.obj.choose_spec.1)
  have Yj:∀b o,b∉[z,TO,f,g]->s.heap.get? b=aD o->l.get? b=aD o:=λb o c q=>by simp only[eM,ka,or_false,not_or]at c;exact Y.extBut b o c.1 (kp b o c.1 c.2.1 c.2.2.1 c.2.2.2 q)
  have ag:gL l s.heap.objs.size ux uy:=Y.extBut _ _ (Z z (by simp)).symm pT;have p2:gL l TO ux uy:=Y.extBut _ _ D.TOz p1;have j1:HY t1 l f J (i+1):=s1.1.keep λo e=>Y.extBut _ _ D.i1z e;have j2:HY N l g L (i+1):=s2.1.keep λo e=>Y.extBut _ _ D.i2z e;refine⟨.ref s.heap.objs.size,upd H s.heap.objs.size (.tup [x,y]),?_,rfl,⟨_,x,y,I.fresh,rfl,rfl,λzs hz=>?_,λzs hz=>?_⟩,⟨z2,Yj TI _ ?_ m,⟨_,_,p2⟩,j1,j2⟩,λb c=>?_⟩
  . refine I.Al (ch:=[z,TO,f,g]) (t':=s.toks) Yj (λb c=>?_) (λb c=>hf b ?_) ⟨(by show 2<=sizeLine;decide),[ux,uy],.cons ac (.cons af .nil),⟨_,ag,rfl,_,rfl⟩⟩
    . simp only[eM,ka,or_false]at c;rcases c with rfl|rfl|rfl|rfl;.exact⟨_,z2⟩
      .exact⟨_,p2⟩
      .exact⟨_,j1.obj.choose_spec.1⟩
      .exact⟨_,j2.obj.choose_spec.1⟩
    .simp only[eM,ka,or_false]at c ⊢;rcases c with h|h|h|h<;>simp[h]
  .rw[I.Mq hz n];exact hx
  .rw[I.Mq hz p];exact hy
  .simp[D.TIz,D.TITO,D.TIi1,D.TIi2]
  .rw[aG (Z b c)];exact(hf b c).1
 done:=λX hP hw hK hc i O s σ H E I hf st stop=>by
  subst hP hw hK;obtain⟨h1,m,⟨u,v,r⟩,B,C⟩:=st;obtain⟨xs,ys,n,p,hx⟩:=stop;obtain⟨QR,G,Yk⟩:=I.sq n;obtain⟨j,Wn,RX⟩:=I.sq p;have U:X.A.in1.handled=b_:=I.ok.hd hc;refine qu D (Nv t1 U f J D.l1i1 QR.toArray) (Nv N U g L D.l2i2 j.toArray) h1 m r (k:=i) ⟨B,Yk⟩ ⟨C,RX⟩ ?_ λh' kp=>⟨rfl,?_⟩
  . rcases hx with hx|hx;.left;rw[G.length]at hx;simpa using hx
    .right;rw[Wn.length]at hx;simpa using hx
  .exact I.JX (ch:=[z,TO,f,g]) (λb u c q=>by simp only[eM,ka,or_false,not_or]at c;exact kp b u c.1 c.2.1 c.2.2.1 c.2.2.2 q) λb c=>hf b (by simp only[eM,ka,or_false]at c ⊢;rcases c with h|h|h|h<;>simp[h])
 self:=λA i s Q E st q=>wpAny_pyIter_zip st.1 q
section
variable{X:Cx}{elts:List eB}{x1:Nat}{tp:Pos}
theorem Gy{prog:ek}{w:fg}{A:fb}{E:bV->cp->Prop}{s:cp}(t1 f:Bool){g i:dQ}{xs ys:Array bV}{Q:bV->cp->Prop}(b:W4 t1 s.heap g xs)(e:W4 f s.heap i ys)(h:∀ h',kE h' (s.heap.objs.size+4) (s.heap.objs.size+2) (s.heap.objs.size+3) .none->gL h' (s.heap.objs.size+2) (.ref s.heap.objs.size) (.ref (s.heap.objs.size+1))->gL h' (s.heap.objs.size+3) .none .none->HY t1 h' s.heap.objs.size g 0->HY f h' (s.heap.objs.size+1) i 0->(∀c o,s.heap.get? c=aD o->h'.get? c=aD o)->Q (.ref (s.heap.objs.size+4)) {s with heap:=h'}):d_ (ef prog w) A (call (.type "zip") [.ref g,.ref i]) Q E s:=by
 cases t1<;>cases f;.exact Bx b e h
 .exact Aj b e h
 .exact Am b e h
 .exact Aq b e h
theorem Ur{n l m:Nat}(h1:l<n)(b:m<n):mI (n+4) (n+2) (n+3) n (n+1) l m:=by constructor<;>exact λh=>absurd (show(_:Nat)=_ from h) (by lia)
noncomputable def adG(K:PySem.W.Frag)(R:It->Hp->Prop)(vs:List V)(c:Hp):Prop:=∃t1 e a b,vs=[.ref a,.ref b]/\(∃xs,Sq t1 K c a xs)/\(∃ys,Sq e K c b ys)/\R (Zb t1 e K a b) c
noncomputable def afm(K:PySem.W.Frag)(b:TA):TI:=λσ H R=>b σ H (adG K R)
theorem boot_zip:gc "zip"=aD (.type "zip"):=by decide+kernel
theorem VJ{a b:eB}{l:TA}{p pos:Pos}(y:Gl X "zip")(z:X.mg "zip"=b_)(A:PA X [a,b] l)(hs:ea [a,b] X.env=[(a_,fF a X.env),(a_,fF b X.env)]:=by rfl)(c:ea [b] X.env=[(a_,fF b X.env)]:=by rfl):PI X (.Tuple elts x1 tp) (.Call (.Name "zip" p) [a,b] [] pos) (afm X.K l):=by
 intro e s σ H R I h;refine tO (j6 I y z boot_zip (fx (dz (A pos e s σ H _ I h) ?_) (by rw[hs,c]) (by rw[c];rfl)));rintro W s1⟨vs,B,f,r1,C⟩;obtain⟨t1,m,E,G,rfl,⟨xs,i⟩,⟨ys,j⟩,q⟩:=C;obtain⟨u,v,rfl,J,L⟩:=r1.two;cases J;cases L;obtain⟨Y,M,n⟩:=f.sq i;obtain⟨o,Z,r⟩:=f.sq j;have b1:=n.lt;have b2:=r.lt;refine Gy t1 m n r λh' w N O Q U kp=>?_;have D:mI (s1.heap.objs.size+4) (s1.heap.objs.size+2) (s1.heap.objs.size+3) s1.heap.objs.size (s1.heap.objs.size+1) E G:=Ur b1 b2;refine wpAny_pyIter_zip w ⟨_,_,_,_,B,rfl,f.kept (t':=s1.toks) kp,Ip t1 m D,⟨w,N,⟨_,_,O⟩,Q,U⟩,λb x=>?_,q⟩;have g:s1.heap.objs.size<=b:=by simp only[eM,ka,or_false]at x;rcases x with rfl|rfl|rfl|rfl|rfl<;>first|exact Nat.le_add_right _ _|exact di
 exact f.xg g (f.hok.fresh g)
end
end _L
namespace _H
open PySem _L Spec PyProof.Rows
variable{x:Str}
section
variable{K:PySem.W.Frag}{F F1 H H1:Hp}{ρ ρ1:List Sl}{σ:_L.St}{ds es:List D}{a b:dQ}
theorem aM.sq{t:Bool}{xs:List V}(e:aM F H)(h:Sq t K F a xs):Sq t K H a xs:=by cases t with|true=>exact aM.gO e h|false=>exact e.seq h
theorem PJ{t1 i:Bool}{xs ys:List V}{j H':Hp}(c:Sq t1 K H' a xs)(e:Sq i K H' b ys)(r1:aH K j xs ds)(n:aH K j ys es)(s:aM j H')(k:Nat):(∀d,((ds.zip es).map λp=>D.tup [p.1,p.2])[k]?=aD d->(Zb t1 i K a b).go k H'/\∀x l,(Zb t1 i K a b).Ia k H' x l->∃f,Ext j H' f l/\Rep K f x d)/\(((ds.zip es).map λp=>D.tup [p.1,p.2]).length<=k->(Zb t1 i K a b).stop k H'):=by refine⟨λd hd=>?_,λh=>⟨xs,ys,c,e,by rw[r1.length,n.length];rw[en,qc]at h;lia⟩⟩;rw[eI]at hd;obtain⟨⟨d0,d1⟩,o,q⟩:=map_some hd;subst q;obtain⟨f1,f2⟩:=iA.mp o;obtain⟨w,h1,r⟩:=r1.get f1;obtain⟨t,g,m⟩:=n.get f2;refine⟨⟨xs,ys,w,t,c,e,h1,g⟩,?_⟩;rintro x l⟨T,v,C,u,z,A,y,B⟩;subst z;subst A;have:=y xs c;rw[h1]at this;cases this;have:=B ys e;rw[g]at this;cases this;exact tE s u r m
theorem KZ{v:V}{d:D}{ds:List D}(h:Rep K F v d)(e:items d=aD ds):∃t a xs,v=.ref a/\Sq t K F a xs/\aH K F xs ds:=by cases d with|tup es=>cases e;rw[Rep]at h;obtain⟨a,xs,rfl,h1,c⟩:=h;exact⟨ck,a,xs,rfl,h1,c⟩|lst es=>cases e;rw[Rep]at h;obtain⟨a,xs,rfl,h1,c⟩:=h;exact⟨a_,a,xs,rfl,h1,c⟩|_=>cases e
end
section
variable{X:Cx}{c:Call}{e a b:eB}{pa pb:P}{pos:Pos}{elts:List eB}{x1:Nat}{tp:Pos}
theorem sS{w:Pos}(y:x="zip")(z:Gl X x)(A:X.mg x=b_)(B:SX X c a pa)(C:SX X c b pb)(hs:ea [a,b] X.env=[(a_,fF a X.env),(a_,fF b X.env)]:=by rfl)(f:ea [b] X.env=[(a_,fF b X.env)]:=by rfl):SI X c (.Tuple elts x1 tp) (.Call (.Name x w) [a,b] [] pos) (.zip pa pb):=by subst y;refine mW (VJ z A (qO B (qO C aK f) (by rw[hs,f])).1 hs f) ?_;rintro σ H R⟨F,ρ,ds,E,g,e,k⟩;obtain⟨r,G,p,l⟩:=aj e;have o:=aF l;clear l;obtain⟨l,I⟩:=o;subst I;rw[_H.E21]at p;obtain⟨x0,j,J,L⟩:=aj p;obtain⟨M,N,O,m⟩:=aj L;have o:=aF m;clear m;obtain⟨m,Q⟩:=o;subst Q;obtain⟨us,f1,U⟩:=bF m;obtain⟨ws,f2,f3⟩:=map_some U;subst f3;cases l;refine⟨F,ρ,[x0.d,M.d],_,g,by rw[pD,J];show(evs c [pb] j).bind _=_;rw[pD,O];rfl,λvs W H' s h=>?_⟩;obtain⟨v,r',rfl,Y,h⟩:=h.cW;obtain⟨u,Z,rfl,ru,h⟩:=h.cW;rw[h.ie];obtain⟨t1,a1,xs,rfl,q,r1⟩:=KZ Y f1;obtain⟨t2,a2,ys,rfl,t,r2⟩:=KZ ru f2;exact⟨t1,t2,a1,a2,rfl,⟨xs,aM.sq s.gs.sub q⟩,⟨ys,aM.sq s.gs.sub t⟩,k _ _ _ ⟨s.gs,λn k W ab ac H' i=>PJ (aM.sq i.gs.sub (aM.sq i.cI q)) (aM.sq i.gs.sub (aM.sq i.cI t)) (r1.mono i.cI) (r2.mono i.cI) i.gs.sub k,λF3 j ae H3 s3=>⟨s.trans s3,λv r h=>h.later s⟩⟩⟩
end
structure bJ(K:PySem.W.Frag)(x:Str)(st:fR):Prop where ex:∃f fd,PySem.W.nsIn K eF x=aD (aD (.ref f))/\iM K x x st f fd
section
variable{Pg:ek}{w:fg}{K:PySem.W.Frag}{mg:Str->Option bV}{base h:Heap}
theorem U6{st:fR}{f:dQ}{g:bV}{i j:Option dQ}{b:Array (Option bV)}{kV e m cdv ct:bV}(a:PySem.W.nsIn K eF x=aD (aD (.ref f)))(l:K.lookup f=aD ⟨g,i,.func (PySem.W.fnOf x x (j4 st) (iI st) (aC st) .none kV e m j cdv ct),b⟩)(c:PySem.W.codeIn K cdv x=ck)(k:keepIn K (.ref f)=ck):bJ K x st:=⟨_,_,a,Ug l c k⟩
theorem bR{Γ:Tab}{j i np:Nat}{st:fR}{ps:List Str}(X:K.In h)(G:h.Ns eF mg)(D:bJ K x st)(l:ps.length=np)(m:∀(kV g n:bV)(o:Option dQ)(cdv ct:bV)(c:List bV),c.length=ps.length->tI (PySem.W.fnOf x x (j4 st) (iI st) (aC st) .none kV g n o cdv ct) ⟨c,[]⟩=fI (ps.zip c)):aW Pg w K mg base 0 (run Γ j 0) i x np:=by obtain⟨f,fd,a,F⟩:=D.ex;exact⟨f,fd,ps,⟨λvs H Q E s=>s.1,λA outer s H args c vs Q E hr e b v sp=>by obtain⟨_,F,as,r,p,_,z,_⟩:=sp;cases z⟩,mg_of X G a,F.kp,F.binds m,l⟩
theorem bQ{Γ:Tab}{b n i np:Nat}{st:fR}{ps:List Str}{d:Fd}(X:K.In h)(G:h.Ns eF mg)(D:bJ K x st)(l:ps.length=np)(c:Γ i=aD d)(m:∀(kV g o:bV)(p:Option dQ)(cdv ct:bV)(j:List bV),j.length=ps.length->tI (PySem.W.fnOf x x (j4 st) (iI st) (aC st) .none kV g o p cdv ct) ⟨j,[]⟩=fI (ps.zip j))(ok:∀f fd,iM K x x st f fd->o7 Pg w K mg base JC (n+1) f fd ps (PX K np (λargs=>enter (run Γ b n) b d args))):aW Pg w K mg base (n+1) (run Γ b (n+1)) i x np:=by
 obtain⟨f,fd,a,F⟩:=D.ex;refine⟨f,fd,ps,?_,mg_of X G a,F.kp,F.binds m,l⟩;have e:run Γ b (n+1) i=λargs=>enter (run Γ b n) b d args:=by funext args;show(match Γ i with|some d=>enter (run Γ b n) b d args|none=>.stuck)=_;rw[c]
 rw[e,l];exact ok f fd F
theorem uC{F:Hp}:∀ns:List Int,aH K F (ns.map V.int) (ns.map D.int)|[]=>.nil|n::ns=>.cons (bO n) (uC ns)
theorem FZ{H:Hp}{a:dQ}{ns:List Int}{g:List Sl->Res R}{as:List Sl}(m:fU K H a (ns.map V.int))(hr:g [.val a_ (.lst (ns.map D.int))]=.ok (.val (.bl ck)) as):PX K 1 g [.ref a] H (λv _=>v=.bl ck) λ_ _ _=>False:=by
 refine⟨rfl,H,_,_,as,⟨.refl _,rfl,λi b d e=>?_,λi s n e l=>?_,λi j c h=>?_⟩,hr,λv o p H' s f=>?_⟩;.match i,e with|0,e=>cases e;refine⟨.ref a,rfl,?_⟩;rw[Rep];exact⟨a,_,rfl,m,uC ns⟩|i+1,e=>simp at e
 .match i,e with|0,e=>cases e;cases l|i+1,e=>simp at e
 .obtain⟨⟨s,n,e,l⟩,_⟩:=h;match i,e with|0,e=>cases e;cases l|i+1,e=>simp at e
 .have f:Rep K o v (.bl ck):=f;rw[Rep]at f;exact f
end
end _H
namespace _H
open PySem
variable{n:Nat}{c:Call}{ρ:List Sl}{is:List Nat}{ds:List D}
noncomputable def Res.sat{b:Type}(Q:b->List Sl->Prop)(x:Res b):Prop:=match x with|.ok a ρ=>Q a ρ|.exc _ _=>False|.stuck=>False
section
variable{α β:Type}{Q Q':α->List Sl->Prop}
@[simp]theorem iR{a:α}{ρ:List Sl}:(Res.ok a ρ).sat Q=Q a ρ:=rfl
@[simp]theorem abI{k:Nat}{ρ:List Sl}:(Res.exc k ρ:Res α).sat Q=False:=rfl
@[simp]theorem XQ:(Res.stuck:Res α).sat Q=False:=rfl
theorem aV{x:Res β}{f:β->List Sl->Res α}:(x.bind f).sat Q=x.sat λa ρ=>(f a ρ).sat Q:=by cases x<;>rfl
@[simp]theorem ab4{p:Prop}[Decidable p]{x y:Res α}:(if p then x else y).sat Q=((p->x.sat Q)/\(¬ p->y.sat Q)):=by by_cases h:p<;>simp[h]
@[simp]theorem bz{a:α}{ρ:List Sl}:(lift (aD a) ρ).sat Q=Q a ρ:=rfl
@[simp]theorem MP{ρ:List Sl}:(lift (b_:Option α) ρ).sat Q=False:=rfl
@[simp]theorem NK{p:Prop}[Decidable p]{a:α}{ρ:List Sl}:(lift (if p then aD a else b_) ρ).sat Q=(p/\Q a ρ):=by by_cases h:p<;>simp[h]
theorem Res.sat.imp{x:Res α}(h:x.sat Q)(k:∀a ρ,Q a ρ->Q' a ρ):x.sat Q':=by cases x with|ok a ρ=>exact k a ρ h|exc _ _=>exact h|stuck=>exact h
theorem sat_iff{x:Res α}:x.sat Q↔∃a ρ,x=.ok a ρ/\Q a ρ:=by cases x with|ok a ρ=>exact⟨λh=>⟨a,ρ,rfl,h⟩,λ⟨_,_,e,h⟩=>by cases e;exact h⟩|exc _ _=>exact⟨λh=>h.elim,λ⟨_,_,e,_⟩=>by cases e⟩|stuck=>exact⟨λh=>h.elim,λ⟨_,_,e,_⟩=>by cases e⟩
end
noncomputable def fr:Sl->Bool|.aN=>ck|.val b _=>!b|.own b _=>!b|.lent _=>a_|.eG _=>a_|.vp _=>a_|.hold _=>a_
@[simp]theorem ad2:fr .aN=ck:=rfl
@[simp]theorem afD{b:Bool}{d:D}:fr (.val b d)=!b:=rfl
@[simp]theorem afO{b:Bool}{d:List D}:fr (.own b d)=!b:=rfl
@[simp]theorem acq{d:List D}:fr (.lent d)=a_:=rfl
theorem v7(ρ:List Sl)(i:Nat)(s:Sl):put ρ i s=match ρ[i]?with|some t=>if fr t=ck then aD (ρ.set i s)else b_|none=>b_:=by unfold put;cases h:ρ[i]?with|none=>rfl|some t=>cases t with|aN=>rfl|val b d=>cases b<;>rfl|own b d=>cases b<;>rfl|lent d=>rfl|eG m=>rfl|vp m=>rfl|hold m=>rfl
theorem Ii{Γ:Tab}{w i:Nat}{d:Fd}{args:List Sl}(h:Γ i=aD d):run Γ w (n+1) i args=enter (run Γ w n) w d args:=by rw[run,h]
noncomputable def fin(np:Nat):Fl->List Sl->Option (R×List Sl)|.next,ρ=>aD (.val .non,ρ.take np)|.ret r,ρ=>aD (r,ρ.take np)|_,_=>b_
noncomputable def eQ(np:Nat)(Q:R->List Sl->Prop)(a:Fl)(ρ:List Sl):Prop:=match a with|.next=>Q (.val .non) (ρ.take np)|.ret r=>Q r (ρ.take np)|_=>False
noncomputable def sQ(c:Call)(n:Nat)(r:List S)(Q:Fl->List Sl->Prop)(fl:Fl)(ρ:List Sl):Prop:=match fl with|.next=>(jC c n r ρ).sat Q|fl=>Q fl ρ
noncomputable def fQ(J:List Sl->Prop)(Q:Fl->List Sl->Prop)(a:Fl)(ρ:List Sl):Prop:=match a with|.next=>J ρ|.cont=>J ρ|.brk=>Q .next ρ|.ret v=>Q (.ret v) ρ
section
variable{np:Nat}{Q:R->List Sl->Prop}{ρ:List Sl}{v:R}{c:Call}{n:Nat}{r:List S}{Q':Fl->List Sl->Prop}{J:List Sl->Prop}
@[simp]theorem ab3:eQ np Q .next ρ=Q (.val .non) (ρ.take np):=rfl
@[simp]theorem adB:eQ np Q (.ret v) ρ=Q v (ρ.take np):=rfl
@[simp]theorem afS:eQ np Q .brk ρ=False:=rfl
@[simp]theorem ab1:eQ np Q .cont ρ=False:=rfl
@[simp]theorem abA:sQ c n r Q' .next ρ=(jC c n r ρ).sat Q':=rfl
@[simp]theorem adW:sQ c n r Q' (.ret v) ρ=Q' (.ret v) ρ:=rfl
@[simp]theorem ad0:sQ c n r Q' .brk ρ=Q' .brk ρ:=rfl
@[simp]theorem abv:sQ c n r Q' .cont ρ=Q' .cont ρ:=rfl
@[simp]theorem abZ:fQ J Q' .next ρ=J ρ:=rfl
@[simp]theorem abn:fQ J Q' .cont ρ=J ρ:=rfl
@[simp]theorem aeb:fQ J Q' .brk ρ=Q' .next ρ:=rfl
@[simp]theorem ae5:fQ J Q' (.ret v) ρ=Q' (.ret v) ρ:=rfl
end
theorem Hd{d:Fd}{args:List Sl}{Q:R->List Sl->Prop}(a:args.length=d.np)(hd:d.np<=d.nn)(h:(jC c n d.body (args++dV (d.nn-d.np) .aN)).sat (eQ d.np Q)):(enter c n d args).sat Q:=by unfold enter;rw[if_pos ⟨a,hd⟩];revert h;cases jC c n d.body (args++dV (d.nn-d.np) .aN)with|stuck=>exact λh=>gu h|exc _ _=>exact λh=>gu h|ok b ρ=>cases b<;>first|exact id|exact λh=>gu h
theorem aQ{Γ:Tab}{w i:Nat}{d:Fd}{args:List Sl}{Q:R->List Sl->Prop}(a:Γ i=aD d)(b:args.length=d.np)(hd:d.np<=d.nn)(h:(jC (run Γ w n) w d.body (args++dV (d.nn-d.np) .aN)).sat (eQ d.np Q)):(run Γ w (n+1) i args).sat Q:=by rw[Ii a];exact Hd b hd h
theorem ak{s:S}{r:List S}{Q:Fl->List Sl->Prop}(h:(ex c n s ρ).sat (sQ c n r Q)):(jC c n (s::r) ρ).sat Q:=by rw[XC,aV];refine h.imp λa b q=>?_;cases a<;>exact q
theorem Gh{s:S}{r:List S}{Q:Fl->List Sl->Prop}(h:(ex c n s ρ).sat (sQ c n r Q)):sQ c n (s::r) Q .next ρ:=ak h
@[simp]theorem abG{c:Call}{n:Nat}{ρ:List Sl}{Q:Fl->List Sl->Prop}:(jC c n [] ρ).sat Q=Q .next ρ:=by rw[xs0];rfl
theorem jT{s:S}{r:List S}{Q:Fl->List Sl->Prop}(M:List Sl->Prop)(h:(ex c n s ρ).sat λb a=>b=.next/\M a)(k:∀a,M a->(jC c n r a).sat Q):(jC c n (s::r) ρ).sat Q:=ak (h.imp λb a⟨e,q⟩=>by subst e;exact k a q)
theorem dJ{is:List Nat}{one:Bool}{body:List Sl->Res Fl}(J:List D->List Sl->Prop){Q:Fl->List Sl->Prop}(b:∀d r ρ,J (d::r) ρ->∃a,cF ρ is one d=aD a/\(body a).sat (fQ (J r) Q))(f:∀ρ,J [] ρ->Q .next ρ):∀{ds:List D}{ρ:List Sl},J ds ρ->(ju is one body ds ρ).sat Q|[],ρ,j=>f ρ j|d::r,ρ,j=>by obtain⟨a,e,h⟩:=b d r ρ j;rw[Bv,e];show((body a).bind _).sat Q;rw[aV];refine h.imp λg i q=>?_;cases g with|next=>exact dJ J b f q|cont=>exact dJ J b f q|brk=>exact q|ret v=>exact q
theorem mz{is:List Nat}{one:Bool}{a:List Sl->Res Bool}{p:Ev}(J:List Sl->Prop)(g:D->Option D){Q:List D->List Sl->Prop}:∀{ds f:List D}{ρ:List Sl},J ρ->(∀ d,d ∈ ds->∀ ρ,J ρ->∃ i,cF ρ is one d=aD i/\(a i).sat λb l=>if b=ck then(p l).sat λr s=>g d=aD r.d/\J s else g d=b_/\J l)->(∀ ρ,J ρ->Q (f++ds.filterMap g) ρ)->(turns is one a p ds f ρ).sat Q|[],f,ρ,j,h,k=>by rw[Bp];simpa using k ρ j|d::r,f,ρ,j,h,k=>by obtain⟨i,e,h1⟩:=h d (by simp) ρ j;rw[Bj,e];show((a i).bind _).sat Q;rw[aV];refine h1.imp λb l q=>?_;cases b with|true=>rw[if_pos rfl]at q;rw[if_pos rfl,aV];refine q.imp λx s⟨u,j3⟩=>?_;refine mz J g j3 (λd' m=>h d' (by simp[m])) λo t=>?_;have:=k o t;rw[iX,u]at this;rw[List.append_assoc];exact this|false=>rw[if_neg (by simp)]at q;rw[if_neg (by simp)];refine mz J g q.2 (λd' m=>h d' (by simp[m])) λo t=>?_;have:=k o t;rw[iX,q.1]at this;exact this
theorem Bg{one:Bool}{b:Ev}(J:List Sl->Prop)(g:D->D){Q:List D->List Sl->Prop}(j:J ρ)(h:∀d,d∈ds->∀ρ,J ρ->∃a,cF ρ is one d=aD a/\(b a).sat λr f=>g d=r.d/\J f)(k:∀ρ,J ρ->Q (ds.map g) ρ):(turns is one (lr c b_) b ds [] ρ).sat Q:=mz J (λd=>aD (g d)) j (λd hd ρ j=>by obtain⟨a,e,h1⟩:=h d hd ρ j;refine⟨a,e,?_⟩;rw[lr,iR,if_pos rfl];exact h1.imp λr f q=>⟨by rw[q.1],q.2⟩) λρ j=>by simpa using k ρ j
section
variable{ρ l:List Sl}{a:Sl}{i j:Int}{k m:Nat}{b b':Bool}{s:Str}{d:D}{ds es:List D}{e f:Ev}{x:Option Sl}{c:Call}
@[simp]theorem TX:dR .int .non=a_:=rfl
@[simp]theorem WR:dR .int (.bl b)=ck:=rfl
@[simp]theorem Up:dR .int (.int i)=ck:=rfl
@[simp]theorem S9:dR .int (.str s)=a_:=rfl
@[simp]theorem Uo:dR .int (.tup ds)=a_:=rfl
@[simp]theorem Vz:dR .int (.lst ds)=a_:=rfl
@[simp]theorem Ro:dR .bool .non=a_:=rfl
@[simp]theorem Vm:dR .bool (.bl b)=ck:=rfl
@[simp]theorem RN:dR .bool (.int i)=a_:=rfl
@[simp]theorem Rq:dR .bool (.str s)=a_:=rfl
@[simp]theorem RL:dR .bool (.tup ds)=a_:=rfl
@[simp]theorem Rx:dR .bool (.lst ds)=a_:=rfl
@[simp]theorem Vs:dR .str .non=a_:=rfl
@[simp]theorem WX:dR .str (.bl b)=a_:=rfl
@[simp]theorem Sw:dR .str (.int i)=a_:=rfl
@[simp]theorem Ul:dR .str (.str s)=ck:=rfl
@[simp]theorem Tv:dR .str (.tup ds)=a_:=rfl
@[simp]theorem Vt:dR .str (.lst ds)=a_:=rfl
@[simp]theorem Oj:dR .tuple .non=a_:=rfl
@[simp]theorem Q9:dR .tuple (.bl b)=a_:=rfl
@[simp]theorem Pb:dR .tuple (.int i)=a_:=rfl
@[simp]theorem O1:dR .tuple (.str s)=a_:=rfl
@[simp]theorem Ob:dR .tuple (.tup ds)=ck:=rfl
@[simp]theorem Qq:dR .tuple (.lst ds)=a_:=rfl
@[simp]theorem Rh:dR .list .non=a_:=rfl
@[simp]theorem Td:dR .list (.bl b)=a_:=rfl
@[simp]theorem Rb:dR .list (.int i)=a_:=rfl
@[simp]theorem Rt:dR .list (.str s)=a_:=rfl
@[simp]theorem Rz:dR .list (.tup ds)=a_:=rfl
@[simp]theorem Q0:dR .list (.lst ds)=ck:=rfl
@[simp]theorem Rc:dR .none .non=ck:=rfl
@[simp]theorem UW:dR .none (.bl b)=a_:=rfl
@[simp]theorem Q7:dR .none (.int i)=a_:=rfl
@[simp]theorem Rm:dR .none (.str s)=a_:=rfl
@[simp]theorem Rj:dR .none (.tup ds)=a_:=rfl
@[simp]theorem Ry:dR .none (.lst ds)=a_:=rfl
@[simp]theorem XH:lg .non=ck:=rfl
@[simp]theorem YQ:lg (.bl b)=a_:=rfl
@[simp]theorem WT:lg (.int i)=a_:=rfl
@[simp]theorem Xr:lg (.str s)=a_:=rfl
@[simp]theorem Xh:lg (.tup ds)=a_:=rfl
@[simp]theorem XJ:lg (.lst ds)=a_:=rfl
@[simp]theorem ZC:flat .non=ck:=rfl
@[simp]theorem ace:flat (.bl b)=ck:=rfl
@[simp]theorem ZL:flat (.int i)=ck:=rfl
@[simp]theorem Yx:flat (.str s)=ck:=rfl
@[simp]theorem aaz:flat (.tup ds)=a_:=rfl
@[simp]theorem Z9:flat (.lst ds)=a_:=rfl
@[simp]theorem Ba:(R.val d).d=d:=rfl
@[simp]theorem jy:(R.own ds).d=.lst ds:=rfl
@[simp]theorem aaT:BK (.val d)=.val a_ d:=rfl
@[simp]theorem YW:BK (.own ds)=.own a_ ds:=rfl
@[simp]theorem Wz:uW (.val d)=.dat d:=rfl
@[simp]theorem XN:uW (.own ds)=.tmp ds:=rfl
@[simp]theorem aby:gD (.int i)=aD i:=rfl
@[simp]theorem Ck:Cu (.bl b)=aD b:=rfl
@[simp]theorem Hv:items (.lst ds)=aD ds:=rfl
@[simp]theorem Xz:items (.tup ds)=aD ds:=rfl
@[simp]theorem Ao:sH (.tup ds)=aD ds:=rfl
@[simp]theorem T6:sI (.lst ds)=aD ds:=rfl
@[simp]theorem aca:vV .add=sO:=rfl
@[simp]theorem acB:vV .sub=yf:=rfl
@[simp]theorem acr:vV .mul=qg:=rfl
@[simp]theorem aaq:vV .fdiv=tD:=rfl
@[simp]theorem ab7:vV .mod=yg:=rfl
@[simp]theorem abT:vV .pow=yC:=rfl
@[simp]theorem XS:sO (.int i) (.int j)=aD (.val (.int (i+j))):=rfl
@[simp]theorem Xy:sO (.lst ds) (.lst es)=if ds.length+es.length<=lim then aD (.own (ds++es))else b_:=rfl
@[simp]theorem Ww:sO (.tup ds) (.tup es)=if ds.length+es.length<=lim then aD (.val (.tup (ds++es)))else b_:=rfl
@[simp]theorem Yb:yf (.int i) (.int j)=aD (.val (.int (i-j))):=rfl
@[simp]theorem Wq:qg (.int i) (.int j)=if((-18446744073709551616<i/\i<18446744073709551616)\/(-18446744073709551616<j/\j<18446744073709551616))then aD (.val (.int (i*j)))else b_:=rfl
@[simp]theorem V8:tD (.int i) (.int j)=if 0<j/\j<1606938044258990275541962092341162602522202993782792835301376 then aD (.val (.int (i/j)))else b_:=rfl
@[simp]theorem XX:yg (.int i) (.int j)=if 0<j then aD (.val (.int (i%j)))else b_:=rfl
@[simp]theorem WQ:yC (.int i) (.int j)=if 0<=j/\j<=1000/\i.natAbs<18446744073709551616 then aD (.val (.int (i^j.toNat)))else b_:=rfl
@[simp]theorem abL:pG (.lst ds) (.int i)=(at' ds i).map .val:=rfl
@[simp]theorem acu:pG (.tup ds) (.int i)=(at' ds i).map .val:=rfl
@[simp]theorem aaQ:Iu (.int i)=aD (.val (.int (-i))):=rfl
@[simp]theorem Xb:cm .eq (.int i) (.int j)=aD (i==j):=rfl
@[simp]theorem Wr:cm .ne (.int i) (.int j)=aD (!(i==j)):=rfl
@[simp]theorem Zj:cm .eq (.bl b) (.bl b')=aD (b==b'):=rfl
@[simp]theorem Yr:cm .ne (.bl b) (.bl b')=aD (!(b==b')):=rfl
@[simp]theorem WK:cm .lt (.int i) (.int j)=aD (decide (i<j)):=rfl
@[simp]theorem Xl:cm .le (.int i) (.int j)=aD (decide (i<=j)):=rfl
@[simp]theorem XM:cm .gt (.int i) (.int j)=aD (decide (j<i)):=rfl
@[simp]theorem W9:cm .ge (.int i) (.int j)=aD (decide (j<=i)):=rfl
@[simp]theorem adw:cm .isN d .non=aD (lg d):=rfl
@[simp]theorem abm:cm .aaY d .non=aD (!lg d):=rfl
@[simp]theorem RB:blt .len [.lst ds]=aD (.val (.int ds.length)):=rfl
@[simp]theorem RD:blt .len [.tup ds]=aD (.val (.int ds.length)):=rfl
@[simp]theorem Oo:blt .list [.lst ds]=aD (.own ds):=rfl
@[simp]theorem Pk:blt .list [.tup ds]=aD (.own ds):=rfl
@[simp]theorem M3:blt .tuple [.lst ds]=aD (.val (.tup ds)):=rfl
@[simp]theorem M4:blt .tuple [.tup ds]=aD (.val (.tup ds)):=rfl
@[simp]theorem Zx:blt .min2 [.int i,.int j]=aD (.val (.int (if j<i then j else i))):=rfl
@[simp]theorem Yw:blt .max2 [.int i,.int j]=aD (.val (.int (if i<j then j else i))):=rfl
@[simp]theorem iG:blt .all [.lst ds]=(ds.mapM Cu).map λbs=>.val (.bl (bs.all id)):=rfl
@[simp]theorem XR:isVar (.var k)=aD k:=rfl
@[simp]theorem abE:pk (a::l) k=match(a::l)[k]?with|some (.val _ d)=>aD d|some (.own _ ds)=>aD (.lst ds)|some (.lent ds)=>aD (.lst ds)|_=>b_:=rfl
@[simp]theorem aaK:pkL (a::l) k=match pk (a::l) k with|some (.lst ds)=>aD ds|_=>b_:=rfl
@[simp]theorem aav:cT (aD k) e ρ=lift (pk ρ k) ρ:=rfl
@[simp]theorem aaa:cT b_ e ρ=(e ρ).bind λr ρ=>.ok r.d ρ:=rfl
@[simp]theorem W5{y:Option Nat}:jH (aD k) e y f ρ=(lift (pk ρ k) ρ).bind λ_ ρ=>(cT y f ρ).bind λy ρ=>(lift (pk ρ k) ρ).bind λx ρ=>.ok (x,y) ρ:=rfl
@[simp]theorem WW{y:Option Nat}:jH b_ e y f ρ=(cT b_ e ρ).bind λx ρ=>(cT y f ρ).bind λy ρ=>.ok (x,y) ρ:=rfl
@[simp]theorem WD{es:List D}:gF (.own b ds) (aD (.own b' es))=.own b es:=rfl
@[simp]theorem WL:gF (.own b ds) (aD (.val b' d))=.val b d:=rfl
@[simp]theorem Jm:gF a b_=a:=by cases a<;>rfl
@[simp]theorem Hy:gF (.val b d) x=.val b d:=by cases x<;>rfl
@[simp]theorem Xw:gF .aN x=.aN:=by cases x<;>rfl
@[simp]theorem BR:gF (.lent ds) x=.lent ds:=by cases x<;>rfl
@[simp]theorem Iw:cF ρ [k] ck d=put ρ k (.val a_ d):=rfl
@[simp]theorem Xx{is:List Nat}:cF ρ is a_ (.tup ds)=putAll ρ is ds:=by cases is<;>rfl
@[simp]theorem V9:srcOf b_ e ρ=(e ρ).bind λr ρ=>lift (items r.d) ρ:=rfl
@[simp]theorem dW:srcOf (aD k) e (a::l)=match(a::l)[k]?with|some (.val _ d)=>lift (items d) (a::l)|some (.own _ ds)=>.ok ds ((a::l).set k (.lent ds))|some (.lent ds)=>.ok ds (a::l)|_=>.stuck:=rfl
@[simp]theorem Ru{g:List Sl}:bG g b_ ρ=ρ:=rfl
@[simp]theorem dB:bG (a::l) (aD k) ρ=match(a::l)[k]?with|some (.own b ds)=>ρ.set k (.own b ds)|_=>ρ:=rfl
@[simp]theorem aay{s:Sl}:put (a::l) k s=match(a::l)[k]?with|some t=>if fr t=ck then aD ((a::l).set k s)else b_|none=>b_:=v7 ..
@[simp]theorem BZ:putAll ρ [] []=aD ρ:=rfl
@[simp]theorem Q8{is:List Nat}:putAll ρ (k::is) (d::ds)=(put ρ k (.val a_ d)).bind λρ=>putAll ρ is ds:=rfl
end
@[simp]theorem at_0{a:Type}{b:a}{l:List a}:at' (b::l) 0=aD b:=by unfold at' kZ;rw[if_pos (by decide),if_pos (by simp only[ia];lia)];rfl
@[simp]theorem at_1{a:Type}{e b:a}{l:List a}:at' (e::b::l) 1=aD b:=by unfold at' kZ;rw[if_pos (by decide),if_pos (by simp only[ia];lia)];rfl
@[simp]theorem at_2{a:Type}{e f b:a}{l:List a}:at' (e::f::b::l) 2=aD b:=by unfold at' kZ;rw[if_pos (by decide),if_pos (by simp only[ia];lia)];rfl
@[simp]theorem at_3{a:Type}{e f g b:a}{l:List a}:at' (e::f::g::b::l) 3=aD b:=by unfold at' kZ;rw[if_pos (by decide),if_pos (by simp only[ia];lia)];rfl
@[simp]theorem at_4{a:Type}{e f g h b:a}{l:List a}:at' (e::f::g::h::b::l) 4=aD b:=by unfold at' kZ;rw[if_pos (by decide),if_pos (by simp only[ia];lia)];rfl
@[simp]theorem at_5{a:Type}{e f g h i b:a}{l:List a}:at' (e::f::g::h::i::b::l) 5=aD b:=by unfold at' kZ;rw[if_pos (by decide),if_pos (by simp only[ia];lia)];rfl
@[simp]theorem at_6{a:Type}{e f g h i j b:a}{l:List a}:at' (e::f::g::h::i::j::b::l) 6=aD b:=by unfold at' kZ;rw[if_pos (by decide),if_pos (by simp only[ia];lia)];rfl
@[simp]theorem at_7{a:Type}{e f g h i j m b:a}{l:List a}:at' (e::f::g::h::i::j::m::b::l) 7=aD b:=by unfold at' kZ;rw[if_pos (by decide),if_pos (by simp only[ia];lia)];rfl
theorem iw{a:Type}{l:List a}{i:Int}(h:0<=i)(h':i<l.length):at' l i=l[i.toNat]?:=by unfold at' kZ;rw[if_pos h,if_pos h'];rfl
theorem KJ{a:Type}{l:List a}{k:Nat}(h':k<l.length):at' l (k:Int)=l[k]?:=by rw[iw (by lia) (by lia)];simp
@[simp]theorem W0{d:D}:isVar (.con d)=b_:=rfl
@[simp]theorem Xm{o:Op}{p q:P}:isVar (.bin o p q)=b_:=rfl
@[simp]theorem Xn{p:P}:isVar (.neg p)=b_:=rfl
@[simp]theorem Xi{p:P}:isVar (.not p)=b_:=rfl
@[simp]theorem Xc{p q:P}:isVar (.and p q)=b_:=rfl
@[simp]theorem ZV{p q:P}:isVar (.or p q)=b_:=rfl
@[simp]theorem Xv{o:Cm}{p q:P}:isVar (.cmp o p q)=b_:=rfl
@[simp]theorem RJ{o a:Cm}{p q r:P}:isVar (.chain o a p q r)=b_:=rfl
@[simp]theorem Xu{p q r:P}:isVar (.Wk p q r)=b_:=rfl
@[simp]theorem Xq{as:List P}:isVar (.tup as)=b_:=rfl
@[simp]theorem Xj{as:List P}:isVar (.lst as)=b_:=rfl
@[simp]theorem W3{p q:P}:isVar (.idx p q)=b_:=rfl
@[simp]theorem Q4{p q r:P}:isVar (.slice p q r)=b_:=rfl
@[simp]theorem Tu{f:Nat}{as:List P}:isVar (.call f as)=b_:=rfl
@[simp]theorem Xg{b:Blt}{as:List P}:isVar (.blt b as)=b_:=rfl
@[simp]theorem R9{p e:P}{n:Nat}{is:List Nat}{one:Bool}{t:Option P}:isVar (.comp p n is one t e)=b_:=rfl
@[simp]theorem Xk{p q:P}:isVar (.nJ p q)=b_:=rfl
@[simp]theorem Xo{p:P}:isVar (.enm p)=b_:=rfl
@[simp]theorem Xe{p q:P}:isVar (.zip p q)=b_:=rfl
@[simp]theorem Yd{p:P}:isVar (.rev p)=b_:=rfl
noncomputable def lH(c:Call)(is:List Nat)(one:Bool)(a:Option P)(b:P)(ds:List D)(ρ:List Sl):Res (List D):=turns is one (lr c a) (ev c b) ds [] ρ
@[simp]theorem acp{c:Call}{src f:P}{n:Nat}{is:List Nat}{one:Bool}{b:Option P}{ρ:List Sl}:ev c (.comp src n is one b f) ρ=(srcOf (isVar src) (ev c src) ρ).bind λds a=>if ds.length<=lim then(lH c is one b f ds (a++dV n .aN)).bind λxs e=>.ok (.own xs) (bG ρ (isVar src) (e.take a.length))else .stuck:=(rfl)
noncomputable def Qe(c:Call)(n:Nat)(t:P)(body:List S)(k:Nat)(ρ:List Sl):Res Fl:=BL (lG (ev c t)) (jC c n body) k ρ
theorem wK{b e h:Type}{x:Res e}{f:e->List Sl->Res b}{g:b->List Sl->Res h}:(x.bind f).bind g=x.bind λa ρ=>(f a ρ).bind g:=by cases x<;>rfl
@[simp]theorem adf{Γ:Tab}{w n i:Nat}{args:List Sl}{b:Type}{f:R->List Sl->Res b}{Q:b->List Sl->Prop}:((run Γ w n i args).bind f).sat Q=(run Γ w n i args).sat λa ρ=>(f a ρ).sat Q:=aV
@[simp]theorem afC{Γ:Tab}{w n i:Nat}{args:List Sl}{b e:Type}{f:R->List Sl->Res b}{g:b->List Sl->Res e}:((run Γ w n i args).bind f).bind g=(run Γ w n i args).bind λa ρ=>(f a ρ).bind g:=wK
@[simp]theorem aco{c:Call}{is:List Nat}{one:Bool}{b:Option P}{e:P}{ds:List D}{ρ:List Sl}{g:Type}{f:List D->List Sl->Res g}{Q:g->List Sl->Prop}:((lH c is one b e ds ρ).bind f).sat Q=(lH c is one b e ds ρ).sat λa ρ=>(f a ρ).sat Q:=aV
@[simp]theorem acw{c:Call}{is:List Nat}{one:Bool}{b:Option P}{e:P}{ds:List D}{ρ:List Sl}{h i:Type}{f:List D->List Sl->Res h}{g:h->List Sl->Res i}:((lH c is one b e ds ρ).bind f).bind g=(lH c is one b e ds ρ).bind λa ρ=>(f a ρ).bind g:=wK
@[simp]theorem aeB{is:List Nat}{one:Bool}{b:List Sl->Res Fl}{ds:List D}{ρ:List Sl}{e:Type}{f:Fl->List Sl->Res e}{Q:e->List Sl->Prop}:((ju is one b ds ρ).bind f).sat Q=(ju is one b ds ρ).sat λa ρ=>(f a ρ).sat Q:=aV
@[simp]theorem abW{b e:Type}{p:Prop}[Decidable p]{a:e}{ρ:List Sl}{f:e->List Sl->Res b}{Q:b->List Sl->Prop}:((lift (if p then aD a else b_) ρ).bind f).sat Q=(p/\(f a ρ).sat Q):=by by_cases h:p<;>simp[h,lift,Res.bind]
@[simp]theorem abU{b e h:Type}{p:Prop}[Decidable p]{a:e}{ρ:List Sl}{f:e->List Sl->Res b}{g:b->List Sl->Res h}:((lift (if p then aD a else b_) ρ).bind f).bind g=(lift (if p then aD a else b_) ρ).bind λa ρ=>(f a ρ).bind g:=wK
@[simp]theorem bb_ite{b a:Type}{p:Prop}[Decidable p]{x y:Res a}{f:a->List Sl->Res b}:(if p then x else y).bind f=if p then x.bind f else y.bind f:=by by_cases h:p<;>simp[h]
@[simp]theorem adP{c:Call}{n k:Nat}{t:P}{b:List S}{ρ:List Sl}{e:Type}{f:Fl->List Sl->Res e}{Q:e->List Sl->Prop}:((Qe c n t b k ρ).bind f).sat Q=(Qe c n t b k ρ).sat λa ρ=>(f a ρ).sat Q:=aV
@[simp]theorem aeT{b e:Type}{a:b}{ρ:List Sl}{f:b->List Sl->Res e}:(Res.ok a ρ).bind f=f a ρ:=rfl
@[simp]theorem Xp{a b:Type}{f:a->List Sl->Res b}:(Res.stuck:Res a).bind f=.stuck:=rfl
@[simp]theorem Zk{b:Type}{a:b}{ρ:List Sl}:lift (aD a) ρ=.ok a ρ:=rfl
@[simp]theorem aae{a:Type}{ρ:List Sl}:lift (b_:Option a) ρ=.stuck:=rfl
noncomputable def HX:List Sl->Nat->Sl->List Sl|[],_,_=>[]|t::ρ,0,s=>gF t (aD s)::ρ|t::ρ,k+1,s=>t::HX ρ k s
theorem rE{k:Nat}{s:Sl}:HX [] k s=[]:=rfl
theorem tL{t:Sl}{ρ:List Sl}{s:Sl}:HX (t::ρ) 0 s=gF t (aD s)::ρ:=rfl
theorem rC{t:Sl}{ρ:List Sl}{k:Nat}{s:Sl}:HX (t::ρ) (k+1) s=t::HX ρ k s:=rfl
noncomputable def bk:List Arg->List Sl->List Sl->List Sl|.gW k::as,s::ss,ρ=>bk as ss (HX ρ k s)|.dat _::as,_::ss,ρ=>bk as ss ρ|.tmp _::as,_::ss,ρ=>bk as ss ρ|_,_,ρ=>ρ
section
variable{t s:Sl}{ρ ss:List Sl}{k:Nat}{as:List Arg}{d:D}{ds:List D}
@[simp]theorem aha:HX (t::ρ) 0 s=gF t (aD s)::ρ:=rfl
@[simp]theorem ahl:HX (t::ρ) (k+1) s=t::HX ρ k s:=rfl
@[simp]theorem TF:bk (.gW k::as) (s::ss) ρ=bk as ss (HX ρ k s):=rfl
@[simp]theorem T4:bk (.dat d::as) (s::ss) ρ=bk as ss ρ:=rfl
@[simp]theorem Vr:bk (.tmp ds::as) (s::ss) ρ=bk as ss ρ:=rfl
@[simp]theorem afI:bk [] ss ρ=ρ:=rfl
end
theorem Bt{s:Sl}:∀{ρ:List Sl}{k j:Nat},(HX ρ k s)[j]?=(ρ[j]?).map λt=>if j=k then gF t (aD s)else t|[],_,_=>by simp[rE,tL,rC]|t::ρ,0,0=>by simp[rE,tL,rC]|t::ρ,0,j+1=>by simp[rE,tL,rC]|t::ρ,k+1,0=>by simp[rE,tL,rC]|t::ρ,k+1,j+1=>by have:=Bt (s:=s) (ρ:=ρ) (k:=k) (j:=j);simp only[rE,tL,rC,ki,this];congr 1;funext t;simp
theorem yq{as:List Arg}{ss:List Sl}:∀{ρ:List Sl}{i j:Nat},(gn as ss i ρ)[j]?=(ρ[j]?).map λt=>gF t (bD (i+j) as ss)|[],_,_=>by simp[rO,nG]|t::ρ,i,0=>by simp[rO,nG]|t::ρ,i,j+1=>by have:=yq (as:=as) (ss:=ss) (ρ:=ρ) (i:=i+1) (j:=j);simp only[rO,nG,ki,this];rw[show i+1+j=i+(j+1)by lia]
noncomputable def stb(t:Sl):Prop:=∀x,gF t x=t
noncomputable def Sv(ρ:List Sl):List Arg->Prop|[]=>True|.gW k::as=>(Arg.gW k∈as->∀t,ρ[k]?=aD t->stb t)/\Sv ρ as|_::as=>Sv ρ as
theorem qL{ρ:List Sl}:∀{as:List Arg}{a:List Sl},Sv ρ as->(∀k,Arg.gW k∈as->∀t,a[k]?=aD t->ρ[k]?=aD t\/stb t)->Sv a as
 |[],_,_,_=>trivial|.gW k::as,a,h,g=>⟨λf t i=>by
  rcases g k (by simp) t i with e|e;.exact h.1 f t e
  .exact e,qL h.2 λj b=>g j (by simp[b])⟩|.dat _::as,a,h,g=>qL (as:=as) h λj b=>g j (by simp[b])|.tmp _::as,a,h,g=>qL (as:=as) h λj b=>g j (by simp[b])
theorem nQ{k:Nat}:∀{as:List Arg}{ss:List Sl},Arg.gW k∉as->bD k as ss=b_|[],_,_=>by unfold bD;rfl|.gW j::as,[],_=>rfl|.dat _::as,[],_=>rfl|.tmp _::as,[],_=>rfl|.gW j::as,s::ss,h=>by simp only[eM,Arg.gW.injEq,not_or]at h;rw[bD,if_neg (λe=>h.1 e.symm),nQ h.2]|.dat _::as,s::ss,h=>by simp only[eM,not_or]at h;rw[bD,nQ h.2]|.tmp _::as,s::ss,h=>by simp only[eM,not_or]at h;rw[bD,nQ h.2]
theorem DQ:∀{as:List Arg}{ss ρ:List Sl},Sv ρ as->∀j,(bk as ss ρ)[j]?=(ρ[j]?).map λt=>gF t (bD j as ss)
 |[],ss,ρ,_,j=>by cases ss<;>simp[bD]|.gW k::as,[],ρ,_,j=>by rw[show bk (.gW k::as) [] ρ=ρ from rfl];simp[bD]|.dat d::as,[],ρ,_,j=>by rw[show bk (.dat d::as) [] ρ=ρ from rfl];simp[bD]|.tmp d::as,[],ρ,_,j=>by rw[show bk (.tmp d::as) [] ρ=ρ from rfl];simp[bD]|.dat _::as,s::ss,ρ,h,j=>by rw[T4,bD];exact DQ (as:=as) h j|.tmp _::as,s::ss,ρ,h,j=>by rw[Vr,bD];exact DQ (as:=as) h j|.gW k::as,s::ss,ρ,h,j=>by
   have f:Sv (HX ρ k s) as:=qL h.2 λi hi t a=>by rw[Bt]at a;cases e:ρ[i]?with|none=>rw[e]at a;cases a|some t0=>
      rw[e]at a;by_cases c:i=k;.subst c;have hs:=h.1 hi t0 e;simp[hs (aD s)]at a;exact .inl (by rw[a])
      .simp[c]at a;exact .inl (by rw[a])
   rw[TF,DQ f j,Bt,bD];cases e:ρ[j]?with|none=>rfl|some t0=>
     simp only[fh];by_cases c:j=k
     . subst c;rw[if_pos rfl,if_pos rfl];by_cases b:Arg.gW j∈as;.have hs:=h.1 b t0 e;rw[hs (aD s),hs]
       .rw[nQ b,Jm]
     .rw[if_neg c,if_neg (λz=>c z.symm)]
theorem iK{ρ:List Sl}{k:Nat}{b:Bool}{ds:List D}(e:ρ[k]?=aD (.own b ds)):∀{as:List Arg}{u:List Nat}{r:List Sl},k∈u->cO ρ as u=aD r->Arg.gW k∉as
 |[],_,_,_,_=>by simp|.dat _::as,u,r,a,h=>by simp only[Bc,Bm,Ae,rG,gw]at h;obtain⟨f,h,_⟩:=h;simp[iK e a h]|.tmp _::as,u,r,a,h=>by simp only[Bc,Bm,Ae,rG,gw]at h;obtain⟨f,h,_⟩:=h;simp[iK e a h]|.gW i::as,u,r,a,h=>by
   rw[rG]at h;have hi:i≠k:=by rintro rfl;rw[e]at h;simp[a]at h
   have:Arg.gW k∉as:=by
    split at h;.obtain⟨f,h,_⟩:=gw.mp h;exact iK e a h
    . split at h;.cases h
      .obtain⟨f,h,_⟩:=gw.mp h;exact iK e (by simp[a]) h
    . split at h;.cases h
      .obtain⟨f,h,_⟩:=gw.mp h;exact iK e (by simp[a]) h
    .cases h
   simp[this];exact λz=>hi z.symm
theorem iQ{ρ:List Sl}:∀{as:List Arg}{u:List Nat}{r:List Sl},cO ρ as u=aD r->Sv ρ as
 |[],_,_,_=>trivial|.dat _::as,u,r,h=>by obtain⟨e,h,_⟩:=gw.mp h;exact iQ (as:=as) h|.tmp _::as,u,r,h=>by obtain⟨e,h,_⟩:=gw.mp h;exact iQ (as:=as) h|.gW i::as,u,r,h=>by
   rw[rG]at h;split at h;.rename_i b d q;obtain⟨e,h,_⟩:=gw.mp h;exact⟨λ_ t a=>by rw[q]at a;cases a;exact λx=>Hy,iQ h⟩
   . rename_i b ds q;split at h;.cases h
     .obtain⟨e,h,_⟩:=gw.mp h;exact⟨λf=>absurd f (iK q (by simp) h),iQ h⟩
   . rename_i ds q;split at h;.cases h
     .obtain⟨e,h,_⟩:=gw.mp h;exact⟨λ_ t a=>by rw[q]at a;cases a;exact λx=>BR,iQ h⟩
   .cases h
theorem aau{as:List Arg}{ss r:List Sl}{u:List Nat}(h:cO ρ as u=aD r):gn as ss 0 ρ=bk as ss ρ:=by apply List.ext_getElem?;intro j;rw[yq,DQ (iQ h),qq]
@[simp]theorem W8{c:Call}{k:Nat}{as:List Arg}{ρ:List Sl}:tG c k as ρ=match cO ρ as []with|none=>.stuck|some args=>(c k args).bind λr a=>.ok r (bk as a ρ):=by unfold tG;cases e:cO ρ as []with|none=>rfl|some args=>simp only[<-aau (r:=args) e];cases c k args<;>rfl
theorem cD{one:Bool}{a:P}(J:List Sl->Prop)(g:D->D){Q:List D->List Sl->Prop}(j:J ρ)(h:∀d,d∈ds->∀ρ,J ρ->∃b,cF ρ is one d=aD b/\(ev c a b).sat λr e=>g d=r.d/\J e)(k:∀ρ,J ρ->Q (ds.map g) ρ):(lH c is one b_ a ds ρ).sat Q:=Bg J g j h k
theorem pQ{one:Bool}{i t:P}(J:List Sl->Prop)(g:D->Option D){Q:List D->List Sl->Prop}(j:J ρ)(h:∀d,d∈ds->∀ρ,J ρ->∃a,cF ρ is one d=aD a/\(ev c t a).sat λr f=>∃b,r.d=.bl b/\if b=ck then(ev c i f).sat λr l=>g d=aD r.d/\J l else g d=b_/\J f)(k:∀ρ,J ρ->Q (ds.filterMap g) ρ):(lH c is one (aD t) i ds ρ).sat Q:=mz J g j (λd hd ρ j=>by obtain⟨a,e,h1⟩:=h d hd ρ j;refine⟨a,e,?_⟩;rw[lr,lG,aV];refine h1.imp λr f⟨b,e,q⟩=>?_;rw[e];exact q) λρ j=>by simpa using k ρ j
theorem yM{c:Call}{n:Nat}{t:P}{body:List S}(J:Nat->List Sl->Prop){Q:Fl->List Sl->Prop}(h:∀m ρ,J m ρ->(ev c t ρ).sat λr a=>∃b,r.d=.bl b/\if b=ck then(jC c n body a).sat (fQ (λf=>∃g,g<m/\J g f) Q)else Q .next a):∀{k m:Nat}{ρ:List Sl},m<k->J m ρ->(Qe c n t body k ρ).sat Q|0,m,ρ,i,_=>absurd i (Nat.not_lt_zero _)|k+1,m,ρ,i,j=>by unfold Qe;rw[UL,aV,lG,aV];refine(h m ρ j).imp λr a⟨b,e,q⟩=>?_;rw[e];show(if b=ck then _ else _:Res Fl).sat Q;cases b with|false=>rw[if_neg (by simp)]at q;rw[if_neg (by simp)];exact q|true=>rw[if_pos rfl]at q;rw[if_pos rfl,aV];refine q.imp λp f q=>?_;cases p with|next=>obtain⟨g,l,o⟩:=q;exact yM J h (eT l (Nat.lt_succ_iff.mp i)) o|cont=>obtain⟨g,l,o⟩:=q;exact yM J h (eT l (Nat.lt_succ_iff.mp i)) o|brk=>exact q|ret v=>exact q
@[simp]theorem RG:type_of%@_H.E1:=@_H.E1
@[simp]theorem ahs:type_of%@_H.E2:=@_H.E2
@[simp]theorem ahq:type_of%@_H.E3:=@_H.E3
@[simp]theorem aho:type_of%@_H.E4:=@_H.E4
@[simp]theorem ag8:type_of%@_H.E5:=@_H.E5
@[simp]theorem ahx:type_of%@_H.E6:=@_H.E6
@[simp]theorem ahk:type_of%@_H.E7:=@_H.E7
@[simp]theorem ahe:type_of%@_H.E8:=@_H.E8
@[simp]theorem afQ:type_of%@_H.E9:=@_H.E9
@[simp]theorem afz:type_of%@_H.E10:=@_H.E10
@[simp]theorem UJ:type_of%@_H.E11:=@_H.E11
@[simp]theorem afq:type_of%@_H.E12:=@_H.E12
@[simp]theorem aeY:type_of%@_H.E13:=@_H.E13
@[simp]theorem afJ:type_of%@_H.E14:=@_H.E14
@[simp]theorem fW:type_of%@_H.E15:=@_H.E15
@[simp]theorem aei:type_of%@_H.E16:=@_H.E16
@[simp]theorem aeM:type_of%@_H.E17:=@_H.E17
@[simp]theorem abq:type_of%@_H.aaS:=@_H.aaS
@[simp]theorem adR:type_of%@_H.E18:=@_H.E18
@[simp]theorem aet:type_of%@_H.E19:=@_H.E19
@[simp]theorem adh:type_of%@_H.E20:=@_H.E20
@[simp]theorem afH:type_of%@_H.E21:=@_H.E21
@[simp]theorem agZ:type_of%@_H.X1:=@_H.X1
@[simp]theorem ahd:type_of%@_H.X2:=@_H.X2
@[simp]theorem ag2:type_of%@_H.X3:=@_H.X3
@[simp]theorem ahp:type_of%@_H.X4:=@_H.X4
@[simp]theorem ahv:type_of%@_H.X5:=@_H.X5
@[simp]theorem aht:type_of%@_H.X6:=@_H.X6
@[simp]theorem ag5:type_of%@_H.X7:=@_H.X7
@[simp]theorem ahn:type_of%@_H.X8:=@_H.X8
@[simp]theorem adZ:type_of%@_H.X9:=@_H.X9
@[simp]theorem adg:type_of%@_H.X10:=@_H.X10
@[simp]theorem afR:type_of%@_H.X11:=@_H.X11
@[simp]theorem ad9:type_of%@_H.X12:=@_H.X12
@[simp]theorem adu:type_of%@_H.X13:=@_H.X13
@[simp]theorem aen:type_of%@_H.lG.eq_1:=@_H.lG.eq_1
@[simp]theorem ae0:type_of%@_H.evs.eq_1:=@_H.evs.eq_1
@[simp]theorem af1:type_of%@_H.evs.eq_2:=@_H.evs.eq_2
@[simp]theorem ado:type_of%@_H.BV.eq_1:=@_H.BV.eq_1
@[simp]theorem aeZ:type_of%@_H.BV.eq_2:=@_H.BV.eq_2
@[simp]theorem aft:type_of%@_H.lr.eq_1:=@_H.lr.eq_1
@[simp]theorem afP:type_of%@_H.lr.eq_2:=@_H.lr.eq_2
@[simp]theorem ad4:type_of%@_H.tW.eq_1:=@_H.tW.eq_1
@[simp]theorem aaM:type_of%@_H.cO.eq_1:=@_H.cO.eq_1
@[simp]theorem Z3:type_of%@_H.cO.eq_2:=@_H.cO.eq_2
@[simp]theorem aax:type_of%@_H.cO.eq_3:=@_H.cO.eq_3
@[simp]theorem Zh:type_of%@_H.cO.eq_4:=@_H.cO.eq_4
@[simp]theorem Z4:type_of%@_H.gn.eq_1:=@_H.gn.eq_1
@[simp]theorem Ys:type_of%@_H.gn.eq_2:=@_H.gn.eq_2
@[simp]theorem Y5:type_of%@_H.bD.eq_1:=@_H.bD.eq_1
@[simp]theorem aaL:type_of%@_H.bD.eq_2:=@_H.bD.eq_2
@[simp]theorem ZP:type_of%@_H.bD.eq_3:=@_H.bD.eq_3
@[simp]theorem Yy:type_of%@_H.bD.eq_4:=@_H.bD.eq_4
end _H
namespace _H
open PySem _L Spec PyProof.Rows
section
variable{X:Cx}{c:Call}{a b:eB}{pa pb:P}{pos:Pos}
theorem oU:∀{e:List D}{ns:List Int},e.mapM gD=aD ns->e=ns.map D.int|[],ns,h=>by simp at h;subst h;rfl|d::e,ns,h=>by simp[sd,Option.bind_eq_some_iff]at h;obtain⟨i,f,j,g,rfl⟩:=h;rw[bK f,oU g];rfl
theorem gh{K:PySem.W.Frag}{F:Hp}:∀{ns:List Int}{ys:List V},aH K F ys (ns.map D.int)->ys=ns.map V.int|[],ys,h=>by rw[h.ie];rfl|n::ns,ys,h=>by obtain⟨v,r,rfl,h1,t⟩:=h.cW;rw[Rep]at h1;rw[h1,gh t];rfl
theorem nW{ns:List Int}{f:List bV}(h:Vals (ns.map V.int) f){i:Nat}{v:bV}(e:f.toArray[i]?=aD v):∃t,v=.int (ns.getD i 0) t:=by
 have e:f[i]?=aD v:=by simpa using e
 have hi:i<f.length:=(gC e).1;have l:=h.length;rw[en]at l;have g:(ns.map V.int)[i]?=aD (.int (ns.getD i 0)):=by rw[eI,gT (by lia)];simp[kj,show i<ns.length by lia]
 obtain⟨w,j,m⟩:=h.get g;rw[e]at j;cases j;exact m
theorem walked{g:List (dQ×Obj)}{σ:_L.St}{H:Hp}{s:cp}{p:dQ}{ys:List V}(I:_L.Inv X g σ H s)(hc:X.calm=ck)(hq:fU X.K H p ys\/ir X.K H p ys){Q:bV->cp->Prop}{E:bV->cp->Prop}(k:∀(it:dQ)(f:List bV)(e:cp)(St:Nat->Heap->Prop),Vals ys f->Walks X.prog X.w X.A.in1 it [it,p] [it] f.toArray.size (λi v=>f.toArray[i]?=aD v) St->St 0 e.heap->(∀ b ∈[it,p],b<e.heap.objs.size)->(∀h' l,(∀b o,b∉[it]->e.heap.get? b=aD o->h'.get? b=aD o)->_L.Inv X g σ H {e with heap:=h',toks:=l})->Q (.ref it) e):d_ (ef X.prog X.w) X.A.in1 (oD (.ref p)) Q E s:=by
 have q:X.A.in1.handled=b_:=I.ok.hd hc;rcases hq with hq|hq
 . obtain⟨f,m,pl,r⟩:=I.list hq;have pl:=pl.isList;have h:p<s.heap.objs.size:=by obtain⟨o,h1,_⟩:=pl;exact eA h1
   refine iq pl (k s.heap.objs.size f _ _ m (Walks.list q s.heap.objs.size p (eS h) f.toArray) ⟨⟨_,dZ _ rfl,rfl,rfl⟩,?_⟩ ?_ λh' l kp=>?_);.obtain⟨o,h1,n⟩:=pl;exact⟨o,eO h1,n⟩
   . intro b j;obtain⟨o,h1,_⟩:=pl;simp at j;rcases j with rfl|rfl;.exact eA (dZ _ rfl)
     .exact eA (eO h1)
   .exact I.kept (λb o z=>kp b o (by simp;exact eS (eA z)) (eO z))
 . obtain⟨f,m,pl,r⟩:=I.tuple hq;have h:p<s.heap.objs.size:=by obtain⟨o,h1,_⟩:=pl;exact eA h1
   refine gx pl (k s.heap.objs.size f _ _ m (Walks.tuple q s.heap.objs.size p (eS h) f.toArray) ⟨⟨_,dZ _ rfl,rfl,rfl⟩,?_⟩ ?_ λh' l kp=>?_);.obtain⟨o,h1,n⟩:=pl;exact⟨o,eO h1,n⟩
   . intro b j;obtain⟨o,h1,_⟩:=pl;simp at j;rcases j with rfl|rfl;.exact eA (dZ _ rfl)
     .exact eA (eO h1)
   .exact I.kept (λb o z=>kp b o (by simp;exact eS (eA z)) (eO z))
theorem qi(ns:List Int):∀k,k<=ns.length->preSum (λi=>ns.getD i 0) k=(ns.take k).sum|0,_=>by simp[preSum]|k+1,h=>by rw[preSum,qi ns k (by lia),List.take_succ,List.sum_append];simp[kj,show k<ns.length by lia]
theorem Zf(hc:X.calm=ck):dO X (.builtin "sum") (Hm X.K λx=>blt .sum [x]):=by
 rintro g s σ H xs h Q I r⟨x,o,F,d,q,sm,t,he,k⟩;obtain⟨ns,w,he⟩:=map_some (show((items d).bind λj=>j.mapM gD).map _=aD q from he);subst he;obtain⟨j,y,z⟩:=bF w;obtain⟨p,ys,rfl,A,l⟩:=t.items sm y;rw[oU z]at l;have B:=gh l;subst o;obtain⟨u,rfl,C⟩:=r.one;cases C;refine call_sum_walkG (walked I hc A λit h m St n W h0 E kp=>?_);subst B;have f:h.toArray.size=ns.length:=by rw[ec,<-n.length,en]
 refine⟨it,_,_,_,_,St,λi=>ns.getD i 0,rfl,W,h0,E,λi v e=>nW n e,λh' G t' J=>?_⟩;rw[f,qi ns _ (di),List.take_length];exact⟨.int _,H,kp h' G J,⟨t',rfl⟩,dh.eX sm (bO _) k⟩
theorem Ku{ns:List Int}{m:Int}(l:ns.min?=aD m):ns.getD (argBest (λi j=>decide (ns.getD i 0<ns.getD j 0)) (ns.length-1)) 0=m:=by
 have h:ns≠[]:=by rintro rfl;simp at l
 have s:0<ns.length:=r8.mpr h;obtain⟨h1,o⟩:=argBest_lt (λi=>ns.getD i 0) (ns.length-1);have n:=ly.mp l;generalize argBest (λi j=>decide (ns.getD i 0<ns.getD j 0)) (ns.length-1)=j at*;have p:j<ns.length:=by lia
 have f:ns.getD j 0∈ns:=by simp[kj,p]
 obtain⟨q,r,e⟩:=r9 n.1;have g:=o q (by lia);simp only[kj,gT r,lZ]at g;rw[e]at g;have t:=n.2 _ f;have g:ns.getD j 0<=m:=g;lia
theorem J6{ns:List Int}{m:Int}(l:ns.max?=aD m):ns.getD (argBest (λi j=>decide (ns.getD i 0>ns.getD j 0)) (ns.length-1)) 0=m:=by
 have h:ns≠[]:=by rintro rfl;simp at l
 have s:0<ns.length:=r8.mpr h;obtain⟨h1,o⟩:=argBest_gt (λi=>ns.getD i 0) (ns.length-1);have n:=lI.mp l;generalize argBest (λi j=>decide (ns.getD i 0>ns.getD j 0)) (ns.length-1)=j at*;have p:j<ns.length:=by lia
 have f:ns.getD j 0∈ns:=by simp[kj,p]
 obtain⟨q,r,e⟩:=r9 n.1;have g:=o q (by lia);simp only[kj,gT r,lZ]at g;rw[e]at g;have t:=n.2 _ f;have g:m<=ns.getD j 0:=g;lia
theorem We(hc:X.calm=ck):dO X (.builtin "min") (Hm X.K λx=>blt .HB [x]):=by
 rintro j s σ H xs l Q I r⟨x,y,F,d,z,sm,A,he,k⟩;obtain⟨ns,B,he⟩:=bF (show((items d).bind λn=>n.mapM gD).bind _=aD z from he);obtain⟨m,o,he⟩:=map_some he;subst he;obtain⟨n,C,E⟩:=bF B;obtain⟨p,ys,rfl,G,q⟩:=A.items sm C;rw[oU E]at q;have J:=gh q;subst y;obtain⟨u,rfl,L⟩:=r.one;cases L;refine call_min_walk (walked I hc G λit l w St h W h0 M kp=>?_);subst J;have f:l.toArray.size=ns.length:=by rw[ec,<-h.length,en]
 have g:0<ns.length:=by cases ns with|nil=>simp at o|cons _ _=>simp
 refine⟨it,_,_,_,_,St,_,rfl,W,h0,M,by rw[f];exact g,CmpOf.ints_lt (λi=>ns.getD i 0) (λi v e=>nW h e),λv h' N hv O=>?_⟩;rw[f]at hv;obtain⟨t,rfl⟩:=nW h hv;rw[Ku o];exact⟨.int _,H,kp h' N O,⟨t,rfl⟩,dh.eX sm (bO _) k⟩
theorem Sd(hc:X.calm=ck):dO X (.builtin "max") (Hm X.K λx=>blt .HD [x]):=by
 rintro j s σ H xs l Q I r⟨x,y,F,d,z,sm,A,he,k⟩;obtain⟨ns,B,he⟩:=bF (show((items d).bind λn=>n.mapM gD).bind _=aD z from he);obtain⟨m,o,he⟩:=map_some he;subst he;obtain⟨n,C,E⟩:=bF B;obtain⟨p,ys,rfl,G,q⟩:=A.items sm C;rw[oU E]at q;have J:=gh q;subst y;obtain⟨u,rfl,L⟩:=r.one;cases L;refine call_max_walk (walked I hc G λit l w St h W h0 M kp=>?_);subst J;have f:l.toArray.size=ns.length:=by rw[ec,<-h.length,en]
 have g:0<ns.length:=by cases ns with|nil=>simp at o|cons _ _=>simp
 refine⟨it,_,_,_,_,St,_,rfl,W,h0,M,by rw[f];exact g,CmpOf.ints_gt (λi=>ns.getD i 0) (λi v e=>nW h e),λv h' N hv O=>?_⟩;rw[f]at hv;obtain⟨t,rfl⟩:=nW h hv;rw[J6 o];exact⟨.int _,H,kp h' N O,⟨t,rfl⟩,dh.eX sm (bO _) k⟩
theorem boot_sum:gc "sum"=aD (.builtin "sum"):=by decide+kernel
theorem Jb{x:Str}{e:Pos}(f:x="sum")(hc:X.calm=ck)(g:Gl X x)(i:X.mg x=b_)(j:SX X c a pa)(hs:ea [a] X.env=(a_,fF a X.env)::ea [] X.env:=by rfl):SX X c (.Call (.Name x e) [a] [] pos) (.blt .sum [pa]):=by subst f;exact kI (λh=>fj (Zf hc) g i boot_sum h (he:=hs)) j (λρ=>rfl) rfl hs
theorem Oz{x:Str}{e:Pos}(f:x="min")(hc:X.calm=ck)(g:Gl X x)(i:X.mg x=b_)(j:SX X c a pa)(hs:ea [a] X.env=(a_,fF a X.env)::ea [] X.env:=by rfl):SX X c (.Call (.Name x e) [a] [] pos) (.blt .HB [pa]):=by subst f;exact kI (λh=>fj (We hc) g i boot_min h (he:=hs)) j (λρ=>rfl) rfl hs
theorem PL{x:Str}{e:Pos}(f:x="max")(hc:X.calm=ck)(g:Gl X x)(i:X.mg x=b_)(j:SX X c a pa)(hs:ea [a] X.env=(a_,fF a X.env)::ea [] X.env:=by rfl):SX X c (.Call (.Name x e) [a] [] pos) (.blt .HD [pa]):=by subst f;exact kI (λh=>fj (Sd hc) g i boot_max h (he:=hs)) j (λρ=>rfl) rfl hs
end
end _H
namespace _H
open PySem
section
variable{i j:Int}{ds es:List D}{d:D}{b b':Bool}
@[simp]theorem abX:vV .shl=JK:=rfl
@[simp]theorem ab9:vV .shr=Jc:=rfl
@[simp]theorem aaG:vV .band=Aw:=rfl
@[simp]theorem Wv:JK (.int i) (.int j)=if 0<=j/\j<=1000/\i.natAbs<18446744073709551616 then aD (.val (.int (i*2^j.toNat)))else b_:=rfl
@[simp]theorem W6:Jc (.int i) (.int j)=if 0<=j then aD (.val (.int (i/2^j.toNat)))else b_:=rfl
@[simp]theorem VH:Aw (.int i) (.int j)=aD (.val (.int (Builtin.bitAnd i j))):=rfl
@[simp]theorem W2:qg (.lst ds) (.int i)=if 0<=i/\0<ds.length/\ds.length*i.toNat<=lim then aD (.own (dV i.toNat ds).flatten)else b_:=rfl
@[simp]theorem Ws:qg (.tup ds) (.int i)=if 0<=i/\0<ds.length/\ds.length*i.toNat<=lim then aD (.val (.tup (dV i.toNat ds).flatten))else b_:=rfl
@[simp]theorem aex:cm .isT (.bl b) (.bl ck)=aD b:=rfl
@[simp]theorem abC:cm .aa0 (.bl b) (.bl ck)=aD (!b):=rfl
@[simp]theorem abP:blt .sum [.lst ds]=(ds.mapM gD).map λns=>.val (.int ns.sum):=rfl
@[simp]theorem aaw:blt .HB [.lst ds]=(ds.mapM gD).bind λns=>ns.min?.map λi=>.val (.int i):=rfl
@[simp]theorem ZQ:blt .HD [.lst ds]=(ds.mapM gD).bind λns=>ns.max?.map λi=>.val (.int i):=rfl
end
@[simp]theorem afk:type_of%@_H.X14:=@_H.X14
theorem Ji{ns:List Int}:(ns.map D.int).mapM gD=aD ns:=by induction ns with|nil=>rfl|cons n ns a=>simp[a]
@[simp]theorem Yc{ns:List Int}:ns.mapM (gD ∘ D.int)=aD ns:=by rw[<-Ji (ns:=ns),List.mapM_map]
@[simp]theorem Y6{bs:List Bool}:bs.mapM (Cu ∘ D.bl)=aD bs:=by induction bs with|nil=>rfl|cons b bs a=>simp[a]
theorem abu{S:List Int}{i:Int}:((S.map D.int).any λy=>mZ y (.int i))=S.contains i:=by induction S with|nil=>rfl|cons s S a=>rw[eK,tN,List.contains_cons,a,pqi];rw[show(s==i)=(i==s)from gp.mpr ⟨λh=>by simp at h ⊢;exact h.symm,λh=>by simp at h ⊢;exact h.symm⟩]
theorem YG{S:List Int}:(S.map D.int).all flat=ck:=by rw[eL];intro d hd;obtain⟨i,_,rfl⟩:=ey.mp hd;rfl
theorem qG{n:Nat}{S:List Int}:iV (n+1) (.lst (S.map D.int))=ck:=by rw[bY,eL];intro d hd;obtain⟨i,_,rfl⟩:=ey.mp hd;cases n<;>rfl
theorem sW:∀{S T:List Int},jt (S.map D.int) (T.map D.int)=(S==T)|[],[]=>by simp[nH,jN,qX,sX]|[],_::_=>by simp[nH,jN,qX,sX]|_::_,[]=>by simp[nH,jN,qX,sX]|s::S,t::T=>by rw[eK,eK,jN,sW,pqi];rfl
theorem Ny{S T:List Int}:cm .eq (.lst (S.map D.int)) (.lst (T.map D.int))=aD (S==T):=by show Mh _ _=_;unfold Mh;rw[qG,qG,pql,sW];rfl
theorem acA{S T:List Int}:cm .ne (.lst (S.map D.int)) (.lst (T.map D.int))=aD (!(S==T)):=by show Ld _ _=_;unfold Ld;rw[qG,qG,pql,sW];rfl
theorem Pn{S:List Int}:cm .eq (.lst (S.map D.int)) (.lst [])=aD S.isEmpty:=by rw[show(.lst []:D)=.lst (([]:List Int).map D.int)from rfl,Ny];cases S<;>rfl
theorem aeF{a:Type}{l:List a}{f:a->D}{k:Nat}{x:a}(h:l[k]?=aD x):at' (l.map f) (k:Int)=aD (f x):=by have b:=(gC h).1;rw[KJ (by simpa using b),eI,h];rfl
theorem adN{n k:Nat}(h:k<n):kZ n (k:Int)=aD k:=by unfold kZ;rw[if_pos (by lia),if_pos (by lia)];simp
theorem fc{is:List Nat}{one:Bool}{body:List Sl->Res Fl}{g:Nat->D}{N:Nat}(J:Nat->List Sl->Prop){Q:Fl->List Sl->Prop}(c:∀i ρ,i<N->J i ρ->∃a,cF ρ is one (g i)=aD a/\(body a).sat (fQ (J (i+1)) Q))(f:∀ρ,J N ρ->Q .next ρ){ρ:List Sl}(h0:J 0 ρ):(ju is one body ((ej N).map g) ρ).sat Q:=by
 refine dJ (λr ρ=>∃i,i<=N/\r=((ej N).map g).drop i/\J i ρ) ?_ ?_ ⟨0,tY,rfl,h0⟩
 . rintro d r ρ⟨i,hi,e,j⟩;have b:i<N:=by
    rcases tm i N with h|h;.exact h
    .rw[ln (by simpa using h)]at e;cases e
   rw[hR (by simpa using b)]at e;injection e with e1 e2;simp at e1;subst e1;obtain⟨a,h1,l⟩:=c i ρ b j;refine⟨a,h1,l.imp λm n q=>?_⟩;cases m with|next=>exact⟨i+1,b,e2,q⟩|cont=>exact⟨i+1,b,e2,q⟩|brk=>exact q|ret v=>exact q
 . rintro ρ⟨i,hi,e,j⟩;have:i=N:=by have o:=congrArg rb e;simp at o;lia
   subst this;exact f ρ j
theorem FT{c:Call}{is:List Nat}{one:Bool}{m:P}{t:Option P}(J:List Sl->Prop)(P:D->Prop){Q:List D->List Sl->Prop}{l:List D}{ρ:List Sl}(j:J ρ)(h:∀d,d∈l->∀ρ,J ρ->∃a,cF ρ is one d=some a/\(lr c t a).sat λb f=>if b=true then(ev c m f).sat λr i=>P r.d/\J i else J f)(k:∀xs ρ,J ρ->xs.length<=l.length->(∀x∈xs,P x)->Q xs ρ):(lH c is one t m l ρ).sat Q:=by suffices hh:∀(l:List D)(g:List D)(ρ:List Sl),J ρ->(∀x∈g,P x)->(∀d,d∈l->∀ρ,J ρ->∃a,cF ρ is one d=some a/\(lr c t a).sat λb f=>if b=true then(ev c m f).sat λr i=>P r.d/\J i else J f)->(turns is one (lr c t) (ev c m) l g ρ).sat λxs ρ=>J ρ/\(∀x∈xs,P x)/\xs.length<=g.length+l.length from(hh l [] ρ j (by simp) h).imp λxs ρ⟨o,q2,q3⟩=>k xs ρ o (by simpa using q3) q2;intro l;induction l with|nil=>intro g ρ j s _;rw[Bp];exact⟨j,s,by simp⟩|cons d r u=>
   intro g ρ j s h;obtain⟨a,e,h1⟩:=h d (by simp) ρ j;rw[Bj,e];show((lr c t a).bind _).sat _;rw[aV]
   refine h1.imp λb f q=>?_;cases b with|true=>
     rw[if_pos rfl]at q;rw[if_pos rfl,aV];refine q.imp λx i⟨p,j3⟩=>?_;refine(u (g++[x.d]) i j3 (λy hy=>?_) λd' n=>h d' (by simp[n])).imp λxs ρ⟨o,q2,q3⟩=>⟨o,q2,by simp at q3 ⊢;lia⟩;rcases List.mem_append.mp hy with hy|hy;.exact s y hy
     .rw[List.mem_singleton.mp hy];exact p|false=>rw[if_neg (by simp)]at q;rw[if_neg (by simp)];exact(u g f q s λd' n=>h d' (by simp[n])).imp λxs ρ⟨o,q2,q3⟩=>⟨o,q2,by simp at q3 ⊢;lia⟩
inductive A3(a b c:Prop):Prop where|mk(ha:a)(hb:b)(hc:c)
inductive A4(a b c d:Prop):Prop where|mk(ha:a)(hb:b)(hc:c)(hd:d)
inductive A5(a b c d e:Prop):Prop where|mk(ha:a)(hb:b)(hc:c)(hd:d)(he:e)
inductive A6(a b c d e f:Prop):Prop where|mk(ha:a)(hb:b)(hc:c)(hd:d)(he:e)(hf:f)
inductive A7(a b c d e f g:Prop):Prop where|mk(ha:a)(hb:b)(hc:c)(hd:d)(he:e)(hf:f)(hg:g)
inductive A8(a b c d e f g h:Prop):Prop where|mk(ha:a)(hb:b)(hc:c)(hd:d)(he:e)(hf:f)(hg:g)(hh:h)
inductive A9(a b c d e f g h i:Prop):Prop where|mk(ha:a)(hb:b)(hc:c)(hd:d)(he:e)(hf:f)(hg:g)(hh:h)(hi:i)
end _H
namespace _H
open PySem _L Spec PyProof.Rows
section
variable{X:Cx}{c:Call}{n:Nat}{e a b d tg:eB}{p pa pb pd:P}{pos:Pos}
theorem sy{g:TG}{is:List Nat}(he:SX X c e p)(s:PG X tg g)(i:KC X.K (λρ d=>cF ρ is a_ d) g)(hs:ls [tg] e pos.line X.env=fI a_:=by rfl)(t:lv [tg] e X.env=fI b_:=by rfl)(h1:(kd [tg] X.env).map (·.2)=[kC tg X.env]:=by rfl):SS X c n (.Assign [tg] e pos) (.QK is p):=by
 refine gH (vM he.ev s hs t h1) ?_;rintro D σ H⟨F,ρ,C,u,w,e,k⟩;rw[_H.X7]at e;obtain⟨r,f,x,e⟩:=aj e;refine⟨F,ρ,r,f,w,x,λv F1 l s1 y=>?_⟩;obtain⟨m,s2,_,o⟩:=s1.fG y;split at e;.rename_i q hd;obtain⟨z,A,h,e⟩:=aj e;cases e;have B:=aF h;clear h;obtain⟨h,E⟩:=B;rw[hd]at o;exact i v (.tup q) m f _ σ l _ s2.gs o (by show cF f is a_ (.tup q)=_;cases is<;>exact h) λj s3=>k m j l (s2.trans s3)
 .cases e
end
end _H
namespace _U
open PySem Spec PyProof.Rows
section
variable{prog:ek}{w:fg}{A:fb}{E:bV->cp->Prop}{s:cp}
theorem yt{t c:dQ}{a:Array bV}{vl i:bV}{lo hi:Option Int}{Q:bV->cp->Prop}(b:IsTup s.heap t a)(hs:s.heap.IsSliceOf c vl i .none)(pl:mM vl lo)(j:mM i hi)(h1:dY a.size 0 lo=0)(l:dY a.size a.size hi=a.size)(h:Q (.ref t) s):d_ (ef prog w) A (lb (.ref t) (.ref c)) Q E s:=by
 obtain⟨os,e,f,m⟩:=id hs;have n:s.TypeIs (.ref c) "slice":=⟨os,e,f⟩;unfold lb;try with_reducible refine h_ ?_
 first|refine bx (c_ ?_)|skip
 refine bx (wpAny_sequenceKey b.typeIs (by decide) (bx (fq (name:=gI "__getitem__") b.typeIs slot_tuple_getitem (fm slot_tuple_getitem b.typeIs entry_tuple_getitem ?_ (args_tuple_getitem _ _)))));show d_ _ _ (tupleItemsOf (.ref t)>>=_) _ _ s;refine bx (tupleItemsOf_ b (bx (l_ n ?_)));rw[if_pos (by decide)];refine bx (jE hs pl j ?_);have g:((((dY a.size 0 lo:Nat):Int)==0&&(1:Int)==1&&(dY a.size a.size hi-dY a.size 0 lo)==a.size)=ck):=by rw[h1,l];simp
 show d_ _ _ (if(((dY a.size 0 lo:Nat):Int)==0&&(1:Int)==1&&(dY a.size a.size hi-dY a.size 0 lo)==a.size)=ck then _ else _) _ _ s;rw[if_pos g];unfold Builtin.Tuple.tupleIsExact;refine bx (bx (l_ b.typeIs (c_ ?_)));rw[if_pos (by decide)];exact bx (j9 (c_ ⟨_,rfl,c_ h⟩))
end
end _U
namespace _H
open PySem _L Spec PyProof.Rows
noncomputable def nst:eB->Bool|.Starred _ _=>a_|_=>ck
theorem jX{e:eB}{es:List eB}{env:Env}(h:nst e=ck):ea (e::es) env=(a_,fF e env)::ea es env:=by cases e with|Starred a b=>cases h|_=>rw[ea];(intro e p z;cases z)
noncomputable def qZ:List Int->List eB->Option (List eB)|[],es=>aD es|i::is,.Constant (.int j) _ _::es=>if i=j then qZ is es else b_|_,_=>b_
theorem mD{X:_L.Cx}{c:Call}:∀(is:List Int){es a:List eB}{b:List P},qZ is es=aD a->SA X c a b->SA X c es (is.map (λi=>P.con (.int i))++b)|[],es,a,b,h,r=>by cases h;exact r|i::is,[],a,b,h,r=>by cases h|i::is,e::es,a,b,h,r=>by cases e with
   |Constant v k p=>cases v with
     |int j=>
       replace h:(if i=j then qZ is es else b_)=aD a:=h;split at h;.rename_i f;subst f;exact qO aa (mD is h r) (jX rfl)
       .cases h|_=>cases h
   |_=>cases h
theorem wz{n d:Nat}{o:Option Int}:_U.dY n d o=_H.dY n d o:=by cases o with|none=>rfl|some v=>
   show(if v<0 then(v+(n:Int)).toNat else min v.toNat n)=(if 0<=v then min v.toNat n else(v+n).toNat);by_cases h:0<=v;.rw[if_pos h,if_neg (by lia)]
   .rw[if_neg h,if_pos (by lia)]
theorem Lr{xs:List V}{lo hi:Option Int}:yK xs lo hi=_H.cut xs lo hi:=by unfold yK _H.cut;rw[wz,wz]
theorem aH.cut{K:PySem.W.Frag}{F:Hp}{a:List D}{vs:List V}{lo hi:Option Int}(h:aH K F vs a):aH K F (_H.cut vs lo hi) (_H.cut a lo hi):=by unfold _H.cut;rw[h.length];exact(h.drop _).take _
section
variable{X:Cx}{c:Call}{n:Nat}{e a b:eB}{p pa pb pl ph:P}{pos p2:Pos}{lo hi:Option eB}
noncomputable def adl(K:PySem.W.Frag):V->Option Int->Option Int->Hp->VK->Prop:=λx lo hi H Q=>∃F d r,aM F H/\gq K F H x d/\Gn d (aD lo) (aD hi)=aD r/\∀v f H',Ext F H f H'->dh K f H' H v r->Q v H'
theorem ZS:SlR X (adl X.K):=by
 rintro f s σ H x v vl u lo hi w Q I l hs pl m⟨F,d,r,sm,y,he,k⟩;cases d with|lst o=>cases he;obtain⟨a,xs,rfl,j,h⟩:=y.lst sm;refine O6 f s σ H _ v vl u lo hi w Q I l hs pl m ⟨a,xs,rfl,j,λp q=>?_⟩;rw[Lr];exact vI sm h.cut q k|tup o=>
   cases he;obtain⟨a,xs,rfl,j,h,rt⟩:=y.tup sm;by_cases i:_U.dY xs.length 0 lo=0/\_U.dY xs.length xs.length hi=xs.length
   . cases l;obtain⟨t,A,z,B⟩:=I.tuple j;have g:t.toArray.size=xs.length:=by rw[ec];exact A.length.symm
     refine⟨"tuple",_,slot_tuple_getitem.lookup,z.typeIs,_U.yt z hs pl m (by rw[g];exact i.1) (by rw[g];exact i.2) ⟨.ref a,H,I,rfl,?_⟩⟩;have hc:_H.cut o lo hi=o:=by unfold _H.cut;rw[<-h.length,<-wz,<-wz,i.1,i.2];simp[h.length]
     rw[hc]at k;exact dh.eX sm rt k
   .refine Tf f s σ H _ v vl u lo hi w Q I l hs pl m ⟨a,xs,rfl,j,i,λp q=>?_⟩;rw[Lr];exact FQ sm h.cut q k|_=>cases he
noncomputable def SO(X:Cx)(c:Call)(o:Option eB)(p:P):Prop:=∃t,PO X o t/\∀{σ:_L.St}{H F:Hp}{ρ f:List Sl}{d:D}{i:Option Int}{Q:Option Int->Hp->Prop},GS X.K F ρ σ H->cT (isVar p) (_H.ev c p) ρ=.ok d f->part p d=aD i->(∀g H',bW X.K F ρ σ H g f σ H'->Q i H')->t σ H Q
theorem jQ:SO X c b_ (.con .non):=by refine⟨_,Qp,λ{σ H F ρ f d i Q}g e h k=>?_⟩;cases(show aD b_=aD i from h);have j:(_H.ev c (.con .non) ρ).bind (λr ρ=>.ok r.d ρ)=.ok d f:=e;clear e;rw[_H.E2]at j;cases j;exact k F H (.refl g)
theorem iJ(h:SX X c e p)(l:vD p=a_:=by rfl):SO X c (aD e) p:=by obtain⟨t,h1,m⟩:=h.cT;refine⟨_,Ou h1,λ{σ H F ρ o d i Q}g e f k=>?_⟩;unfold part at f;rw[l,if_neg (by decide)]at f;obtain⟨j,q,r⟩:=map_some f;cases bK q;subst r;exact m g e λv u H' s w=>⟨j,w.int,k u H' s⟩
theorem yS{d:D}{x y:Option (Option Int)}{r:R}(h:Gn d x y=aD r):∃lo hi,x=aD lo/\y=aD hi:=by cases x with|none=>cases d<;>cases h|some lo=>cases y with|none=>cases d<;>cases h|some hi=>exact⟨lo,hi,rfl,rfl⟩
theorem ig(Y:SX X c a pa)(hl:SO X c lo pl)(hh:SO X c hi ph):SX X c (.Subscript a (.Slice lo hi b_ p2) pos) (.slice pa pl ph):=by obtain⟨tl,Z,l2⟩:=hl;obtain⟨th,h1,h2⟩:=hh;cases hv:isVar pa with|none=>refine⟨gG (yp ZS Y.ev Z h1) ?_,λi h=>by cases h⟩;rintro σ H Q⟨F,ρ,r,B,g,e,k⟩;rw[_H.E14,hv]at e;obtain⟨x,C,f,j⟩:=aj e;clear e;have l:(_H.ev c pa ρ).bind (λr ρ=>.ok r.d ρ)=.ok x C:=f;clear f;obtain⟨rx,ab,e1,E⟩:=aj l;clear l;cases E;obtain⟨y,G,I,m⟩:=aj j;clear j;obtain⟨z,J,L,o⟩:=aj m;clear m;obtain⟨e,M⟩:=aF o;clear o;subst M;obtain⟨N,O,q,s⟩:=yS e;rw[q,s]at e;refine⟨F,ρ,rx,_,g,e1,λv F1 H1 s1 rr=>?_⟩;obtain⟨F2,s2,_,rp⟩:=s1.fG rr;refine l2 s2.gs I q λF3 H3 s3=>h2 s3.gs L s λF4 H4 s4=>?_;have s5:=s2.trans (s3.trans s4);refine⟨F4,_,r,s4.gs.sub,.inl ((rp.mono s3.cI).mono s4.cI),e,λv F5 U x W=>?_⟩;exact k v F5 U (s5.trans (x.stp s5.gs)) (.later s5 (W.wL s5.gs))|some i=>refine⟨gG (yp ZS (Y.var i hv) Z h1) ?_,λi h=>by cases h⟩;rintro σ H Q⟨F,ρ,r,B,g,e,k⟩;rw[_H.E14,hv]at e;obtain⟨x0,ac,t,j⟩:=aj e;clear e;obtain⟨E,CP⟩:=aF t;clear t;subst CP;obtain⟨y,G,I,m⟩:=aj j;clear j;obtain⟨z,J,L,o⟩:=aj m;clear m;obtain⟨x,ae,u,ed⟩:=aj o;clear o;obtain⟨e5,e6⟩:=aF u;clear u;subst e6;obtain⟨e,M⟩:=aF ed;clear ed;subst M;obtain⟨N,O,q,s⟩:=yS e;rw[q,s]at e;obtain⟨v,w,_⟩:=g.pk E;refine⟨v,w,l2 g I q λF3 H3 s3=>h2 s3.gs L s λF4 H4 s4=>?_⟩;have s5:=s3.trans s4;obtain⟨v',A,pv⟩:=s5.gs.pk e5;rw[w]at A;cases A;refine⟨F4,_,r,s4.gs.sub,pv,e,λv F5 U x W=>?_⟩;exact k v F5 U (s5.trans (x.stp s5.gs)) (.later s5 (W.wL s5.gs))
theorem aal:dO X (.type "int") (Hm X.K λx=>blt .int [x]):=by rintro f s σ H xs g Q I r⟨x,h,F,d,j,sm,l,he,k⟩;cases d with|int i=>cases(show aD _=aD j from he);exact uv f s σ H xs g Q I r (.inl ⟨i,by rw[h,l.int],dh.eX sm (bO _) k⟩)|bl b=>cases(show aD _=aD j from he);exact uv f s σ H xs g Q I r (.inr ⟨b,by rw[h,l.bl],dh.eX sm (bO _) k⟩)|_=>cases he
theorem YB:dO X (.builtin "abs") (Hm X.K λx=>blt .abs [x]):=by rintro f s σ H xs g Q I r⟨x,h,F,d,j,sm,l,he,k⟩;cases d with|int i=>cases(show aD _=aD j from he);exact Jf f s σ H xs g Q I r ⟨i,by rw[h,l.int],dh.eX sm (bO _) k⟩|_=>cases he
theorem boot_abs:gc "abs"=aD (.builtin "abs"):=by decide+kernel
theorem DN{x:Str}{f:Pos}(g:x="int")(i:Gl X x)(j:X.mg x=b_)(l:SX X c a pa)(hs:ea [a] X.env=(a_,fF a X.env)::ea [] X.env:=by rfl):SX X c (.Call (.Name x f) [a] [] pos) (.blt .int [pa]):=by subst g;exact kI (λh=>mJ aal i j (by decide+kernel) h (he:=hs)) l (λρ=>rfl) rfl hs
theorem R8{x:Str}{f:Pos}(g:x="abs")(i:Gl X x)(j:X.mg x=b_)(l:SX X c a pa)(hs:ea [a] X.env=(a_,fF a X.env)::ea [] X.env:=by rfl):SX X c (.Call (.Name x f) [a] [] pos) (.blt .abs [pa]):=by subst g;exact kI (λh=>fj YB i j boot_abs h (he:=hs)) l (λρ=>rfl) rfl hs
theorem Vo{i:Nat}{x:Str}{t:Pos}{op:oj}{sub:Bool}(ho:PIp X op (ipI λi j=>if sub then i-j else i+j))(w:X.N.Nodup)(hi:X.N[i]?=aD x)(y:Loc X.env.scope x)(he:SX X c e p)(z:X.fn x=ck\/X.env.scope.names.lookup x=aD .local:=by first|(left;rfl)|(right;rfl)|assumption):SS X c n (.AugAssign (.Name x t) op e pos) (.aug i sub p):=by
 obtain⟨te,h1,A⟩:=he.cT;refine gH (Uj w hi y h1 ho z) ?_;rintro D σ H⟨F,ρ,fl,B,g,e,k⟩;rw[_H.X14]at e;obtain⟨a0,C,f,s⟩:=aj e;clear e;obtain⟨E,G⟩:=aF f;clear f;subst G;obtain⟨b0,I,J,o⟩:=aj s;clear s;obtain⟨v,q,L⟩:=g.pk E;refine⟨v,q,A g J λu F1 M s1 O=>?_⟩;split at o;.rename_i h l;obtain⟨Q,U,m,W⟩:=aj o;clear o;cases W;obtain⟨Y,e3⟩:=aF m;clear m;have Z:Rep X.K F1 (.int (if sub then h-l else h+l)) (.int (if sub then h-l else h+l)):=bO _;exact⟨h,l,L.int,O.int,k F1 _ M (bW.put (r:=.val (.int _)) s1 Z Y)⟩
 .cases o
theorem O9:PIp X .Add (ipI λi j=>if a_ then i-j else i+j):=Ui
end
end _H
namespace PySem
namespace F
theorem gf:Slot "reversed" "__next__" "reversed.__next__":=.of (owner:="reversed") (n:="__next__") (by rw[hV,fS];kernel_rfl) (by decide+kernel) (by decide+kernel) (by decide+kernel) (by first|exact .inl (by decide+kernel)|exact .inr (by decide+kernel)) (by rw[iP];kernel_rfl)
theorem mY:tF table "reversed.__next__"=aD gE.«reversed.__next__»:=oP (by kernel_rfl)
theorem rJ:Manifest.owners.lookup (String.ofList ['d','e','s','r','e','v','e','r'].reverse)=aD Manifest.sig_reversed:=by kernel_rfl
theorem nT(a:bV):sD "reversed.__next__" ⟨[a],[]⟩:=by unfold sD;rw[rk (id:="reversed.__next__") (n:=['_','_','t','x','e','n','_','_']) (o:=['d','e','s','r','e','v','e','r']) (by kernel_rfl) rJ];kernel_rfl
theorem oF:Slot "reversed" "__iter__" "reversed.__iter__":=.of (owner:="reversed") (n:="__iter__") (by rw[hV,fS];kernel_rfl) (by decide+kernel) (by decide+kernel) (by decide+kernel) (by first|exact .inl (by decide+kernel)|exact .inr (by decide+kernel)) (by rw[iP];kernel_rfl)
theorem wV(a:bV):sD "reversed.__iter__" ⟨[a],[]⟩:=by unfold sD;rw[rk (id:="reversed.__iter__") (n:=['_','_','r','e','t','i','_','_']) (o:=['d','e','s','r','e','v','e','r']) (by kernel_rfl) rJ];kernel_rfl
theorem ue:tF table "reversed.__iter__"=aD gE.«dict_keyiterator.__iter__»:=entryFor_alias (id':="dict_keyiterator.__iter__") (by kernel_rfl) (by first|rfl|decide+kernel|(unfold String.splitOn;simp+decide[String.splitOnAux])) (by decide+kernel) (by kernel_rfl)
theorem Ka:mroOf (.type "reversed")=fI [.type "reversed",.type "object"]:=by rw[mroOf_type];kernel_rfl
theorem tZ:kG (.type "reversed") "__new__"=fI (aD (.builtin "reversed.__new__")):=by rw[hV,fS];kernel_rfl
theorem wB:Slot "reversed" "__init__" "object.__init__":=.of (owner:="object") (n:="__init__") (by rw[hV,fS];kernel_rfl) (by decide+kernel) (by decide+kernel) (by decide+kernel) (by first|exact .inl (by decide+kernel)|exact .inr (by decide+kernel)) (by rw[iP];kernel_rfl)
theorem GP:TypeCalled "reversed" "reversed.__new__" "object.__init__":=⟨by decide+kernel,by decide+kernel,⟨_,_,Ka⟩,madeBy_type Ka tZ (by decide+kernel),by decide+kernel,by rw[iP];kernel_rfl,wB⟩
theorem yQ(a:bV):checkTypeCall "reversed" ⟨[a],[]⟩=fI ():=by kernel_rfl
theorem Bw(a:bV):checkBuiltinCall "reversed.__new__" ⟨[.type "reversed",a],[]⟩=fI ():=by kernel_rfl
theorem wN:tF table "reversed.__new__"=aD gE.«reversed.__new__»:=oP (by kernel_rfl)
theorem TQ:isSubtype (.type "reversed") (.type "reversed")=fI ck:=by rw[iP];kernel_rfl
theorem Hx:kG (.type "tuple") "__reversed__"=fI b_:=by rw[hV,fS];kernel_rfl
theorem BJ:isSubtype (.type "tuple") (.type "dict")=fI a_:=by rw[iP];kernel_rfl
theorem xQ:kG (.type "tuple") "__getitem__"=fI (aD (.builtin "tuple.__getitem__")):=by rw[hV,fS];kernel_rfl
theorem nY:Slot "reversed" "__length_hint__" "reversed.__length_hint__":=.of (owner:="reversed") (n:="__length_hint__") (by rw[hV,fS];kernel_rfl) (by decide+kernel) (by decide+kernel) (by decide+kernel) (by first|exact .inl (by decide+kernel)|exact .inr (by decide+kernel)) (by rw[iP];kernel_rfl)
theorem ud:tF table "reversed.__length_hint__"=aD gE.«reversed.__length_hint__»:=oP (by kernel_rfl)
theorem vJ(a:bV):sD "reversed.__length_hint__" ⟨[a],[]⟩:=by unfold sD;rw[rk (id:="reversed.__length_hint__") (n:=['_','_','t','n','i','h','_','h','t','g','n','e','l','_','_']) (o:=['d','e','s','r','e','v','e','r']) (by kernel_rfl) rJ];kernel_rfl
theorem Ju:kG (.type "reversed") "__len__"=fI b_:=by rw[hV,fS];kernel_rfl
theorem Ni:kG (.type "reversed") "__length_hint__"=fI (aD (.builtin "reversed.__length_hint__")):=by rw[hV,fS];kernel_rfl
end F
variable{l:dQ}{Q:bV->cp->Prop}
noncomputable def mG(l:dQ)(i:Int):Obj:={cls:=.type "reversed",data:=.fields #[.ref l,hY i]}
noncomputable def Heap.dG(h:Heap)(a l:dQ)(i:Int):Prop:=∃o,h.get? a=aD o/\o.cls=.type "reversed"/\o.data=.fields #[.ref l,hY i]
section
variable{prog:ek}{w:fg}{A:fb}{E:bV->cp->Prop}{s:cp}
theorem Heap.dG.typeIs{a:dQ}{i:Int}(x:s.heap.dG a l i):s.TypeIs (.ref a) "reversed":=let⟨o,ho,hc,_⟩:=x;⟨o,ho,hc⟩
theorem Heap.dG.at{h h':Heap}{a:dQ}{i:Int}(x:h.dG a l i)(e:∀o,h.get? a=aD o->h'.get? a=aD o):h'.dG a l i:=let⟨o,ho,r⟩:=x;⟨o,e _ ho,r⟩
theorem xZ(a:bV):newClass "reversed" ⟨[.type "reversed",a],[]⟩=fI (.type "reversed",[a]):=by unfold newClass;simp only[isType,F.TQ,pure_bind,Bool.not_true,ii,if_false]
end
theorem mQ(l:dQ)(items:Array bV)(b:(items.size:Int)<2^63):nB (gE.«reversed.__new__» ⟨[.type "reversed",.ref l],[]⟩) (λ_ R s=>fw s.heap l items/\R (.ok (.ret (.ref s.heap.objs.size))) {s with heap:=s.heap.push (mG l ((items.size:Int)-1)),toks:=s.toks+1+1}):=.of_wp λprog w A R s h=>by
  obtain⟨e,h⟩:=h;have c:s.TypeIs (.ref l) "tuple":=e.typeIs;unfold gE.«reversed.__new__»;refine bx (hZ (xZ _) ?_);try dsimp only
  refine bx (hZ (a:=()) (by first|rfl|kernel_rfl) ?_);refine bx (hZ (a:=()) (by first|rfl|kernel_rfl) ?_);try dsimp only
  refine bx (kn c F.Hx ?_);try dsimp only
  refine bx ?_;show d_ _ A.in1 (isInstance (.ref l) (.type "dict")>>=_) _ _ s;refine bx (kF c F.BJ ?_);show d_ _ A.in1 (specialOf (.ref l) (gI "__getitem__")>>=_) _ _ s;refine bx (kn c F.xQ ?_);show d_ _ A.in1 (if(["tuple.__getitem__","str.__getitem__","bytes.__getitem__","bytearray.__getitem__","memoryview.__getitem__","numpy.ndarray.__getitem__","sqlite3.Row.__getitem__"].contains "tuple.__getitem__")=ck then _ else _) _ _ s;rw[if_pos (by decide+kernel)];refine c_ ?_;show d_ _ A.in1 (call (.builtin "len") [.ref l]>>=_) _ _ s;refine bx (nz e b ?_);refine bx (hZ (a:=aD (items.size:Int)) rfl ?_);show d_ _ A.in1 (newRecord (.type "reversed") [.ref l,hY ((items.size:Int)-1)]>>=_) _ _ _;refine bx ?_;show d_ _ A.in1 (newObj (.type "reversed") (.fields #[.ref l,hY ((items.size:Int)-1)])) _ _ _;refine eJ ?_;exact c_ ⟨_,rfl,h⟩
section
variable{prog:ek}{w:fg}{A:fb}{E:bV->cp->Prop}{s:cp}
theorem iD{items:Array bV}(b:fw s.heap l items)(a:(items.size:Int)<2^63)(h:Q (.ref s.heap.objs.size) {s with heap:=s.heap.push (mG l ((items.size:Int)-1)),toks:=s.toks+1+1}):d_ (ef prog w) A (call (.type "reversed") [.ref l]) Q E s:=by refine kB F.GP (by decide) (F.yQ _) (F.Bw _) (λobj=>F.args_object_init_2 obj _) F.wN (mQ l items a) ⟨b,?_⟩;exact⟨⟨_,dZ _ rfl,rfl⟩,h⟩
theorem jB{it:dQ}{i:Nat}{items:Array bV}{x:bV}{Q:Option bV->cp->Prop}(b:s.heap.dG it l (i:Int))(c:fw s.heap l items)(e:items[i]?=aD x)(f:(items.size:Int)<2^63)(g:∀h' h,h'.dG it l ((i:Int)-1)->og it s.heap h'->Q (aD x) {s with heap:=h',toks:=h}):d_ (ef prog w) A (kK (.ref it)) Q E s:=by
 obtain⟨o,ho,hc,hd⟩:=id b;have m:s.TypeIs (.ref l) "tuple":=c.typeIs;have hi:i<items.size:=(on.mp e).1;unfold kK;refine bx (iE (fq (name:=gI "__next__") b.typeIs F.gf (fm F.gf b.typeIs F.mY ?_ (F.nT _))));unfold gE.«reversed.__next__»;refine bx (hZ (a:=(eR it,[])) rfl ?_);try dsimp only
 refine bx (fo ho hd (x:=.ref l) rfl ?_);refine bx (fo ho hd (x:=hY (i:Int)) rfl ?_);show d_ _ _ (if(i:Int)<0 then _ else _) _ _ s;rw[if_neg (by lia)];show d_ _ _ (specialOf (.ref l) (gI "__getitem__")>>=_) _ _ s;refine bx (kn m F.xQ ?_);show d_ _ _ (mkInt (i:Int)>>=_) _ _ s;refine bx (wpAny_mkInt ?_);refine bx (iE (PyProof.Rows.getItem_tuple (s:={s with toks:=s.toks+1}) c (by lia) (by lia) (j:=i) (by simp[seqIndex?];lia) e ?_));show d_ _ _ (o3 (.ref it) 1>>=_) _ _ _;refine bx (fo ho hd (x:=hY (i:Int)) rfl ?_);show d_ _ _ (p9 (.ref it) 1 (hY ((i:Int)-1))>>=_) _ _ _;refine bx (j8 ho hd (by simp) ?_);refine c_ ⟨x,rfl,c_ (g _ _ ?_ (Heap.SameBut.update ..))⟩;exact⟨_,iS _ ho (ku (gY hd _)),(ng ..).trans hc,by rw[gY hd];simp⟩
theorem kJ{it:dQ}{Q:Option bV->cp->Prop}(g:A.handled=b_)(c:s.heap.dG it l (-1))(h:∀h',ExtBut it s.heap h'->Q b_ {s with heap:=h'}):d_ (ef prog w) A (kK (.ref it)) Q E s:=by
 obtain⟨o,ho,hc,hd⟩:=id c;unfold kK;refine bx (iE (fq (name:=gI "__next__") c.typeIs F.gf (fm F.gf c.typeIs F.mY ?_ (F.nT _))));unfold gE.«reversed.__next__»;refine bx (hZ (a:=(eR it,[])) rfl ?_);try dsimp only
 refine bx (fo ho hd (x:=.ref l) rfl ?_);refine bx (fo ho hd (x:=hY (-1)) rfl ?_);show d_ _ _ (if(-1:Int)<0 then _ else _) _ _ s;rw[if_pos (by decide)];refine bx (j9 ?_);refine bx ?_;show d_ _ _ (p9 (.ref it) 1 (hY (-1))>>=λ_=>p9 (.ref it) 0 .none) _ _ _;refine bx (j8 ho hd (by simp) ?_);have e:=iS (pf (·.setIfInBounds 1 (hY (-1)))) ho (ku (gY hd _));have f:=gY hd (·.setIfInBounds 1 (hY (-1)));refine j8 e f (by simp) ?_;refine bx ?_;show d_ _ _ (sA (.type "StopIteration") []>>=_) _ _ _;refine bx ?_;simp only[sA,newTuple];refine bx (eJ ?_ (by size_fits));refine bx (m:=kA _ _) (hZ (a:=eP) (by first|rfl|(simp only[kA];rfl)) ?_);refine eJ ?_ (by size_fits);simp only[raiseNew];refine bx (rh ?_);first|rw[show A.in1.handled=b_ from g]|rw[g]
 refine bx (c_ (sL ?_));refine bx (kF (T:="StopIteration") (b:=ck) ⟨_,dZ _ rfl,rfl⟩ qf ?_);refine c_ (h _ (((Heap.ExtBut.trans (Heap.SameBut.update ..).extBut (Heap.SameBut.update ..).extBut).push _).push _))
theorem jm{it:dQ}{i:Int}(a:s.heap.dG it l i)(h:Q (.ref it) s):d_ (ef prog w) A (oD (.ref it)) Q E s:=by refine wpAny_pyIter_slot a.typeIs F.oF (fm F.oF a.typeIs F.ue ?_ (F.wV _));show d_ _ _ (ret (.ref it)) _ _ s;exact c_ ⟨_,rfl,"reversed",_,a.typeIs,F.gf.lookup,h⟩
end
theorem IsTup.at'{h h':Heap}{items:Array bV}(x:fw h l items)(e:∀o,h.get? l=aD o->h'.get? l=aD o):fw h' l items:=let⟨o,ho,r⟩:=x;⟨o,e _ ho,r⟩
theorem Walks.V3{prog:ek}{w:fg}{A:fb}(u:A.handled=b_)(I l:dQ)(p:l≠I)(items:Array bV)(g:(items.size:Int)<2^63):Walks prog w A I [I,l] [I] items.size (λi v=>items[items.size-1-i]?=aD v) (λi h=>i<=items.size/\h.dG I l ((items.size:Int)-1-(i:Int))/\fw h l items)where
 sub:=λb f=>by simp at f;simp[f]
 frame:=λ_ _ _ x r=>⟨x.1,x.2.1.at λo e=>r I (by simp) o e,IsTup.at' x.2.2 λo e=>r l (by simp) o e⟩;item:=λi s Q E hi x j=>by
  have e:(items.size:Int)-1-(i:Int)=((items.size-1-i:Nat):Int):=by lia
  have a:=x.2.1;rw[e]at a;have t:items[items.size-1-i]?=aD (items[items.size-1-i]'(by lia)):=j0 (by lia);refine jB a x.2.2 t g λh' y c m=>?_;have z:((items.size-1-i:Nat):Int)-1=(items.size:Int)-1-((i+1:Nat):Int):=by lia
  rw[z]at c;exact j _ h' y t ⟨hi,c,IsTup.at' x.2.2 λo n=>(m.2 l p).trans n⟩ λb o f n=>m.extBut b o (λh=>f (by simp[h])) n
 done:=λs Q E x j=>by
  have e:(items.size:Int)-1-(items.size:Int)=-1:=by lia
  have a:=x.2.1;rw[e]at a;exact kJ u a λh' q=>j h' s.toks λb o f n=>q b o (λh=>f (by simp[h])) n
 self:=λ_ _ _ _ x j=>jm x.2.1 j
section
variable{prog:ek}{w:fg}{A:fb}{E:bV->cp->Prop}{s:cp}
theorem GQ(i:Int)(t:Tok):asInt? (.int i t)=fI (aD i):=rfl
theorem Hh{it:dQ}{items:Array bV}(b:s.heap.dG it l ((items.size:Int)-1))(f:fw s.heap l items)(c:(items.size:Int)<2^63)(g:∀t e,s.toks<=e->Q (.int (items.size:Int) t) {s with toks:=e}):d_ (ef prog w) A (call (.builtin "reversed.__length_hint__") [.ref it]) Q E s:=by obtain⟨o,ho,hc,hd⟩:=id b;refine fm F.nY b.typeIs F.ud ?_ (F.vJ _);unfold gE.«reversed.__length_hint__»;refine bx (hZ (a:=eR it) rfl ?_);refine bx (fo ho hd (x:=.ref l) rfl ?_);show d_ _ _ (if(eR l==eP)=ck then _ else _) _ _ s;rw[if_neg (show ¬((eR l==eP)=ck)from eH)];show d_ _ _ (call (.builtin "len") [.ref l]>>=_) _ _ s;refine bx (nz f c ?_);refine bx (hZ (a:=aD (items.size:Int)) rfl ?_);show d_ _ _ (o3 (.ref it) 1>>=_) _ _ _;refine bx (fo ho hd (x:=hY ((items.size:Int)-1)) rfl ?_);show d_ _ _ (if(items.size:Int)<(items.size:Int)-1+1 then _ else _) _ _ _;rw[if_neg (by lia),show(items.size:Int)-1+1=(items.size:Int)by lia];show d_ _ _ (mkInt (items.size:Int)>>=_) _ _ _;exact bx (wpAny_mkInt (c_ ⟨_,rfl,g _ _ (by show s.toks<=s.toks+1+1+1;lia)⟩))
theorem vK{I:dQ}{items:Array bV}{Q:List bV->cp->Prop}(hh:A.handled=b_)(C:s.heap.dG I l ((items.size:Int)-1))(hl:fw s.heap l items)(Y:l≠I)(hsz:items.size<=sizeLine)(hQ:∀n G,Moved [I] (λa b=>b=a) s n->ItemsOf (λi v=>items[items.size-1-i]?=aD v) G items.size->Q G.toList n):d_ (ef prog w) A (collect (.ref I)) Q E s:=by
 have p:(items.size:Int)<2^63:=by
  have:sizeLine<=2^62:=by decide
  lia
 have W:=(Walks.V3 (prog:=prog) (w:=w) (A:=A.in1) hh I l Y items p).toS;have Z:(λ(i:Nat)(s:cp)=>i<=items.size/\s.heap.dG I l ((items.size:Int)-1-(i:Int))/\fw s.heap l items) 0 s:=⟨tY,by simpa using C,hl⟩;have ab:∀b∈[I,l],b<s.heap.objs.size:=λb hb=>by
  rcases eM.mp hb with rfl|hb;.obtain⟨o,ho,_⟩:=C;exact eA ho
  . have:b=l:=by simpa using hb
    subst this;exact hl.lt
 have q:s.heap.objs.size∉[I,l]:=λu=>kg _ (ab _ u);have ac:s.heap.objs.size≠I:=λe=>q (by simp[e]);have X:∀i(s:cp),(i<=items.size/\s.heap.dG I l ((items.size:Int)-1-(i:Int))/\fw s.heap l items)->s.TypeIs (.ref I) "reversed":=λi s h=>h.2.1.typeIs;unfold collect;refine bx (wpAny_runValue (me F.entry_proto_collect ?_));rw[kw F.plain_proto_collect _];show d_ _ A.in1 (newList []>>=λl=>again (.builtin "list.__iadd__" ⟨[l,.ref I],[]⟩)) _ _ s;refine bx (eJ ?_);refine c_ ⟨nr F.plain_list_iadd _,me F.entry_list_iadd ?_⟩;rw[kw F.plain_list_iadd _];have f:=W.frame 0 s (s.heap.push {cls:=.type "list",data:=.seq ([]:List bV).toArray}) s.toks Z (di) λb _ o e=>eO e;have g:(s.heap.push {cls:=.type "list",data:=.seq ([]:List bV).toArray}).get? s.heap.objs.size=aD {cls:=.type "list",data:=.seq ([]:List bV).toArray}:=dZ _ rfl;have h1:listSameRef (.ref s.heap.objs.size) (.ref I)=a_:=by simp[listSameRef,ac]
 show d_ _ A.in1 (qb (.ref s.heap.objs.size) (.ref I) (.ref s.heap.objs.size)) _ _ _;unfold qb;refine bx (l_ (X 0 _ f) ?_);rw[if_neg (by rw[h1];decide)];refine bx (jm f.2.1 ?_);refine bx (h_ ?_);unfold Builtin.List.listLengthHint;refine bx (kn (X 0 _ f) F.Ju ?_);show d_ _ A.in1 (specialOf (eR I) (gI "__length_hint__")>>=_) _ _ _;refine bx (kn (X 0 _ f) F.Ni ?_);generalize y:("reversed.__length_hint__":String)=H;(fail_if_success(clear y H));wp_delta;rw[show splitId H=aD ("reversed","__length_hint__")from by subst y;decide+kernel];subst y;refine bx (kF (b:=ck) (X 0 _ f) (by rw[iP];kernel_rfl) ?_);rw[if_neg (by decide)];dsimp only;split;.rename_i hq;exact absurd hq (by decide+kernel)
 refine bx (j9 ?_);refine bx (hZ (F.nY.bind _) ?_);dsimp only;refine bx (iE (Hh (by simpa using f.2.1) f.2.2 p λt tk J=>?_));show d_ _ _ (asInt? (.int (items.size:Int) t)>>=_) _ _ _;rw[GQ,pure_bind];generalize hN:(items.size:Int)=N;dsimp only;have b1:rS N=ck:=by simp[rS];lia
 have b2:¬ N<0:=by lia
 have b3:mx N.toNat=a_:=by simp[mx];lia
 rw[b1,if_neg (by simp),if_neg b2,b3,if_neg (by simp)];refine c_ ?_;have fin:∀(L:Heap)(c:Nat),L.get? s.heap.objs.size=aD {cls:=.type "list",dict:=b_,data:=.seq #[] c,slots:=#[]}->(∀b o,b≠s.heap.objs.size->(s.heap.push {cls:=.type "list",data:=.seq ([]:List bV).toArray}).get? b=aD o->L.get? b=aD o)->mT (ef prog w) A (.builtin "list.extend.loop" ⟨[.ref s.heap.objs.size,.ref I,.ref s.heap.objs.size],[]⟩)
   (λr n=>match r with|Except.ok (Flow.ret v)=>d_ (ef prog w) A (match v with
       |Value.ref a=>do let __do_lift<-load a match __do_lift.data with|Data.seq xs ae=>fI xs.toList|x=>oS "internal:collect"
       |x=>oS "internal:collect") Q E n|Except.ok a=>False|Except.error e=>E e n) {s with heap:=L,toks:=tk}:=λL c hS kp=>by have m:=W.frame 0 _ L tk f J λb hb o e=>kp b o (λz=>q (by rw[<-z];exact hb)) e;refine codeAny_extend_loopS W hsz _ q _ items.size 0 _ #[] c rfl (tY) m hS (ItemsOf.nil _) λn M c' u af O=>?_;show d_ _ A (load s.heap.objs.size>>=_) _ _ n;refine bx (wpAny_load af ?_);refine c_ (hQ n M ⟨λb o hb e=>?_,u.gens,u.drawn,u.os,kb J u.toks⟩ O);have U:b≠s.heap.objs.size:=eS (eA e);exact u.heap b o (by simp only[eM,not_or];exact⟨U,by simpa using hb⟩) (kp b o U (eO e))
 split;.refine bx (j9 ?_);refine bx ?_;unfold Builtin.List.listTouch;refine bx ?_;show d_ _ _ (updateSeq s.heap.objs.size (·.push eP)) _ _ _;have j:=iS (ip (·.push eP)) g rfl;refine wpAny_updateSeq g rfl ?_;show d_ _ _ (updateSeq s.heap.objs.size (·.pop)) _ _ _;have B:=iS (ip (·.pop)) j rfl;refine wpAny_updateSeq j rfl ?_ (by show 1<=sizeLine;decide) (by show 0<=sizeLine+1;lia);refine c_ ⟨nr F.plain_extend_loop _,fin _ _ B λb o hb e=>?_⟩;rw[jS _ _ (iF hb),jS _ _ (iF hb)];exact e
 .exact c_ ⟨nr F.plain_extend_loop _,fin _ _ g λb o _ e=>e⟩
end
theorem mO(I l:dQ)(items:Array bV)(n:l≠I)(hsz:items.size<=sizeLine):nB (gE.«tuple.__new__» ⟨[.type "tuple",.ref I],[]⟩) (λA R s=>A.handled=b_/\s.heap.dG I l ((items.size:Int)-1)/\fw s.heap l items/\∀m:cp,Moved [I] (λa b=>b=a) s m->∀c:Array bV,c=items.reverse->R (.ok (.ret (.ref m.heap.objs.size))) {m with heap:=m.heap.push {cls:=.type "tuple",data:=.seq c}}):=.of_wp λprog w A R s h=>by
  obtain⟨r,i,t,h⟩:=h;have q:=sub_tuple_self;have p:=init_tuple_lookup;have u:=madeHere_tuple;have x:Shared.TypeIs s (.ref I) "reversed":=i.typeIs;obtain⟨o,ho,hc,hd⟩:=id i;obtain⟨C,g,d,E,os⟩:=s;wp_walk using AutoSeq1.wpAny_loadPart' ho,l_ x,vK (A:=A.in1) r i t n hsz;intro m c y f;show d_ _ _ (kH c.toList.toArray>>=λv=>ret v) _ _ _;have e:c.toList.toArray=c:=by simp
  have z:c=items.reverse:=by refine Array.ext (by rw[f.1,Array.size_reverse]) λj h1 G=>?_;have:=f.2 j _ (j0 h1);rw[Array.getElem_reverse];have B:=on.mp this;exact B.2.symm
  rw[e];unfold kH;refine bx (eJ ?_ (by show c.size<=sizeLine;rw[f.1];exact hsz));exact c_ ⟨_,rfl,h m y c z⟩
section
variable{prog:ek}{w:fg}{A:fb}{E:bV->cp->Prop}{s:cp}
theorem tH{I:dQ}{items:Array bV}(i:A.handled=b_)(f:s.heap.dG I l ((items.size:Int)-1))(j:fw s.heap l items)(g:l≠I)(hsz:items.size<=sizeLine)(h:∀c:cp,Moved [I] (λa b=>b=a) s c->Q (.ref c.heap.objs.size) {c with heap:=c.heap.push {cls:=.type "tuple",data:=.seq items.reverse}}):d_ (ef prog w) A (call (.type "tuple") [.ref I]) Q E s:=kB F.called_tuple (by decide) (F.typeCall_tuple_1 _) (F.newCall_tuple_1 _) (λobj=>F.args_object_init_2 obj _) F.entry_tuple_new (mO I l items g hsz) ⟨i,f,j,λc m n e=>by subst e;exact⟨⟨_,dZ _ rfl,rfl⟩,h c m⟩⟩
end
end PySem
namespace _L
open PySem Spec PyProof.Rows
noncomputable def Be(K:PySem.W.Frag)(a:dQ)(N:Nat):It:=⟨λi H=>∃xs x,ir K H a xs/\xs.length=N/\xs.reverse[i]?=aD x,λi H x H'=>H'=H/\∀xs,ir K H a xs->xs.reverse[i]?=aD x,λi H=>∃xs,ir K H a xs/\xs.length=N/\N<=i⟩
theorem fits_of{n:Nat}(h:n<=sizeLine):(n:Int)<2^63:=by
 have:sizeLine<=2^62:=by decide
 lia
theorem Ht{P:ek}{w:fg}{K:PySem.W.Frag}{L:eB}(a it:dQ)(N:Nat):Turn P w K L (Be K a N) [it] it (λi h=>i<=N/\h.dG it a ((N:Int)-1-(i:Int)))where
 mem:=by simp
 obj:=λi h st b j=>by
  have e:b=it:=by simpa using j
  subst e;obtain⟨_,o,e,c,d⟩:=st;exact⟨o,e,λv z=>by rw[d]at z;cases z⟩
 keep:=λi h h' st k=>⟨st.1,st.2.at λo e=>k it (by simp) o e⟩;item:=by
  intro X q r t hc i g s σ H E I n st y;subst q r t;obtain⟨xs,x,A,G,m⟩:=y;obtain⟨M,J,p,O⟩:=I.tuple A;have hi:i<xs.length:=by simpa using(gC m).1
  have B:xs[N-1-i]?=aD x:=by rw[lP hi,G]at m;exact m
  obtain⟨u,Q,U⟩:=J.get B;obtain⟨f0,f1,f2,f3,f4,f5⟩:=n it (by simp);have f:=st.2;rw[show(N:Int)-1-(i:Int)=((N-1-i:Nat):Int)by lia]at f;refine jB f p (x:=u) (by simpa using Q) (fits_of (by rw[ec,<-J.length];exact O)) λh' C l Y=>?_;rw[show((N-1-i:Nat):Int)-1=(N:Int)-1-((i+1:Nat):Int)by lia]at l;have Z:Inv X g σ H {s with heap:=h',toks:=C}:=I.turned (t':=C) (λb o j e=>(Y.2 b j).trans e) f0 f1 f3 f4 f5;obtain⟨o,e,c,d⟩:=id l;exact⟨u,rfl,xP (s:={s with heap:=h',toks:=C}) e c d (by decide) ⟨x,H,Z,U,⟨rfl,λys hy=>by rw[I.jL hy A];exact m⟩,⟨by lia,l⟩,λb j=>(n b j).1⟩⟩
 done:=by intro X q r t hc i g s σ H E I n st y;subst q r t;obtain⟨xs,A,G,m⟩:=y;obtain⟨f0,f1,f2,f3,f4,f5⟩:=n it (by simp);have f:=st.2;rw[show(N:Int)-1-(i:Int)=-1 by have:=st.1;lia]at f;exact kJ (I.ok.hd hc) f λh' eb=>⟨rfl,I.turned (t':=s.toks) (λb o j e=>eb b o j e) f0 f1 f3 f4 f5⟩
 self:=λ_ _ _ _ _ st h=>jm st.2 h
section
variable{X:Cx}{tg:eB}
noncomputable def ae8(K:PySem.W.Frag)(c:TE):TI:=λσ H R=>c σ H λx b=>∃a xs,x=.ref a/\ir K b a xs/\R (Be K a xs.length) b
theorem yr:gc "tuple"=aD (.type "tuple"):=by decide+kernel
theorem lJ:gc "reversed"=aD (.type "reversed"):=by decide+kernel
theorem Vy{a:eB}{n:TE}{p pos:Pos}(t:Gl X "reversed")(v:X.mg "reversed"=b_)(w:PE X a n)(hs:ea [a] X.env=[(a_,fF a X.env)]:=by rfl):PI X tg (.Call (.Name "reversed" p) [a] [] pos) (ae8 X.K n):=by
 intro f s σ H R I h;refine tO (j6 I t v lJ (fx (dz ((eN w jr hs) pos f s σ H (λvs c=>match vs with|[x]=>∃a xs,x=.ref a/\ir X.K c a xs/\R (Be X.K a xs.length) c|_=>False) I h) ?_) hs rfl));rintro G s1⟨vs,c,i,r1,j⟩;obtain⟨ad,xs,y,q,l⟩:∃ad xs,ir X.K c ad xs/\R (Be X.K ad xs.length) c/\vs=[.ref ad]:=by cases vs with|nil=>cases j|cons x r=>cases r with|nil=>obtain⟨ad,xs,rfl,q,z⟩:=j;exact⟨ad,xs,q,z,rfl⟩|cons _ _=>cases j
 subst l;obtain⟨u,rfl,A⟩:=r1.one;cases A;obtain⟨m,B,pl,C⟩:=i.tuple y;have hsz:m.toArray.size=xs.length:=by rw[ec,<-B.length]
 refine iD pl (fits_of (by rw[hsz];exact C)) ?_;rw[hsz];have g:(s1.heap.push (mG ad ((xs.length:Int)-1))).dG s1.heap.objs.size ad ((xs.length:Int)-1):=⟨_,dZ _ rfl,rfl,rfl⟩;refine jm g ⟨_,[s1.heap.objs.size],_,_,c,rfl,i.kept (t':=s1.toks+1+1) (λb o e=>eO e),Ht ad s1.heap.objs.size xs.length,⟨tY,by simpa using g⟩,λb E=>?_,q⟩;have e:b=s1.heap.objs.size:=by simpa using E
 subst e;exact i.xg (di) (i.hok.fresh (di))
theorem Gg{a:eB}{E:TE}{p pos M j:Pos}(hc:X.calm=ck)(v:Gl X "tuple")(w:X.mg "tuple"=b_)(N:Gl X "reversed")(O:X.mg "reversed"=b_)(U:PE X a E)(hs:ea [a] X.env=[(a_,fF a X.env)]:=by rfl)(m:ea [.Call (.Name "reversed" p) [a] [] pos] X.env=[(a_,fF (.Call (.Name "reversed" p) [a] [] pos) X.env)]:=by rfl):PE X (.Call (.Name "tuple" M) [.Call (.Name "reversed" p) [a] [] pos] [] j) (λσ H Q=>E σ H λx f=>∃ad xs,x=.ref ad/\ir X.K f ad xs/\∀l,f l=b_->Q (.ref l) (upd f l (.tup xs.reverse))):=by
 intro g s σ H Q I h;refine tO (j6 I v w yr (fx ?_ m rfl));rw[m];show d_ _ _ (spliced ((a_,fF (.Call (.Name "reversed" p) [a] [] pos) X.env)::[])) _ _ _;refine kX (tO (j6 I N O lJ (fx (dz ((eN U jr hs) pos g s σ H (λvs f=>match vs with|[x]=>∃ad xs,x=.ref ad/\ir X.K f ad xs/\∀l,f l=b_->Q (.ref l) (upd f l (.tup xs.reverse))|_=>False) I h) ?_) hs rfl)));rintro us s1⟨vs,f,n,r1,y⟩;obtain⟨ad,xs,W,q,z⟩:∃ad xs,ir X.K f ad xs/\(∀l,f l=b_->Q (.ref l) (upd f l (.tup xs.reverse)))/\vs=[.ref ad]:=by cases vs with|nil=>cases y|cons x r=>cases r with|nil=>obtain⟨ad,xs,rfl,q,Y⟩:=y;exact⟨ad,xs,q,Y,rfl⟩|cons _ _=>cases y
 subst z;obtain⟨u,rfl,Z⟩:=r1.one;cases Z;obtain⟨c,G,pl,J⟩:=n.tuple W;have hsz:c.toArray.size=xs.length:=by rw[ec,<-G.length]
 have t:c.toArray.size<=sizeLine:=by rw[hsz];exact J
 refine iD pl (fits_of t) ?_;refine mN ?_;have A:(s1.heap.push (mG ad ((c.toArray.size:Int)-1))).dG s1.heap.objs.size ad ((c.toArray.size:Int)-1):=⟨_,dZ _ rfl,rfl,rfl⟩;have I2:Inv X g σ f {s1 with heap:=s1.heap.push (mG ad ((c.toArray.size:Int)-1)),toks:=s1.toks+1+1}:=n.kept (t':=s1.toks+1+1) (λb o e=>eO e);have B:ad≠s1.heap.objs.size:=eS pl.lt;have fp:=n.xg (b:=s1.heap.objs.size) (H':=f) (di) (n.hok.fresh (di));obtain⟨f0,f1,f2,f3,f4,f5⟩:=fp;refine tH (s:={s1 with heap:=s1.heap.push (mG ad ((c.toArray.size:Int)-1)),toks:=s1.toks+1+1}) (n.ok.hd hc) A (IsTup.at' pl λo e=>eO e) B t λs' i=>?_;obtain⟨h',g',d',t',C⟩:=s';have eg:g'=s1.gens:=i.gens;have ed:d'=s1.drawn:=i.drawn;have eo:C=s1.os:=i.os;subst eg ed eo;have L:Inv X g σ f ⟨h',s1.gens,s1.drawn,t',s1.os⟩:=I2.turned (t':=t') (λb o hb e=>i.heap b o (by simpa using hb) e) f0 f1 f3 f4 f5;have er:c.toArray.reverse=c.reverse.toArray:=by simp
 rw[er];refine⟨.ref h'.objs.size,_,L.laid (t':=t') (o:=.tup xs.reverse) (λb ob q=>eO q) (di) ?_,rfl,q _ (L.hok.fresh (di))⟩;exact⟨by rw[mB];exact J,_,G.reverse,IsTup.new _ _⟩
end
end _L
namespace _H
open PySem _L Spec PyProof.Rows
section
variable{K:PySem.W.Frag}{F F1 H H1:Hp}{ρ ρ1:List Sl}{σ:_L.St}{ds:List D}{a:dQ}
theorem aH.rev:∀{ds:List D}{xs:List V},aH K F xs ds->aH K F xs.reverse ds.reverse|[],_,h=>by rw[h.ie];exact .nil|d::ds,_,h=>by obtain⟨v,r,rfl,h1,b⟩:=h.cW;rw[kf,kf];exact(aH.rev b).append (.cons h1 .nil)
theorem PN{xs:List V}{c H':Hp}(f:ir K H' a xs)(r:aH K c xs ds)(s:aM c H')(k:Nat):(∀d,ds.reverse[k]?=aD d->(Be K a xs.length).go k H'/\∀x g,(Be K a xs.length).Ia k H' x g->∃b,Ext c H' b g/\Rep K b x d)/\(ds.reverse.length<=k->(Be K a xs.length).stop k H'):=by refine⟨λd hd=>?_,λh=>⟨xs,f,rfl,by rw[r.length];simpa using h⟩⟩;obtain⟨w,h1,i⟩:=r.rev.get hd;refine⟨⟨xs,w,f,rfl,h1⟩,?_⟩;rintro x g⟨e,y⟩;subst e;have:=y xs f;rw[h1]at this;cases this;exact⟨c,.refl s,i⟩
end
section
variable{X:Cx}{c:Call}{e a tg:eB}{pa:P}{pos:Pos}
theorem U0{x:Str}{p:Pos}(q:x="reversed")(t:Gl X x)(u:X.mg x=b_)(w:SX X c a pa)(hs:ea [a] X.env=[(a_,fF a X.env)]:=by rfl):SI X c tg (.Call (.Name x p) [a] [] pos) (.rev pa):=by subst q;refine mW (Vy t u w.ev hs) ?_;rintro σ H R⟨F,ρ,N,y,g,e,k⟩;obtain⟨r,z,o,b⟩:=aj e;have i:=aF b;clear b;obtain⟨b,A⟩:=i;subst A;rw[_H.E22]at o;obtain⟨r0,j,B,f⟩:=aj o;have i:=aF f;clear f;obtain⟨f,C⟩:=i;subst C;obtain⟨es,f1,f2⟩:=map_some f;subst f2;cases b;refine⟨F,ρ,r0,_,g,B,λv E H' s l=>?_⟩;obtain⟨O,s2,_,m⟩:=s.fG l;cases hd:r0.d with|tup G=>rw[hd]at f1 m;cases f1;rw[Rep]at m;obtain⟨ad,xs,rfl,h1,I⟩:=m;exact⟨ad,xs,rfl,aM.gO s2.gs.sub h1,k _ _ _ ⟨s2.gs,λn k E J L H' h=>PN (aM.gO h.gs.sub (aM.gO h.cI h1)) (I.mono h.cI) h.gs.sub k,λF3 j M Q s3=>⟨s2.trans s3,λv r l=>l.later s2⟩⟩⟩|_=>rw[hd]at f1;cases f1
theorem GD{x y:Str}{n z b:Pos}(A:y="tuple")(B:x="reversed")(hc:X.calm=ck)(o:Gl X y)(p:X.mg y=b_)(C:Gl X x)(E:X.mg x=b_)(G:SX X c a pa)(hs:ea [a] X.env=[(a_,fF a X.env)]:=by rfl)(q:ea [.Call (.Name x n) [a] [] pos] X.env=[(a_,fF (.Call (.Name x n) [a] [] pos) X.env)]:=by rfl):SX X c (.Call (.Name y z) [.Call (.Name x n) [a] [] pos] [] b) (.blt .tuple [.rev pa]):=by subst B A;refine⟨gG (Gg hc o p C E G.ev hs q) ?_,λi h=>by cases h⟩;rintro σ H Q⟨F,ρ,r,I,g,e,k⟩;rw[_H.ev]at e;obtain⟨x,J,L,f⟩:=aj e;have t:=aF f;clear f;obtain⟨f,j⟩:=t;subst j;obtain⟨r1,M,j,u⟩:=aj L;cases u;rw[_H.ev]at j;obtain⟨r0,N,u,m⟩:=aj j;have t:=aF m;clear m;obtain⟨m,O⟩:=t;subst O;obtain⟨es,f1,f2⟩:=map_some m;subst f2;refine⟨F,ρ,r0,_,g,u,λv F' H' s U=>?_⟩;obtain⟨F2,s2,_,w⟩:=s.fG U;cases hd:r0.d with|tup W=>rw[hd]at f1 w;cases f1;cases f;rw[Rep]at w;obtain⟨ad,xs,rfl,h1,Y⟩:=w;exact⟨ad,xs,rfl,aM.gO s2.gs.sub h1,λl Z=>Ext.Dj s2 Y.rev k l Z⟩|_=>rw[hd]at f1;cases f1
end
end _H
namespace _U
open PySem Spec PyProof.Rows
section
variable{prog:ek}{w:fg}{A:fb}{E:bV->cp->Prop}{s:cp}
theorem JV(xs:Array bV):((ej xs.size).filterMap λ(m:Nat)=>xs[((xs.size:Int)-1+(m:Int)*(-1)).toNat]?).toArray=xs.toList.reverse.toArray:=by
 have a:∀k,k<=xs.size->(ej k).filterMap (λ(m:Nat)=>xs[((xs.size:Int)-1+(m:Int)*(-1)).toNat]?)=xs.toList.reverse.take k:=by intro k;induction k with|zero=>intro _;rfl|succ k b=>
    intro h;have c:((xs.size:Int)-1+(k:Int)*(-1)).toNat=xs.size-1-k:=by lia
    have e:k<xs.toList.reverse.length:=by simp;lia
    rw[List.range_succ,List.filterMap_append,b (by lia),List.take_succ_eq_append_getElem e];congr 1;simp only[iX,List.filterMap_nil,c];rw[j0 (by lia)];simp
 rw[a _ (di),jI (by simp)]
end
end _U
namespace _H
open PySem _L Spec PyProof.Rows
theorem yF:∀{xs:List V}{a:List bV},Vals xs a->Vals xs.reverse a.reverse|_,_,.nil=>.nil|_,_,.cons r b=>by rw[kf,kf];exact(yF b).append (.cons r .nil)
theorem zx{K:PySem.W.Frag}{F:Hp}:∀{a:List D}{vs:List V},aH K F vs a->aH K F vs.reverse a.reverse|[],vs,h=>by rw[h.ie];exact .nil|d::a,vs,h=>by obtain⟨v,r,rfl,h1,b⟩:=h.cW;rw[kf,kf];exact(zx b).append (.cons h1 .nil)
section
variable{X:Cx}{c:Call}{e a:eB}{te:TE}{pa:P}{pos p1 p2 p3:Pos}
theorem GC{r:V->Hp->VK->Prop}{j}(hr:∀(f:List (dQ×Obj))(s:cp)(σ:_L.St)(H:Hp)(x:V)(v:bV)(t:Tok)(i:dQ)(Q:VK),Inv X f σ H s->RelV x v->s.heap.IsSliceOf i .none .none (.int (-1) t)->r x H Q->∃T id,kG (.type T) "__getitem__"=fI (aD (.builtin id))/\s.TypeIs v T/\d_ (ef X.prog X.w) X.A (lb v (.ref i)) (EP X f σ Q) X.xe s)(he:PE X e te):PE X (.Subscript e (.Slice b_ b_ (aD (.UnaryOp .USub (.Constant (.int 1) j p1) p2)) p3) pos) (tUn r te):=by intro f s σ H Q I h;refine qo (dz (he f s σ H _ I h) ?_);rintro v s1⟨x,l,m,r1,n⟩;refine wpAny_Slice ?_;rw[rV];refine c_ (c_ ?_);rw[evalPart_some];refine dz (QX Mm Im f s1 σ l (λy g=>y=.int (-1)/\g=l) m ⟨1,rfl,rfl,rfl⟩) ?_;rintro J s2⟨y,g,o,p,u,z⟩;subst u z;obtain⟨t,rfl⟩:=p;have B:Inv X f σ g {s2 with heap:=s2.heap.push {cls:=.type "slice",data:=.fields #[.none,.none,.int (-1) t]}}:=o.kept (t':=s2.toks) λb L q=>eO q;obtain⟨T,id,C,E,G⟩:=hr f {s2 with heap:=s2.heap.push {cls:=.type "slice",data:=.fields #[.none,.none,.int (-1) t]}} σ g x v t s2.heap.objs.size Q B r1 (Heap.IsSliceOf.new ..) n;show d_ (ef X.prog X.w) X.A (nm e (.Slice b_ b_ (aD (.UnaryOp .USub (.Constant (.int 1) j p1) p2)) p3) v (.ref s2.heap.objs.size)) (EP X f σ Q) X.xe {s2 with heap:=s2.heap.push {cls:=.type "slice",data:=.fields #[.none,.none,.int (-1) t]}};exact tail_any (ops:=[v,.ref s2.heap.objs.size]) E C G (by with_unfolding_all rfl)
end
end _H
namespace _H
open PySem
theorem oH:∀a b:List Int,bH a b=ck->bH b a=a_
 |[],[],h=>by simp[bH]at h|[],_::_,_=>by simp[bH]|_::_,[],h=>by simp[bH]at h|x::a,y::b,h=>by
   simp only[bH,li,decide_eq_true_eq,gi]at h;simp only[bH,l9,decide_eq_false_iff_not,lT];rcases h with h|⟨h,h'⟩;.exact⟨by lia,.inl (by lia)⟩
   .exact⟨by lia,.inr (oH a b h')⟩
theorem Az:∀a b c:List Int,bH b a=a_->bH c b=a_->bH c a=a_
 |[],_,c,_,_=>by cases c<;>simp[bH]|_::_,[],_,h,_=>by simp[bH]at h|_::_,_::_,[],_,h=>by simp[bH]at h|x::a,y::b,z::c,h1,f=>by
   simp only[bH,l9,decide_eq_false_iff_not,lT]at h1 f ⊢;refine⟨by lia,?_⟩;by_cases e:z=x;.right;exact Az a b c (h1.2.resolve_left (by lia)) (f.2.resolve_left (by lia))
   .exact .inl e
theorem zr:∀a b:List Int,bH a b=a_->bH b a=a_->a=b
 |[],[],_,_=>rfl|[],_::_,h,_=>by simp[bH]at h|_::_,[],_,h=>by simp[bH]at h|x::a,y::b,h1,c=>by
   simp only[bH,l9,decide_eq_false_iff_not,lT]at h1 c;have e:x=y:=by lia
   subst e;rw[zr a b (h1.2.resolve_left (by simp)) (c.2.resolve_left (by simp))]
theorem zE:∀{xs ys:List D},xs.all dX=ck->ys.all dX=ck->xs.map gB=ys.map gB->xs=ys
 |[],[],_,_,_=>rfl|[],_::_,_,_,h=>by simp at h|_::_,[],_,_,h=>by simp at h|x::xs,y::ys,h1,a,h=>by
   simp only[oe,gi]at h1 a;simp only[eK,List.cons.injEq]at h;obtain⟨i,rfl⟩:∃i,x=.int i:=by cases x<;>first|exact⟨_,rfl⟩|(have q:=h1.1;simp[dX]at q;done)
   obtain⟨j,rfl⟩:∃j,y=.int j:=by cases y<;>first|exact⟨_,rfl⟩|(have q:=a.1;simp[dX]at q;done)
   rw[zE h1.2 a.2 h.2,show i=j from h.1]
theorem Ez{x y:D}(h:(dX x=ck/\dX y=ck)\/(rW x=ck/\rW y=ck))(e:bT x=bT y):x=y:=by
 rcases h with⟨h1,a⟩|⟨h1,a⟩
 . cases x<;>first|(simp[dX]at h1;done)|skip
   cases y<;>first|(simp[dX]at a;done)|skip
   simpa[bT]using e
 . cases x<;>first|(simp[rW]at h1;done)|skip
   cases y<;>first|(simp[rW]at a;done)|skip
   rename_i xs ys;cases xs<;>first|(simp[rW]at h1;done)|skip
   cases ys<;>first|(simp[rW]at a;done)|skip
   rw[zE h1 a e]
noncomputable def lU(a b:D):Bool:=!bH (bT b) (bT a)
theorem jF(a:List D):(lu a).Perm a:=List.mergeSort_perm ..
theorem Ql(a b c:D)(h1:lU a b=ck)(e:lU b c=ck):lU a c=ck:=by simp only[lU,n7]at*;exact Az _ _ _ h1 e
theorem Ie(a b:D):(lU a b||lU b a)=ck:=by simp only[lU,li,n7];cases h:bH (bT b) (bT a)with|false=>exact .inl rfl|true=>exact .inr (oH _ _ h)
theorem jW(c:List D):(lu c).Pairwise λa b=>lU a b=ck:=List.pairwise_mergeSort Ql Ie c
theorem vG{a:List D}(h:sortable a=ck):∀x∈a,∀y∈a,bT x=bT y->x=y:=by
 simp only[sortable,gi,li,eL]at h;intro x b y c e;rcases h.2 with h|h;.exact Ez (.inl ⟨h x b,h y c⟩) e
 .exact Ez (.inr ⟨h x b,h y c⟩) e
theorem zc{c l:List D}(h:sortable c=ck)(p:l.Perm c)(s:l.Pairwise λa b=>lU a b=ck):l=lu c:=by refine List.Perm.eq_of_pairwise (le:=λa b=>lU a b=ck) (λa b f g h1 e=>?_) s (jW c) (p.trans (jF c).symm);simp only[lU,n7]at h1 e;exact vG h a (p.mem_iff.mp f) b ((jF c).mem_iff.mp g) (zr _ _ e h1)
end _H
namespace _H
open PySem PyProof.Rows
variable{xs:Array fT}{i j lo n:Nat}{st':gS}
noncomputable abbrev SM:=StateT gS Sem
structure Rk(M:o_)(A:fb)(E:bV->cp->Prop)(s:cp)(κ:i3)(ok:fT->Prop)(K:fT->Int):Prop where lt:∀{x y:fT}{Q:Option Bool->gS->Prop}{st:gS},ok x->ok y->kindOf st=κ->Q (aD (decide (K x<K y))) st->wpS M A E s (lt' x y) Q st
section
variable{M:o_}{A:fb}{E:bV->cp->Prop}{s:cp}{κ:i3}{ok:fT->Prop}{K:fT->Int}
noncomputable def it(xs:Array fT)(i:Nat):fT:=xs.getD i (eP,eP)
theorem Nb(h:i<xs.size):xs[i]?=aD (it xs i):=by unfold it;simp[mn,h]
theorem Mf(h:i<xs.size):it xs i∈xs.toList:=by
 have:it xs i=xs[i]:=by unfold it;simp[mn,h]
 rw[this];simp
theorem Dt{Q:fT->gS->Prop}{st:gS}(h:i<xs.size)(q:Q (it xs i) st):wpS M A E s (elem' xs i) Q st:=by rw[elem'_eq,Nb h];exact gz q
end
section
variable{M:o_}{A:fb}{E:bV->cp->Prop}{s:cp}{κ:i3}{ok:fT->Prop}{K:fT->Int}
theorem wp_rule{x:String}{Q:Unit->gS->Prop}{st:gS}(q:Q () st):wpS M A E s (liftM (rule x):SM Unit) Q st:=wpS_lift (j9 ⟨rfl,q⟩)
end
section
variable{K:fT->Int}
noncomputable def Seg(K:fT->Int)(xs:Array fT)(lo hi:Nat):Prop:=∀i j,lo<=i->i<=j->j<hi->K (it xs i)<=K (it xs j)
theorem Nr:it xs i=xs.toList.getD i (eP,eP):=by
 unfold it;by_cases h:i<xs.size;.simp[mn,h]
 .simp[mn,h]
end
section
variable{K:fT->Int}
theorem yZ:it xs i=(xs[i]?).getD (eP,eP):=by unfold it;by_cases h:i<xs.size<;>simp[mn,h]
theorem ni(a:j<=xs.size)(k:Nat):it (k6 xs i j ((j-i)/2)) k=if i<=k/\k<j then it xs (i+j-1-k)else it xs k:=by rw[yZ,getElem?_mirror_all a];split<;>rw[yZ]
theorem Ai{u d:Nat}(hs:u<xs.size)(hd:d<=u)(k:Nat):it (bubble xs u d) k=if k=u-d then it xs u else if u-d<k/\k<=u then it xs (k-1)else it xs k:=by
 rw[yZ,getElem?_bubble hs d hd];by_cases h1:k=u-d;.rw[if_pos h1,if_pos h1,yZ]
 .rw[if_neg h1,if_neg h1];split<;>rw[yZ]
structure qN(xs ys:Array fT)(lo:Nat):Prop where
 perm:ys.toList.Perm xs.toList
 pre:∀i,i<lo->it ys i=it xs i
theorem qN.refl(xs:Array fT)(lo:Nat):qN xs xs lo:=⟨.refl _,λ_ _=>rfl⟩
theorem qN.trans{xs ys c:Array fT}{lo:Nat}(a:qN xs ys lo)(b:qN ys c lo):qN xs c lo:=⟨b.perm.trans a.perm,λi h=>(b.pre i h).trans (a.pre i h)⟩
theorem qN.size{xs ys:Array fT}{lo:Nat}(h:qN xs ys lo):ys.size=xs.size:=by simpa using h.perm.length_eq
theorem mF(h:lo<=i)(a:j<=xs.size):qN xs (k6 xs i j ((j-i)/2)) lo:=⟨om.mp (mirror_perm ..),λk b=>by rw[ni a,if_neg (by lia)]⟩
theorem Qd{u d:Nat}(hs:u<xs.size)(hd:d<=u)(h:lo<=u-d):qN xs (bubble xs u d) lo:=⟨om.mp (bubble_perm ..),λk a=>by rw[Ai hs hd,if_neg (by lia),if_neg (by lia)]⟩
noncomputable def O3(K:fT->Int)(xs:Array fT)(lo hi:Nat):Prop:=∀i j,lo<=i->i<=j->j<hi->K (it xs j)<=K (it xs i)
end
section
variable{M:o_}{A:fb}{E:bV->cp->Prop}{s:cp}{κ:i3}{ok:fT->Prop}{K:fT->Int}
structure Sx(κ:i3)(ok:fT->Prop)(st:gS)(xs:Array fT)(st':gS):Prop where
 kind:kindOf st'=κ
 arr:tJ st'=xs
 pend:kL st'=kL st
 fail:tz st'=b_
 ok:∀x∈xs.toList,ok x
theorem Sx.set{st st':gS}{xs ys:Array fT}{lo:Nat}(h:Sx κ ok st xs st')(c:qN xs ys lo):Sx κ ok st ys (setArr st' ys):=⟨h.kind,rfl,h.pend,h.fail,λx a=>h.ok x (c.perm.mem_iff.mp a)⟩
theorem oM(R:Rk M A E s κ ok K){st:gS}{Q:Option Bool->gS->Prop}(h:Sx κ ok st xs st')(hi:i<xs.size)(a:j<xs.size)(q:Q (aD (decide (K (it xs i)<K (it xs j)))) st'):wpS M A E s (ltAt' i j) Q st':=by rw[ltAt'_eq];refine fk (pz ?_);show wpS M A E s (elem' (tJ st') i>>=λx=>elem' (tJ st') j>>=λy=>lt' x y) Q st';rw[h.arr];exact fk (Dt hi (fk (Dt a (R.lt (h.ok _ (Mf hi)) (h.ok _ (Mf a)) h.kind q))))
theorem tK{st:gS}{Q:Unit->gS->Prop}(h:Sx κ ok st xs st')(b:lo<=i)(c:j<=xs.size)(q:∀a,Sx κ ok st (k6 xs i j ((j-i)/2)) a->Q () a):wpS M A E s (reverseSlice' i j) Q st':=by rw[reverseSlice'_eq];refine p0 ?_;rw[h.arr];exact q _ (h.set (mF b c))
theorem Ci(R:Rk M A E s κ ok K){st:gS}{a:Nat}{Q:Option (Option Nat)×Nat->gS->Prop}(h:Sx κ ok st xs st')(u:lo+n<=xs.size)(v:1<=a)(l:a<=n)(hs:Seg K xs lo (lo+a))(q:∀m,a<=m->m<=n->Seg K xs lo (lo+m)->(m=n\/K (it xs (lo+m))<K (it xs (lo+m-1)))->Q (b_,m) st'):wpS M A E s (forIn [a:n] ((b_,a):Option (Option Nat)×Nat) λ_ c=>ltAt' (lo+c.2) (lo+c.2-1)>>=λo=>match o with|some b=>if b=ck then fI (.done (b_,c.2))else fI (.yield (b_,c.2+1))|_=>fI (.done (aD b_,c.2))) Q st':=by
 refine k9 (I:=λx c g=>g=st'/\c=(b_,x)/\Seg K xs lo (lo+x)) ?_ ?_ ⟨rfl,rfl,hs⟩
 . rintro x c g h1 w⟨rfl,rfl,f⟩;try dsimp only
   refine fk (oM R h (by lia) (by lia) ?_);by_cases c:K (it xs (lo+x))<K (it xs (lo+x-1))
   . rw[decide_eq_true c];try dsimp only
     rw[if_pos rfl];exact gz (q x h1 (by lia) f (.inr c))
   . rw[decide_eq_false c];try dsimp only
     rw[if_neg (by simp)];refine gz ⟨rfl,rfl,λi j p r y=>?_⟩;by_cases t:j<lo+x;.exact f i j p r t
     . have:j=lo+x:=by lia
       subst this;by_cases e:i=lo+x;.rw[e];exact gN _
       .have:=f i (lo+x-1) p (by lia) (by lia);lia
 .rintro c g⟨rfl,rfl,f⟩;rw[show max a n=n by lia]at f ⊢;exact q n l (di) f (.inl rfl)
theorem Ph(R:Rk M A E s κ ok K){st:gS}{a:Nat}{Q:Option (Option Nat)×Nat×Nat->gS->Prop}(h:Sx κ ok st xs st')(J:lo+n<=xs.size)(L:1<=a)(t:a<=n)(hs:O3 K xs lo (lo+a))(q:∀ys f m e,qN xs ys lo->Sx κ ok st ys f->a<=m->m<=n->O3 K ys lo (lo+m)->e+1<=m->(∀i,lo+m-(e+1)<=i->i<lo+m->K (it ys i)=K (it ys (lo+m-1)))->Q (b_,m,e) f):wpS M A E s (forIn [a:n] ((b_,a,0):Option (Option Nat)×Nat×Nat) λ_ c=>ltAt' (lo+c.2.1) (lo+c.2.1-1)>>=λo=>match o with
  |some b=>if b=ck then(if c.2.2>0 then reverseSlice' (lo+c.2.1-(c.2.2+1)) (lo+c.2.1)>>=λ_=>fI (.yield (b_,c.2.1+1,0))else fI (.yield (b_,c.2.1+1,0)))else ltAt' (lo+c.2.1-1) (lo+c.2.1)>>=λo=>match o with|some b=>if b=ck then fI (.done (b_,c.2.1,c.2.2))else fI (.yield (b_,c.2.1+1,c.2.2+1))|_=>fI (.done (aD b_,c.2.1,c.2.2))
  |_=>fI (.done (aD b_,c.2.1,c.2.2))) Q st':=by
 refine k9 (I:=λx c f=>∃ys e,c=(b_,x,e)/\qN xs ys lo/\Sx κ ok st ys f/\O3 K ys lo (lo+x)/\e+1<=x/\∀i,lo+x-(e+1)<=i->i<lo+x->K (it ys i)=K (it ys (lo+x-1))) ?_ ?_ ⟨xs,0,rfl,.refl _ _,h,hs,by lia,λi h1 u=>by rw[show i=lo+a-1 by lia]⟩
 . rintro x c f h1 u⟨ys,e,rfl,hc,g,hd,he,l⟩;have hsz:=hc.size;try dsimp only
   refine fk (oM R g (by lia) (by lia) ?_);by_cases c:K (it ys (lo+x))<K (it ys (lo+x-1))
   . rw[decide_eq_true c];try dsimp only
     rw[if_pos rfl];have more:∀v:Array fT,(∀i,K (it v i)=K (it ys i))->O3 K v lo (lo+(x+1)):=λv z i j p w B=>by
      rw[z,z];by_cases y:j<lo+x;.exact hd i j p w y
      . have:j=lo+x:=by lia
        subst this;by_cases e:i=lo+x;.rw[e];exact gN _
        .have:=hd i (lo+x-1) p (by lia) (by lia);lia
     by_cases c2:e>0
     . rw[if_pos c2];refine fk (tK (lo:=lo) g (by lia) (by lia) λC G=>gz ⟨_,0,rfl,hc.trans (mF (by lia) (by lia)),G,more _ λi=>?_,by lia,λi h1 u=>by rw[show i=lo+(x+1)-1 by lia]⟩);rw[ni (by lia)];split;.rw[l _ (by lia) (by lia),l i (by lia) (by lia)]
       .rfl
     .rw[if_neg c2];exact gz ⟨ys,0,rfl,hc,g,more ys λ_=>rfl,by lia,λi h1 u=>by rw[show i=lo+(x+1)-1 by lia]⟩
   . rw[decide_eq_false c];try dsimp only
     rw[if_neg (by simp)];refine fk (oM R g (by lia) (by lia) ?_);by_cases c2:K (it ys (lo+x-1))<K (it ys (lo+x))
     . rw[decide_eq_true c2];try dsimp only
       rw[if_pos rfl];exact gz (q ys f x e hc g h1 (by lia) hd he l)
     . rw[decide_eq_false c2];try dsimp only
       rw[if_neg (by simp)];have r:K (it ys (lo+x))=K (it ys (lo+x-1)):=by lia
       refine gz ⟨ys,e+1,rfl,hc,g,λi j p w B=>?_,by lia,λi p N=>?_⟩
       . by_cases y:j<lo+x;.exact hd i j p w y
         . have:j=lo+x:=by lia
           subst this;by_cases e:i=lo+x;.rw[e];exact gN _
           .rw[r];exact hd i (lo+x-1) p (by lia) (by lia)
       . rw[show lo+(x+1)-1=lo+x by lia];by_cases H:i=lo+x;.rw[H]
         .rw[r];exact l i (by lia) (by lia)
 .rintro c f⟨ys,e,rfl,hc,g,hd,he,l⟩;rw[show max a n=n by lia]at*;exact q ys f n e hc g t (di) hd he l
end
section
variable{M:o_}{A:fb}{E:bV->cp->Prop}{s:cp}{κ:i3}{ok:fT->Prop}{K:fT->Int}
theorem J8(a:lo+n<=xs.size)(h:O3 K xs lo (lo+n)):Seg K (k6 xs lo (lo+n) ((lo+n-lo)/2)) lo (lo+n):=λi j b c e=>by rw[ni a,ni a,if_pos (by lia),if_pos (by lia)];exact h _ _ (by lia) (by lia) (by lia)
theorem K4(R:Rk M A E s κ ok K){st:gS}{Q:Option Nat->gS->Prop}(h:Sx κ ok st xs st')(hn:lo+n<=xs.size)(h1:1<=n)(q:∀ys f m,qN xs ys lo->Sx κ ok st ys f->1<=m->m<=n->Seg K ys lo (lo+m)->Q (aD m) f):wpS M A E s (countRun' lo n) Q st':=by
 have one:∀ys:Array fT,Seg K ys lo (lo+1):=λys i j o y z=>by rw[show i=j by lia];exact gN _
 show wpS M A E s (_>>=_) Q st';refine fk (Ci (a:=1) (n:=n) R h hn (le_refl 1) h1 (one xs) λm m1 U sm B=>?_);dsimp only;by_cases c1:m=n;.rw[if_pos (by simpa using c1)];exact gz (q xs st' m (.refl _ _) h m1 U sm)
 rw[if_neg (by simpa using c1)];have C:=B.resolve_left c1;by_cases c2:m>1;rw[if_pos c2];refine fk (oM R h (by lia) (by lia) ?_);by_cases c3:K (it xs lo)<K (it xs (lo+m-1))
 . rw[decide_eq_true c3];try dsimp only
   rw[if_pos rfl];exact gz (q xs st' m (.refl _ _) h m1 U sm)
 rw[decide_eq_false c3];try dsimp only
 rw[if_neg (by simp)];have r:∀k,lo<=k->k<lo+m->K (it xs k)=K (it xs (lo+m-1)):=λk G W=>by have a1:=sm lo k (di) G W;have a2:=sm k (lo+m-1) G (by lia) (by lia);lia
 refine fk (tK (lo:=lo) h (di) (by lia) λf H=>?_);have hc:qN xs (k6 xs lo (lo+m) ((lo+m-lo)/2)) lo:=mF (di) (by lia);have hd:O3 K (k6 xs lo (lo+m) ((lo+m-lo)/2)) lo (lo+(m+1)):=λi j o y z=>by
  have e:∀k,lo<=k->k<lo+m->K (it (k6 xs lo (lo+m) ((lo+m-lo)/2)) k)=K (it xs (lo+m-1)):=λk G W=>by rw[ni (by lia),if_pos (by lia)];exact r _ (by lia) (by lia)
  by_cases hj:j<lo+m;.rw[e i o (by lia),e j (by lia) hj];exact gN _
  . have:j=lo+m:=by lia
    subst this;by_cases e':i=lo+m;.rw[e'];exact gN _
    .rw[e i o (by lia),ni (by lia),if_neg (by lia)];lia
 generalize k6 xs lo (lo+m) ((lo+m-lo)/2)=ys at H hc hd;rotate_left;rw[if_neg c2];have I:O3 K xs lo (lo+(m+1)):=λi j o y z=>by
  by_cases e:i=j;.rw[e];exact gN _
  . have e1:i=lo:=by lia
    have e2:j=lo+m:=by lia
    rw[e1,e2];rw[show lo+m-1=lo by lia]at C;lia
 obtain⟨ys,hc,H,hd⟩:∃ys,qN xs ys lo/\Sx κ ok st ys st'/\O3 K ys lo (lo+(m+1)):=⟨xs,.refl _ _,h,I⟩;all_goals
  have hsz:=hc.size;refine fk (wp_rule ?_);refine fk (Ph (a:=m+1) R H (by lia) (by lia) (by lia) hd λg ab p e c t p1 X v he Y=>?_);have Z:=c.size;dsimp only;by_cases ce:e>0
  . rw[if_pos ce];refine fk (tK (lo:=lo) t (by lia) (by lia) λac h4=>?_);have l:qN xs (k6 g (lo+p-(e+1)) (lo+p) ((lo+p-(lo+p-(e+1)))/2)) lo:=hc.trans (c.trans (mF (by lia) (by lia)));have w:O3 K (k6 g (lo+p-(e+1)) (lo+p) ((lo+p-(lo+p-(e+1)))/2)) lo (lo+p):=λi j o y z=>by
     have ez:∀k,K (it (k6 g (lo+p-(e+1)) (lo+p) ((lo+p-(lo+p-(e+1)))/2)) k)=K (it g k):=λk=>by
      rw[ni (by lia)];split;.rw[Y _ (by lia) (by lia),Y k (by lia) (by lia)]
      .rfl
     rw[ez,ez];exact v i j o y z
    generalize k6 g (lo+p-(e+1)) (lo+p) ((lo+p-(lo+p-(e+1)))/2)=us at h4 l w;have J:=l.size;have b:qN us (k6 us lo (lo+p) ((lo+p-lo)/2)) lo:=mF (di) (by lia);refine fk (tK (lo:=lo) h4 (di) (by lia) λL x=>?_);refine fk (Ci R x (by rw[b.size];lia) (by lia) X (J8 (by lia) w) λu u1 N O _=>?_);exact gz (q _ L u (l.trans b) x (by lia) N O)
  .rw[if_neg ce];have J:=(hc.trans c).size;have b:qN g (k6 g lo (lo+p) ((lo+p-lo)/2)) lo:=mF (di) (by lia);refine fk (tK (lo:=lo) t (di) (by lia) λL x=>?_);refine fk (Ci R x (by rw[b.size];lia) (by lia) X (J8 (by lia) v) λu u1 N O _=>?_);exact gz (q _ L u ((hc.trans c).trans b) x (by lia) N O)
theorem Tj(R:Rk M A E s κ ok K){st:gS}{o:Nat}{Q:Bool->gS->Prop}(h:Sx κ ok st xs st')(L:lo+n<=xs.size)(ho:o<=n)(hs:Seg K xs lo (lo+o))(q:∀ys f,qN xs ys lo->Sx κ ok st ys f->Seg K ys lo (lo+n)->Q ck f):wpS M A E s (binarySort' lo n o) Q st':=by
 show wpS M A E s (_>>=_) Q st';refine fk (sK (k9 (I:=λk c f=>∃ys,c=(b_,())/\qN xs ys lo/\Sx κ ok st ys f/\Seg K ys lo (lo+min k n)) (Q:=λc f=>∃ys,c=(b_,())/\qN xs ys lo/\Sx κ ok st ys f/\Seg K ys lo (lo+n)) ?_ ?_ ?_) ?_)
 . rintro k c f N O⟨ys,rfl,hc,p,m⟩;rw[show min k n=k by lia]at m;have hsz:=hc.size;refine fk (sK (k9 (I:=λx c g=>g=f/\∃l r,c=(b_,l,r)/\l<=r/\r<=k/\r-l<=k-x/\(∀i,lo<=i->i<lo+l->K (it ys i)<=K (it ys (lo+k)))/\∀i,lo+r<=i->i<lo+k->K (it ys (lo+k))<K (it ys i)) (Q:=λc g=>g=f/\∃l r,c=(b_,l,r)/\l<=k/\(∀i,lo<=i->i<lo+l->K (it ys i)<=K (it ys (lo+k)))/\∀i,lo+l<=i->i<lo+k->K (it ys (lo+k))<K (it ys i)) ?_ ?_ ⟨rfl,0,k,rfl,by lia,by lia,by lia,λi a b=>by lia,λi a b=>by lia⟩) ?_)
   . rintro x c g _ U⟨rfl,l,r,rfl,H,w,J,t,u⟩;dsimp only;by_cases e:l ≥ r
     . rw[if_pos e];have:l=r:=by lia
       subst this;exact gz ⟨rfl,l,l,rfl,w,t,u⟩
     . rw[if_neg e];refine fk (oM R p (by lia) (by lia) ?_);by_cases c:K (it ys (lo+k))<K (it ys (lo+(l+r)/2));.rw[decide_eq_true c];dsimp only;rw[if_pos rfl];exact gz ⟨rfl,_,_,rfl,by lia,by lia,by lia,t,λi v z=>Int.lt_of_lt_of_le c (m _ _ (by lia) v z)⟩
       .rw[decide_eq_false c];dsimp only;rw[if_neg (by simp)];exact gz ⟨rfl,_,_,rfl,by lia,w,by lia,λi v z=>qS (m i (lo+(l+r)/2) v (by lia) (by lia)) (Int.not_lt.mp c),u⟩
   . rintro c g⟨rfl,l,r,rfl,H,w,J,t,u⟩;have:l=r:=by lia
     subst this;exact⟨rfl,l,l,rfl,w,t,u⟩
   . rintro c g⟨rfl,l,r,rfl,w,t,u⟩;show wpS M A E s (moveDown' (lo+k) (lo+l)>>=λ_=>fI (iL (b_,()))) _ _;rw[moveDown'_eq];refine fk (p0 (gz ?_));rw[p.arr];have B:qN ys (bubble ys (lo+k) (lo+k-(lo+l))) lo:=Qd (by lia) (by lia) (by lia);refine⟨_,rfl,hc.trans B,p.set B,λi j v C G=>?_⟩;rw[show min (k+1) n=k+1 by lia]at G;rw[Ai (by lia) (by lia),Ai (by lia) (by lia),show lo+k-(lo+k-(lo+l))=lo+l by lia];repeat' split
     all_goals first|(exfalso;lia)|exact gN _|exact t _ (by lia) (by lia)|exact Int.le_of_lt (u _ (by lia) (by lia))|exact m _ _ (by lia) (by lia) (by lia)
 .rintro c f⟨ys,y,hc,p,m⟩;rw[show min (max (max o 1) n) n=n by lia]at m;exact⟨ys,y,hc,p,m⟩
 . refine⟨xs,rfl,.refl _ _,h,λi j v C G=>?_⟩;by_cases e:i=j;.rw[e];exact gN _
   .exact hs i j v C (by lia)
 .rintro c f⟨ys,rfl,hc,p,m⟩;exact gz (q ys f hc p m)
end
noncomputable abbrev Rn:=Nat×Nat×Nat
section
variable{K:fT->Int}{xs ys:Array fT}
noncomputable def YH(K:fT->Int)(xs:Array fT):Nat->List Rn->Nat->Prop|a,[],b=>a=b|a,r::l,b=>r.1=a/\1<=r.2.1/\Seg K xs a (a+r.2.1)/\YH K xs (a+r.2.1) l b
theorem v5:∀{l k:List Rn}{a b:Nat},YH K xs a (l++k) b↔∃m,YH K xs a l m/\YH K xs m k b
 |[],k,a,b=>⟨λh=>⟨a,rfl,h⟩,λ⟨m,h1,c⟩=>by cases(show a=m from h1);exact c⟩|r::l,k,a,b=>by
   rw[nI];constructor;.rintro⟨h1,c,e,f⟩;obtain⟨m,g,o⟩:=v5.mp f;exact⟨m,⟨h1,c,e,g⟩,o⟩
   .rintro⟨m,⟨h1,c,e,f⟩,g⟩;exact⟨h1,c,e,v5.mpr ⟨m,f,g⟩⟩
end
section
variable{M:o_}{A:fb}{E:bV->cp->Prop}{s:cp}{κ:i3}{ok:fT->Prop}{K:fT->Int}
structure SR(κ:i3)(ok:fT->Prop)(K:fT->Int)(x0 ys:Array fT)(l:List Rn)(lo:Nat)(st:gS):Prop where
 kind:kindOf st=κ
 arr:tJ st=ys
 fail:tz st=b_
 pend:(kL st).toList=l
 perm:ys.toList.Perm x0.toList
 ok:∀x∈ys.toList,ok x
 rns:YH K ys 0 l lo
 le:lo<=ys.size
theorem SR.sx{x0 ys:Array fT}{l:List Rn}{lo:Nat}{st:gS}(h:SR κ ok K x0 ys l lo st):Sx κ ok st ys st:=⟨h.kind,h.arr,rfl,h.fail,h.ok⟩
end
end _H
namespace _H
open PySem W PyProof.Rows Calls _L Spec
theorem Gb{i o:Type}{f:i->o}{p m:List o}(h:p.Perm m):∀{l:List i},m=l.map f->∃k:List i,k.Perm l/\k.map f=p:=by induction h with
 |nil=>intro l e;cases l with|nil=>exact⟨[],.refl _,rfl⟩|cons _ _=>cases e
 |cons x h r=>intro l e;cases l with|nil=>cases e|cons a l=>obtain⟨c,g⟩:=lS e;obtain⟨k,h1,q⟩:=r g;exact⟨a::k,h1.cons a,by rw[eK,q,c]⟩
 |swap x y z=>intro l e;match l,e with|a::b::l,e=>obtain⟨c,g⟩:=lS e;obtain⟨s,t⟩:=lS g;exact⟨b::a::l,.swap ..,by rw[eK,eK,c,s,t]⟩
 |trans h1 q j n=>intro l e;obtain⟨k,u,c⟩:=n e;obtain⟨v,w,g⟩:=j c.symm;exact⟨v,w.trans u,g⟩
theorem Ow(a:List Int):bH a a=a_:=by cases h:bH a a with|false=>rfl|true=>rw[oH _ _ h]at h;cases h
theorem JG{a b x:List Int}(h:bH b a=a_)(c:bH x a=ck):bH x b=ck:=by cases e:bH x b with|true=>rfl|false=>rw[Az _ _ _ h e]at c;cases c
theorem vg{a:Type}{p q:a->Bool}(h:∀x,p x=ck->q x=ck):∀{l:List a},(∃x,x∈l/\q x=ck/\p x=a_)->l.countP p<l.countP q
 |[],⟨x,hx,_⟩=>by cases hx|y::l,⟨x,hx,h1,b⟩=>by
   rw[List.countP_cons,List.countP_cons];have m:=qF (l:=l) (p:=p) (q:=q) λx _=>h x;rcases eM.mp hx with rfl|hx;.rw[h1,b,if_pos rfl,if_neg (by simp)];lia
   .have:=vg h ⟨x,hx,h1,b⟩;cases hp:p y with|true=>rw[h y hp];lia|false=>rw[if_neg (by simp)];lia
noncomputable def Us(a:List D)(d:D):Nat:=a.countP λe=>bH (bT e) (bT d)
theorem JD{a:List D}{d e:D}(hd:d∈a):decide ((Us a d:Int)<Us a e)=bH (bT d) (bT e):=by cases h:bH (bT d) (bT e)with|true=>have:=vg (l:=a) (p:=λx=>bH (bT x) (bT d)) (q:=λx=>bH (bT x) (bT e)) (λx b=>JG (oH _ _ h) b) ⟨d,hd,h,Ow _⟩;rw[decide_eq_true_iff];unfold Us;lia|false=>have:=qF (l:=a) (p:=λx=>bH (bT x) (bT e)) (q:=λx=>bH (bT x) (bT d)) λx _ b=>JG h b;rw[decide_eq_false_iff_not];unfold Us;lia
open Classical in
noncomputable def rkK(P:bV->D->Prop)(a:List D)(x:fT):Int:=if h:∃d,d∈a/\P x.1 d then(Us a h.choose:Int)else 0
theorem Er{P:bV->D->Prop}{a:List D}{x:fT}{d:D}(fn:∀u d e,P u d->P u e->bT d=bT e)(hd:d∈a)(b:P x.1 d):rkK P a x=Us a d:=by have h:∃d,d∈a/\P x.1 d:=⟨d,hd,b⟩;unfold rkK;rw[dif_pos h];unfold Us;rw[fn _ _ _ h.choose_spec.2 b]
noncomputable def pick{a:Type}(d:a)(p:List Nat)(l:List a):List a:=p.map λi=>l.getD i d
theorem rA{a:Type}(d:a)(l:List a):pick d (ej l.length) l=l:=by refine kc (by simp[pick]) λi h1 b=>?_;simp[pick,b]
theorem oX{a:Type}{d:a}{p:List Nat}{l:List a}{n:Nat}(h:p.Perm (ej n)):(pick d p l).length=n:=by rw[pick,en,h.length_eq,i6]
theorem mq{P:bV->D->Prop}:∀{b:List bV}{a:List D},Paired P b a->∀i,i<b.length->P (b.getD i .none) (a.getD i .non)/\a.getD i .non∈a|_,_,.cons r _,0,_=>⟨by simpa using r,by simp⟩|_,_,.cons _ t,i+1,hi=>by have:=mq t i (by simpa using hi);exact⟨by simpa using this.1,by simpa using eu this.2⟩
end _H
namespace _H
open PySem PyProof.Rows
section
variable{M:o_}{A:fb}{E:bV->cp->Prop}{s:cp}{κ:i3}{ok:fT->Prop}{K:fT->Int}
theorem SR.ZX{x0 ys:Array fT}{l:List Rn}{lo n:Nat}{st:gS}(h:SR κ ok K x0 ys l lo st)(h1:1<=n)(a:lo+n<=ys.size)(hs:Seg K ys lo (lo+n)):SR κ ok K x0 ys (l++[(lo,n,0)]) (lo+n) (setPending st ((kL st).push (lo,n,0))):=⟨h.kind,h.arr,h.fail,by show((kL st).push (lo,n,0)).toList=_;rw[Array.toList_push,h.pend],h.perm,h.ok,v5.mpr ⟨lo,h.rns,rfl,h1,hs,rfl⟩,a⟩
end
end _H
namespace _H
open PySem W PyProof.Rows Calls _L Spec
section
variable{M:o_}{A:fb}{E:bV->cp->Prop}{s:cp}{κ:i3}{ok:fT->Prop}{K:fT->Int}
theorem SR.Rp{x0 ys b:Array fT}{st a:gS}(h:SR κ ok K x0 ys [] 0 st)(c:qN ys b 0)(x:Sx κ ok st b a):SR κ ok K x0 b [] 0 a:=⟨x.kind,x.arr,x.fail,by rw[x.pend];exact h.pend,c.perm.trans h.perm,x.ok,rfl,tY⟩
theorem Lh(R:Rk M A E s κ ok K){x0:Array fT}{Q:Unit->gS->Prop}{st:gS}(h:SR κ ok K x0 x0 [] 0 st)(U:x0.size<64)(h1:1<=x0.size)(q:∀ys a,tJ a=ys->tz a=b_->ys.toList.Perm x0.toList->Seg K ys 0 ys.size->Q () a):wpS M A E s sortRuns' Q st:=by
 rw[sortRuns'_eq];refine fk (pz ?_);dsimp only;simp only[h.arr];have y:minRun' x0.size x0.size 0=x0.size:=by obtain⟨f,z⟩:∃f,x0.size=f+1:=⟨x0.size-1,by lia⟩;rw[z,minRun'_succ,if_pos (by lia),Nat.add_zero]
 rw[y];refine fk (sK (k9 (I:=λx c a=>(c=(b_,0)/\SR κ ok K x0 x0 [] 0 a/\x=0)\/∃ys,c=(b_,x0.size)/\SR κ ok K x0 ys [(0,x0.size,0)] x0.size a) (Q:=λc a=>∃ys,c=(b_,x0.size)/\SR κ ok K x0 ys [(0,x0.size,0)] x0.size a) ?_ ?_ (.inl ⟨rfl,h,rfl⟩)) ?_)
 . rintro x c r _ H(⟨rfl,l,rfl⟩|⟨ys,rfl,l⟩)
   . dsimp only;rw[if_neg (by lia)];refine fk (K4 R l.sx (lo:=0) (n:=x0.size-0) (by lia) (by lia) λv i m ch t m1 W w=>?_);have u:=l.Rp ch t;have J:v.size=x0.size:=ch.size;dsimp only;have fin:∀(j:Array fT)(b:gS)(n:Nat),SR κ ok K x0 j [] 0 b->Seg K j 0 (0+n)->n=x0.size->SR κ ok K x0 j [(0,x0.size,0)] x0.size (setPending b ((kL b).push (0,n,0))):=λj b n g p e=>by
      have L:j.size=x0.size:=by have:=g.perm.length_eq;simpa using this
      have:=g.ZX (n:=n) (by lia) (by lia) p;subst e;simpa using this
     have G:∀(j:Array fT)(b:gS),SR κ ok K x0 j [] 0 b->(kL b).back?=b_:=λj b g=>by have:kL b=#[]:=nk.mp g.pend;rw[this];rfl
     by_cases c2:m<x0.size;.rw[if_pos c2];refine fk (wpS_lift (j9 ⟨rfl,?_⟩));refine fk (Tj R t (lo:=0) (n:=min (x0.size-0) x0.size) (by lia) (by lia) w λj b B C p=>?_);simp only[Bool.not_true,ii,if_false];have g:=l.Rp (ch.trans B) C;refine fk (pz ?_);rw[G j b g];dsimp only;refine fk (p0 (gz (.inr ⟨j,by simp,fin j b _ g p (by lia)⟩)))
     .rw[if_neg c2];refine fk (pz ?_);rw[G v i u];dsimp only;refine fk (p0 (gz (.inr ⟨v,by simp;lia,fin v i m u w (by lia)⟩)))
   .dsimp only;rw[if_pos (di)];exact gz ⟨ys,rfl,l⟩
 . rintro c r(⟨rfl,l,e⟩|⟨ys,rfl,l⟩);.lia
   .exact⟨ys,rfl,l⟩
 . rintro c r⟨ys,rfl,l⟩;dsimp only;refine fk (sK (k9 (I:=λx c a=>c=(b_,())/\SR κ ok K x0 ys [(0,x0.size,0)] x0.size a) (Q:=λc a=>c=(b_,())/\SR κ ok K x0 ys [(0,x0.size,0)] x0.size a) ?_ (λ_ _ h=>h) ⟨rfl,l⟩) ?_)
   . rintro x c i _ H⟨rfl,o⟩;refine fk (pz ?_);try dsimp only
     have N:(kL i).size<=1:=by rw[<-jv,o.pend];simp
     rw[if_pos N];exact gz ⟨rfl,o⟩
   . rintro c i⟨rfl,o⟩;dsimp only;have O:ys.size=x0.size:=by have:=o.perm.length_eq;simpa using this
     refine gz (q ys i o.arr o.fail o.perm ?_);rw[O];have:=o.rns;obtain⟨_,_,w,_⟩:=this;simpa using w
end
section
variable{prog:ek}{w:fg}{A:fb}{E:bV->cp->Prop}{s:cp}{vs:List bV}{κ:i3}{P:bV->D->Prop}{ds:List D}
theorem yN{a:dQ}{n:Nat}{O:PySem.Fin->cp->Prop}(ho:s.heap.get? a=aD (mv "list" vs.toArray n))(so:sortable ds=ck)(hz:vs.length<64)(L:Paired P vs ds)(fn:∀u d e,P u d->P u e->bT d=bT e)(r:∀h',(∀b o,b≠a->s.heap.get? b=aD o->h'.get? b=aD o)->∀C:i3->cp->Prop,C κ {s with heap:=h'}->2<=vs.length->d_ (ef prog w) A (keyKind' vs.toArray) C (λ_ _=>False) {s with heap:=h'})(hl:∀h',(∀b o,b≠a->s.heap.get? b=aD o->h'.get? b=aD o)->∀u v d e,P u d->P v e->∀C:Bool->cp->Prop,C (bH (bT d) (bT e)) {s with heap:=h'}->d_ (ef prog w) A (keyLt' κ u v) C (λ_ _=>False) {s with heap:=h'})(h:∀h' c p,(∀b o,b≠a->s.heap.get? b=aD o->h'.get? b=aD o)->p.Perm (ej vs.length)->pick .non p ds=lu ds->h'.get? a=aD (mv "list" (pick .none p vs).toArray c)->O (.done (.ret .none)) {s with heap:=h'}):d_ (ef prog w) A (gE.«list.sort» ⟨[.ref a],[]⟩) O E s:=by
 have ha:a<s.heap.objs.size:=eA ho;have B:vs.length=ds.length:=Paired.length L;obtain⟨t,G⟩:∃t,(s.heap.update a (ip λ_=>(#[]:Array bV))).get? a=aD (mv "list" #[] t):=⟨_,get?_update_seq ho λ_=>#[]⟩;rw[list_sort_plain];refine bx (listItems_at ho rfl ?_);refine bx (rL ho rfl ?_ (by rw[ec,gX];lia) (tY));refine bx (tf G rfl ?_);refine bx (wpAny_newTuple ?_ (by show vs.length<=_;rw[gX];lia));refine bx (rg ?_ (tY));refine h_ ?_;generalize hH:(((s.heap.update a (ip λ_=>(#[]:Array bV))).push {cls:=.type "tuple",data:=.seq vs.toArray}).push {cls:=.type "list",data:=.seq #[]}:Heap)=l;have g:l.get? a=aD (mv "list" #[] t):=by rw[<-hH];exact eO (eO G)
 have keep:∀b o,b≠a->s.heap.get? b=aD o->l.get? b=aD o:=λb o M e=>by rw[<-hH];exact eO (eO ((jS _ _ (iF M)).trans e))
 have fin:∀p:List Nat,p.Perm (ej vs.length)->pick .non p ds=lu ds->O (.done (.ret .none)) {s with heap:=l.update a (ip λ_=>sn (pick .none p vs))}:=by intro p h1 f;obtain⟨c2,U⟩:∃c2,(l.update a (ip λ_=>sn (pick eP p vs))).get? a=aD (mv "list" (pick eP p vs).toArray c2):=⟨_,get?_update_seq g λ_=>sn (pick eP p vs)⟩;exact h _ c2 p (λb o M e=>(jS _ _ (iF M)).trans (keep b o M e)) h1 f U
 show d_ (ef prog w) A _ O E {s with heap:=l};dsimp only;by_cases f:vs.toArray.size<2
 . rw[if_pos f,if_pos f];refine bx (c_ ?_);rw[StateT.run_pure];refine bx (c_ ?_);dsimp only;have eo:(tJ (SortSt.mk' general' (vs.toArray.zip vs.toArray) #[] 7 b_)).map (·.2)=sn (pick eP (ej vs.length) vs):=by rw[rA];apply nk.mp;show((vs.toArray.zip vs.toArray).map (·.2)).toList=vs;simp[List.map_snd_zip]
   rw[eo];refine bx (tf g rfl ?_);refine bx (rL g rfl ?_ (tY) (by rw[ec,oX (.refl _),gX];lia));simp only[bne_self_eq_false,ii,if_false];refine c_ (fin _ (.refl _) ?_);rw[B,rA];refine zc so (.refl _) ?_;match ds,(show ds.length<2 by simp at f;lia)with|[],_=>exact .nil|[_],_=>exact List.pairwise_singleton ..|_::_::_,f=>simp at f;lia
 . rw[if_neg f,if_neg f];have W:2<=vs.length:=by simpa using f
   refine bx (r l keep _ ?_ W|>λq=>fy q (λ_ _ x=>x) λ_ _ x=>x.elim);have H:(vs.toArray.zip vs.toArray).toList=(ej vs.length).map λi=>(vs.getD i eP,vs.getD i eP):=by
    refine kc (by simp) λi h1 f=>?_;have:i<vs.length:=by simpa using f
    simp[this]
   have X:∀x∈(vs.toArray.zip vs.toArray).toList,∃d,d∈ds/\P x.1 d:=λx hx=>by rw[H]at hx;obtain⟨i,hi,rfl⟩:=ey.mp hx;have:=mq L i (kr.mp hi);exact⟨_,this.2,this.1⟩
   have R:Rk (ef prog w) A E {s with heap:=l} κ (λx=>∃d,d∈ds/\P x.1 d) (rkK P ds):=⟨by rintro x y Q st⟨d,d1,d2⟩⟨e,t,N⟩Y hq;rw[Er fn d1 d2,Er fn t N,JD d1]at hq;rw[lt'_eq];refine fk (pz ?_);rw[Y];refine fk (wpS_lift (iE (fy (hl l keep x.1 y.1 d e d2 N (λb Z=>Z={s with heap:=l}/\b=bH (bT d) (bT e)) ⟨rfl,rfl⟩) ?_ λ_ _ h=>h.elim)));rintro b Z⟨rfl,rfl⟩;exact⟨rfl,gz hq⟩⟩;have run:=Lh R (x0:=vs.toArray.zip vs.toArray) (st:=SortSt.mk' κ (vs.toArray.zip vs.toArray) #[] 7 b_) (Q:=λ_ m=>∃p:List Nat,p.Perm (ej vs.length)/\pick .non p ds=lu ds/\(tJ m).map (·.2)=(pick eP p vs).toArray/\tz m=b_) ⟨rfl,rfl,rfl,rfl,.refl _,X,rfl,tY⟩ (by simp;lia) (by simp;lia) λys m t N e3 e4=>by
     rw[H]at e3;obtain⟨p,z,I⟩:=Gb e3 rfl;have hpl:p.length=vs.length:=by rw[z.length_eq,i6]
     have ab:ys.size=vs.length:=by rw[<-jv,<-I,en,hpl]
     refine⟨p,z,zc so ?_ ?_,?_,N⟩;.have:=z.map λi=>ds.getD i .non;rw[B]at this;exact this.trans (.of_eq (rA D.non ds))
     . rw[List.pairwise_iff_getElem];intro i j hi hj ac;simp only[pick,en]at hi hj;have sg:=e4 i j (tY) (by lia) (by lia);have at':∀k(r:k<p.length),it ys k=(vs.getD p[k] .none,vs.getD p[k] .none):=λk r=>by rw[Nr,<-I];simp[r]
       have inn:∀k(r:k<p.length),p[k]<vs.length:=λk r=>kr.mp (z.mem_iff.mp (ic r));rw[at' i hi,at' j hj]at sg;have a1:=mq L p[i] (inn i hi);have a2:=mq L p[j] (inn j hj);rw[Er fn a1.2 a1.1,Er fn a2.2 a2.1]at sg;simp only[pick,List.getElem_map,lU,n7];rw[<-JD a2.2,decide_eq_false_iff_not];lia
     .apply nk.mp;rw[t,Array.toList_map,<-I,eC];rfl
   refine bx (fy run ?_ λ_ _ e=>e);rintro⟨⟨⟩,m⟩Z⟨rfl,p,z,I,J,hf⟩;dsimp only;rw[J];refine bx (tf g rfl ?_);refine bx (rL g rfl ?_ (tY) (by rw[ec,oX z,gX];lia));rw[hf];simp only[bne_self_eq_false,ii,if_false];exact c_ (fin _ z I)
end
end _H
namespace _H
open PySem _L Spec PyProof.Rows Calls W
section
variable{prog:ek}{w:fg}{A:fb}{E:bV->cp->Prop}{s:cp}{vs:List bV}{κ:i3}{P:bV->D->Prop}{ds:List D}
theorem pZ{l:dQ}{Q:bV->cp->Prop}(y:s.heap.IsList l vs.toArray)(z:sortable ds=ck)(B:vs.length<64)(G:Paired P vs ds)(fn:∀u d e,P u d->P u e->bT d=bT e)(H:∀h',(∀b o,s.heap.get? b=aD o->h'.get? b=aD o)->∀C:i3->cp->Prop,C κ {s with heap:=h'}->2<=vs.length->d_ (ef prog w) A.in1.in1 (keyKind' vs.toArray) C (λ_ _=>False) {s with heap:=h'})(i:∀h',(∀b o,s.heap.get? b=aD o->h'.get? b=aD o)->∀u v d e,P u d->P v e->∀C:Bool->cp->Prop,C (bH (bT d) (bT e)) {s with heap:=h'}->d_ (ef prog w) A.in1.in1 (keyLt' κ u v) C (λ_ _=>False) {s with heap:=h'})(h:∀h' c p,(∀b o,s.heap.get? b=aD o->h'.get? b=aD o)->p.Perm (ej vs.length)->pick .non p ds=lu ds->h'.get? (s.heap.objs.size+1)=aD (mv "list" (pick .none p vs).toArray c)->Q (.ref (s.heap.objs.size+1)) {s with heap:=h'}):d_ (ef prog w) A (call (.builtin "sorted") [.ref l]) Q E s:=by
 refine ox kind_sorted plain_sorted entry_sorted (args_sorted1 _) ?_;unfold gE.«sorted»;refine bx (m:=checkCount "sorted" 1 1 _) (c_ ?_);refine bx (collect_list y ?_ (by rw[gX];lia));refine bx (rg ?_ (by rw[gX];lia));generalize t:((s.heap.push (mv "list" #[] 0)).update s.heap.objs.size (ip (·++vs.toArray)):Heap)=j;have hsz:j.objs.size=s.heap.objs.size+1:=by rw[<-t,Heap.size_update,size_push']
 have keep:∀b o,s.heap.get? b=aD o->j.get? b=aD o:=λb o q=>by rw[<-t,Heap.get?_update_ne _ _ _ _ (eS (eA q))];exact eO q
 generalize x:(j.push {cls:=.type "list",data:=.seq vs.toArray}:Heap)=g;have ho:g.get? (s.heap.objs.size+1)=aD (mv "list" vs.toArray 0):=by rw[<-x,<-hsz];exact dZ _ rfl
 have n:∀b o,s.heap.get? b=aD o->g.get? b=aD o:=λb o q=>by rw[<-x];exact eO (keep b o q)
 have a:∀b o,s.heap.get? b=aD o->b≠s.heap.objs.size+1:=λb o q=>eS (nh (eA q));show d_ _ _ _ _ _ {s with heap:=g};rw[hsz];refine bx (h_ (fm slot_list_sort ⟨_,ho,rfl⟩ entry_list_sort ?body (args_list_sort _)));case body=>refine yN (s:={s with heap:=g}) (κ:=κ) ho z B G fn (λh' f C r I=>H h' (λb o q=>f b o (a b o q) (n b o q)) C r I) (λh' f u v d e hd he C r=>i h' (λb o q=>f b o (a b o q) (n b o q)) u v d e hd he C r) λh' c p f J L e=>?_;exact⟨_,rfl,c_ ⟨_,rfl,h h' c p (λb o q=>f b o (a b o q) (n b o q)) J L e⟩⟩
theorem qp{b fin:Bool}{Q:Bool->cp->Prop}:∀{xs ys:List bV}{is js:List Int}{i:Nat},io xs is->io ys js->fin=decide (is.length<js.length)->Q (bH is js) s->KatLex prog w A b fin Q (xs.zip ys) i s
 |_,_,_,_,_,.nil,.nil,e,h=>by subst e;exact kat_nil (by simpa[bH]using h)|_,_,_,_,_,.nil,.cons _ _ _,e,h=>by subst e;exact kat_nil (by simpa[bH]using h)|_,_,_,_,_,.cons _ _ _,.nil,e,h=>by subst e;exact kat_nil (by simpa[bH]using h)|_,_,_,_,i,.cons (ns:=is) x t r,.cons (ns:=js) y u r',e,h=>by
   refine kat_cons (oB ?_);by_cases q:x=y;.subst q;rw[beq_self_eq_true];refine kat_yes (qp r r' (by rw[e];simp) ?_);simpa[bH]using h
   . rw[beq_eq_false_iff_ne.mpr q];refine kat_no ?_;have a:Q (decide (x<y)) s:=by simpa[bH,q]using h
     cases(b&&i==0)with|true=>exact oneLt_int a|false=>exact kat_one _ _ (wpAny_lt_int a)
noncomputable def rP(h:Heap)(u:bV)(d:D):Prop:=∃a b is,u=.ref a/\IsTup h a (sn b)/\io b is/\is≠[]/\bT d=is
theorem pg{h h':Heap}(k:∀b o,h.get? b=aD o->h'.get? b=aD o){u:bV}{d:D}(t:rP h u d):rP h' u d:=by obtain⟨a,c,is,e,⟨o,h1,f⟩,g⟩:=t;exact⟨a,c,is,e,⟨o,k _ _ h1,f⟩,g⟩
theorem uG{h h':Heap}(k:∀b o,h.get? b=aD o->h'.get? b=aD o):∀{a:List bV}{ds:List D},Paired (rP h) a ds->Paired (rP h') a ds|_,_,.nil=>.nil|_,_,.cons r t=>.cons (pg k r) (uG k t)
theorem p7{h:Heap}:∀{b:List bV}{ds:List D},Paired (rP h) b ds->∃fs,KatTups h b fs/\fs.length=b.length/\∀f∈fs,∃n t,f=l7 n t|_,_,.nil=>⟨[],trivial,rfl,by simp⟩|_,_,.cons r t=>by obtain⟨fs,h1,e,g⟩:=p7 t;obtain⟨a,i,is,rfl,⟨o,o1,j,n,l⟩,hi,c,_⟩:=r;cases hi with|nil=>exact absurd rfl c|cons x m p=>
     refine⟨.int x m::fs,KatTups.cons o1 j l (by simp) h1,by simp[e],λf hf=>?_⟩;rcases eM.mp hf with rfl|hf;.exact⟨_,_,rfl⟩
     .exact g f hf
theorem Ge{ds:List D}(t:Paired (rP s.heap) vs ds)(c:2<=vs.length){C:i3->cp->Prop}(a:C (tuples' (i_ "int"!=i_ "tuple")) s):d_ (ef prog w) A (keyKind' vs.toArray) C E s:=by obtain⟨fs,h1,e,b⟩:=p7 t;refine kat_kind (T:=.type "int") h1 (by lia) (λv hv=>?_) rfl a;obtain⟨n,t,rfl⟩:=b v hv;exact Looks.now
theorem PB{x y:bV}{d e:D}(h:rP s.heap x d)(i:rP s.heap y e){b:Bool}{C:Bool->cp->Prop}(c:C (bH (bT d) (bT e)) s):d_ (ef prog w) A (keyLt' (tuples' b) x y) C E s:=by obtain⟨a,j,is,rfl,⟨o,o1,u,n,l⟩,hi,m,p⟩:=h;obtain⟨v,its',js,rfl,⟨z,q,B,G,r⟩,f,g,t⟩:=i;refine kat_lt o1 l q r ?_;rw[p,t]at c;refine qp (is:=is) (js:=js) (by simpa using hi) (by simpa using f) ?_ c;rw[ec,ec,kP hi,kP f]
end
theorem FP{xs:List V}{a:List bV}(h:Vals xs a)(i:Nat):RelV (xs.getD i .non) (a.getD i .none):=by
 have f:=h.length;by_cases hi:i<xs.length
 . obtain⟨u,e,r⟩:=h.get (i:=i) (x:=xs[i]) (gT hi);have b:xs.getD i .non=xs[i]:=by simp[hi]
   have c:a.getD i .none=u:=by simp[e]
   rw[b,c];exact r
 . have b:xs.getD i .non=.non:=by simp[nV hi]
   have c:a.getD i .none=.none:=by simp[show a.length<=i by lia]
   rw[b,c];rfl
theorem yL{f:Nat->V}{g:Nat->bV}(h:∀i,RelV (f i) (g i)):∀l:List Nat,Vals (l.map f) (l.map g)|[]=>.nil|i::l=>.cons (h i) (yL h l)
theorem yz{p:List Nat}{xs:List V}{a:List bV}(h:Vals xs a):Vals (pick .non p xs) (pick .none p a):=yL (FP h) _
theorem xJ{K:PySem.W.Frag}{F:Hp}{f:Nat->V}{g:Nat->D}(h:∀i,Rep K F (f i) (g i)):∀l:List Nat,aH K F (l.map f) (l.map g)|[]=>.nil|i::l=>.cons (h i) (xJ h l)
theorem yO{K:PySem.W.Frag}{F:Hp}{p:List Nat}{xs:List V}{a:List D}(h:aH K F xs a):aH K F (pick .non p xs) (pick .non p a):=xJ (λi=>by
 have f:=h.length;by_cases hi:i<a.length
 . obtain⟨u,e,r⟩:=h.get (i:=i) (d:=a[i]) (gT hi);have b:a.getD i .non=a[i]:=by simp[hi]
   have c:xs.getD i .non=u:=by simp[e]
   rw[b,c];exact r
 . have b:a.getD i .non=.non:=by simp[nV hi]
   have c:xs.getD i .non=.non:=by simp[show xs.length<=i by lia]
   rw[b,c,Rep]) _
noncomputable def Jw(u:bV)(d:D):Prop:=∃n t,u=.int n t/\bT d=[n]
theorem Et(u:bV)(d e:D):Jw u d->Jw u e->bT d=bT e:=λ⟨n,t,h1,b⟩⟨m,t',a,c⟩=>by rw[h1]at a;cases a;rw[b,c]
theorem DY{prog:ek}{w:fg}{A:fb}{E:bV->cp->Prop}{s:cp}{x y:bV}{d e:D}(b:Jw x d)(c:Jw y e){C:Bool->cp->Prop}(a:C (bH (bT d) (bT e)) s):d_ (ef prog w) A (keyLt' oneType' x y) C E s:=by obtain⟨n,t,rfl,f⟩:=b;obtain⟨m,t',rfl,g⟩:=c;refine kat_lt_int ?_;rw[f,g,show bH [n] [m]=decide (n<m)by simp[bH]]at a;exact a
theorem Mi:∀{a:List bV}{ns:List Int},io a ns->Paired Jw a (ns.map D.int)|_,_,.nil=>.nil|_,_,.cons n t r=>.cons ⟨n,t,rfl,rfl⟩ (Mi r)
theorem JQ{a:List bV}:∀{ns b:List Int},io a ns->io a b->ns=b:=by induction a with|nil=>intro ns b h1 c;cases h1;cases c;rfl|cons u a e=>intro ns b h1 c;cases h1 with|cons n t r=>cases c with|cons m t' f=>rw[e r f]
theorem N8{h:Heap}(u:bV)(d e:D):rP h u d->rP h u e->bT d=bT e:=λ⟨a,i,is,h1,⟨o,o1,t,n,j⟩,l,_,p⟩⟨b,q,js,c,⟨v,f,w,m,g⟩,r,_,s⟩=>by rw[h1]at c;cases c;rw[o1]at f;cases f;rw[j]at g;cases g;rw[p,s,JQ l r]
theorem all_ints:∀{a:List D},a.all dX=ck->a=(a.map gB).map D.int
 |[],_=>rfl|d::a,h=>by
   simp only[oe,gi]at h;cases d<;>first|(have q:=h.1;simp[dX]at q;done)|skip
   rw[eK,eK,<-all_ints h.2];rfl
theorem intsAre_of:∀{ns:List Int}{a:List bV},Vals (ns.map V.int) a->io a ns|[],_,.nil=>.nil|n::ns,_,.cons r t=>by obtain⟨b,rfl⟩:=r;exact .cons n b (intsAre_of t)
section
variable{X:Cx}{c:Call}{a:eB}{pa:P}{pos:Pos}
theorem Ff{b:List (dQ×Obj)}{σ:_L.St}{F H:Hp}{s:cp}(I:_L.Inv X b σ H s)(sm:aM F H):∀{e:List D}{ys:List V}{f:List bV},aH X.K F ys e->Vals ys f->e.all rW=ck->Paired (rP s.heap) f e|[],ys,f,h,v,_=>by rw[h.ie]at v;cases v;exact .nil|d::e,ys,f,h,v,o=>by obtain⟨y,r,rfl,h1,m⟩:=h.cW;simp only[oe,gi]at o;cases v with|cons n p=>
     refine .cons ?_ (Ff I sm m p o.2);cases d<;>first|(have q:=o.1;simp[rW]at q;done)|skip
     rename_i g;cases g with|nil=>exact absurd o.1 (by simp[rW])|cons x xs=>obtain⟨ad,u,rfl,t,j,_⟩:=gq.tup sm (.inl h1);cases n;obtain⟨i,l,it,_⟩:=I.tuple t;rw[all_ints o.1]at j;rw[gh j]at l;exact⟨ad,i,_,rfl,it,intsAre_of l,by simp,rfl⟩
theorem JZ:dO X (.builtin "sorted") (Hm X.K λx=>blt .sorted [x]):=by
 rintro i s σ H xs Y Q I r⟨x,B,F,d,E,sm,G,he,k⟩;have J:=bF (show(sI d).bind (λg=>if sortable g then aD (.own (lu g))else b_)=aD E from he);clear he;obtain⟨g,z,he⟩:=J
 cases d with|lst L=>
   cases z;obtain⟨p,ys,rfl,M,q⟩:=G.lst sm;subst B;obtain⟨u,rfl,N⟩:=r.one;cases N;obtain⟨f,j,pl,O⟩:=I.list M;by_cases l:sortable g=ck
   . rw[if_pos l]at he;cases he;have Z:f.length=g.length:=by rw[<-j.length,q.length]
     have m:=l;simp only[sortable,gi,li,decide_eq_true_eq]at m;have fin:∀h' c p,(∀b o,s.heap.get? b=aD o->h'.get? b=aD o)->p.Perm (ej f.length)->pick .non p g=lu g->h'.get? (s.heap.objs.size+1)=aD (mv "list" (pick .none p f).toArray c)->EP X i σ Q (.ref (s.heap.objs.size+1)) {s with heap:=h'}:=by
      intro h' c p kp U W e;refine⟨.ref (s.heap.objs.size+1),_,I.laid (t':=s.toks) (o:=.lst (pick .non p ys)) (h':=h') kp (le_succ _) ⟨by rw[oX U,<-j.length];exact O,pick .none p f,c,yz j,e⟩,rfl,?_⟩;have w:aH X.K F (pick .non p ys) (lu g):=by rw[<-W];exact yO q
      exact vI sm w (I.hok.fresh (le_succ _)) k
     rcases m.2 with oi|ot
     . have n:=q;rw[all_ints oi]at n;have t:io f (g.map gB):=intsAre_of (by rw[<-gh n];exact j);refine pZ (vs:=f) (κ:=oneType') pl.isList l (by lia) (by have:=Mi t;rwa[<-all_ints oi]at this) Et (λh' kp C h y=>?_) (λh' kp u v d e hd he C h=>?_) fin;.match f,t,y with|v1::v2::A,t,_=>rw[keyKind_ints t];exact c_ h
       .exact DY hd he h
     .have tt:=Ff I sm q j ot;refine pZ (vs:=f) (κ:=tuples' (i_ "int"!=i_ "tuple")) pl.isList l (by lia) tt N8 (λh' kp C h y=>Ge (s:={s with heap:=h'}) (uG kp tt) y h) (λh' kp u v d e hd he C h=>?_) fin;exact PB (s:={s with heap:=h'}) (pg kp hd) (pg kp he) h
   .rw[if_neg l]at he;cases he|_=>cases z
theorem boot_sorted:gc "sorted"=aD (.builtin "sorted"):=by decide+kernel
theorem pB{x:Str}{b:Pos}(e:x="sorted")(f:Gl X x)(g:X.mg x=b_)(i:SX X c a pa)(hs:ea [a] X.env=(a_,fF a X.env)::ea [] X.env:=by rfl):SX X c (.Call (.Name x b) [a] [] pos) (.blt .sorted [pa]):=by subst e;exact kI (λh=>fj JZ f g boot_sorted h (he:=hs)) i (λρ=>rfl) rfl hs
end
end _H
namespace _H
open PySem _L Spec PyProof.Rows Calls
theorem BP(l b:dQ)(items a:List bV)(n J:Nat)(L v:Option dQ)(M z:Array (Option bV))(is js:List Int)(hi:io items is)(I:io a js):nB (gE.«tuple.__lt__» ⟨[.ref l,.ref b],[]⟩) (λA R s=>s.heap.get? l=aD {cls:=.type "tuple",dict:=L,data:=.seq items.toArray n,slots:=M}/\s.heap.get? b=aD {cls:=.type "tuple",dict:=v,data:=.seq a.toArray J,slots:=z}/\R (.ok (.ret (.bool (bH is js)))) s):=.of_wp λprog w A R s h=>by
  obtain⟨B,g,d,C,os⟩:=s;obtain⟨N,O,h⟩:=h;have f2:=AutoSeq1.sub_tuple_tuple;wp_walk using hU N,hU O,wpAny_forIn_list _ (λf b E=>b.1=b_/\E=⟨B,g,d,C,os⟩/\∃xs ys c j,f=xs.zip ys/\io xs c/\io ys j/\decide (items.length<a.length)=decide (c.length<j.length)/\R (.ok (.ret (.bool (bH c j)))) ⟨B,g,d,C,os⟩) _;case turn=>rintro⟨y,x⟩f b E⟨i,rfl,xs,ys,c,j,o,h1,m,G,r⟩;cases h1 with|nil=>cases o|cons p t h1=>cases m with|nil=>cases o|cons q u m=>
       injection o with hyx hrest;cases hyx;refine bx (oB ?_);by_cases e:p=q;.subst e;rw[beq_self_eq_true];wp_walk;exact⟨rfl,rfl,_,_,_,_,hrest,h1,m,by rw[G];simp,by simpa[bH]using r⟩
       . rw[beq_eq_false_iff_ne.mpr e];have H:R (.ok (.ret (.bool (decide (p<q))))) ⟨B,g,d,C,os⟩:=by simpa[bH,e]using r
         simp only[Bool.not_false,if_true];refine bx (j9 ?_);refine bx (show d_ (ef prog w) A.in1 (fE .Lt (l7 p t) (l7 q u)) _ _ _ from wpAny_lt_int ?_);refine bx (c_ ?_);exact c_ (c_ ⟨_,rfl,H⟩)
  case fin=>
   rintro⟨b1,b2⟩E⟨i,rfl,xs,ys,c,j,o,h1,m,G,r⟩;simp only at i;subst i;have e:bH c j=decide (items.length<a.length):=by rw[G];cases h1 with|nil=>cases m<;>simp[bH]|cons _ _ _=>cases m with|nil=>simp[bH]|cons _ _ _=>cases o
   rw[e]at r;wp_walk;exact⟨_,rfl,by simpa[Builtin.Tuple.tupleCompareSizes]using r⟩
  case h=>exact⟨rfl,rfl,items,a,is,js,by simp,hi,I,by rw[kP hi,kP I],h⟩
section
variable{X:Cx}
theorem v9(hu:X.A.units+8<i9):jb X (fE .Lt) (rD X.K (tW .lt)):=by rintro f s σ H x y v u Q I E G⟨F,d,e,r,sm,J,L,he,k⟩;obtain⟨t,c,p⟩:=map_some (show(ZG d e).map _=aD r from he);subst p;cases d with
 |int i=>cases e with|int j=>exact T7 f s σ H x y v u Q I E G ⟨F,.int i,.int j,_,sm,J,L,by have p:M5 (λi j=>decide (i<j)) (.int i) (.int j)=aD t:=c;simp only[p];rfl,k⟩|_=>cases c
 |tup xs=>cases e with|tup ys=>obtain⟨hc,c⟩:=bL (show(if(xs.all dX&&ys.all dX)=ck then aD (bH (xs.map gB) (ys.map gB))else b_)=aD t from c);rw[gi]at hc;obtain⟨a,vs,rfl,h1,M,_⟩:=J.tup sm;obtain⟨b,ws,rfl,Y,N,_⟩:=L.tup sm;cases E;cases G;obtain⟨q,O,it,_⟩:=I.tuple h1;obtain⟨g,U,z,_⟩:=I.tuple Y;rw[all_ints hc.1]at M;rw[all_ints hc.2]at N;rw[gh M]at O;rw[gh N]at U;have Z:=intsAre_of O;have i2:=intsAre_of U;obtain⟨⟨cls,dd,data,sl⟩,ho,h,n,hd⟩:=it;obtain⟨⟨W,B,data2,C⟩,l,m,n2,o⟩:=z;simp only at h hd m o;subst h hd m o;refine(show d_ (ef X.prog X.w) X.A (richCompare .Lt (.ref a) (.ref b)) _ _ s from richCompare_meets_room (op:=.Lt) ⟨_,ho,rfl⟩ ⟨_,l,rfl⟩ PySem.F.slot_tuple_lt PySem.F.entry_tuple_lt (PySem.F.args_tuple_lt_2 _ _) (BP a b q g n n2 dd B sl C _ _ Z i2) ⟨ho,l,show kT _≠l5/\_ from⟨(λx=>nomatch x),⟨.bl t,H,I,by rw[<-c];rfl,dh.eX sm (lN _) k⟩⟩⟩ (by lia))|_=>cases c
 |_=>cases c
end
end _H
namespace _L
open PySem Spec PyProof.Rows
variable{y:V}{w:fg}{H:Hp}
section
variable{κ:Type}[DecidableEq κ]
noncomputable def m9(kvs:List (κ×V))(k:κ):Option V:=(kvs.find? λa=>decide (a.1=k)).map (·.2)
noncomputable def putK(kvs:List (κ×V))(k:κ)(v:V):List (κ×V):=if(kvs.any λa=>decide (a.1=k))=ck then kvs.map (λa=>if a.1=k then(a.1,v)else a)else kvs++[(k,v)]
theorem oY{p:κ×V}{r:List (κ×V)}{k:κ}(e:p.1=k):m9 (p::r) k=aD p.2:=by simp[m9,i7,e]
theorem nZ{p:κ×V}{r:List (κ×V)}{k:κ}(e:¬ p.1=k):m9 (p::r) k=m9 r k:=by simp[m9,i7,e]
theorem xH(k:κ):∀kvs:List (κ×V),(kvs.any λa=>decide (a.1=k))=(m9 kvs k).isSome
 |[]=>rfl|p::r=>by
   rw[tN];by_cases e:p.1=k;.simp only[oY e,decide_eq_true e,Bool.true_or,Option.isSome_some]
   .rw[nZ e,decide_eq_false e,Bool.false_or];exact xH k r
theorem qj(kvs:List (κ×V))(k:κ)(v:V):(putK kvs k v).length<=kvs.length+1:=by
 unfold putK;split;.rw[en];lia
 .rw[ib,ia,List.length_nil];lia
theorem qw.GF{o:Option V}{u:Option bV}(r:qw o u):o.isSome=u.isSome:=by cases o with
 |none=>cases u with|none=>rfl|some _=>exact(show False from r).elim
 |some _=>cases u with|none=>exact(show False from r).elim|some _=>rfl
theorem qw.getD{o:Option V}{u:Option bV}{d:V}{d':bV}(r:qw o u)(rd:RelV d d'):RelV (o.getD d) (u.getD d'):=by cases o with
 |none=>cases u with|none=>exact rd|some _=>exact(show False from r).elim
 |some _=>cases u with|none=>exact(show False from r).elim|some _=>exact r
theorem KV.val{kvs:List (κ×V)}{vs:List (κ×bV)}(r:KV kvs vs)(k:κ):qw (m9 kvs k) (n5 vs k):=by unfold KV at r;induction r with|nil=>exact oo|@cons p q ps a h t f=>
   obtain⟨h1,g⟩:=h;by_cases e:p.1=k
   . have c:q.1=k:=h1.symm.trans e;have b:n5 (q::a) k=aD q.2:=by simp[n5,i7,c]
     rw[oY e,b];exact g
   . have c:¬ q.1=k:=λz=>e (h1.trans z);have b:n5 (q::a) k=n5 a k:=by simp[n5,i7,c]
     rw[nZ e,b];exact f
theorem KV.any{kvs:List (κ×V)}{vs:List (κ×bV)}(r:KV kvs vs)(k:κ):(kvs.any λa=>decide (a.1=k))=vs.any λa=>decide (a.1=k):=by unfold KV at r;induction r with|nil=>rfl|cons h t b=>rw[tN,tN,b,h.1]
theorem KV.repl{kvs:List (κ×V)}{vs:List (κ×bV)}(r:KV kvs vs)(k:κ){u:bV}(b:RelV y u):KV (kvs.map λa=>if a.1=k then(a.1,y)else a) (vs.map λa=>if a.1=k then(a.1,u)else a):=by unfold KV at r ⊢;induction r with|nil=>exact .nil|@cons p q ps g h t c=>
   rw[eK,eK];refine .cons ?_ c;obtain⟨h1,f⟩:=h;by_cases e:p.1=k;.rw[if_pos e,if_pos (h1.symm.trans e)];exact⟨h1,b⟩
   .rw[if_neg e,if_neg (λz=>e (h1.trans z))];exact⟨h1,f⟩
theorem KV.put{kvs:List (κ×V)}{vs:List (κ×bV)}(r:KV kvs vs)(k:κ){u:bV}(a:RelV y u):KV (putK kvs k y) (stored vs k u):=by
 unfold putK stored;rw[r.any k];by_cases e:(vs.any λb=>decide (b.1=k))=ck;.rw[if_pos e,if_pos e];exact r.repl k a
 .rw[if_neg e,if_neg e];exact Paired.snoc r ⟨rfl,a⟩
theorem KV.length{kvs:List (κ×V)}{vs:List (κ×bV)}(r:KV kvs vs):kvs.length=vs.length:=Paired.length r
end
theorem En{P:ek}{k:Key}{u:bV}(r:RelV (kV k) u):(cJ P w).is k u=ck:=by cases k with|inl i=>obtain⟨t,e⟩:=(show ∃t,u=l7 i t from r);subst e;exact yR P w i t|inr x=>obtain⟨t,e⟩:=(show ∃t,u=Value.str x t from r);subst e;exact yd P w x t
theorem uP{P:ek}{w:fg}:∀{ks:List Key}{a:List bV},Vals (ks.map kV) a->ItemsAre (cJ P w) ks a|[],_,r=>by rw[mS]at r;cases r;exact .nil|k::ks,_,r=>by rw[eK]at r;cases r with|cons h t=>exact .cons (En h) (uP t)
noncomputable abbrev KT(H:Hp):List (List Key×V)->List (List Key×dQ×bV)->Prop:=Paired λp q=>p.1=q.1/\H q.2.1=aD (.tup (p.1.map kV))/\RelV p.2 q.2.2
theorem KT.val{kvs:List (List Key×V)}{xs:List (List Key×dQ×bV)}(r:KT H kvs xs)(k:List Key):qw (m9 kvs k) ((qh xs k).map (·.2)):=by induction r with|nil=>exact oo|@cons p q ps a h t f=>
   obtain⟨h1,_,g⟩:=h;by_cases e:p.1=k
   . have c:q.1=k:=h1.symm.trans e;have b:qh (q::a) k=aD q.2:=by simp[qh,i7,c]
     rw[oY e,b];exact g
   . have c:¬ q.1=k:=λz=>e (h1.trans z);have b:qh (q::a) k=qh a k:=by simp[qh,i7,c]
     rw[nZ e,b];exact f
theorem KT.repl{kvs:List (List Key×V)}{xs:List (List Key×dQ×bV)}(r:KT H kvs xs)(k:List Key){u:bV}(c:RelV y u):KT H (kvs.map λa=>if a.1=k then(a.1,y)else a) (xs.map (putAt k u)):=by induction r with|nil=>exact .nil|@cons p q ps i h t f=>
   rw[eK,eK];refine .cons ?_ f;obtain⟨h1,b,g⟩:=h;unfold putAt;by_cases e:p.1=k;.rw[if_pos e,if_pos (h1.symm.trans e)];exact⟨h1,b,c⟩
   .rw[if_neg e,if_neg (λz=>e (h1.trans z))];exact⟨h1,b,g⟩
theorem KT.put{kvs:List (List Key×V)}{xs:List (List Key×dQ×bV)}(r:KT H kvs xs)(k:List Key){b:dQ}{u:bV}(c:H b=aD (.tup (k.map kV)))(a:RelV y u):KT H (putK kvs k y) (storedH xs k b u):=by
 have e:(kvs.any λf=>decide (f.1=k))=(qh xs k).isSome:=by rw[xH,(r.val k).GF,Option.isSome_map]
 unfold putK storedH;rw[e];by_cases q:(qh xs k).isSome=ck;.rw[if_pos q,if_pos q];exact r.repl k a
 .rw[if_neg q,if_neg q];exact Paired.snoc r ⟨rfl,c,a⟩
theorem KT.keeps{H':Hp}{kvs:List (List Key×V)}{xs:List (List Key×dQ×bV)}(r:KT H kvs xs)(a:∀b ys,H b=aD (.tup ys)->H' b=aD (.tup ys)):KT H' kvs xs:=Paired.VP r λ_ _ z=>⟨z.1,a _ _ z.2.1,z.2.2⟩
section
variable{P:ek}{w:fg}{H:Hp}{h:Heap}{a:dQ}
theorem Q6{u:HO}(ok:o6 P w H h)(e:Rd H a u):cM P w H h a u:=e.ok ok
theorem zF{kvs:List (Key×V)}(ok:o6 P w H h)(e:Rd H a (.dK kvs)):kvs.length<=sizeLine/\(a==hE)=a_/\∃vs,KV kvs vs/\h.DictOf (cJ P w) a vs:=show cM P w H h a (.dK kvs)from Q6 ok e
theorem Zi{kvs:List (Key×V)}(ok:o6 P w H h)(e:H a=aD (.dK kvs)):kvs.length<=sizeLine/\(a==hE)=a_/\∃vs,KV kvs vs/\h.DictOf (cJ P w) a vs:=zF ok (.inl e)
theorem vC{ks:List Key}(ok:o6 P w H h)(e:H a=aD (.tup (ks.map kV))):(mP (cJ P w)).is h ks a:=by obtain⟨_,b,r,o,h1,c,n,f⟩:=(show cM P w H h a (.tup (ks.map kV))from ok a _ e);exact⟨o,b.toArray,n,h1,c,f,by simpa using uP r⟩
theorem xN{kvs:List (List Key×V)}(ok:o6 P w H h)(e:Rd H a (.dT kvs)):kvs.length<=sizeLine/\(a==hE)=a_/\∃xs,KT H kvs xs/\h.DictOfH (mP (cJ P w)) a xs:=by
 obtain⟨z,y,xs,r,o,es,ep,h1,c,f,g,i⟩:=(show cM P w H h a (.dT kvs)from Q6 ok e);refine⟨z,y,xs,r,o,es,ep,h1,c,f,g,λx hx=>?_,i⟩;have all:∀{l:List (List Key×V)}{m:List (List Key×dQ×bV)},KT H l m->∀x∈m,(mP (cJ P w)).is h x.1 x.2.1:=by intro l m q;induction q with|nil=>intro x hx;exact nomatch hx|@cons p q ps n b t j=>
    intro x hx;rcases eM.mp hx with e|hx;.subst e;exact vC ok (by rw[<-b.1];exact b.2.1)
    .exact j x hx
 exact all r x hx
theorem aaH{kvs:List (List Key×V)}(ok:o6 P w H h)(e:H a=aD (.dT kvs)):kvs.length<=sizeLine/\(a==hE)=a_/\∃xs,KT H kvs xs/\h.DictOfH (mP (cJ P w)) a xs:=xN ok (.inl e)
end
noncomputable def zA(H:Hp)(a:dQ)(y:V)(r:Option V):Prop:=(∃kvs k,Rd H a (.dK kvs)/\y=kV k/\r=m9 kvs k)\/∃kvs k b,Rd H a (.dT kvs)/\y=.ref b/\H b=aD (.tup (k.map kV))/\r=m9 kvs k
noncomputable def aaI(H:Hp)(a:dQ)(y v:V)(H':Hp):Prop:=(∃kvs k,H a=aD (.dK kvs)/\y=kV k/\kvs.length<sizeLine/\H'=upd H a (.dK (putK kvs k v)))\/∃kvs k b,H a=aD (.dT kvs)/\y=.ref b/\H b=aD (.tup (k.map kV))/\kvs.length<sizeLine/\H'=upd H a (.dT (putK kvs k v))
section
variable{X:Cx}{pins:List (dQ×Obj)}{σ:St}{H:Hp}{s:cp}{a:dQ}{y v:V}{u r:bV}{o:Option V}{A:fb}{E:bV->cp->Prop}
theorem Inv.big(I:Inv X pins σ H s):hE<s.heap.objs.size:=by have h:eF<s.heap.objs.size:=(I.mod.glob.keeps I.bk).lt;exact qv (by decide) h
theorem pH{Q:bV->cp->Prop}(B:A.units+1<i9)(I:Inv X pins σ H s)(g:zA H a y (aD v))(t:RelV y u)(h:∀f x,Inv X pins σ H x->RelV v f->Q f x):d_ (ef X.prog X.w) A (lb (.ref a) u) Q E s:=by
 rcases g with⟨kvs,k,e,i,l⟩|⟨kvs,k,b,e,i,C,l⟩;.subst i;obtain⟨z,hd,vs,c,j⟩:=zF I.hok e;obtain⟨f,m,n⟩:=qw.some_of (v:=v) (o:=n5 vs k) (by rw[l];exact c.val k);exact wpAny_getItem_of (En t) j.mapOf m (h f _ (I.tok _) n)
 .subst i;cases(show u=eR b from t);obtain⟨z,hd,xs,c,j⟩:=xN I.hok e;obtain⟨f,m,n⟩:=qw.some_of (v:=v) (o:=(qh xs k).map (·.2)) (by rw[l];exact c.val k);obtain⟨p,G,q⟩:=gw.mp m;refine wpAny_getItem_heap (nM B) (vC I.hok C) j G ?_;rw[q];exact h f _ (I.tok _) n
theorem Dz{h':Heap}{t':Nat}{c:HO}(I:Inv X pins σ H s)(g:Za (H a))(hs:og a s.heap h')(he:∃q,h'.get? a=aD q)(f:cM X.prog X.w (upd H a c) h' a c):Inv X pins σ (upd H a c) {s with heap:=h',toks:=t'}:=I.write (x:=a) (e:=a) g (.inl rfl) (λb q h z=>(hs.2 b h).trans z) he f
theorem R7{P:ek}{H':Hp}{h':Heap}{kvs:List (Key×V)}{vs:List (Key×bV)}(z:kvs.length<=sizeLine)(hd:(a==hE)=a_)(b:KV kvs vs)(c:h'.DictOf (cJ P w) a vs):cM P w H' h' a (.dK kvs):=⟨z,hd,vs,b,c⟩
theorem G6{H':Hp}{Q:Unit->cp->Prop}(M:A.units+1<i9)(I:Inv X pins σ H s)(g:aaI H a y v H')(B:RelV y u)(C:RelV v r)(h:∀G,Inv X pins σ H' G->Q () G):d_ (ef X.prog X.w) A (pS (.ref a) u r) Q E s:=by
 rcases g with⟨kvs,k,e,m,l,n⟩|⟨kvs,k,b,e,m,J,l,n⟩
 . subst m n;obtain⟨z,hd,vs,f,p⟩:=Zi I.hok e;have t:vs.length<=sizeLine:=by rw[<-f.length];exact z
   have x:(putK kvs k v).length<=sizeLine:=by have:=qj kvs k v;lia
   refine wpAny_setItem_pairs (hsz:=t) (En B) p λh' i hs=>h _ ?_;have he:∃q,h'.get? a=aD q:=let⟨q,_,_,j,_⟩:=i;⟨q,j⟩;exact Dz I (by rw[e];exact oo) hs he (R7 x hd (f.put k C) i)
 . subst m n;cases(show u=eR b from B);obtain⟨z,hd,xs,f,p⟩:=aaH I.hok e;have t:xs.length<=sizeLine:=by rw[<-Paired.length f];exact z
   have x:(putK kvs k v).length<=sizeLine:=by have:=qj kvs k v;lia
   refine wpAny_setItem_heap (hsz:=t) (nM M) (vC I.hok J) p λh' i hs=>h _ ?_;obtain⟨q,es,ep,j,N,O,U,_,W⟩:=i;refine Dz I (by rw[e];exact oo) hs ⟨q,j⟩ ⟨x,hd,_,(f.put k J C).keeps λc ys L=>?_,q,es,ep,j,N,O,U,W⟩;rw[aG (Zq L e (λz=>nomatch z))];exact L
end
noncomputable def O4(i:eB):Prop:=∀a b,oT i a_ a b=operate [a,b] (lb a b)
theorem DW{prog:ek}{A:fb}{E:bV->cp->Prop}{s:cp}{env:Env}{a slice:eB}{pos:Pos}{T id:String}{Q:bV->cp->Prop}(m:kG (.type T) "__getitem__"=fI (aD (.builtin id)))(hs:O4 slice)(h:d_ (ef prog w) A (fF a env) (λo e=>d_ (ef prog w) A (fF slice env) (λi b=>b.TypeIs o T/\d_ (ef prog w) A (lb o i) Q E b) E e) E s):d_ (ef prog w) A (fF (.Subscript a slice pos) env) Q E s:=by
 refine qo (fy h (λo e g=>fy g (λi b c=>?_) λ_ _ x=>x) λ_ _ x=>x);obtain⟨l,c⟩:=c;unfold nm;refine bx ?_;rw[getitemInPython_of_ne l.not_modules];refine bx (kn l m ?_);have fin:d_ (ef prog w) A (oT slice a_ o i) (λr f=>d_ (ef prog w) A (letTemporaryGo a o r>>=λ_=>fI r) Q E f) E b:=by rw[hs o i];exact wpAny_operating (fy c (λr f j=>bx (wpAny_letTemporaryGo (c_ j))) λ_ _ x=>x)
 first|exact c_ (bx fin)|exact bx (c_ (bx fin))|exact bx fin
theorem lz{X:Cx}{c:List (dQ×Obj)}{σ:St}{s:cp}{a:dQ}{o:Option V}(I:Inv X c σ H s)(g:zA H a y o):s.TypeIs (.ref a) "dict":=by
 rcases g with⟨kvs,k,e,_,_⟩|⟨kvs,k,b,e,_,_,_⟩;.obtain⟨_,_,vs,_,f⟩:=zF I.hok e;exact f.typeIs
 .obtain⟨_,_,xs,_,f⟩:=xN I.hok e;exact f.typeIs
noncomputable def YZ(c ty:TE):TE:=λσ H Q=>c σ H λx e=>ty σ e λy b=>∃a v,x=.ref a/\zA b a y (aD v)/\Q v b
noncomputable def Zn(c ty e:TE):TS:=λD σ H=>e σ H λv f=>c σ f λx g=>ty σ g λy h=>∃a b,x=.ref a/\aaI h a y v b/\D.nx σ b
section
variable{X:Cx}{o i e value:eB}{pos pos' tpos:Pos}{td ty tv:TE}
theorem Pu(c:X.A.units+1<i9)(ho:PE X o td)(hi:PE X i ty)(hs:O4 i):PE X (.Subscript o i pos) (YZ td ty):=by intro b s σ H Q I h;refine DW PySem.F.slot_dict_getitem.lookup hs (dz (ho b s σ H _ I h) λu s1⟨x,H1,I1,rx,q1⟩=>dz (hi b s1 σ H1 _ I1 q1) λl s2⟨y,H2,I2,ry,a,v,ex,g,q2⟩=>?_);subst ex;obtain rfl:u=eR a:=rx;exact⟨lz I2 g,pH c I2 g ry λm s3 f j=>⟨v,H2,f,j,q2⟩⟩
theorem Fb(c:X.A.units+1<i9)(ho:PE X o td)(hi:PE X i ty)(hv:PE X value tv)(hs:jn value (aD (.Subscript o i pos')) pos.line X.env=fI a_):PS X (.Assign [.Subscript o i pos'] value pos) (Zn td ty tv):=by intro b s σ H D I h;refine wpAny_Assign_Subscript (dz (hv b s σ H _ I h) λr s1⟨v,H1,I1,rv,q1⟩=>dz (ho b s1 σ H1 _ I1 q1) λu s2⟨x,H2,I2,rx,q2⟩=>dz (hi b s2 σ H2 _ I2 q2) λj s3⟨y,H3,I3,ry,a,H4,ex,g,q3⟩=>?_) hs;subst ex;obtain rfl:u=eR a:=rx;exact G6 c I3 g ry rv λs4 f=>⟨σ,H4,f,q3⟩
end
theorem Jl{P:ek}(h:Heap)(a:hE<h.objs.size):cM P w H (h.push {cls:=.type "dict",data:=.dict #[]}) h.objs.size (.dK []):=⟨tY,beq_eq_false_iff_ne.mpr (iF (eS a)),[],.nil,Heap.DictOf.new h⟩
theorem Lg{P:ek}(h:Heap)(a:hE<h.objs.size):cM P w H (h.push {cls:=.type "dict",data:=.dict #[]}) h.objs.size (.dT []):=⟨tY,beq_eq_false_iff_ne.mpr (iF (eS a)),[],.nil,_,#[],0,dZ _ rfl,⟨rfl,rfl,rfl⟩,rfl,rfl,List.nodup_nil⟩
noncomputable def Tq:TE:=λ_ H Q=>∀p,H p=b_->Q (.ref p) (upd H p (.dK []))
noncomputable def Sh:TE:=λ_ H Q=>∀p,H p=b_->Q (.ref p) (upd H p (.dT []))
section
variable{X:Cx}{pos:Pos}
theorem K8:PE X (.Dict [] [] pos) Tq:=λb s σ H Q I h=>wpAny_Dict_empty ⟨.ref s.heap.objs.size,_,I.laid (a:=s.heap.objs.size) (o:=.dK []) (t':=s.toks) (λ_ _ q=>eO q) (di) (Jl s.heap I.big),rfl,h _ (I.hok.fresh (di))⟩
theorem Kl:PE X (.Dict [] [] pos) Sh:=λb s σ H Q I h=>wpAny_Dict_empty ⟨.ref s.heap.objs.size,_,I.laid (a:=s.heap.objs.size) (o:=.dT []) (t':=s.toks) (λ_ _ q=>eO q) (di) (Lg s.heap I.big),rfl,h _ (I.hok.fresh (di))⟩
end
structure M2(X:Cx)(o:eB)(m:Str)(apos:Pos)(e f:eB)(cpos:Pos):Prop where
 base:rX o m X.env (fF o X.env)=fF o X.env
 few:((kN cpos (ea [e,f] X.env)).all (λx=>!x.1)&&(backToKw cpos (tq [] X.env)).all (λx=>x.1.isSome)&&decide (([e,f]:List eB).length+([]:List pX).length+(if([]:List pX).isEmpty then 0 else 1)<30))=ck
 line:(apos.endLine==cpos.line)=ck
 trees:kN cpos (ea [e,f] X.env)=[(a_,fF e X.env),(a_,fF f X.env)]
noncomputable def IsD(H:Hp)(a:dQ):Prop:=(∃kvs,Rd H a (.dK kvs))\/∃kvs,Rd H a (.dT kvs)
theorem Tw{X:Cx}{f:List (dQ×Obj)}{σ:St}{s:cp}{a:dQ}(I:Inv X f σ H s)(d:IsD H a):s.TypeIs (.ref a) "dict"/\(∀b,eR a=.ref b->∃c,s.heap.get? b=aD c/\c.dict=b_)/\(a==hE)=a_:=by
 rcases d with⟨kvs,e⟩|⟨kvs,e⟩;.obtain⟨_,hd,vs,_,g⟩:=zF I.hok e;refine⟨g.typeIs,λb q=>?_,hd⟩;cases q;obtain⟨c,_,_,h1,h,_⟩:=g;exact⟨c,h1,h.2.1⟩
 .obtain⟨_,hd,xs,_,g⟩:=xN I.hok e;refine⟨g.typeIs,λb q=>?_,hd⟩;cases q;obtain⟨c,_,_,h1,h,_⟩:=g;exact⟨c,h1,h.2.1⟩
section
variable{X:Cx}{pins:List (dQ×Obj)}{σ:St}{H:Hp}{s:cp}{a:dQ}{y d:V}{u r:bV}{o:Option V}{A:fb}{E:bV->cp->Prop}
theorem Vq{Q:bV->cp->Prop}(p:A.units+1<i9)(I:Inv X pins σ H s)(g:zA H a y o)(j:RelV y u)(rd:RelV d r)(h:∀m n,Inv X pins σ H n->RelV (o.getD d) m->Q m n):d_ (ef X.prog X.w) A (call (.builtin "dict.get") [.ref a,u,r]) Q E s:=by
 rcases g with⟨kvs,k,e,i,l⟩|⟨kvs,k,b,e,i,q,l⟩;.subst i;obtain⟨z,hd,vs,c,f⟩:=zF I.hok e;refine call_meetsIn slot_dict_get f.typeIs PySem.F.entry_dict_get (PySem.F.args_dict_get_3 _ _ _) (meets_dict_get_default (cJ X.prog X.w) a (En j) hd r) ⟨_,f.mapOf,h _ _ (I.tok _) ?_⟩;rw[l];exact(c.val k).getD rd
 .subst i;cases(show u=eR b from j);obtain⟨z,hd,xs,c,f⟩:=xN I.hok e;refine call_meetsIn slot_dict_get f.typeIs PySem.F.entry_dict_get (PySem.F.args_dict_get_3 _ _ _) (meetsH_dict_get_default (mP (cJ X.prog X.w)) a b hd r) ⟨nM p,k,xs,vC I.hok q,f,h _ _ (I.tok _) ?_⟩;rw[l];exact(c.val k).getD rd
end
noncomputable def Wf(e ty f:TE):TE:=λσ H Q=>e σ H λx b=>∃a,x=.ref a/\IsD b a/\ty σ b λy g=>f σ g λz c=>∃o,zA c a y o/\Q (o.getD z) c
section
variable{X:Cx}{o e f:eB}{apos cpos:Pos}{td ty tx:TE}
theorem zg(c:X.A.units+1<i9)(ho:PE X o td)(he:PE X e ty)(i:PE X f tx)(m:M2 X o "get" apos e f cpos):PE X (.Call (.Attribute o "get" apos) [e,f] [] cpos) (Wf td ty tx):=by intro b s σ H Q I h;refine wpAny_Call_method m.base m.few m.line PySem.F.plainAttrs_dict slot_dict_get PySem.F.type_dict_get (dz (ho b s σ H _ I h) λu s1⟨x,H1,I1,rx,a,ex,d,q1⟩=>?_);subst ex;obtain rfl:u=eR a:=rx;obtain⟨t1,j,_⟩:=Tw I1 d;refine⟨t1,j,?_⟩;rw[m.trees];refine pr rfl (q7 (kX (dz (he b s1 σ H1 _ I1 q1) λp s2⟨y,H2,I2,ry,q2⟩=>kX (dz (i b s2 σ H2 _ I2 q2) λq s3⟨z,H3,I3,rz,ov,g,q3⟩=>mN ?_))));exact Vq c I3 g ry rz λr s4 l n=>⟨_,H3,l,n,q3⟩
end
end _L
namespace _H
open PySem _L Spec PyProof.Rows
variable{i:Nat}
inductive KR(K:PySem.W.Frag)(F:Hp):List (Int×D)->List (Key×V)->Prop where|nil:KR K F [] []|cons{k:Int}{d:D}{v:V}{kvs:List (Int×D)}{es:List (Key×V)}(h:Rep K F v d)(t:KR K F kvs es):KR K F ((k,d)::kvs) ((e_ k,v)::es)
section
variable{K:PySem.W.Frag}{F F':Hp}
noncomputable def ent(ks:List Int)(vs:List V):List (Key×V):=(ks.zip vs).map λp=>(e_ p.1,p.2)
theorem KR.get{kvs:List (Int×D)}{es:List (Key×V)}{k:Int}{d:D}(h:KR K F kvs es)(e:Oq kvs k=aD d):∃v,m9 es (e_ k:Key)=aD v/\Rep K F v d:=by induction h with|nil=>cases e|@cons j d' v kvs es h t a=>
   unfold Oq at e a;rw[i7]at e;by_cases c:j=k;.simp[c]at e;subst e;exact⟨v,oY (by rw[c]),h⟩
   .simp[c]at e;obtain⟨b,h1,f⟩:=a (by simpa using e);exact⟨b,by rw[nZ (by simpa using c)];exact h1,f⟩
theorem KR.zip{ks:List Int}{a:List D}{vs:List V}(h:aH K F vs a)(b:ks.length=a.length):KR K F (ks.zip a) (ent ks vs):=by induction a generalizing ks vs with
 |nil=>rw[h.ie];cases ks with|nil=>exact .nil|cons _ _=>simp at b
 |cons d a c=>obtain⟨v,r,rfl,h1,e⟩:=h.cW;cases ks with|nil=>simp at b|cons k ks=>exact .cons h1 (c e (by simpa using b))
end
section
variable{K:PySem.W.Frag}{F F1 H H1:Hp}{ρ ρ1 ρ2:List Sl}{σ σ1:_L.St}
theorem GS.aac{x:Nat}{m r:Dc}{a:dQ}(g:GS K F ρ σ H)(e:ρ[x]?=aD (.eG m))(s:σ[x]?=aD (aD (.ref a))):bW K F ρ σ H F (ρ.set x (.eG r)) σ (upd H a r.ho):=by
 have hi:x<ρ.length:=(gC e).1;have w:bM ρ σ x a:=⟨⟨_,_,e,rfl⟩,s⟩;obtain⟨I,J,h1,L,y,M⟩:=g.own x _ _ e rfl;rw[s]at h1;cases h1;have f:∀{j:Nat}{c:dQ},bM (ρ.set x (.eG r)) σ j c->bM ρ σ j c:=λ{j c}⟨⟨t,h,p,u⟩,q3⟩=>by
  by_cases b:j=x;.subst b;exact⟨⟨_,_,e,rfl⟩,q3⟩
  .rw[jj b]at p;exact⟨⟨t,h,p,u⟩,q3⟩
 refine⟨⟨λc o q=>?_,by simp[g.len],λj z d q=>?_,λj t h q v=>?_,λj k c p u=>g.dis j k c (f p) (f u)⟩,.refl _,λc n A=>absurd n A,λc o q n=>?_,λc⟨j,q⟩=>.inl ⟨j,f q⟩,by simp,λj t q l=>⟨rfl,?_⟩⟩
 . have:c≠a:=by rintro rfl;rw[y]at q;cases q
   rw[aG this];exact g.sub c o q
 . by_cases b:j=x;.subst b;rw[dS hi]at q;cases q
   .rw[jj b]at q;exact g.val j z d q
 . by_cases b:j=x;.subst b;rw[dS hi]at q;cases q;cases v;exact⟨a,_,s,bf,y,rfl⟩
   . rw[jj b]at q;obtain⟨c,B,w1,C,E,G⟩:=g.own j t h q v;have:c≠a:=by rintro rfl;exact b (g.dis j x c ⟨⟨t,h,q,v⟩,w1⟩ w)
     exact⟨c,B,w1,by rw[aG this];exact C,E,G⟩
 . have:c≠a:=by rintro rfl;exact n ⟨x,w⟩
   rw[aG this];exact q
 . by_cases b:j=x;.subst b;rw[e]at q;cases q;cases l
   .exact⟨t,by rw[jj b];exact q,.refl t⟩
theorem GS.newD{m:Dc}{a:dQ}(g:GS K F ρ σ H)(e:ρ[i]?=aD .aN)(s:H a=b_):bW K F ρ σ H F (ρ.set i (.eG m)) (σ.set i (aD (.ref a))) (upd H a m.ho):=by
 have hi:i<ρ.length:=(gC e).1;have u:i<σ.length:=by rw[<-g.len];exact hi
 have x:F a=b_:=by cases q:F a with|none=>rfl|some o=>rw[g.sub a o q]at s;cases s
 have f:∀{j:Nat}{c:dQ},j≠i->bM (ρ.set i (.eG m)) (σ.set i (aD (.ref a))) j c->bM ρ σ j c:=λ{j c}b⟨⟨t,ds,e1,e2⟩,e3⟩=>by rw[jj b]at e1 e3;exact⟨⟨t,ds,e1,e2⟩,e3⟩
 have h:∀{c:dQ},bM (ρ.set i (.eG m)) (σ.set i (aD (.ref a))) i c->c=a:=λ{c}⟨_,e3⟩=>by rw[dS u]at e3;cases e3;rfl
 have y:∀{j:Nat},¬ bM ρ σ j a:=λ{j}⟨⟨t,ds,e1,e2⟩,e3⟩=>by obtain⟨c,o,p,r,_⟩:=g.own j t ds e1 e2;rw[e3]at p;cases p;rw[s]at r;cases r
 refine⟨⟨λc o q=>?_,by simp[g.len],λj A d q=>?_,λj t B q z=>?_,λj k c p r=>?_⟩,.refl _,λc n C=>absurd n C,λc o q n=>?_,λc⟨j,q⟩=>?_,by simp,λj t q l=>?_⟩
 . have:c≠a:=by rintro rfl;rw[x]at q;cases q
   rw[aG this];exact g.sub c o q
 . by_cases b:j=i;.subst b;rw[dS hi]at q;cases q
   .rw[jj b]at q ⊢;exact g.val j A d q
 . by_cases b:j=i;.subst b;rw[dS hi]at q;cases q;cases z;exact⟨a,_,dS u,bf,x,rfl⟩
   . rw[jj b]at q ⊢;obtain⟨c,o,w1,w,E,G⟩:=g.own j t B q z;have:c≠a:=by rintro rfl;rw[s]at w;cases w
     exact⟨c,o,w1,by rw[aG this];exact w,E,G⟩
 . by_cases b:j=i
   . by_cases v:k=i;.rw[b,v]
     .subst b;rw[h p]at r;exact absurd (f v r) y
   . by_cases v:k=i;.subst v;rw[h r]at p;exact absurd (f b p) y
     .exact g.dis j k c (f b p) (f v r)
 . have:c≠a:=by rintro rfl;rw[s]at q;cases q
   rw[aG this];exact q
 . by_cases b:j=i;.subst b;rw[h q];exact .inr s
   .exact .inl ⟨j,f b q⟩
 . have b:j≠i:=by rintro rfl;rw[e]at q;cases q;cases l
   exact⟨by rw[jj b],t,by rw[jj b];exact q,.refl t⟩
end
noncomputable def zp(p:Int×Int):Key×V:=(e_ p.1,V.int p.2)
theorem Mu(i:Int):∀kvs:List (Int×Int),m9 (kvs.map zp) (e_ i:Key)=((kvs.find? λb=>decide (b.1=i)).map (·.2)).map V.int
 |[]=>rfl|p::kvs=>by
   have a:=Mu i kvs;unfold m9 at a ⊢;rw[eK,i7,i7];by_cases h:p.1=i
   . have e:decide ((zp p).1=(e_ i:Key))=ck:=by simp[zp,h]
     rw[e];simp[h,zp]
   . have e:decide ((zp p).1=(e_ i:Key))=a_:=by simp[zp,h]
     rw[e];simp only[h,decide_false];exact a
theorem VM(i v:Int)(kvs:List (Int×Int)):putK (kvs.map zp) (e_ i:Key) (V.int v)=(putD kvs i v).map zp:=by
 have e:((kvs.map zp).any λa=>decide (a.1=(e_ i:Key)))=kvs.any λa=>decide (a.1=i):=by rw[List.any_map];congr 1;funext p;simp[zp]
 unfold putK putD;rw[e];split
 . rw[eC,eC];refine fe λp _=>?_;by_cases h:p.1=i;.simp[zp,h]
   .simp[zp,h]
 .rw[kM];rfl
section
variable{X:Cx}{c:Call}{n:Nat}{a b e:eB}{pa pb p:P}{pos:Pos}
theorem Jo{H:Hp}{q:dQ}{m:Dc}{i:Int}{o:Option Int}(h:Rd H q m.ho)(e:m.get (.int i)=aD o):zA H q (.int i) (o.map V.int):=by cases m with|k kvs=>cases e;exact .inl ⟨kvs.map zp,e_ i,h,rfl,(Mu i kvs).symm⟩|t kvs=>cases e
theorem wQ(hu:X.A.units+8<i9)(M:SX X c a pa)(N:SX X c b pb)(hs:O4 b):SX X c (.Subscript a b pos) (.bin .Hz pa pb):=by refine vP (f:=uK) (λh1 O=>?_) M N (λρ=>rfl) rfl;intro l s σ H Q I h;refine DW PySem.F.slot_dict_getitem.lookup hs (dz (h1 l s σ H _ I h) λu s1⟨x,H1,I1,rx,q1⟩=>dz (O l s1 σ H1 _ I1 q1) λiv s2⟨y,H2,I2,ry,q2⟩=>?_);obtain⟨F,d,e,r,sm,G,J,he,k⟩:=q2;cases d with
 |dD m=>have U:=bF (show(m.get e).bind (λo=>o.map λv=>R.val (.int v))=aD r from he);clear he;obtain⟨o,w,he⟩:=U;cases o with|none=>cases he|some v=>
     cases he;obtain⟨i,rfl⟩:∃i,e=.int i:=by cases m with|t kvs=>cases e<;>cases w|k kvs=>cases e<;>first|exact⟨_,rfl⟩|cases w
     obtain⟨q,z,rfl,B⟩:=G.dD sm;rw[J.int]at ry;obtain rfl:u=eR q:=rx;have g:=Jo (.inr ⟨z,B⟩) w;exact⟨lz I2 g,pH (by lia) I2 g ry λW s3 C E=>⟨.int v,H2,C,E,dh.eX sm (bO _) k⟩⟩
 |dv ks Y=>cases e with|int j=>obtain⟨d',Z,he⟩:=map_some (show(Oq (ks.zip Y) j).map R.val=aD r from he);subst he;obtain⟨q,z,vs,rfl,B,rs,hl⟩:=G.dv sm;obtain⟨L,g1,g2⟩:=(KR.zip rs hl).get Z;rw[J.int]at ry;obtain rfl:u=eR q:=rx;have g:zA H2 q (.int j) (aD L):=.inl ⟨_,e_ j,.inr ⟨z,B⟩,rfl,g1.symm⟩;exact⟨lz I2 g,pH (by lia) I2 g ry λW s3 C E=>⟨L,H2,C,E,dh.eX sm g2 k⟩⟩|_=>cases he
 |_=>cases he
theorem Qk{x:Str}{f h:Pos}(j:X.N.Nodup)(hi:X.N[i]?=aD x)(l:Loc X.env.scope x)(hs:jn (.Dict [] [] h) (aD (.Name x f)) pos.line X.env=fI a_:=by rfl)(o:X.fn x=ck\/X.env.scope.names.lookup x=aD .local:=by first|(left;rfl)|(right;rfl)|assumption):SS X c n (.Assign [.Name x f] (.Dict [] [] h) pos) (.xm i a_):=by
 refine gH (Bh j hi l K8 hs o) ?_;rintro D σ H⟨F,ρ,t,r,g,e,k⟩;rw[_H.X15]at e;split at e;.rename_i q;cases e;exact λa s=>k F _ _ (g.newD (m:=.k []) q s)
 .cases e
theorem KD{x:Str}{C f l:Pos}{pk E:P}(hu:X.A.units+8<i9)(W:X.N[i]?=aD x)(hv:xR X.env.scope x)(Y:SX X c a pk)(Z:SX X c b E)(m:M2 X (.Name x C) "get" f a b l)(hd:(x==("__debug__":Str))=a_:=by decide)(u:(x==("__classdict__":Str))=a_:=by decide):SX X c (.Call (.Attribute (.Name x C) "get" f) [a,b] [] l) (.Wl i pk E):=by
 obtain⟨ta,h1,h2⟩:=Y.cT;obtain⟨tb,h3,h4⟩:=Z.cT;refine⟨gG (zg (by lia) (gP W hv hd u) h1 h3 m) ?_,λi h=>by cases h⟩;rintro σ H Q⟨F,ρ,r,ab,g,e,k⟩;rw[_H.E23]at e;split at e
 . rename_i m0 q;obtain⟨y,ac,e1,G⟩:=aj e;clear e;obtain⟨dd,ae,e2,s⟩:=aj G;clear G;obtain⟨I,o0,w1,J,w3,w4⟩:=g.own i _ _ q rfl;refine⟨.ref I,w1,I,rfl,?_,?_⟩;.cases(show o0=m0.ho from w4);cases m0 with|k kvs=>exact .inl ⟨_,.inl J⟩|t kvs=>exact .inr ⟨_,.inl J⟩
   . refine h2 g e1 λv F1 H1 s1 pv=>h4 s1.gs e2 λz L H2 s2 M=>?_;split at s
     . rename_i m1 q1;obtain⟨O,e3⟩:=aF s;clear s;subst e3;obtain⟨o,B,eD⟩:=bF O;clear O;obtain⟨w,e5,e6⟩:=map_some eD;subst e6;obtain⟨a1,o1,U,y2,y3,y4⟩:=s2.gs.own i _ _ q1 rfl;rw[w1]at U;cases U;cases(show o1=m1.ho from y4);obtain⟨j,rfl⟩:∃j,y=.int j:=by cases m1 with|t kvs=>cases y<;>cases B|k kvs=>cases y<;>first|exact⟨_,rfl⟩|cases B
       rw[bK e5]at M;rw[pv.int,M.int];refine⟨o.map V.int,Jo (.inl y2) B,?_⟩;have:(o.map V.int).getD (V.int w)=V.int (o.getD w):=by cases o<;>rfl
       rw[this];exact k _ L H2 (s1.trans s2) (show Rep X.K L _ _ from bO _)
     .cases s
 .cases e
theorem Dd{x:Str}{B f:Pos}{pk:P}(hu:X.A.units+8<i9)(I:X.N[i]?=aD x)(hv:xR X.env.scope x)(J:SX X c a pk)(he:SX X c e p)(hs:jn e (aD (.Subscript (.Name x B) a f)) pos.line X.env=fI a_:=by rfl)(hd:(x==("__debug__":Str))=a_:=by decide)(s:(x==("__classdict__":Str))=a_:=by decide):SS X c n (.Assign [.Subscript (.Name x B) a f] e pos) (.dput i pk p):=by
 obtain⟨ta,h1,L⟩:=J.cT;refine gH (Fb (by lia) (gP I hv hd s) h1 he.ev hs) ?_;rintro D σ H⟨F,ρ,fl,M,g,e,k⟩;rw[_H.X16]at e;obtain⟨r,u,O,o⟩:=aj e;clear e;refine⟨F,ρ,r,u,g,O,λv F1 H1 s1 Q=>?_⟩;split at o
 . rename_i m0 U;obtain⟨C,W,Y,h⟩:=aj o;clear o;obtain⟨z,o0,w1,w2,w3,w4⟩:=s1.gs.own i _ _ U rfl;refine⟨.ref z,w1,L s1.gs Y λy Z H2 s2 py=>?_⟩;split at h
   . rename_i m w q;split at h;.rename_i E l;cases h;obtain⟨a1,o1,G,y2,y3,y4⟩:=s2.gs.own i _ _ q rfl;rw[w1]at G;cases G;cases(show o1=m.ho from y4);cases(show v=.int w by have:Rep X.K F1 v (.int w):=Q;rwa[Rep]at this);refine⟨z,upd H2 z E.ho,rfl,?_,k Z σ _ ((s1.trans s2).trans (s2.gs.aac q w1))⟩;cases m with|t kvs=>cases C<;>cases l|k kvs=>cases C with|int j=>obtain⟨hl,l⟩:=bL (show(if kvs.length<lim then aD (Dc.k (putD kvs j w))else b_)=aD E from l);subst l;rw[py.int];refine .inl ⟨kvs.map zp,e_ j,y2,rfl,by rw[en,gX];exact hl,?_⟩;rw[VM];rfl|_=>cases l
     .cases h
   .cases h
 .cases o
end
end _H
namespace _L
open PySem Spec PyProof.Rows
noncomputable def Itk(a:dQ)(b:Obj)(kvs:List (Key×V)):It:=⟨λi H=>H a=aD (.fG b (.dK kvs))/\i<kvs.length,λi H x H'=>H'=H/\∃p,kvs[i]?=aD p/\x=kV p.1,λi H=>H a=aD (.fG b (.dK kvs))/\kvs.length<=i⟩
theorem KV.get:∀{κ:Type}{kvs:List (κ×V)}{vs:List (κ×bV)}{i:Nat}{p:κ×V},KV kvs vs->kvs[i]?=aD p->∃v,vs[i]?=aD (p.1,v)|_,_,_,_,_,.nil,e=>by simp at e|_,_,_,0,_,.cons r _,e=>by simp at e;subst e;exact⟨_,by rw[po,r.1]⟩|_,_,_,i+1,p,.cons _ t,e=>by obtain⟨v,h⟩:=KV.get (i:=i) (p:=p) t (by simpa using e);exact⟨v,by simpa using h⟩
theorem uX{X:Cx}{b:List (dQ×Obj)}{σ:St}{H:Hp}{s:cp}{a:dQ}{c:Obj}{kvs:List (Key×V)}{es:Array l6}{ep:Nat}(I:Inv X b σ H s)(h:H a=aD (.fG c (.dK kvs)))(hd:c.data=.dict es ep):(a==hE)=a_/\∃vs,KV kvs vs/\s.heap.DictAt (cJ X.prog X.w) a vs ep:=by obtain⟨ho,n,f,vs,r,g⟩:=(show cM X.prog X.w H s.heap a (.fG c (.dK kvs))from I.hok a _ h);obtain⟨o,i,j,h1,l,e,m⟩:=g;rw[ho]at h1;cases h1;rw[hd]at e;cases e;exact⟨f,vs,r,⟨c,es,ho,l,hd,m⟩⟩
theorem SN{P:ek}{w:fg}{k:Key}{u:bV}(h:(cJ P w).is k u=ck):RelV (kV k) u:=by
 rcases cH h with⟨i,t,rfl,rfl⟩|⟨x,t,rfl,rfl⟩;.exact⟨t,rfl⟩
 .exact⟨t,rfl⟩
theorem Hs{P:ek}{w:fg}{K:PySem.W.Frag}{C:eB}(a it:dQ)(B:Obj)(kvs:List (Key×V))(es:Array l6)(ep:Nat)(hd:B.data=.dict es ep):Turn P w K C (Itk a B kvs) [it] it (λi h=>h.IsKeyIter it a i kvs.length ep)where
 mem:=by simp
 obj:=λi h st b g=>by
  have e:b=it:=by simpa using g
  subst e;obtain⟨o,e,c,d⟩:=st;exact⟨o,e,λv z=>by rw[d]at z;cases z⟩
 keep:=λi h h' st k=>st.at λo e=>k it (by simp) o e;item:=by intro X n p q hc i f s σ H E I m st t;subst n p q;obtain⟨x,hi⟩:=t;obtain⟨G,vs,r,y⟩:=uX I x hd;have l:vs.length=kvs.length:=(Paired.length r).symm;obtain⟨v,J⟩:=KV.get r (show kvs[i]?=aD kvs[i]by simp[hi]);obtain⟨f0,f1,f2,f3,f4,f5⟩:=m it (by simp);refine wpAny_pyNext_dict_item (by rw[l];exact st) y J λu h' L j M=>?_;have N:Inv X f σ H {s with heap:=h'}:=I.turned (t':=s.toks) (λb o g e=>(M.2 b g).trans e) f0 f1 f3 f4 f5;rw[l]at j;obtain⟨o,e,c,d⟩:=id j;exact⟨u,rfl,xP (s:={s with heap:=h'}) e c d (by decide) ⟨_,H,N,SN L,⟨rfl,_,by simp[hi],rfl⟩,j,λb g=>(m b g).1⟩⟩
 done:=by intro X n p q hc i f s σ H E I m st t;subst n p q;obtain⟨x,hi⟩:=t;obtain⟨G,vs,r,y⟩:=uX I x hd;have l:vs.length=kvs.length:=(Paired.length r).symm;obtain⟨f0,f1,f2,f3,f4,f5⟩:=m it (by simp);refine wpAny_pyNext_dict_end (I.ok.hd hc) (by rw[l];exact st) y (by simp[l,hi]) λh' he=>⟨rfl,?_⟩;exact I.turned (t':=s.toks) (λb o g e=>he b o g e) f0 f1 f3 f4 f5
 self:=λA i s Q E st O=>sM st O
section
variable{X:Cx}{tg:eB}
theorem NQ{l:eB}{m:TE}(p:PE X l m):PI X tg l (λσ H R=>m σ H λx f=>∃a c kvs,x=.ref a/\f a=aD (.fG c (.dK kvs))/\R (Itk a c kvs) f):=by
 intro g s σ H R I h;refine dz (p g s σ H _ I h) ?_;rintro v s1⟨x,f,j,r1,a,c,kvs,e,t,q⟩;subst e;cases r1;obtain⟨ho,C,u,vs,r,y⟩:=(show cM X.prog X.w f s1.heap a (.fG c (.dK kvs))from j.hok a _ t);obtain⟨o,es,ep,h1,z,n,A⟩:=id y;rw[ho]at h1;cases h1;have i:vs.length=kvs.length:=(Paired.length r).symm;refine wpAny_pyIter_dict (knd:=cJ X.prog X.w) (kvs:=vs) (ep:=ep) u ⟨c,es,ho,z,n,A⟩ ?_;refine⟨s1.heap.objs.size,[s1.heap.objs.size],_,_,f,rfl,j.kept (t':=s1.toks) λb o e=>eO e,Hs a _ c kvs es ep n,⟨_,dZ _ rfl,rfl,by rw[i];rfl⟩,λb B=>?_,q⟩;have e:b=s1.heap.objs.size:=by simpa using B
 subst e;exact j.xg (di) (j.hok.fresh (di))
end
end _L
namespace _H
open PySem _L Spec PyProof.Rows
section
variable{X:Cx}{c:Call}{tg e:eB}{p:P}
theorem Pj{ks:List Int}{es:List (Key×V)}{j:Nat}{p:Key×V}{i:Int}(h:es.map (·.1)=ks.map (e_:Int->Key))(a:es[j]?=aD p)(b:ks[j]?=aD i):p.1=e_ i:=by
 have:(es.map (·.1))[j]?=(ks.map (e_:Int->Key))[j]?:=by rw[h]
 rw[eI,eI,a,b]at this;exact gb this
theorem za:∀{ks:List Int}{vs:List V},ks.length=vs.length->(ent ks vs).map (·.1)=ks.map (e_:Int->Key)|[],[],_=>rfl|k::ks,v::vs,h=>by have:=za (ks:=ks) (vs:=vs) (by simpa using h);unfold ent at this ⊢;simpa using this|[],_::_,h=>by simp at h|_::_,[],h=>by simp at h
theorem Df(h:SX X c e p):SI X c tg e (.blt .keys [p]):=by
 unfold SI;obtain⟨ta,h1,W⟩:=h.cT;refine mW (NQ h1) ?_;rintro σ H R⟨F,ρ,A,B,g,Y,k⟩;obtain⟨r,o,I,Z⟩:=aj (show((_H.ev c (.blt .keys [p]) ρ).bind λr ρ=>lift (items r.d) ρ)=.ok A B from Y);obtain⟨J,e3⟩:=aF Z;subst e3;rw[_H.E16]at I;obtain⟨d,ab,e1,eE⟩:=aj I;obtain⟨y,e4⟩:=aF eE;subst e4;refine W g e1 λv F' H' s L=>?_;have hd:∃(ks:List Int)(es:List (Key×V))(a:dQ)(b:Obj),A=ks.map D.int/\v=.ref a/\H' a=aD (.fG b (.dK es))/\es.map (·.1)=ks.map (e_:Int->Key):=by cases d with
  |dD m=>cases m with|k kvs=>cases y;cases J;obtain⟨a,b,rfl,f⟩:=L.dD s.gs.sub;exact⟨kvs.map (·.1),kvs.map zp,a,b,by rw[eC];rfl,rfl,f,by rw[eC,eC];rfl⟩|t kvs=>cases y
  |dv ks ac=>cases y;cases J;obtain⟨a,b,vs,rfl,f,rs,hl⟩:=L.dv s.gs.sub;exact⟨ks,ent ks vs,a,b,rfl,rfl,f,za (by rw[rs.length];exact hl)⟩|_=>cases y
 obtain⟨ks,es,a,b,rfl,rfl,f,u⟩:=hd;have C:es.length=ks.length:=by have:=congrArg rb u;simpa using this
 refine⟨a,b,es,rfl,f,k _ F' H' ⟨s.gs,λn j M o E H2 s2=>?_,λM o E H2 s2=>⟨s.trans s2,λv r rr=>rr.later s⟩⟩⟩;have gm:=s.gs.more (n:=n) (τ:=dV n b_) (by simp);have w:=s2.keep a _ f λ⟨j,⟨t,N,q1,q2⟩,q3⟩=>by obtain⟨a',o',O,Q,z3,G⟩:=gm.own j t N q1 q2;rw[q3]at O;cases O;rw[f]at Q;cases Q;cases N with|l A=>obtain⟨xs,z,_⟩:=G;cases z|d m=>cases m<;>cases G|v kvs=>obtain⟨xs,z,_⟩:=G;cases z
 refine⟨λd hd=>?_,λU=>⟨w,by rw[C];simpa using U⟩⟩;have U:j<ks.length:=by have:=(gC hd).1;simpa using this
 refine⟨⟨w,by lia⟩,λx kW⟨e5,q,e6,e7⟩=>?_⟩;subst e5;refine⟨M,.refl s2.gs.sub,?_⟩;rw[eI]at hd;obtain⟨i,e8,e9⟩:=map_some hd;rw[e7,Pj u e6 e8,<-e9];exact bO _
end
end _H
namespace _H
open PySem _L Spec PyProof.Rows Calls W
section
variable{prog:ek}{w:fg}{A:fb}{E:bV->cp->Prop}{s:cp}
theorem vH{κ:Type}[DecidableEq κ]{knd:PySem.KeyKind prog w κ}{d:dQ}{kvs:List (κ×bV)}{ep:Nat}{Q:List bV->cp->Prop}(p:A.handled=b_)(lo:(d==hE)=a_)(j:s.heap.DictAt knd d kvs ep)(q:kvs.length<=sizeLine)(t:∀h' h c,(∀b o,s.heap.get? b=aD o->h'.get? b=aD o)->s.heap.objs.size<h'.objs.size->ItemsOf (λi v=>∃k x,kvs[i]?=aD (k,x)/\knd.is k v=ck) c kvs.length->Q c.toList {s with heap:=h',toks:=h}):
 d_ (ef prog w) A (collect (.ref d)) Q E s:=by have f:=j.lt_size;unfold collect;refine bx (wpAny_runValue (me F.entry_proto_collect ?_));rw[kw F.plain_proto_collect _];show d_ _ A.in1 (newList []>>=λl=>again (.builtin "list.__iadd__" ⟨[l,.ref d],[]⟩)) _ _ s;refine bx (eJ ?_);refine c_ ⟨nr F.plain_list_iadd _,me F.entry_list_iadd ?_⟩;rw[kw F.plain_list_iadd _];show d_ _ A.in1 (qb (.ref s.heap.objs.size) (.ref d) (.ref s.heap.objs.size)) _ _ _;refine kdl_extend (A:=A) (R:=λr m=>match r with
  |.ok (.ret v)=>d_ (ef prog w) A (match v with
   |.ref a=>do let o<-load a match o.data with|.seq xs _=>fI xs.toList|_=>oS "internal:collect"
   |_=>oS "internal:collect") Q E m|.ok _=>False|.error e=>E e m) (s:={s with heap:=s.heap.push {cls:=.type "list",data:=.seq #[]}}) (kdl_dict (knd:=knd) (kvs:=kvs) (ep:=ep) lo) p (j.push _) s.heap.objs.size (qa f) (qa f) _ 0 (dZ _ rfl) (λh' h c y u n g=>?_) q;refine bx (wpAny_load n ?_);exact c_ (t h' h c (λb o e=>u b o (eS (eA e)) (eO e)) (eA n) g)
end
theorem sG{P:ek}{w:fg}:∀{kvs:List (Int×Int)}{vs:List (Key×bV)}{a:List bV},KV (kvs.map zp) vs->a.length=vs.length->(∀(j:Nat)(v:bV),a[j]?=aD v->∃(k:Key)(x:bV),vs[j]?=aD (k,x)/\(cJ P w).is k v=ck)->io a (kvs.map (·.1))
 |[],_,a,.nil,h,_=>by cases a with|nil=>exact .nil|cons _ _=>simp at h
 |p::kvs,_,a,.cons (b:=q) r t,h,k=>by cases a with|nil=>simp at h|cons v a=>
     obtain⟨g,x,f,l⟩:=k 0 v rfl;simp at f;have m:g=e_ p.1:=by have z:=r.1;rw[f]at z;exact z.symm
     subst m;obtain⟨i,n,c,rfl⟩|⟨_,_,c,_⟩:=cH (show rR (e_ p.1) v=ck from l);.cases c;exact .cons _ n (sG t (by simpa using h) λj v e=>k (j+1) v (by simpa using e))
     .cases c
section
variable{X:Cx}{c:Call}{a:eB}{pa:P}{pos:Pos}
theorem nU:∀{ns:List Int}{b:List bV},io b ns->Vals (ns.map V.int) b|_,_,.nil=>.nil|_,_,.cons n t r=>.cons ⟨t,rfl⟩ (nU r)
theorem pM{K:PySem.W.Frag}{F:Hp}:∀ns:List Int,aH K F (ns.map V.int) (ns.map D.int)|[]=>.nil|n::ns=>.cons (bO n) (pM ns)
theorem Nt(hc:X.calm=ck):dO X (.builtin "sorted") (Hm X.K λx=>blt .zH [x]):=by
 rintro U s σ H xs us Q I r⟨x,hx,F,d,r',sm,px,he,k⟩;obtain⟨kvs,rfl⟩:∃kvs,d=.dD (.k kvs):=by cases d with
  |dD m=>cases m with|k kvs=>exact⟨kvs,rfl⟩|t kvs=>cases he
  |_=>cases he
 obtain⟨W,he⟩:=bL (show(if sortable (kvs.map λp=>D.int p.1)=ck then aD (R.own (lu (kvs.map λp=>D.int p.1)))else b_)=aD r' from he);subst he;obtain⟨q,ob,rfl,hq⟩:=px.dD sm;subst hx;obtain⟨u,rfl,rx⟩:=r.one;cases rx;obtain⟨ho,hz,hS,vs,Y,G⟩:=(show cM X.prog X.w H s.heap q (.fG ob (.dK (kvs.map zp)))from I.hok q _ hq);obtain⟨ep,G⟩:=G.dictAt;have hl:vs.length=kvs.length:=by rw[<-Paired.length Y,en]
 have n:=W;simp only[sortable,gi,decide_eq_true_eq,en]at n;have ac:=n.1;refine ox kind_sorted plain_sorted entry_sorted (args_sorted1 _) ?_;unfold gE.«sorted»;refine bx (m:=checkCount "sorted" 1 1 _) (c_ ?_);refine bx (vH (A:=X.A.in1) (knd:=cJ X.prog X.w) (I.ok.hd hc) hS G (by rw[hl,gX];lia) λh1 J i kp hsz h=>?_);have l:io i.toList (kvs.map (·.1)):=sG (P:=X.prog) (w:=X.w) Y (by rw[jv];exact h.1) λj v e=>h.2 j v (by rw[<-lx];exact e);have y:i.toList.length=kvs.length:=by rw[kP l,en]
 generalize i.toList=f at l y;refine bx (rg ?_ (by rw[gX];lia));have hsz:=n8 hsz;generalize Z:(h1.push {cls:=.type "list",data:=.seq f.toArray}:Heap)=E;have B:E.get? h1.objs.size=aD (mv "list" f.toArray 0):=by rw[<-Z];exact dZ _ rfl
 have zN:∀b o,s.heap.get? b=aD o->E.get? b=aD o:=λb o e=>by rw[<-Z];exact eO (kp b o e)
 have L:∀b o,s.heap.get? b=aD o->b≠h1.objs.size:=λb o e=>eS (eA (kp b o e));show d_ _ _ _ _ _ {s with heap:=E,toks:=J};refine bx (h_ (fm slot_list_sort ⟨_,B,rfl⟩ entry_list_sort ?body (args_list_sort _)));case body=>
  refine yN (s:={s with heap:=E,toks:=J}) (κ:=oneType') B W (by lia) (by have:=Mi l;rwa[eC]at this) Et (λh' M C N h2=>?_) (λh' M u v d e hd he C N=>?_) λh' cc p M p1 p2 e=>?_;.match f,l,h2 with|v1::v2::ab,l,_=>rw[keyKind_ints l];exact c_ N
  .exact DY hd he N
  . refine⟨_,rfl,c_ ⟨_,rfl,?_⟩⟩;have kk:∀b o,s.heap.get? b=aD o->h'.get? b=aD o:=λb o z=>M b o (L b o z) (zN b o z);refine⟨.ref h1.objs.size,_,I.laid (t':=J) (o:=.lst (pick .non p ((kvs.map (·.1)).map V.int))) (h':=h') kk hsz ⟨by rw[oX p1,y,gX];lia,pick .none p f,cc,yz (nU l),e⟩,rfl,?_⟩;have O:aH X.K F (pick .non p ((kvs.map (·.1)).map V.int)) (lu (kvs.map λp=>D.int p.1)):=by rw[<-p2];refine yO ?_;have:=pM (K:=X.K) (F:=F) (kvs.map (·.1));rwa[eC (g:=D.int)]at this
    exact vI sm O (I.hok.fresh hsz) k
theorem Jk{x:Str}{b:Pos}(e:x="sorted")(hc:X.calm=ck)(f:Gl X x)(g:X.mg x=b_)(i:SX X c a pa)(hs:ea [a] X.env=(a_,fF a X.env)::ea [] X.env:=by rfl):SX X c (.Call (.Name x b) [a] [] pos) (.blt .zH [pa]):=by subst e;exact kI (λh=>fj (Nt hc) f g boot_sorted h (he:=hs)) i (λρ=>rfl) rfl hs
end
end _H
namespace _H
open PySem _L Spec PyProof.Rows
variable{i:Nat}{x:Str}{px:Pos}
theorem Uy{F H:Hp}{xs:List V}{p:dQ}(s:aM F H)(c:H p=b_):Ext F H (upd F p (.tup xs)) (upd H p (.tup xs)):=by
 have g:F p=b_:=by cases q:F p with|none=>rfl|some o=>have:=s p o q;rw[c]at this;cases this
 refine⟨aM.eV c,aM.eV g,λb o e=>?_,λb n f=>?_⟩
 . by_cases a:b=p;.rw[a,bf]at e ⊢;exact e
   .rw[aG a]at e ⊢;exact s b o e
 . by_cases a:b=p;.rw[a];exact mj c
   .rw[aG a]at f;exact absurd n f
noncomputable def J5(p:List Int×Int):List Key×V:=(p.1.map e_,V.int p.2)
theorem yH:∀{a b:List Int},(a.map e_:List Key)=b.map e_->a=b|[],[],_=>rfl|[],_::_,h=>by cases h|_::_,[],h=>by cases h|x::a,y::b,h=>by rw[eK,eK]at h;injection h with h1 h2;injection h1 with h1;rw[h1,yH h2]
theorem xM(a b:List Int):decide ((a.map e_:List Key)=b.map e_)=decide (a=b):=by
 by_cases h:a=b;.subst h;simp
 .rw[decide_eq_false h,decide_eq_false λe=>h (yH e)]
theorem K5(k:List Int):∀kvs:List (List Int×Int),m9 (kvs.map J5) (k.map e_:List Key)=((kvs.find? λb=>decide (b.1=k)).map (·.2)).map V.int|[]=>rfl|p::kvs=>by have a:=K5 k kvs;unfold m9 at a ⊢;have e:decide ((J5 p).1=(k.map e_:List Key))=decide (p.1=k):=xM p.1 k;rw[eK,i7,i7,e];cases decide (p.1=k)with|true=>rfl|false=>exact a
theorem Sy(k:List Int)(v:Int)(kvs:List (List Int×Int)):putK (kvs.map J5) (k.map e_:List Key) (V.int v)=(putD kvs k v).map J5:=by
 have d:∀p:List Int×Int,decide ((J5 p).1=(k.map e_:List Key))=decide (p.1=k):=λp=>xM p.1 k;have e:((kvs.map J5).any λa=>decide (a.1=(k.map e_:List Key)))=kvs.any λa=>decide (a.1=k):=by rw[List.any_map];congr 1;funext p;exact d p
 unfold putK putD;rw[e];split
 . rw[eC,eC];refine fe λp _=>?_;have h:=d p;by_cases q:p.1=k;.rw[decide_eq_true q]at h;have h':=of_decide_eq_true h;simp only[pp,if_pos q,if_pos h'];rfl
   .rw[decide_eq_false q]at h;have h':=of_decide_eq_false h;simp only[pp,if_neg q,if_neg h']
 .rw[kM];rfl
theorem qH(k:List Int):(k.map e_:List Key).map kV=k.map V.int:=by rw[eC];rfl
theorem Lf{K:PySem.W.Frag}{F:Hp}{xs:List V}{a:List D}(r:aH K F xs a)(o:a.all dX=ck):xs=(a.map gB).map V.int:=by rw[all_ints o]at r;rw[gh r]
theorem Kv{K:PySem.W.Frag}{F H:Hp}{q p:dQ}{m:Dc}{a:List D}{xs:List V}{o:Option Int}(h:Rd H q m.ho)(r:aH K F xs a)(b:H p=aD (.tup xs))(e:m.yW a=aD o):zA H q (.ref p) (o.map V.int):=by cases m with|k kvs=>cases e|t kvs=>obtain⟨ho,e⟩:=bL (show(if a.all dX=ck then aD ((kvs.find? λc=>decide (c.1=a.map gB)).map (·.2))else b_)=aD o from e);subst e;refine .inr ⟨kvs.map J5,(a.map gB).map e_,p,h,rfl,?_,(K5 _ kvs).symm⟩;rw[qH,<-Lf r ho];exact b
theorem Inv.aek{X:Cx}{c:List (dQ×Obj)}{σ:_L.St}{H:Hp}{s:cp}{a:dQ}{kvs:List (List Key×V)}(I:_L.Inv X c σ H s)(h:H a=aD (.dT kvs)):∃o,_L.Inv X c σ (upd H a (.fG o (.dT kvs))) s:=by obtain⟨z,y,xs,r,o,es,ep,h1,f,g,j,l⟩:=(show cM X.prog X.w H s.heap a (.dT kvs)from I.hok a _ h);refine⟨o,I.write (h':=s.heap) (t':=s.toks) (by rw[h];exact trivial) (.inl rfl) (λb u _ e=>e) ⟨o,h1⟩ ⟨h1,z,y,xs,KT.keeps r λb ys q=>?_,o,es,ep,h1,f,g,j,l⟩⟩;rw[aG (by rintro rfl;rw[h]at q;cases q)];exact q
section
variable{X:Cx}{c:Call}{n:Nat}{a b e:eB}{p pa pb:P}{pos:Pos}{es:List eB}{ps:List P}{x1:Nat}{tpos:Pos}
theorem Tz(hu:X.A.units+8<i9)(L:X.N[i]?=aD x)(hv:xR X.env.scope x)(M:SA X c es ps)(hs:O4 (.Tuple es x1 tpos))(O:ps.length<=sizeLine:=by decide)(hd:(x==("__debug__":Str))=a_:=by decide)(f:(x==("__classdict__":Str))=a_:=by decide):SX X c (.Subscript (.Name x px) (.Tuple es x1 tpos) pos) (.RW i ps):=by refine⟨gG (Pu (by lia) (gP L hv hd f) (vZ M.1) hs) ?_,λi h=>by cases h⟩;rintro σ H Q⟨F,ρ,r,U,g,e,k⟩;rw[_H.E25]at e;obtain⟨d0,W,Y,w⟩:=aj e;clear e;obtain⟨j,Z⟩:=aF Y;subst Z;obtain⟨y,l,z,B⟩:=aj w;clear w;obtain⟨dd,ab,e2,C⟩:=aj B;clear B;obtain⟨s,t⟩:=aF e2;subst t;obtain⟨E,u⟩:=aF C;clear C;subst u;obtain⟨v0,w1,_⟩:=g.pk j;refine⟨v0,w1,F,ρ,y,l,g,z,λvs F1 H1 s1 G=>⟨by rw[G.length,mC z];exact O,λq hq=>?_⟩⟩;have x1:=Uy (xs:=vs) s1.gs.sub hq;have s2:=s1.trans (x1.stp s1.gs);obtain⟨v1,I,w3⟩:=s2.gs.pk s;rw[w1]at I;cases I;cases dd with
 |dD m=>obtain⟨o,e4,J⟩:=bF (show(m.yW y).bind (λo=>o.map λv=>R.val (.int v))=aD r from E);cases o with|none=>cases J|some v=>cases J;obtain⟨ad,ob,rfl,ha⟩:=w3.dD s2.gs.sub;have dg:=Kv (o:=aD v) (m:=m) (.inr ⟨ob,ha⟩) G bf e4;exact⟨ad,V.int v,rfl,dg,k _ _ _ s2 (show Rep X.K _ _ _ from bO _)⟩
 |_=>cases E
theorem Dv{f j:Pos}{y:P}(hu:X.A.units+8<i9)(U:X.N[i]?=aD x)(hv:xR X.env.scope x)(W:SA X c es ps)(Y:SX X c b y)(m:M2 X (.Name x px) "get" f (.Tuple es x1 tpos) b j)(Z:ps.length<=sizeLine:=by decide)(hd:(x==("__debug__":Str))=a_:=by decide)(u:(x==("__classdict__":Str))=a_:=by decide):SX X c (.Call (.Attribute (.Name x px) "get" f) [.Tuple es x1 tpos,b] [] j) (.CK i ps y):=by
 obtain⟨tb,h3,h4⟩:=Y.cT;refine⟨gG (zg (by lia) (gP U hv hd u) (vZ W.1) h3 m) ?_,λi h=>by cases h⟩;rintro σ H Q⟨F,ρ,r,ab,g,e,k⟩;rw[_H.E26]at e;split at e
 . rename_i m0 q;obtain⟨pU,v,B,C⟩:=aj e;clear e;obtain⟨dd,ac,e2,s⟩:=aj C;clear C;obtain⟨E,o0,w1,G,w3,w4⟩:=g.own i _ _ q rfl;refine⟨.ref E,w1,E,rfl,?_,?_⟩;.cases(show o0=m0.ho from w4);cases m0 with|k kvs=>exact .inl ⟨_,.inl G⟩|t kvs=>exact .inr ⟨_,.inl G⟩
   . refine⟨F,ρ,pU,v,g,B,λvs F1 H1 s1 I=>⟨by rw[I.length,mC B];exact Z,λp hp=>?_⟩⟩;have x1:=Uy (xs:=vs) s1.gs.sub hp;have l:=s1.trans (x1.stp s1.gs);refine h4 l.gs e2 λz J H2 s2 L=>?_;split at s
     . rename_i m1 q1;obtain⟨M,e3⟩:=aF s;clear s;subst e3;obtain⟨o,e4,eD⟩:=bF M;clear M;obtain⟨w,e5,e6⟩:=map_some eD;subst e6;obtain⟨a1,o1,O,y2,y3,y4⟩:=s2.gs.own i _ _ q1 rfl;rw[w1]at O;cases O;cases(show o1=m1.ho from y4);rw[bK e5]at L;rw[L.int];refine⟨o.map V.int,Kv (.inl y2) I (s2.gs.sub _ _ (s2.cI _ _ bf)) e4,?_⟩;have:(o.map V.int).getD (V.int w)=V.int (o.getD w):=by cases o<;>rfl
       rw[this];exact k _ J H2 (l.trans s2) (show Rep X.K J _ _ from bO _)
     .cases s
 .cases e
theorem xX{f h:Pos}(j:X.N.Nodup)(hi:X.N[i]?=aD x)(l:Loc X.env.scope x)(hs:jn (.Dict [] [] h) (aD (.Name x f)) pos.line X.env=fI a_:=by rfl)(o:X.fn x=ck\/X.env.scope.names.lookup x=aD .local:=by first|(left;rfl)|(right;rfl)|assumption):SS X c n (.Assign [.Name x f] (.Dict [] [] h) pos) (.xm i ck):=by
 refine gH (Bh j hi l Kl hs o) ?_;rintro D σ H⟨F,ρ,u,r,g,e,k⟩;rw[_H.X15]at e;split at e;.rename_i q;cases e;exact λa s=>k F _ _ (g.newD (m:=.t []) q s)
 .cases e
theorem yX{f:Pos}(hu:X.A.units+8<i9)(L:X.N[i]?=aD x)(hv:xR X.env.scope x)(M:SA X c es ps)(he:SX X c e p)(hs:jn e (aD (.Subscript (.Name x px) (.Tuple es x1 tpos) f)) pos.line X.env=fI a_:=by rfl)(O:ps.length<=sizeLine:=by decide)(hd:(x==("__debug__":Str))=a_:=by decide)(y:(x==("__classdict__":Str))=a_:=by decide):SS X c n (.Assign [.Subscript (.Name x px) (.Tuple es x1 tpos) f] e pos) (.tM i ps p):=by
 refine gH (Fb (by lia) (gP L hv hd y) (vZ M.1) he.ev hs) ?_;rintro D σ H⟨F,ρ,fl,Q,g,e,k⟩;rw[_H.X17]at e;obtain⟨r,j,U,o⟩:=aj e;clear e;refine⟨F,ρ,r,j,g,U,λv F1 H1 s1 W=>?_⟩;split at o
 . rename_i m0 Y;obtain⟨s,z,C,l⟩:=aj o;clear o;obtain⟨B,o0,w1,w2,w3,w4⟩:=s1.gs.own i _ _ Y rfl;refine⟨.ref B,w1,F1,j,s,z,s1.gs,C,λvs F2 Z s2 E=>⟨by rw[E.length,mC C];exact O,λq hq=>?_⟩⟩;have x1:=Uy (xs:=vs) s2.gs.sub hq;have h:=s2.trans (x1.stp s2.gs);split at l
   . rename_i m w G;split at l;.rename_i I u;cases l;obtain⟨a1,o1,J,y2,y3,y4⟩:=h.gs.own i _ _ G rfl;rw[w1]at J;cases J;cases(show o1=m.ho from y4);cases(show v=.int w by have:Rep X.K F1 v (.int w):=W;rwa[Rep]at this);refine⟨B,upd (upd Z q (.tup vs)) B I.ho,rfl,?_,k _ σ _ ((s1.trans h).trans (h.gs.aac G w1))⟩;cases m with|k kvs=>cases u|t kvs=>
         obtain⟨⟨ho,hl⟩,u⟩:=bL (show(if s.all dX=ck/\kvs.length<lim then aD (Dc.t (putD kvs (s.map gB) w))else b_)=aD I from u);subst u;refine .inr ⟨kvs.map J5,(s.map gB).map e_,q,y2,rfl,?_,by rw[en,gX];exact hl,?_⟩;.rw[qH,<-Lf E ho];exact bf
         .rw[Sy];rfl
     .cases l
   .cases l
 .cases o
theorem aab(z:X.N[i]?=aD x)(hv:xR X.env.scope x)(hd:(x==("__debug__":Str))=a_:=by decide)(w:(x==("__classdict__":Str))=a_:=by decide):SX X c (.Name x px) (.vw i):=by
 have h:=gP (X:=X) (pos:=px) z hv hd w;refine⟨?_,λi h=>by cases h⟩;rintro f s σ H Q I⟨F,ρ,r,A,g,e,k⟩;rw[_H.E24]at e;split at e
 . rename_i m q;cases e;obtain⟨a,h1,j,l⟩:=g.EY q;refine dz (h f s σ H (λv H'=>v=.ref a/\H'=H) I ⟨.ref a,h1,rfl,rfl⟩) λu s1⟨v,H1,I1,r1,e1,e2⟩=>?_;subst e1 e2;have B:∃o,_L.Inv X f σ (upd H1 a (.fG o m.ho)) s1:=by cases m with|k kvs=>exact Inv.Qh I1 j|t kvs=>exact Inv.aek I1 j
   obtain⟨o,y⟩:=B;exact⟨.ref a,_,y,r1,k _ _ _ (l o).1 (l o).2⟩
 .rename_i kvs q;cases e;obtain⟨a,vs,h1,j,l⟩:=g.Ei q;refine dz (h f s σ H (λv H'=>v=.ref a/\H'=H) I ⟨.ref a,h1,rfl,rfl⟩) λu s1⟨v,H1,I1,r1,e1,e2⟩=>?_;subst e1 e2;obtain⟨o,y⟩:=Inv.Qh I1 j;exact⟨.ref a,_,y,r1,k _ _ _ (l o).1 (l o).2⟩
 .rename_i b E q;cases e;obtain⟨v,C,h1,j,l⟩:=g.freeze q;exact h f s σ H Q I ⟨v,h1,k v C H j l⟩
 .rename_i b d q;cases e;obtain⟨v,h1,j⟩:=g.val i b d q;exact h f s σ H Q I ⟨v,h1,k v F H (.refl g) j⟩
 .cases e
end
end _H
namespace _H
open PySem _L Spec PyProof.Rows Calls W
noncomputable def pq(h:Heap)(d:dQ)(es:Array l6)(ep:Nat):Prop:=∃o,h.get? d=aD o/\o.ExactDict/\o.data=.dict es ep
section
variable{prog:ek}{w:fg}{A:fb}{E:bV->cp->Prop}{s:cp}{d it:dQ}{es:Array l6}{ep i:Nat}
theorem pq.ty(r:pq s.heap d es ep):s.TypeIs (.ref d) "dict":=let⟨o,h1,h2,_⟩:=r;⟨o,h1,h2.1⟩
theorem pq.lt{h:Heap}(r:pq h d es ep):d<h.objs.size:=let⟨_,h1,_⟩:=r;eA h1
theorem pq.at{h h':Heap}(r:pq h d es ep)(k:∀o,h.get? d=aD o->h'.get? d=aD o):pq h' d es ep:=let⟨o,h1,q⟩:=r;⟨o,k o h1,q⟩
theorem Jq{Q:bV->cp->Prop}(lo:(d==hE)=a_)(r:pq s.heap d es ep)(q:Q (.ref s.heap.objs.size) {s with heap:=s.heap.push {cls:=.type "dict_keyiterator",data:=.fields #[.ref d,.int 0 0,.int es.size 0,.int ep 0]}}):d_ (ef prog w) A (oD (.ref d)) Q E s:=by obtain⟨c,a,e,b⟩:=id r;refine wpAny_pyIter_slot r.ty PySem.F.slot_dict_iter (fm PySem.F.slot_dict_iter r.ty PySem.F.entry_dict_iter ?bd (PySem.F.args_dict_iter_1 _));unfold gE.«dict.__iter__» Builtin.Dict.dictSlotNone;refine bx (bx (wpAny_notOrdered_dict r.ty ?_));show d_ _ _ (fI (eR d)) _ _ s;refine c_ ?_;show d_ _ _ (n0 d>>=_) _ _ s;unfold n0;rw[if_neg (λz=>eH (lo.symm.trans z))];refine bx (c_ (bx (n4 a b (bx (pc a b ?_)))));refine bx (eJ (c_ ⟨_,rfl,"dict_keyiterator",_,⟨_,dZ _ rfl,rfl⟩,slot_dict_keyiterator_next.lookup,?_⟩));simpa[hY]using q
theorem Jg{Q:Option bV->cp->Prop}(a:s.heap.IsKeyIter it d i es.size ep)(r:pq s.heap d es ep)(hi:i<es.size)(q:∀h',h'.IsKeyIter it d (i+1) es.size ep->og it s.heap h'->Q (aD es[i].key) {s with heap:=h'}):d_ (ef prog w) A (kK (.ref it)) Q E s:=by
 obtain⟨oi,c,h,b⟩:=id a;obtain⟨j,e,l,f⟩:=id r;unfold kK;refine bx (iE (fq (name:=gI "__next__") a.typeIs slot_dict_keyiterator_next (fm slot_dict_keyiterator_next a.typeIs PySem.F.entry_dict_keyiterator_next ?bd (PySem.F.args_dict_keyiterator_next_1 _))));refine bx (c_ (bx (bx ?_)));first|refine bx (i4 a.typeIs (c_ (bx (mu c b ?_))))|refine bx (kl a.typeIs (c_ (bx (mu c b ?_))))
 simp only[show lp "dict_keyiterator"=a_ by decide,ii,if_false];show d_ _ _ (if(eR d==eP)=ck then _ else _) _ _ s;rw[if_neg (λz:(eR d==eP)=ck=>eH z)];refine bx (c_ (bx (n4 e f ?_)));rw[if_neg (by simp)];refine bx (c_ (bx (pc e f ?_)));rw[if_neg (by simp)];refine c_ ?_;simp only[show ¬((i:Int)<0)from by lia,if_false,lh,j0 hi];refine bx ?_;first|refine bx (i4 a.typeIs (c_ (bx (mi a.typeIs ?_))))|refine bx (kl a.typeIs (c_ (bx (mi a.typeIs ?_))))
 show d_ _ _ (p9 (.ref it) 1 (hY ((i:Int)+1))>>=_) _ _ s;refine bx (j8 c b (by simp) ?_);have g:(s.heap.update it (pf (·.setIfInBounds 1 (hY ((i:Int)+1))))).IsKeyIter it d (i+1) es.size ep:=⟨_,iS _ c (ku (gY b _)),(ng ..).trans h,by rw[gY b];simp[hY]⟩;refine bx (h_ (bx (mi (s:={s with heap:=s.heap.update it (pf (·.setIfInBounds 1 (hY ((i:Int)+1))))}) g.typeIs ?_)));show d_ _ _ (fI es[i].key) _ _ _;exact c_ (c_ ⟨_,rfl,c_ (q _ g (Heap.SameBut.update ..))⟩)
theorem Oi{Q:Option bV->cp->Prop}(j:A.handled=b_)(c:s.heap.IsKeyIter it d es.size es.size ep)(r:pq s.heap d es ep)(q:∀h',ExtBut it s.heap h'->Q b_ {s with heap:=h'}):d_ (ef prog w) A (kK (.ref it)) Q E s:=by
 obtain⟨oi,e,l,f⟩:=id c;obtain⟨n,g,o,h⟩:=id r;unfold kK;refine bx (iE (fq (name:=gI "__next__") c.typeIs slot_dict_keyiterator_next (fm slot_dict_keyiterator_next c.typeIs PySem.F.entry_dict_keyiterator_next ?bd (PySem.F.args_dict_keyiterator_next_1 _))));refine bx (c_ (bx (bx ?_)));first|refine bx (i4 c.typeIs (c_ (bx (mu e f ?_))))|refine bx (kl c.typeIs (c_ (bx (mu e f ?_))))
 simp only[show lp "dict_keyiterator"=a_ by decide,ii,if_false];show d_ _ _ (if(eR d==eP)=ck then _ else _) _ _ s;rw[if_neg (λz:(eR d==eP)=ck=>eH z)];refine bx (c_ (bx (n4 g h ?_)));rw[if_neg (by simp)];refine bx (c_ (bx (pc g h ?_)));rw[if_neg (by simp)];refine c_ ?_;simp only[show ¬((es.size:Int)<0)from by lia,if_false,lh,Array.getElem?_eq_none (le_refl es.size)];refine bx ?_;first|refine bx (i4 c.typeIs (c_ ?_))|refine bx (kl c.typeIs (c_ ?_))
 show d_ _ _ (p9 (.ref it) 0 .none>>=_) _ _ s;refine bx (j8 e f (by simp) ?_);show d_ _ _ (sA (.type "StopIteration") []>>=_) _ _ _;refine bx ?_;simp only[sA,newTuple];refine bx (eJ ?_ (by size_fits));refine bx (m:=kA _ _) (hZ (a:=eP) (by first|rfl|(simp only[kA];rfl)) (eJ ?_ (by size_fits)));simp only[raiseNew];refine bx (rh ?_);rw[(j:A.in1.handled=b_)];refine bx (c_ (sL (bx ?_)));refine kF (T:="StopIteration") (b:=ck) ⟨_,dZ _ rfl,rfl⟩ qf ?_;exact c_ (q _ (((Heap.SameBut.update ..).extBut.push _).push _))
theorem Hq(n:A.handled=b_)(J d:dQ)(j:d≠J)(es:Array l6)(ep:Nat):Walks prog w A J [J,d] [J] es.size (λi v=>∃e,es[i]?=aD e/\v=e.key) (λi h=>h.IsKeyIter J d i es.size ep/\pq h d es ep)where
 sub:=λb a=>by simp at a;simp[a]
 frame:=λ_ _ _ st m=>⟨st.1.at λo e=>m J (by simp) o e,st.2.at λo e=>m d (by simp) o e⟩;item:=λi s Q E hi st c=>Jg st.1 st.2 hi λh' f g=>c _ h' s.toks ⟨es[i],by simp[hi],rfl⟩ ⟨f,st.2.at λo e=>g.extBut d o j e⟩ λb o a e=>g.extBut b o (λh=>a (by simp[h])) e;done:=λs Q E st c=>Oi n st.1 st.2 λh' l=>c h' s.toks λb o a e=>l b o (λh=>a (by simp[h])) e;self:=λ_ _ _ _ st c=>sM st.1 c
theorem Nq(lo:(d==hE)=a_):KdlSrc prog w "dict" d d es.size (λi v=>∃e,es[i]?=aD e/\v=e.key) (λh=>pq h d es ep)where
 type:=λ_ r=>r.ty;there:=λ_ r=>⟨r.lt,r.lt⟩;keep:=λ_ _ r b=>r.at λo e=>b d (.inl rfl) o e;notList:=by decide
 notTuple:=by decide
 hint:=λ_ _ _ _ r a=>kdl_hint_dict r.ty a;iter:=λ_ _ c r=>⟨_,_,(λ_ _ a=>Jq lo r a),Hq c _ d (eS r.lt) es ep,⟨⟨_,dZ _ rfl,rfl,rfl⟩,r.at λo e=>eO e⟩⟩
end
noncomputable def ur(F H:Hp)(bs:List dQ):Hp:=λb=>if b∈bs then H b else F b
theorem Gs{F H:Hp}{bs:List dQ}(sm:aM F H)(c:∀b∈bs,∃xs,H b=aD (.tup xs)):Ext F H (ur F H bs) H:=by
 refine⟨.refl _,λb o e=>?_,λb o e=>?_,λb n a=>?_⟩
 . unfold ur;split;.exact sm b o e
   .exact e
 . unfold ur at e;split at e;.exact e
   .exact sm b o e
 . unfold ur at a;split at a;.rename_i f;obtain⟨xs,e⟩:=c b f;rw[e];rfl
   .exact absurd n a
theorem Ext.VB{F H F1 f g:Hp}(a:Ext F H F1 H)(b:Ext F1 H f g):Ext F H f g:=by
 refine⟨b.hs,a.fs.trans b.fs,b.sub,λc n h=>?_⟩;by_cases e:F1 c=b_;.exact b.gr c e h
 .exact a.gr c n e
theorem Jt{H:Hp}:∀{kvs:List (List Int×Int)}{a:List (List Key×dQ×bV)},KT H (kvs.map J5) a->∀t∈a,∃k:List Int,H t.2.1=aD (.tup (k.map V.int))
 |[],_,.nil,t,h=>by cases h|p::kvs,_,.cons r q,t,h=>by
   rcases eM.mp h with rfl|h;.exact⟨p.1,by rw[<-qH];exact r.2.1⟩
   .exact Jt q t h
theorem DP{K:PySem.W.Frag}{F H:Hp}:∀{kvs:List (List Int×Int)}{a:List (List Key×dQ×bV)},KT H (kvs.map J5) a->(∀t∈a,F t.2.1=H t.2.1)->aH K F (a.map λt=>V.ref t.2.1) (kvs.map λp=>D.tup (p.1.map D.int))|[],_,.nil,_=>.nil|p::kvs,_,.cons (b:=t) r q,h=>by refine .cons ?_ (DP q λt c=>h t (fP _ c));rw[Rep];exact⟨_,p.1.map V.int,rfl,ir.of (by rw[h t (by simp),<-qH];exact r.2.1),pM _⟩
theorem uB{b:Type}{f:b->dQ}:∀a:List b,Vals (a.map λt=>V.ref (f t)) (a.map λt=>eR (f t))|[]=>.nil|t::a=>.cons rfl (uB a)
theorem Bk{es:Array l6}{a:Array bV}{b:List (List Key×dQ×bV)}(he:es.toList.map (·.key)=b.map λt=>eR t.2.1)(h:ItemsOf (λi v=>∃e,es[i]?=aD e/\v=e.key) a es.size):a.toList=b.map λt=>eR t.2.1:=by rw[<-he];refine List.ext_getElem? λi=>?_;rw[eI,lx,lx];cases q:a[i]?with
 |none=>
   have:es[i]?=b_:=by rw[Array.getElem?_eq_none_iff]at q ⊢;rw[<-h.1];exact q
   rw[this];rfl|some v=>obtain⟨e,c,f⟩:=h.2 i v q;rw[c,f];rfl
end _H
namespace _H
open PySem _L Spec PyProof.Rows
section
variable{K:PySem.W.Frag}{F H F' H':Hp}{ρ ρ':List Sl}{σ σ':_L.St}
noncomputable def Kp(ρ:List Sl)(σ:_L.St)(H:Hp)(a:dQ)(o:HO):Prop:=H a=aD o/\¬ Own ρ σ a
theorem Kp.stp{a:dQ}{o:HO}(h:Kp ρ σ H a o)(s:bW K F ρ σ H F' ρ' σ' H'):Kp ρ' σ' H' a o:=⟨s.keep a o h.1 h.2,λz=>(s.xF a z).elim h.2 λe=>by rw[h.1]at e;cases e⟩
structure Wt(K:PySem.W.Frag)(F:Hp)(ρ:List Sl)(σ:_L.St)(H:Hp)(a:dQ)(ds:List D):Prop where
 ex:∃xs,Kp ρ σ H a (.lst xs)/\aH K F xs ds
 fr:F a=b_
theorem Wt.stp{a:dQ}{b:List D}(h:Wt K F ρ σ H a b)(s:bW K F ρ σ H F' ρ' σ' H'):Wt K F' ρ' σ' H' a b:=by obtain⟨⟨xs,h1,c⟩,e⟩:=h;refine⟨⟨xs,h1.stp s,c.mono s.cI⟩,?_⟩;cases q:F' a with|none=>rfl|some o=>
   rcases s.zK a e (by rw[q];simp)with z|z;.exact absurd z h1.2
   .rw[h1.1]at z;cases z
end
end _H
namespace _H
open PySem _L Spec PyProof.Rows
variable{o:Option V}{row:List D}{rows:List (List D)}
section
variable{K:PySem.W.Frag}{F F' F1 H H' H1 F0 H0:Hp}{ρ ρ' ρ1 ρ0:List Sl}{σ σ' σ1 σ0:_L.St}{x:Nat}{q:dQ}{as:List dQ}{rows o4:List (List D)}
noncomputable def Ik:Sl->Bool|.aN=>ck|.hold _=>ck|_=>a_
theorem iY{s:Sl}{i:Nat}{b:dQ}(g:Ik s=ck)(h:bM (ρ.set x s) (σ.set x o) i b):bM ρ σ i b/\i≠x:=by
 obtain⟨⟨t,j,e,a⟩,f⟩:=h;by_cases c:x=i
 . subst c;rw[m4]at e;rw[if_pos rfl]at e;split at e;.cases e;cases s<;>first|(cases a;done)|(cases g;done)
   .cases e
 .rw[ga c]at e f;exact⟨⟨⟨t,j,e,a⟩,f⟩,λz=>c z.symm⟩
theorem GS.zm{s:Sl}(f:Ik s=ck)(g:GS K F ρ σ H):GS K F (ρ.set x s) (σ.set x o) H:=by
 refine⟨g.sub,by simp[g.len],λi b d e=>?_,λi t l e h=>?_,λi j a h1 m=>g.dis i j a (iY f h1).1 (iY f m).1⟩
 . by_cases c:x=i
   . subst c;rw[m4,if_pos rfl]at e;split at e;.cases e;cases f
     .cases e
   .rw[ga c]at e ⊢;exact g.val i b d e
 . by_cases c:x=i
   . subst c;rw[m4,if_pos rfl]at e;split at e;.cases e;cases s<;>first|(cases h;done)|(cases f;done)
     .cases e
   .rw[ga c]at e ⊢;exact g.own i t l e h
theorem bW.zm{s:Sl}{o:Option V}(a:Ik s=ck)(t:bW K F ρ σ H F1 ρ1 σ1 H1)(f:∀s0,ρ[x]?=aD s0->xu s0=a_):bW K F ρ σ H F1 (ρ1.set x s) (σ1.set x o) H1:=by
 refine⟨t.gs.zm a,t.cI,t.zK,t.keep,λb⟨i,h⟩=>t.xF b ⟨i,(iY a h).1⟩,by simp[t.len],λi g e l=>?_⟩;have c:x≠i:=by rintro rfl;rw[f _ e]at l;cases l
 obtain⟨j,s2,m,n⟩:=t.lk i g e l;exact⟨by rw[ga c];exact j,s2,by rw[ga c];exact m,n⟩
theorem bW.free{i:Nat}{s1:Sl}(t:bW K F ρ σ H F1 ρ1 σ1 H1)(h:ρ1[i]?=aD s1)(a:xu s1=a_):∀s0,ρ[i]?=aD s0->xu s0=a_:=λs0 e=>by cases z:xu s0 with|false=>rfl|true=>obtain⟨_,s2,b,c⟩:=t.lk i s0 e z;rw[h]at b;cases b;rw[c.xu z]at a;cases a
structure Uh(F:Hp)(ρ:List Sl)(σ:_L.St)(H:Hp)(a:dQ)(xs:List V):Prop where kp:Kp ρ σ H a (.lst xs)fr:F a=b_
theorem Uh.stp{a:dQ}{xs:List V}(h:Uh F ρ σ H a xs)(s:bW K F ρ σ H F' ρ' σ' H'):Uh F' ρ' σ' H' a xs:=by refine⟨h.kp.stp s,?_⟩;cases z:F' a with|none=>rfl|some o=>
   rcases s.zK a h.fr (by rw[z];simp)with y|y;.exact absurd y h.kp.2
   .rw[h.kp.1]at y;cases y
structure Nw(K:PySem.W.Frag)(x:Nat)(q:dQ)(as:List dQ)(F:Hp)(ρ:List Sl)(σ:_L.St)(H:Hp)(rows:List (List D)):Prop where
 slot:ρ[x]?=aD (.hold rows)val:σ[x]?=aD (aD (.ref q))out:Uh F ρ σ H q (as.map V.ref)nd:(q::as).Nodup
 len:as.length=rows.length
 row:∀(k:Nat)(a:dQ)(ds:List D),as[k]?=aD a->rows[k]?=aD ds->Wt K F ρ σ H a ds
theorem Nw.stp(w:Nw K x q as F ρ σ H rows)(s:bW K F ρ σ H F' ρ' σ' H'):Nw K x q as F' ρ' σ' H' rows:=by obtain⟨b,s2,c,e⟩:=s.lk x _ w.slot rfl;cases(show s2=.hold rows from e);exact⟨c,b.trans w.val,w.out.stp s,w.nd,w.len,λk a f h1 g=>(w.row k a f h1 g).stp s⟩
structure NB(K:PySem.W.Frag)(x:Nat)(q:dQ)(as:List dQ)(F0:Hp)(ρ0:List Sl)(σ0:_L.St)(H0:Hp)(F:Hp)(ρ:List Sl)(σ:_L.St)(H:Hp)(rows:List (List D)):Prop where
 stp:bW K F0 ρ0 σ0 H0 F ρ σ H
 fresh:∀b,b∈q::as->Own ρ0 σ0 b\/H0 b=b_
 free:∀s0,ρ0[x]?=aD s0->xu s0=a_
 nw:Nw K x q as F ρ σ H rows
theorem NB.step(b:NB K x q as F0 ρ0 σ0 H0 F ρ σ H rows)(s:bW K F ρ σ H F' ρ' σ' H'):NB K x q as F0 ρ0 σ0 H0 F' ρ' σ' H' rows:=⟨b.stp.trans s,b.fresh,b.free,b.nw.stp s⟩
theorem xf{s:Sl}{a:dQ}{b:HO}(c:Ik s=ck)(h:Kp ρ σ H a b):Kp (ρ.set x s) (σ.set x o) H a b:=⟨h.1,λ⟨i,z⟩=>h.2 ⟨i,(iY c z).1⟩⟩
theorem Ea{s:Sl}{a:dQ}{b:List D}(c:Ik s=ck)(h:Wt K F ρ σ H a b):Wt K F (ρ.set x s) (σ.set x o) H a b:=by obtain⟨⟨xs,h1,e⟩,f⟩:=h;exact⟨⟨xs,xf c h1,e⟩,f⟩
theorem bW.afW{Da:dQ}{o:HO}(s:bW K F ρ σ H F1 ρ1 σ1 H1)(h:Own ρ σ Da\/H Da=b_)(j:F1 Da=b_)(ho:¬ Own ρ1 σ1 Da):bW K F ρ σ H F1 ρ1 σ1 (upd H1 Da o):=by
 refine⟨⟨λb u e=>?_,s.gs.len,s.gs.val,λi t c e f=>?_,s.gs.dis⟩,s.cI,s.zK,λb u e n=>?_,s.xF,s.len,s.lk⟩
 . have:b≠Da:=by rintro rfl;rw[j]at e;cases e
   rw[aG this];exact s.gs.sub b u e
 . obtain⟨a,xs,g,l,m,p⟩:=s.gs.own i t c e f;have:a≠Da:=by rintro rfl;exact ho ⟨i,⟨t,c,e,f⟩,g⟩
   exact⟨a,xs,g,by rw[aG this];exact l,m,p⟩
 . have:b≠Da:=by
    rintro rfl;rcases h with h|h;.exact n h
    .rw[h]at e;cases e
   rw[aG this];exact s.keep b u e n
theorem NB.mut{r:Nat}{a:dQ}{e:List D}{ys:List V}(b:NB K x q as F0 ρ0 σ0 H0 F ρ σ H rows)(g:as[r]?=aD a)(hr:rows[r]?=aD row)(n:aH K F ys e):NB K x q as F0 ρ0 σ0 H0 F (ρ.set x (.hold (rows.set r e))) σ (upd H a (.lst ys)) (rows.set r e):=by
 have w:=b.nw.row r a row g hr;obtain⟨⟨xs,l,r1⟩,f1⟩:=w;have p:x<ρ.length:=(gC b.nw.slot).1;have sx:σ.set x (aD (.ref q))=σ:=by have:=b.nw.val;obtain⟨h1,f⟩:=gC this;rw[<-f];simp
 have mem:a∈q::as:=fP _ (ko g);have s1:=(b.stp.afW (o:=.lst ys) (b.fresh a mem) f1 l.2).zm (x:=x) (s:=.hold (rows.set r e)) (o:=aD (.ref q)) rfl b.free;rw[sx]at s1;have t:q≠a:=by have:=(hX.mp b.nw.nd).1;rintro rfl;exact this (ko g)
 have own:∀{c:dQ},¬ Own ρ σ c->¬ Own (ρ.set x (.hold (rows.set r e))) σ c:=λ{c}h⟨i,z⟩=>h ⟨i,by have:=iY (x:=x) (s:=.hold (rows.set r e)) (o:=aD (.ref q)) (σ:=σ) (ρ:=ρ) rfl (b:=c) (i:=i) (by rw[sx];exact z);exact this.1⟩;refine⟨s1,b.fresh,b.free,⟨dS p,b.nw.val,⟨⟨by rw[aG t];exact b.nw.out.kp.1,own b.nw.out.kp.2⟩,b.nw.out.fr⟩,b.nw.nd,by simp[b.nw.len],λk c u h1 f=>?_⟩⟩;by_cases j:k=r;.subst j;rw[g]at h1;cases h1;have v:k<rows.length:=(gC hr).1;rw[dS v]at f;cases f;exact⟨⟨ys,⟨bf,own l.2⟩,n⟩,f1⟩
 . rw[ga (λz=>j z.symm)]at f;obtain⟨⟨y,m,A⟩,f2⟩:=b.nw.row k c u h1 f;have B:c≠a:=by rintro rfl;have nd:=(hX.mp b.nw.nd).2;obtain⟨G,C⟩:=gC h1;obtain⟨I,E⟩:=gC g;exact j ((List.getElem_inj nd).mp (C.trans E.symm))
   exact⟨⟨y,⟨by rw[aG B];exact m.1,own m.2⟩,A⟩,f2⟩
noncomputable def Fz(F H:Hp)(bs:List dQ):Hp:=λb=>if b∈bs then H b else F b
theorem uN{G:Hp}:∀{as:List dQ}{rows:List (List D)},as.length=rows.length->(∀(k:Nat)(a:dQ)(c:List D),as[k]?=aD a->rows[k]?=aD c->Rep K G (.ref a) (.lst c))->aH K G (as.map V.ref) (rows.map D.lst)|[],[],_,_=>.nil|a::as,c::rows,h,k=>.cons (k 0 a c rfl rfl) (uN (by simpa using h) λj b es h1 e=>k (j+1) b es (by simpa using h1) (by simpa using e))|[],_::_,h,_=>by simp at h|_::_,[],h,_=>by simp at h
theorem Nw.RK(w:Nw K x q as F ρ σ H rows){b:dQ}(hb:b∈q::as):F b=b_/\¬ Own ρ σ b:=by
 rcases eM.mp hb with rfl|hb;.exact⟨w.out.fr,w.out.kp.2⟩
 . obtain⟨k,a⟩:=l8 hb;have c:k<rows.length:=by rw[<-w.len];exact(gC a).1
   obtain⟨⟨xs,e,_⟩,f1⟩:=w.row k b rows[k] a (by simp[c]);exact⟨f1,e.2⟩
theorem Nw.fz(w:Nw K x q as F ρ σ H rows)(sm:aM F H):aM F (Fz F H (q::as))/\aM (Fz F H (q::as)) H/\Rep K (Fz F H (q::as)) (.ref q) (.lst (rows.map D.lst)):=by
 have s1:aM F (Fz F H (q::as)):=λb o e=>by unfold Fz;rw[if_neg λc=>by rw[(w.RK c).1]at e;cases e];exact e
 refine⟨s1,λb o e=>?_,?_⟩
 . unfold Fz at e;split at e;.exact e
   .exact sm b o e
 .rw[Rep];refine⟨q,as.map V.ref,rfl,fU.of (by unfold Fz;rw[if_pos jp];exact w.out.kp.1),uN w.len λk a f h1 g=>?_⟩;obtain⟨⟨xs,h,r1⟩,f1⟩:=w.row k a f h1 g;rw[Rep];exact⟨a,xs,rfl,fU.of (by unfold Fz;rw[if_pos (fP _ (ko h1))];exact h.1),r1.mono s1⟩
theorem NB.fG(b:NB K x q as F0 ρ0 σ0 H0 F ρ σ H rows):bW K F0 ρ0 σ0 H0 (Fz F H (q::as)) (ρ.set x (.val a_ (.lst (rows.map D.lst)))) σ H:=by
 obtain⟨s1,s2,y⟩:=b.nw.fz b.stp.gs.sub;have g:=b.stp.gs;have u:x<ρ.length:=(gC b.nw.slot).1;have m:∀{j:Nat}{c:dQ},bM (ρ.set x (.val a_ (.lst (rows.map D.lst)))) σ j c->bM ρ σ j c/\x≠j:=λ{j c}⟨⟨t,s,e,p⟩,e1⟩=>by
  by_cases f:x=j;.subst f;rw[dS u]at e;cases e;cases p
  .rw[ga f]at e;exact⟨⟨⟨t,s,e,p⟩,e1⟩,f⟩
 refine⟨⟨s2,by simp[g.len],λi z d e=>?_,λi t s e p=>?_,λi j c h1 r=>g.dis i j c (m h1).1 (m r).1⟩,b.stp.cI.trans s1,λc n w=>?_,b.stp.keep,λc⟨j,h⟩=>b.stp.xF c ⟨j,(m h).1⟩,by simp[b.stp.len],λi t e l=>?_⟩
 . by_cases f:x=i;.subst f;rw[dS u]at e;cases e;exact⟨_,b.nw.val,y⟩
   .rw[ga f]at e;obtain⟨v,h1,r⟩:=g.val i z d e;exact⟨v,h1,r.mono s1⟩
 . by_cases f:x=i;.subst f;rw[dS u]at e;cases e;cases p
   .rw[ga f]at e;obtain⟨a,o,h1,r,A,B⟩:=g.own i t s e p;refine⟨a,o,h1,r,?_,B.mono s1⟩;unfold Fz;rw[if_neg λC=>(b.nw.RK C).2 ⟨i,⟨t,s,e,p⟩,h1⟩];exact A
 . by_cases hc:c∈q::as;.exact(b.fresh c hc).imp id mj
   . have:Fz F H (q::as) c=F c:=by unfold Fz;rw[if_neg hc]
     rw[this]at w;exact b.stp.zK c n w
 . have c:x≠i:=by rintro rfl;rw[b.free _ e]at l;cases l
   obtain⟨E,s3,G,I⟩:=b.stp.lk i t e l;exact⟨E,s3,by rw[ga c];exact G,I⟩
end
inductive YF(K:PySem.W.Frag)(x:Nat)(f:List Sl->Res Fl)(E:Ends)(σ:_L.St)(H:Hp):Prop where|mk(F0:Hp)(ρ0:List Sl)(σ0:_L.St)(H0 F:Hp)(ρ:List Sl)(q:dQ)(as:List dQ)(rows:List (List D))(fl:Fl)(ρ':List Sl)(b:NB K x q as F0 ρ0 σ0 H0 F ρ σ H rows)(e:f ρ=.ok fl ρ')(k:∀F' σ' H',bW K F0 ρ0 σ0 H0 F' ρ' σ' H'->aM F F'->((∀r,fl≠.ret r)->∃o4,NB K x q as F0 ρ0 σ0 H0 F' ρ' σ' H' o4)->KQ K E F' ρ' σ' H' ρ0 σ0 H0 fl)
inductive Zv(K:PySem.W.Frag)(x:Nat)(f:List Sl->Res Fl)(E:Ends)(σ:_L.St)(H:Hp):Prop where|mk(F0:Hp)(ρ0:List Sl)(σ0:_L.St)(H0 F:Hp)(ρ:List Sl)(q:dQ)(as:List dQ)(rows:List (List D))(fl:Fl)(ρ':List Sl)(b:NB K x q as F0 ρ0 σ0 H0 F ρ σ H rows)(e:f ρ=.ok fl ρ')(k:∀F' σ' H',bW K F0 ρ0 σ0 H0 F' ρ' σ' H'->KQ K E F' ρ' σ' H' ρ0 σ0 H0 fl)
structure WM(X:Cx)(c:Call)(n x:Nat)(st:fR)(s:S):Prop where p:PS X st (YF X.K x (ex c n s))
structure SBN(X:Cx)(c:Call)(n x:Nat)(st:List fR)(s:List S):Prop where p:zW X st (YF X.K x (jC c n s))
structure SBT(X:Cx)(c:Call)(n x:Nat)(st:List fR)(s:List S):Prop where p:zW X st (Zv X.K x (jC c n s))
section
variable{X:Cx}{c:Call}{n x:Nat}{e a b d tg iter:eB}{p pa pb pd:P}{pos:Pos}{body:List fR}{ss:List S}{st:fR}{s:S}{sts:List fR}
theorem Wc(h:SS X c n st s):WM X c n x st s:=by refine⟨gH h ?_⟩;rintro D σ H⟨y,l,m,A,F,ρ,q,as,rows,j,g,f,e,k⟩;refine⟨F,ρ,j,g,f.stp.gs,e,λu i H' t=>?_⟩;have z:=k u i H' (f.stp.trans t) t.cI λ_=>⟨rows,f.step t⟩;cases j with|next=>exact z|brk=>exact z|cont=>exact z|ret r=>exact λv w=>z v (w.later f.stp)
theorem Eu:SBN X c n x [] []:=⟨pJ vN λD σ H⟨f,ρ0,σ0,H0,F,ρ,q,as,rows,fl,ρ',nb,e,k⟩=>by rw[xs0]at e;cases e;exact k F σ H nb.stp (.refl _) λ_=>⟨rows,nb⟩⟩
theorem ou(h1:WM X c n x st s)(w:SBN X c n x sts ss):SBN X c n x (st::sts) (s::ss):=by refine⟨pJ (lq h1.p w.p) ?_⟩;rintro D σ H⟨h,f,g,i,F,ρ,q,as,rows,y,t,l,e,k⟩;rw[XC]at e;obtain⟨f1,j,m,e⟩:=aj e;cases f1 with|next=>refine⟨h,f,g,i,F,ρ,q,as,rows,.next,j,l,m,λF1 A J s1 sm nn=>?_⟩;obtain⟨B,C⟩:=nn (λr z=>by cases z);exact⟨h,f,g,i,F1,j,q,as,B,y,t,C,e,λE u G s2 I v=>k E u G s2 (sm.trans I) v⟩|brk=>cases e;exact⟨h,f,g,i,F,ρ,q,as,rows,.brk,_,l,m,k⟩|cont=>cases e;exact⟨h,f,g,i,F,ρ,q,as,rows,.cont,_,l,m,k⟩|ret r=>cases e;exact⟨h,f,g,i,F,ρ,q,as,rows,.ret r,_,l,m,k⟩
theorem yP(h1:WM X c n x st s)(w:SBT X c n x sts ss):SBT X c n x (st::sts) (s::ss):=by refine⟨pJ (lq h1.p w.p) ?_⟩;rintro D σ H⟨j,g,h,l,F,ρ,q,as,rows,y,v,t,e,k⟩;rw[XC]at e;obtain⟨f1,m,u,e⟩:=aj e;cases f1 with|next=>refine⟨j,g,h,l,F,ρ,q,as,rows,.next,m,t,u,λF1 f i s1 sm nn=>?_⟩;obtain⟨A,B⟩:=nn (λr z=>by cases z);exact⟨j,g,h,l,F1,m,q,as,A,y,v,B,e,k⟩|brk=>cases e;exact⟨j,g,h,l,F,ρ,q,as,rows,.brk,_,t,u,λF1 f i s1 _ _=>k F1 f i s1⟩|cont=>cases e;exact⟨j,g,h,l,F,ρ,q,as,rows,.cont,_,t,u,λF1 f i s1 _ _=>k F1 f i s1⟩|ret r=>cases e;exact⟨j,g,h,l,F,ρ,q,as,rows,.ret r,_,t,u,λF1 f i s1 _ _=>k F1 f i s1⟩
theorem Py(h:SB X c n sts ss):SBT X c n x sts (.fG x::ss):=by refine⟨pJ h ?_⟩;rintro D σ H⟨B,m,u,C,F,ρ,q,as,rows,i,f,j,e,k⟩;rw[XC]at e;obtain⟨f1,w,l,e⟩:=aj e;rw[_H.X22,j.nw.slot]at l;cases l;have t:=j.fG;refine⟨_,_,i,f,t.gs,e,λy g H' s=>?_⟩;have z:=k y g H' (t.trans s);cases i with|next=>exact z|brk=>exact z|cont=>exact z|ret r=>exact λv A=>z v (A.later t)
theorem Le{ρ:List Sl}(h:iU ρ x=aD rows):ρ[x]?=aD (.hold rows):=by
 unfold iU at h;split at h;.rename_i z;cases h;exact z
 .cases h
noncomputable def WalkN(K:PySem.W.Frag)(J:It)(h:List D)(F1:Hp):Prop:=∀(k:Nat)(g H':Hp),aM F1 g->aM g H'->(∀d,h[k]?=aD d->J.go k H'/\∀x i,J.Ia k H' x i->∃f,Ext g H' f i/\Rep K f x d)/\(h.length<=k->J.stop k H')
inductive adn(K:PySem.W.Frag)(f:Ev)(σ:_L.St)(H:Hp)(R:It->Hp->Prop):Prop where|mk(F:Hp)(ρ:List Sl)(r:_H.R)(ρ1:List Sl)(ds:List D)(g:GS K F ρ σ H)(e:f ρ=.ok r ρ1)(e2:items r.d=aD ds)(k:∀J F1 H1,bW K F ρ σ H F1 ρ1 σ H1->WalkN K J ds F1->R J H1)
structure SIN(X:Cx)(c:Call)(tg e:eB)(p:P):Prop where p:PI X tg e (adn X.K (_H.ev c p))
theorem O7(h:SX X c e p):SIN X c tg e p:=by refine⟨mW (vR h.ev) ?_⟩;rintro σ H R⟨F,ρ,r,m,w,g,e,i,k⟩;refine⟨F,ρ,r,m,g,e,λv y H' s t=>?_⟩;obtain⟨z,s2,_,j⟩:=s.fG t;cases hd:r.d with|tup es=>rw[hd]at j i;cases i;rw[Rep]at j;obtain⟨a,xs,rfl,h1,q⟩:=j;exact⟨a,rfl,.inr ⟨⟨xs,aM.gO s2.gs.sub h1⟩,k _ _ _ s2 λk F3 u f l=>Eo (aM.gO l (aM.gO f h1)) (q.mono f) l k⟩⟩|lst es=>rw[hd]at j i;cases i;rw[Rep]at j;obtain⟨a,xs,rfl,h1,q⟩:=j;exact⟨a,rfl,.inl ⟨⟨xs,s2.gs.sub.seq h1⟩,k _ _ _ s2 λk F3 u f l=>qY (l.seq (f.seq h1)) (q.mono f) l k⟩⟩|_=>rw[hd]at i;cases i
theorem Gz{K:PySem.W.Frag}{F1:Hp}(i j:Int):WalkN K (Wu i (j-i).toNat) ((ej (j-i).toNat).map λ(k:Nat)=>D.int (i+(k:Int))) F1:=by
 refine λk g H' _ sm=>⟨λd hd=>?_,λh=>?_⟩;.rw[eI]at hd;obtain⟨m,l,q⟩:=map_some hd;obtain⟨h1,f⟩:=gC l;rw[nv]at f;subst f;subst q;rw[i6]at h1;refine⟨h1,?_⟩;rintro x u⟨r,t⟩;subst r;subst t;exact⟨g,.refl sm,bO _⟩
 .rw[en,i6]at h;exact h
theorem Kq{x:Str}{t:Pos}(w:x="range")(y:Gl X x)(z:X.mg x=b_)(A:SX X c a pa)(B:SX X c b pb)(hs:ea [a,b] X.env=[(a_,fF a X.env),(a_,fF b X.env)]:=by rfl)(h:ea [b] X.env=[(a_,fF b X.env)]:=by rfl):SIN X c tg (.Call (.Name x t) [a,b] [] pos) (.nJ pa pb):=by subst w;obtain⟨Q,U,h1,C,E⟩:=A.jH B;refine⟨mW (uM y z (eN h1 (eN C jr h) (by rw[hs,h])) hs h) ?_⟩;rintro σ H R⟨F,ρ,r,G,W,g,l,I,k⟩;rw[_H.E19]at l;obtain⟨Y,J,L,f⟩:=aj l;have M:=aF f;clear f;obtain⟨f,N⟩:=M;subst N;obtain⟨i,f1,f⟩:=bF f;obtain⟨j,f2,f⟩:=bF f;obtain⟨⟨b1,b2,b3,b4⟩,f⟩:=bL f;subst f;cases I;have f1:=bK f1;have f2:=bK f2;refine E g L λv u O H' s m q=>?_;rw[f1]at m;rw[f2]at q;refine⟨i,j,by rw[m.int,q.int],⟨by lia,by lia,by lia,by lia⟩,?_⟩;exact k _ O H' s (Gz i j)
theorem Fg{g:TG}{is:List Nat}{one:Bool}(hp:oQ (ef X.prog X.w) X.A X.env X.xe)(hc:X.calm=ck)(hi:SIN X c tg iter p)(hg:PG X tg g)(ab:KC X.K (λρ d=>cF ρ is one d) g)(hb:SBN X c n x body ss)(hs:∀x,gd iter X.env x=fI x:=by intro _;rfl):WM X c n x (.For tg iter body [] pos) (.HJ p is one ss):=by
 refine⟨gH (Ay hp hc hi.p hg hb.p hs) ?_⟩;rintro D σ H⟨F0,E,G,H0,F,ρ,q,as,rows,fl,N,nb,e,k⟩;rw[_H.X21]at e;obtain⟨r,O,e1,e⟩:=aj e;obtain⟨j,ag,e9,e2⟩:=aj e;have zz:=aF e9;clear e9;obtain⟨e9,ac⟩:=zz;subst ac;refine⟨F,ρ,r,O,j,nb.stp.gs,e1,e9,λJ F1 H1 s1 w=>?_⟩;refine⟨λi m t Hi=>∃C f M,NB X.K x q as F0 E G H0 C f t Hi M/\aM F1 C/\m=j.length-i/\i<=j.length/\ju is one (jC c n ss) (j.drop i) f=.ok fl N,⟨_,F1,O,rows,nb.step s1,.refl _,rfl,tY,e2⟩,?_⟩;rintro i m t Hi⟨C,f,M,Q,Yn,rfl,ah,l⟩;obtain⟨w1,w2⟩:=w i C Hi Yn Q.stp.gs.sub;by_cases u:i<j.length
 . right;have hd:j[i]?=aD j[i]:=by simp[u]
   obtain⟨go,step⟩:=w1 _ hd;refine⟨go,λU H'=>∃m',m'<j.length-i/\∃C f M,NB X.K x q as F0 E G H0 C f U H' M/\aM F1 C/\m'=j.length-(i+1)/\i+1<=j.length/\ju is one (jC c n ss) (j.drop (i+1)) f=.ok fl N,λU H' z=>z,λy H' yy=>?_⟩;obtain⟨F2,ext,rx⟩:=step y H' yy;have t2:=ext.stp Q.stp.gs;rw[hR u,Bv]at l;cases hbd:cF f is one j[i]with|none=>rw[hbd]at l;cases l|some W=>rw[hbd]at l;obtain⟨Y,I,eb,l⟩:=aj l;refine ab y _ F2 f W t H' _ t2.gs rx hbd λai sb=>?_;have t3:=t2.trans sb;refine⟨F0,E,G,H0,F2,W,q,as,M,Y,I,Q.step t3,eb,λF4 Z H4 s4 ae L=>?_⟩;have B:aM F1 F4:=Yn.trans (ext.fs.trans ae);cases Y with|next=>obtain⟨MJ,M9⟩:=L (λr z=>by cases z);exact⟨_,by lia,F4,I,MJ,M9,B,rfl,u,l⟩|cont=>obtain⟨MJ,M9⟩:=L (λr z=>by cases z);exact⟨_,by lia,F4,I,MJ,M9,B,rfl,u,l⟩|brk=>cases l;exact k F4 Z H4 s4 (s1.cI.trans B) λ_=>L (λr z=>by cases z)|ret r=>cases l;exact λv rr=>k F4 Z H4 s4 (s1.cI.trans B) (λh=>(h r rfl).elim) v rr
 . left;have af:j.drop i=[]:=by rw[md];lia
   rw[af,Jd]at l;cases l;exact⟨w2 (by lia),k C t Hi Q.stp (s1.cI.trans Yn) λ_=>⟨M,Q⟩⟩
end
section
variable{X:Cx}{c:Call}{n:Nat}{e a b d i j:eB}{p pa pb pd pi pj:P}{pos:Pos}
theorem Dg{ρ f:List Sl}{x:Nat}{o:Option (List (List D))}{g:Fl}(h:Ho ρ x o=.ok g f):∃rows,o=aD rows/\g=.next/\f=ρ.set x (.hold rows):=by cases o with|none=>cases h|some rows=>cases h;exact⟨rows,rfl,rfl,rfl⟩
section
variable{K:PySem.W.Frag}{F H F0 H0:Hp}{ρ ρ0:List Sl}{σ σ0:_L.St}{x:Nat}{q:dQ}{as:List dQ}{rows o4:List (List D)}
theorem NB.hold(f:NB K x q as F0 ρ0 σ0 H0 F ρ σ H rows)(h:iU ρ x=aD o4):o4=rows:=by have:=Le h;rw[f.nw.slot]at this;cases this;rfl
theorem NB.at{k:Int}{r:Nat}(f:NB K x q as F0 ρ0 σ0 H0 F ρ σ H rows)(h1:_H.kZ rows.length k=aD r)(h:rows[r]?=aD row):∃a ys,as[r]?=aD a/\JT (as.map V.ref) k=aD (.ref a)/\H a=aD (.lst ys)/\aH K F ys row:=by
 have g:r<as.length:=by rw[f.nw.len];exact(gC h).1
 obtain⟨⟨ys,l,r1⟩,_⟩:=f.nw.row r as[r] row (by simp[g]) h;refine⟨as[r],ys,by simp[g],?_,l.1,r1⟩;unfold JT;rw[en,f.nw.len];rw[show _L.kZ rows.length k=aD r from h1];simp[g]
theorem NB.lA{g:D}{row:List D}(l:NB K x q as F0 ρ0 σ0 H0 F ρ σ H rows)(h:_H.lA ρ x g=aD row):∃k a,(∃r:Nat,as[r]?=aD a)/\JT (as.map V.ref) k=aD (.ref a)/\g=.int k/\∃ys,H a=aD (.lst ys)/\aH K F ys row:=by unfold _H.lA at h;obtain⟨f,h1,h⟩:=bF h;cases l.hold h1;obtain⟨k,m,h⟩:=bF h;obtain⟨r,s,t⟩:=bF h;obtain⟨a,ys,u,v,w,y⟩:=l.at s t;exact⟨k,a,⟨r,u⟩,v,bK m,ys,w,y⟩
theorem wI{ys:List V}{k:Int}{d:D}(r:aH K F ys row)(h:at' row k=aD d):∃w,JT ys k=aD w/\Rep K F w d:=by obtain⟨j,h1,f⟩:=Ja h;obtain⟨w,g,l⟩:=r.get f;exact⟨w,by unfold JT;rw[r.length,h1];exact g,l⟩
end
theorem Hl{l:List (List D)}{k:Int}{f:List D->Option (List D)}(h:jY rows k f=aD l):∃r row g,_H.kZ rows.length k=aD r/\rows[r]?=aD row/\f row=aD g/\l=rows.set r g:=by unfold jY at h;obtain⟨r,h1,h⟩:=bF h;obtain⟨row,m,h⟩:=bF h;obtain⟨g,q,h⟩:=map_some h;exact⟨r,row,g,h1,m,q,h.symm⟩
theorem yl{l:Int}{d:D}{f:List D}(h:setAt l d row=aD f):∃m,_H.kZ row.length l=aD m/\f=row.set m d:=by obtain⟨m,h1,g⟩:=map_some h;exact⟨m,h1,g.symm⟩
theorem xU{x:Str}{k:Nat}{t f g h A B xn:Pos}{o:oj}{sub:Bool}{w y:eB}(hN:X.N[k]?=aD x)(hv:xR X.env.scope x)(hi:SX X c i pi)(hj:SX X c j pj)(ah:SX X c w pi)(ai:SX X c y pj)(he:SX X c e p)(ho:(o=.Sub/\sub=ck)\/(o=.Add/\sub=a_))(am:jO i:=by intro _ _;rfl)(ap:jO w:=by intro _ _;rfl)(ar:jO y:=by intro _ _;rfl)(ha:∀ v,kC (.Subscript (.Subscript (.Name x t) i f) j g) X.env v=(do
  let ov<-kq [v] (fF (.Subscript (.Name x t) i f) X.env)let iv<-kq [v,ov] (fF j X.env)pE g
  kq [v,ov,iv] (pS ov iv v)release [v,ov,iv] []):=by intro _;rfl)(hs:ls [.Subscript (.Subscript (.Name x t) i f) j g] (.BinOp (.Subscript (.Subscript (.Name x h) w A) y B) o e xn) pos.line X.env=fI a_:=by rfl)(hw:lv [.Subscript (.Subscript (.Name x t) i f) j g] (.BinOp (.Subscript (.Subscript (.Name x h) w A) y B) o e xn) X.env=fI b_:=by rfl)(h1:(kd [.Subscript (.Subscript (.Name x t) i f) j g] X.env).map (·.2)=[kC (.Subscript (.Subscript (.Name x t) i f) j g) X.env]:=by rfl)(hd:(x==("__debug__":Str))=a_:=by decide)(C:(x==("__classdict__":Str))=a_:=by decide):WM X c n k (.Assign [.Subscript (.Subscript (.Name x t) i f) j g] (.BinOp (.Subscript (.Subscript (.Name x h) w A) y B) o e xn) pos) (.zJ k pi pj sub p):=by
 obtain⟨ti,av,aw⟩:=hi.cT;obtain⟨tj,ax,ay⟩:=hj.cT;obtain⟨G,aE,I⟩:=ah.cT;obtain⟨J,L,M⟩:=ai.cT;obtain⟨te,O,aI⟩:=he.cT;have U:PE X (.Subscript (.Subscript (.Name x h) w A) y B) (MN (Lb X.K) (MN (Lb X.K) (JN k) G) J):=uU mK (uU mK (gP hN hv hd C) aE ap) L ar;have val:PE X (.BinOp (.Subscript (.Subscript (.Name x h) w A) y B) o e xn) (λσ H Q=>t2I (MN (Lb X.K) (MN (Lb X.K) (JN k) G) J) te (λi j H2=>Q (.int (if sub then i-j else i+j)) H2) σ H):=by
  rcases ho with⟨rfl,rfl⟩|⟨rfl,rfl⟩;.exact Uz U O
  .exact LQ U O
 refine⟨gH (vM val (Bd (uU mK (gP hN hv hd C) av am) ax set_list ha) hs hw h1) ?_⟩;rintro E σ H⟨F0,cf,ci,H0,F,ρ,q,as,rows,fl,cn,nb,e,kk⟩;rw[_H.X19]at e;obtain⟨dk,cq,e2,e⟩:=aj e;obtain⟨bP,bS,e8,e⟩:=aj e;have W:=aF e8;clear e8;obtain⟨e8,aS⟩:=W;subst aS;obtain⟨dl,cr,e3,e⟩:=aj e;obtain⟨u,bX,l,e⟩:=aj e;have W:=aF l;clear l;obtain⟨l,aT⟩:=W;subst aT;obtain⟨dw,cv,ba,e⟩:=aj e;obtain⟨cw,cx,bg,e⟩:=aj e;obtain⟨ca,cb,r,e⟩:=aj e;have W:=aF r;clear r;obtain⟨r,bi⟩:=W;subst bi;obtain⟨dl2,cy,bm,e⟩:=aj e;obtain⟨rs,s,rfl,rfl⟩:=Dg e;refine⟨.ref q,nb.nw.val,I nb.stp.gs e2 λvi F1 H1 s1 pi=>?_⟩;have HQ:=nb.step s1;obtain⟨k0,a,g1,g2,g0,_⟩:=HQ.lA e8;rw[g0]at pi;refine⟨q,_,k0,_,rfl,pi.int,fU.of HQ.nw.out.kp.1,g2,M HQ.stp.gs e3 λvj F2 H2 s2 pj=>?_⟩;have R1:=HQ.step s2;obtain⟨cE,bn,l⟩:=bF l;obtain⟨cK,a2,w1,w2,w0,ys,w3,w4⟩:=R1.lA bn;rw[g0]at w0;cases w0;rw[g2]at w2;cases w2;obtain⟨l0,bo,l⟩:=bF l;obtain⟨du,bp,l⟩:=bF l;cases bK l;rw[bK bo]at pj;obtain⟨vu,y1,y2⟩:=wI w4 bp;rw[Rep]at y2;subst y2;refine⟨a,ys,l0,_,rfl,pj.int,fU.of w3,y1,aI R1.stp.gs ba λvw F3 H3 s3 pw=>?_⟩;have Yo:=R1.step s3;obtain⟨bq,e5,s⟩:=bF s;obtain⟨Y,br,s⟩:=bF s;rw[bK br]at pw;refine⟨u,Y,rfl,pw.int,?_⟩;refine⟨.ref q,nb.nw.val,aw Yo.stp.gs bg λcS F4 H4 s4 Z=>?_⟩;have M9:=Yo.step s4;obtain⟨k3,a3,x1,x2,x0,_⟩:=M9.lA r;rw[x0]at Z;refine⟨q,_,k3,_,rfl,Z.int,fU.of M9.nw.out.kp.1,x2,ay M9.stp.gs bm λda F5 H5 s5 ab=>?_⟩;have z:=M9.step s5;cases z.hold e5;obtain⟨k1,e6,s⟩:=bF s;obtain⟨l1,e7,s⟩:=bF s;obtain⟨m,row,j7,f1,f2,f3,rfl⟩:=Hl s;obtain⟨m2,f4,rfl⟩:=yl f3;have:=bK e6;rw[x0]at this;cases this;rw[bK e7]at ab;obtain⟨a',ac,bt,ae,bv,af⟩:=z.at f1 f2;rw[x2]at ae;cases ae;have bE:aH X.K F5 (ac.set m2 (.int (if sub then u-Y else u+Y))) (row.set m2 (.int (if sub then u-Y else u+Y))):=af.set (bO _) m2;have ag:=z.mut bt f2 bE;refine⟨a3,ac,l1,m2,rfl,ab.int,bv,by rw[af.length];exact f4,?_⟩;exact kk F5 σ _ ag.stp (s1.cI.trans (s2.cI.trans (s3.cI.trans (s4.cI.trans s5.cI)))) λ_=>⟨_,ag⟩
end
section
variable{K:PySem.W.Frag}{F H F0 H0:Hp}{ρ ρ0:List Sl}{σ σ0:_L.St}{x y:Nat}{q:dQ}{as:List dQ}{rows o4:List (List D)}
theorem NB.other{s1:Sl}(b:NB K x q as F0 ρ0 σ0 H0 F ρ σ H rows)(h:ρ[y]?=aD s1)(e:xu s1=a_):NB K x q as F0 ρ0 σ0 H0 F (ρ.set y .aN) (σ.set y o) H rows:=by
 have c:y≠x:=by rintro rfl;rw[b.nw.slot]at h;cases h;cases e
 refine⟨b.stp.zm rfl (b.stp.free h e),b.fresh,b.free,⟨by rw[ga c];exact b.nw.slot,by rw[ga c];exact b.nw.val,⟨xf rfl b.nw.out.kp,b.nw.out.fr⟩,b.nw.nd,b.nw.len,λk a f h1 g=>Ea rfl (b.nw.row k a f h1 g)⟩⟩
theorem NB.nth{r:Nat}(b:NB K x q as F0 ρ0 σ0 H0 F ρ σ H rows)(c:rows[r]?=aD row):∃a ys,as[r]?=aD a/\H a=aD (.lst ys)/\aH K F ys row:=by
 have e:r<as.length:=by rw[b.nw.len];exact(gC c).1
 obtain⟨⟨ys,f,r1⟩,_⟩:=b.nw.row r as[r] row (by simp[e]) c;exact⟨as[r],ys,by simp[e],f.1,r1⟩
end
section
variable{X:Cx}{c:Call}{n:Nat}{j k l:eB}{pj pk pl:P}{pos:Pos}
theorem Mr{x y:Str}{kx ky:Nat}{px py B s t a QS QT xn C:Pos}(hp:oQ (ef X.prog X.w) X.A X.env X.xe)(hc:X.calm=ck)(ap:X.N.Nodup)(hx:X.N[kx]?=aD x)(ar:xR X.env.scope x)(hy:X.N[ky]?=aD y)(av:Loc X.env.scope y)(aw:xR X.env.scope y)(hj:SX X c j pj)(hk:SX X c k pk)(hl:SX X c l pl)(ax:jO k:=by intro _ _;rfl)(hpl:jO l:=by intro _ _;rfl)(ha:∀ v,kC (.Subscript (.Name y B) j a) X.env v=(do
  let ov<-kq [v] (fF (.Name y B) X.env)let iv<-kq [v,ov] (fF j X.env)pE a
  kq [v,ov,iv] (pS ov iv v)release [v,ov,iv] []):=by intro _;rfl)(hs:ls [.Subscript (.Name y B) j a] (.BinOp (.Subscript (.Name y s) k QS) .Add (.Subscript (.Name y t) l QT) xn) C.line X.env=fI a_:=by rfl)(hw:lv [.Subscript (.Name y B) j a] (.BinOp (.Subscript (.Name y s) k QS) .Add (.Subscript (.Name y t) l QT) xn) X.env=fI b_:=by rfl)(h1:(kd [.Subscript (.Name y B) j a] X.env).map (·.2)=[kC (.Subscript (.Name y B) j a) X.env]:=by rfl)(hf:∀z,gd (.Name x px) X.env z=fI z:=by intro _;rfl)(ay:X.fn y=ck\/X.env.scope.names.lookup y=aD .local:=by first|(left;rfl)|(right;rfl)|assumption)(hd:(x==("__debug__":Str))=a_:=by decide)(aE:(x==("__classdict__":Str))=a_:=by decide)(aI:(y==("__debug__":Str))=a_:=by decide)(aS:(y==("__classdict__":Str))=a_:=by decide):WM X c n kx (.For (.Name y py) (.Name x px) [.Assign [.Subscript (.Name y B) j a] (.BinOp (.Subscript (.Name y s) k QS) .Add (.Subscript (.Name y t) l QT) xn) C] [] pos) (.My kx ky pj pk pl):=by
 obtain⟨tj,aT,ba⟩:=hj.cT;obtain⟨tk,bg,bi⟩:=hk.cT;obtain⟨tl,bm,bn⟩:=hl.cT;have vy:∀{p:Pos},PE X (.Name y p) (JN ky):=λ{p}=>gP hy aw aI aS;have body:=lq (vM (LQ (pos:=xn) (uU (pos:=QS) mK (vy (p:=s)) bg ax) (uU (pos:=QT) mK (vy (p:=t)) bm hpl)) (Bd (vy (p:=B)) aT set_list ha) hs hw h1) vN;refine⟨gH (Ay hp hc (vR (gP hx ar hd aE)) (aq ap hy av ay) body hf) ?_⟩;rintro E σ H⟨F0,W,Y,H0,F,ρ,q,as,rows,fl,Z,nb,e,kk⟩;rw[_H.X20]at e;obtain⟨rs,bo,e0,e⟩:=aj e;have I:=aF e0;clear e0;obtain⟨e0,CP⟩:=I;subst CP;cases nb.hold e0;refine⟨.ref q,nb.nw.val,q,rfl,.inl ⟨⟨_,fU.of nb.nw.out.kp.1⟩,?_⟩⟩;refine⟨λi m b Hi=>∃J f lW,NB X.K kx q as F0 W Y H0 J f b Hi lW/\aM F J/\m=rows.length-i/\i<=rows.length/\as.length=rows.length/\iT kx ky (cT (isVar pj) (_H.ev c pj)) (cT (isVar pk) (_H.ev c pk)) (cT (isVar pl) (_H.ev c pl)) (rows.length-i) i f=.ok fl Z,⟨_,F,ρ,rows,nb,.refl _,rfl,tY,nb.nw.len,e⟩,?_⟩;rintro i m b Hi⟨J,f,lW,L,Yn,rfl,da,M,G⟩;by_cases O:i<rows.length
 . right;have ab:(as.map V.ref)[i]?=aD (.ref (as[i]'(by lia))):=by simp[M,O]
   refine⟨⟨_,_,fU.of L.nw.out.kp.1,ab⟩,λac H'=>∃m',m'<rows.length-i/\∃J f lW,NB X.K kx q as F0 W Y H0 J f ac H' lW/\aM F J/\m'=rows.length-(i+1)/\i+1<=rows.length/\as.length=rows.length/\iT kx ky (cT (isVar pj) (_H.ev c pj)) (cT (isVar pk) (_H.ev c pk)) (cT (isVar pl) (_H.ev c pl)) (rows.length-(i+1)) (i+1) f=.ok fl Z,λac H' z=>z,?_⟩;rintro v H'⟨rfl,hv⟩;have hv:=hv _ (fU.of L.nw.out.kp.1);rw[ab]at hv;cases hv;rw[show rows.length-i=(rows.length-(i+1))+1 by lia,iT]at G;obtain⟨db,bo,e1,G⟩:=aj G;have I:=aF e1;clear e1;obtain⟨e1,bp⟩:=I;clear bp;obtain⟨s1,h0,bq,rfl⟩:=jf e1;obtain⟨f1,dc,g,G⟩:=aj G;have ae:=L.other (y:=ky) (o:=aD (.ref (as[i]'(by lia)))) h0 bq;have br:ky<b.length:=by rw[<-L.stp.gs.len];exact(gC h0).1
   have Q:(b.set ky (aD (.ref (as[i]'(by lia)))))[ky]?=aD (aD (.ref (as[i]'(by lia)))):=dS br;show ZW (Ov _ _) Ri _ (b.set ky (aD (.ref (as[i]'(by lia))))) H';generalize b.set ky (aD (.ref (as[i]'(by lia))))=de at*;have QV:as[i]?=aD (as[i]'(by lia)):=by simp[M,O]
   generalize as[i]'(by lia)=A at*;unfold rowOne at g;obtain⟨dk,df,e2,g⟩:=aj g;obtain⟨u,cy,h,g⟩:=aj g;have I:=aF h;clear h;obtain⟨h,bt⟩:=I;subst bt;obtain⟨dl,dr,e4,g⟩:=aj g;obtain⟨w,cE,r,g⟩:=aj g;have I:=aF r;clear r;obtain⟨r,bv⟩:=I;subst bv;obtain⟨dj,dy,e6,g⟩:=aj g;obtain⟨rs,U,rfl,rfl⟩:=Dg g--y[k]
   refine⟨_,Q,bi ae.stp.gs e2 λvk F1 H1 t1 pk=>?_⟩;have HQ:=ae.step t1;obtain⟨dA,g1,h⟩:=bF h;cases HQ.hold g1;obtain⟨row,g2,h⟩:=bF h;obtain⟨k1,g3,h⟩:=bF h;obtain⟨d1,g4,g5⟩:=bF h;cases bK g5;rw[bK g3]at pk;obtain⟨A1,Yl,x1,x2,x3⟩:=HQ.nth g2;rw[QV]at x1;cases x1;obtain⟨w1,y1,y2⟩:=wI x3 g4;rw[Rep]at y2;subst y2;refine⟨_,Yl,k1,_,rfl,pk.int,fU.of x2,y1,?_⟩--y[l]
   refine⟨_,Q,bn HQ.stp.gs e4 λvl F2 H2 t2 pl=>?_⟩;have R1:=HQ.step t2;obtain⟨dE,bE,r⟩:=bF r;cases R1.hold bE;obtain⟨cK,bP,r⟩:=bF r;obtain⟨l1,bS,r⟩:=bF r;obtain⟨d2,bX,ca⟩:=bF r;cases bK ca;rw[bK bS]at pl;obtain⟨A2,Fy,af,cb,cf⟩:=R1.nth bP;rw[QV]at af;cases af;obtain⟨w2,ci,ag⟩:=wI cf bX;rw[Rep]at ag;subst ag;refine⟨_,Fy,l1,_,rfl,pl.int,fU.of cb,ci,u,w,rfl,rfl,?_⟩--y[j]=
   refine⟨_,Q,ba R1.stp.gs e6 λvj F3 H3 t3 pj=>?_⟩;have Yo:=R1.step t3;obtain⟨dL,cn,U⟩:=bF U;cases Yo.hold cn;obtain⟨dP,ah,U⟩:=bF U;obtain⟨j1,cq,U⟩:=bF U;obtain⟨cS,cr,cv⟩:=map_some U;subst cv;obtain⟨m2,g6,rfl⟩:=yl cr;rw[bK cq]at pj;obtain⟨A3,cw,ai,cx,am⟩:=Yo.nth ah;rw[QV]at ai;cases ai;have M9:=Yo.mut QV ah (am.set (bO (u+w)) m2);refine⟨_,cw,j1,m2,rfl,pj.int,cx,by rw[am.length];exact g6,?_⟩;exact⟨_,by lia,F3,_,_,M9,Yn.trans (t1.cI.trans (t2.cI.trans t3.cI)),rfl,O,M,G⟩
 . left;have h0:rows.length-i=0:=by lia
   rw[h0,iT]at G;cases G;exact⟨⟨_,fU.of L.nw.out.kp.1,by simp;lia⟩,kk J b Hi L.stp Yn λ_=>⟨_,L⟩⟩
end
section
variable{K:PySem.W.Frag}{F H F1 H1:Hp}{ρ ρ1:List Sl}{σ σ1:_L.St}
theorem bW.since{b:dQ}(s:bW K F ρ σ H F1 ρ1 σ1 H1)(h:H1 b=b_):Own ρ σ b\/H b=b_:=by
 by_cases ho:Own ρ σ b;.exact .inl ho
 .right;cases e:H b with|none=>rfl|some o=>rw[s.keep b o e ho]at h;cases h
theorem NB.mk'{x:Nat}{q:dQ}{as:List dQ}{s1:Sl}(s:bW K F ρ σ H F1 ρ1 σ1 H1)(e:ρ1[x]?=aD s1)(g:xu s1=a_)(h:Uh F1 ρ1 σ1 H1 q (as.map V.ref))(nd:(q::as).Nodup)(len:as.length=rows.length)(row:∀(k:Nat)(a:dQ)(c:List D),as[k]?=aD a->rows[k]?=aD c->Wt K F1 ρ1 σ1 H1 a c)(fr:∀b,b∈q::as->Own ρ σ b\/H b=b_):NB K x q as F ρ σ H F1 (ρ1.set x (.hold rows)) (σ1.set x (aD (.ref q))) H1 rows:=by
 have hi:x<ρ1.length:=(gC e).1;have f:x<σ1.length:=by rw[<-s.gs.len];exact hi
 exact⟨s.zm rfl (s.free e g),fr,s.free e g,⟨dS hi,dS f,⟨xf rfl h.kp,h.fr⟩,nd,len,λk a c h1 i=>Ea rfl (row k a c h1 i)⟩⟩
end
theorem LK{K:PySem.W.Frag}{F H:Hp}{ρ e l:List Sl}{σ:_L.St}{ul:List Sl->List Sl}{ti:TI}{is:List Nat}{one:Bool}{c:Call}{el:Ev}{g:TG}{Q:VK}{f:List D}{m n:Nat}(hm:σ.length=m)(ax:qd K m is one g)(ay:∀R:It->Hp->Prop,(∀J F1 Z,Walk K F ρ σ H ul J f F1 e Z->R J Z)->ti σ H R)(bm:f.length<=lim)(e2:jg is one el f [] (e++dV n .aN)=.ok rows l)(k:∀ q as F' H',bW K F ρ σ H F' (ul (l.take e.length)) σ H'->Uh F' (ul (l.take e.length)) σ H' q (as.map V.ref)->(q::as).Nodup->as.length=rows.length->(∀(k:Nat)(a:dQ)(f:List D),as[k]?=aD a->rows[k]?=aD f->Wt K F' (ul (l.take e.length)) σ H' a f)->(∀b,b∈q::as->Own ρ σ b\/H b=b_)->Q (.ref q) H'):uQ n ti g (J7 K (lr c b_)) (xW K el) σ H Q:=by
 refine ay _ λJ F1 Z w Da Fx=>?_;have aE:e.length=σ.length:=w.gs.len;have gm:=w.gs.more (n:=n) (τ:=dV n b_) (by simp);have fD:F1 Da=b_:=by cases q:F1 Da with|none=>rfl|some o=>rw[w.gs.sub Da o q]at Fx;cases Fx
 have nO:¬ Own (e++dV n .aN) (σ++dV n b_) Da:=λ⟨i,⟨t,dt,q1,q2⟩,q3⟩=>by obtain⟨a,ys,z1,z2,_⟩:=gm.own i t dt q1 q2;rw[q3]at z1;cases z1;rw[Fx]at z2;cases z2
 refine⟨λi mm ys j N=>∃O u B as,bW K F1 (e++dV n .aN) (σ++dV n b_) Z O u j N/\j.take m=σ/\ys=as.map V.ref/\N Da=aD (.lst ys)/\O Da=b_/\¬ Own u j Da/\(Da::as).Nodup/\as.length=B.length/\(∀(k:Nat)(a:dQ)(f:List D),as[k]?=aD a->B[k]?=aD f->Wt K O u j N a f/\(Own (e++dV n .aN) (σ++dV n b_) a\/Z a=b_))/\B.length<=i/\mm=f.length-i/\i<=f.length/\jg is one el (f.drop i) B u=.ok rows l,⟨_,F1,_,[],[],(bW.refl gm).K7 Fx fD nO,by rw[nX (by lia),jI (by lia)],rfl,bf,fD,nO,by simp,rfl,λk a f h=>by simp at h,tY,rfl,tY,e2⟩,?_⟩;rintro i mm ys j N⟨O,u,B,as,si,ap,ab,hD,hF,hO,ac,C,I,bn,rfl,bo,G⟩;refine⟨hD,?_⟩;have stay:∀{F2 H2:Hp}{ae:List Sl}{L:_L.St},bW K O u j N F2 ae L H2->H2 Da=aD (.lst ys)/\F2 Da=b_/\¬ Own ae L Da:=λ{F2 H2 ae L}s=>by have:=(Uh.stp (xs:=ys) ⟨⟨hD,hO⟩,hF⟩ s);exact⟨this.kp.1,this.fr,this.kp.2⟩
 obtain⟨s1,s2⟩:=w.src n i O u j N si;by_cases af:i<f.length
 . right;have hd:f[i]?=aD f[i]:=by simp[af]
   obtain⟨go,step⟩:=s1 _ hd;refine⟨go,λx H2 y=>?_⟩;obtain⟨F2,ext,rx⟩:=step x H2 y;have t2:=ext.stp si.gs;rw[hR af,Ky]at G;cases hbd:cF u is one f[i]with|none=>rw[hbd]at G;cases G|some X=>rw[hbd]at G;obtain⟨re,ag,ee,G⟩:=aj G;cases re with|val _=>cases G|own ah=>
     replace G:jg is one el (f.drop (i+1)) (B++[ah]) ag=.ok rows l:=G;refine ax x _ F2 u X j H2 _ t2.gs rx hbd λL sb aI=>?_;have t3:=t2.trans sb;refine⟨F2,X,ck,X,t3.gs,by rw[lr],λF4 H4 s4=>?_⟩;have t4:=t3.trans s4;refine(show xW K el L H4 _ from⟨F4,X,.own ah,ag,t4.gs,ee,λv F5 H5 s5 rr=>?_⟩);have t6:=t4.trans s5;obtain⟨y1,y2,y3⟩:=stay t6;obtain⟨z1,z2,z3⟩:=stay t4;have ai:ys.length<sizeLine:=by have U:lim=sizeLine:=rfl;rw[ab,en];lia
     obtain⟨A,xs,rfl,a1,a2,a3,a4,a5⟩:=rr;have ar:A≠Da:=by
      rintro rfl;rcases a5 with z|z;.exact z3 z
      .rw[z1]at z;cases z
     have nA:A∉as:=λhA=>by
      obtain⟨M,E⟩:=l8 hA;have am:M<B.length:=by rw[<-C];exact(gC E).1
      obtain⟨⟨zs,k1,_⟩,_⟩:=(I M A B[M] E (by simp[am])).1.stp t4;rcases a5 with z|z;.exact k1.2 z
      .rw[k1.1]at z;cases z
     have fA:Own (e++dV n .aN) (σ++dV n b_) A\/Z A=b_:=by
      have t:=si.trans t4;rcases a5 with z|z;.exact t.xF A z
      .exact t.since z
     refine⟨y1,ai,_,by lia,F5,ag,B++[ah],as++[A],(si.trans t6).K7 Fx y2 y3,aI.trans ap,by rw[ab];simp,bf,y2,y3,?_,by simp[C],λM a0 aS h1 U=>?_,by simp;lia,rfl,af,G⟩
     . rw[<-nI,List.nodup_append];refine⟨ac,by simp,λp hp r hr=>?_⟩;simp at hr;subst hr;rcases eM.mp hp with rfl|hp;.exact λz=>ar z.symm
       .rintro rfl;exact nA hp
     . by_cases E:M<as.length
       . rw[ei E]at h1;rw[ei (by lia)]at U;obtain⟨w0,f0⟩:=I M a0 aS h1 U;obtain⟨⟨zs,k1,r1⟩,g1⟩:=w0.stp t6;have na:a0≠Da:=by rintro rfl;exact(hX.mp ac).1 (ko h1)
         exact⟨⟨⟨zs,⟨by rw[aG na];exact k1.1,k1.2⟩,r1⟩,g1⟩,f0⟩
       . rw[eW (by lia)]at h1;rw[eW (by lia)]at U;have:M-as.length=0:=by have:=(gC h1).1;simp at this;exact this
         rw[this]at h1;rw[<-C,this]at U;cases h1;cases U;exact⟨⟨⟨xs,⟨by rw[aG ar];exact a1,a4⟩,a3⟩,a2⟩,fA⟩
 . left;have aT:f.drop i=[]:=by rw[md];lia
   rw[aT,Ig]at G;cases G;refine⟨s2 (by lia),?_⟩;have Y:j.take e.length=σ:=by rw[aE,hm];exact ap
   obtain⟨l1,l2⟩:=bW.less (m:=e.length) rfl w.gs (by simp) si;rw[Y]at l1;obtain⟨z1,z2⟩:=w.fin _ _ _ _ l1--the outer list:with nothing in it,it is like any new one
   have ba:=si.K7 (o:=.lst []) Fx hF hO;obtain⟨av,Yi⟩:=bW.less (m:=e.length) rfl w.gs (by simp) ba;rw[Y]at av;obtain⟨bp,bg⟩:=w.fin _ _ _ _ av;have rr:dH K O l j (upd N Da (.lst [])) (e++dV n .aN) (σ++dV n b_) Z (.ref Da) (.own []):=⟨Da,[],rfl,bf,hF,.nil,hO,.inr Fx⟩;have R0:=Yi _ _ rr;rw[Y]at R0;obtain⟨_,_,q0,_,q3,_,q5,q6⟩:=bg _ _ R0;cases q0;have aw:∀(k:Nat)(a:dQ)(f:List D),as[k]?=aD a->rows[k]?=aD f->Wt K O (ul (l.take e.length)) σ N a f/\(Own ρ σ a\/H a=b_):=λk a f h1 U=>by obtain⟨⟨⟨xs,k1,r1⟩,f1⟩,f2⟩:=I k a f h1 U;have rr:dH K O l j N (e++dV n .aN) (σ++dV n b_) Z (.ref a) (.own f):=⟨a,xs,rfl,k1.1,f1,r1,k1.2,f2⟩;have R0:=l2 _ _ rr;rw[Y]at R0;obtain⟨a',bi,q0,q2,q3,q4,q5,q6⟩:=z2 _ _ R0;cases q0;exact⟨⟨⟨bi,⟨q2,q5⟩,q4⟩,q3⟩,q6⟩
   refine k Da as O N z1 ⟨⟨by rw[hD,ab],q5⟩,q3⟩ ac C (λk a f h1 U=>(aw k a f h1 U).1) λb hb=>?_;rcases eM.mp hb with rfl|hb;.exact q6
   . obtain⟨M,E⟩:=l8 hb;have am:M<rows.length:=by rw[<-C];exact(gC E).1
     exact(aw M b rows[M] E (by simp[am])).2
section
variable{X:Cx}{c:Call}{nn n:Nat}{tg iter elt:eB}{ps pe:P}{pos:Pos}{sts:List fR}{ss:List S}{scope:k8}{N':List Str}
theorem Pa{i:Nat}{x:Str}{b f:Pos}{g:TG}{is:List Nat}{one:Bool}(hc:X.calm=ck)(B:X.N.Nodup)(r:X.N[i]?=aD x)(E:Loc X.env.scope x)(ok:iz X scope N' n)(hi:SI X c tg iter ps)(G:∀cl C s₀ H₀ ex,PG (uY X scope N' cl C s₀ H₀ ex) tg g)(t:qd X.K X.N.length is one g)(J:∀cl C s₀ H₀ ex,SQ (uY X scope N' cl C s₀ H₀ ex) c [] b_)(he:∀cl C s₀ H₀ ex,SX (uY X scope N' cl C s₀ H₀ ex) c elt pe)(L:SBT X c nn i sts ss)(u:jn (.ListComp elt [⟨tg,iter,[],0⟩] scope pos) (aD (.Name x b)) f.line X.env=fI ck:=by rfl)(hs:∀x,gd iter X.env x=fI x:=by intro _;rfl)(M:X.fn x=ck\/X.env.scope.names.lookup x=aD .local:=by first|(left;rfl)|(right;rfl)|assumption):SB X c nn (.Assign [.Name x b] (.ListComp elt [⟨tg,iter,[],0⟩] scope pos) f::sts) (.Mx i ps n is one pe::ss):=by
 have h0:=Fo (tt:=J7 X.K (lr c b_)) (te:=xW X.K (_H.ev c pe)) hc B r E ok hi G J (λcl C s₀ H₀ ex=>(he cl C s₀ H₀ ex).ev) u hs M;refine λj s σ H D I q=>lq h0 L.p j s σ H D I ?_;have O:σ.length=X.N.length:=I.len;obtain⟨F,ρ,Q,w,U,e,W⟩:=q;rw[XC]at e;obtain⟨f1,Y,a,e⟩:=aj e;rw[_H.X18]at a;obtain⟨Z,y,e2,a⟩:=aj a;split at a;.rename_i l;obtain⟨rows,ab,e3,a⟩:=aj a;obtain⟨ac,A,m,a⟩:=aj a;cases a;have zz:=aF m;clear m;obtain⟨m,_⟩:=zz;obtain⟨s1,h1,h2,rfl⟩:=jf m;refine(show uQ n (tIt X.K (isVar ps) (_H.ev c ps)) g (J7 X.K (lr c b_)) (xW X.K (_H.ev c pe)) σ H (λv H1=>jG i v σ H1 (Zv X.K i (jC c nn ss) D))from LK (c:=c) (ul:=bG ρ (isVar ps)) O t (λR h=>⟨F,ρ,Z,y,U,e2,h⟩) l e3 λq as F' H' s wq nd len row fr=>?_);exact⟨F,ρ,σ,H,F',_,q,as,rows,Q,w,NB.mk' s h1 h2 wq nd len row fr,e,λF2 z H2 s2=>W F2 z H2 s2⟩
 .cases a
end
end _H
namespace _H
open PySem _L Spec PyProof.Rows Calls W
section
variable{X:Cx}{c:Call}{a:eB}{pa:P}{pos p1 p2 p3:Pos}
theorem Yv(hc:X.calm=ck):dO X (.type "list") (Hm X.K λx=>blt .lkT [x]):=by
 rintro B s σ H xs us Q I r⟨x,G,F,d,J,sm,L,he,k⟩;obtain⟨kvs,rfl⟩:∃kvs,d=.dD (.t kvs):=by cases d with
  |dD m=>cases m with|t kvs=>exact⟨kvs,rfl⟩|k kvs=>cases he
  |_=>cases he
 obtain⟨M,he⟩:=bL (show(if kvs.length<=16777216 then aD (R.own (kvs.map λp=>D.tup (p.1.map D.int)))else b_)=aD J from he);subst he;obtain⟨q,N,rfl,O⟩:=L.dD sm;subst G;obtain⟨u,rfl,U⟩:=r.one;cases U;obtain⟨ho,hz,W,f,l,Y,es,ep,Z,g2,g3,C,g5⟩:=(show cM X.prog X.w H s.heap q (.fG N (.dT (kvs.map J5)))from I.hok q _ O);have n:pq s.heap q es ep:=⟨Y,Z,g2,g3⟩;have g:f.length=kvs.length:=by rw[<-Paired.length l,en]
 have y:es.size=kvs.length:=by rw[<-jv,C,en,g]
 have z:es.toList.map (·.key)=f.map λt=>eR t.2.1:=by rw[C,eC];rfl
 refine kdl_call (Nq (es:=es) (ep:=ep) W) (I.ok.hd hc) n (by rw[y,gX];lia) λh' tk h c' kp hD i=>?_;have j:=Bk z i;have ab:h.toList.length=kvs.length:=by rw[j,en,g]
 have E:Ext F H (ur F H (f.map (·.2.1))) H:=Gs sm λb hb=>by obtain⟨t,A,rfl⟩:=ey.mp hb;obtain⟨ks,e⟩:=Jt l t A;exact⟨_,e⟩
 have rs:aH X.K (ur F H (f.map (·.2.1))) (f.map λt=>V.ref t.2.1) (kvs.map λp=>D.tup (p.1.map D.int)):=DP l λt A=>if_pos (ey.mpr ⟨t,A,rfl⟩);have vv:Vals (f.map λt=>V.ref t.2.1) h.toList:=by rw[j];exact uB f
 refine⟨.ref s.heap.objs.size,_,I.laid (t':=tk) (o:=.lst (f.map λt=>V.ref t.2.1)) (h':=h') kp (di) ⟨by rw[en,g,gX];lia,h.toList,c',vv,by rw[Array.toArray_toList];exact hD⟩,rfl,?_⟩;exact vI E.sub rs (I.hok.fresh (di)) λv F2 H2 x rn=>k v F2 H2 (E.VB x) rn
theorem Wg{x:Str}{b:Pos}(e:x="list")(hc:X.calm=ck)(f:Gl X x)(g:X.mg x=b_)(i:SX X c a pa)(hs:ea [a] X.env=(a_,fF a X.env)::ea [] X.env:=by rfl):SX X c (.Call (.Name x b) [a] [] pos) (.blt .lkT [pa]):=by subst e;exact kI (λh=>mJ (Yv hc) f g (by decide+kernel) h (he:=hs)) i (λρ=>rfl) rfl hs
end
end _H
namespace _U
open PySem Spec PyProof.Rows
theorem tX(a:List bV):oC a.toArray b_ b_ (aD (-1))=a.reverse.toArray:=by
 have h:=JV a.toArray;have e:oC a.toArray b_ b_ (aD (-1))=((ej a.toArray.size).filterMap λ(m:Nat)=>a.toArray[((a.toArray.size:Int)-1+(m:Int)*(-1)).toNat]?).toArray:=by
  unfold oC;generalize a.toArray=xs;show((sliceRange ((xs.size:Int)-1) (-1) (-1)).filterMap (xs[·]?)).toArray=_;unfold sliceRange;rw[ny];have b:(if(-1:Int)>0 then if(xs.size:Int)-1< -1 then(-1-((xs.size:Int)-1)+-1-1)/ -1 else 0 else if(xs.size:Int)-1>-1 then((xs.size:Int)-1- -1- -1-1)/ - -1 else 0).toNat=xs.size:=by rw[if_neg (by lia),show(- -1:Int)=1 from rfl,Int.ediv_one];split<;>lia
  rw[b];simp only[kU,Int.mul_comm (-1)]
 rw[e,h]
end _U
namespace _H
open PySem _L Spec PyProof.Rows
section
variable{X:Cx}{c:Call}{e a:eB}{te:TE}{pa:P}{pos p1 p2 p3:Pos}
theorem Ep{j}(m:SX X c a pa):SX X c (.Subscript a (.Slice b_ b_ (aD (.UnaryOp .USub (.Constant (.int 1) j p1) p2)) p3) pos) (.blt .HF [pa]):=by refine IK (f:=λx=>blt .HF [x]) (λh1=>GC ?_ h1) m (λρ=>rfl) rfl;rintro g s σ H x v t A Q I n hs⟨F,d,r,sm,p,he,k⟩;cases d with|lst B=>cases he;obtain⟨a,xs,rfl,u,w⟩:=p.lst sm;cases n;obtain⟨y,h,i,z⟩:=I.list u;have l:=h.length;refine⟨"list",_,slot_list_getitem.lookup,i.isList.typeIs,?_⟩;refine ri i.isList hs .none .none (.int (-1) t) (by simp) ?_ (by rw[ec]<;>lia);rw[_U.tX];refine⟨.ref s.heap.objs.size,_,I.laid (t':=s.toks) (o:=.lst xs.reverse) (λb C q=>eO q) (di) ?_,rfl,vI sm (zx w) (I.hok.fresh (di)) k⟩;exact⟨by rw[mB];exact z,_,0,yF h,dZ _ rfl⟩|_=>cases he
end
end _H
noncomputable section
set_option maxHeartbeats 4000000
namespace _T
open PySem _L Spec PyProof.Rows _H
local macro_rules|`(term|⇑$n)=>`(P.con (.int $n))
local macro_rules|`(term|↑$n)=>`(P.var $n)
local macro_rules|`(tactic|ac_rfl)=>`(tactic|first|exact et rfl|exact eu (et rfl))
set_option hygiene false
local macro_rules|`(term|↥($a,$b,$d))=>`(o7 Pg w K mg base JC (k+1) f fd $a (PX K $b (λargs=>enter c n $d args)))
local macro_rules|`(term|↥($a,$b,$d,0))=>`(aW Pg w K mg base k c $a $b $d)
set_option hygiene true
local macro_rules|`(term|⇑($x))=>`(λ_ _ _ _ _=>$x)
local macro_rules|`(tactic|exists$e)=>`(tactic|with_reducible refine$e)
local macro_rules|`(tactic|rfl')=>`(tactic|with_reducible refine aR ?_ ?_)
set_option hygiene false
local macro_rules|`(tactic|exists$i,$e)=>`(tactic|((with_reducible refine iy (i:=$i) ?_ ?_ ?_ ?_ ?_ ?_);exact nd;exact rfl;exact oi;rotate_left;rfl;exact oi;exact$e))
local macro_rules|`(tactic|exists$i,$e,0)=>`(tactic|((with_reducible refine Ex (i:=$i) ?_ ?_ ?_ ?_ ?_ ?_ ?_ ?_ ?_);exact gy;exact hc;exact nd;exact rfl;exact oi;exact$e;rotate_left;(· intro _;rfl);exact oi))
local macro_rules|`(tactic|exists$a,$b,0,0)=>`(tactic|(refine aaA $a $b rfl rfl λcdv A outer s H E hr=>?_;have nd:=($b).nd))
local macro_rules|`(tactic|exists(),$e)=>`(tactic|((with_reducible refine Tn ?_);exact$e))
set_option hygiene true
local macro_rules|`(term|‹$l›)=>`((show(($l):List Str).Nodup by decide+kernel))
theorem hc:ck=ck:=rfl
theorem oi{b:Type}{a:b}{p:Prop}:a=a\/p:=.inl rfl
theorem aP{X:Cx}{c:Call}{a:eB}{es:List eB}{b:P}{ps:List P}(e:SX X c a b)(hr:SG X c es ps)(h:nst a=ck):SG X c (a::es) (b::ps):=Og e hr (jX h)
theorem bN{X:Cx}{c:Call}{a:eB}{es:List eB}{b:P}{ps:List P}(e:SX X c a b)(hr:SA X c es ps)(h:nst a=ck):SA X c (a::es) (b::ps):=qO e hr (jX h)
variable{Pg:ek}{w:fg}{K:PySem.W.Frag}{mg:Str->Option bV}{base:Heap}{f:dQ}{fd:ja}{k n:Nat}{c:Call}{cl:Nat->dQ}
noncomputable def top(i:Nat):fR:=PySem.Challenge.pw_hourhaul_k62_whole_plans_turned_and_stea.main.body.getD i (.Pass ⟨0,0,0,0⟩)
noncomputable abbrev s0:fR:=top 1
noncomputable def b0:List S:=[.ret (.blt .all [.comp (.zip ↑0 (.slice ↑0 ⇑1 (.con .non))) 2 [1,2] a_ b_ (.cmp .lt ↑1 ↑2)])]
noncomputable def f0:Fd:=⟨1,1,b0⟩
theorem sc0:aL ["things"] ["things"] (aC s0):={}
include cl in
theorem d0(a:iM K "is_rising" "is_rising" s0 f fd)(dF:mg "all"=b_)(jh:mg "zip"=b_):↥(["things"],1,f0):=by
 exists a,sc0,0,0;refine aR ?_ ?_;.exists(),jq rfl hc (by rfl) dF (bZ (N':=["things","one","other"]) hc (mR rfl (by rfl)) (sS rfl (by rfl) jh (sv 0) (ig (sv 0) (iJ aa) jQ)) ⇑(cU hc (az (aq (i:=1) ‹["things","one","other"]› rfl (et rfl) (eu rfl)) (az (aq (i:=2) ‹["things","one","other"]› rfl (et rfl) (eu rfl)) bU))) (fC rfl (aX (show 1<=1 by decide) (aX (show 1<=2 by decide) fB))) ⇑(bB) ⇑((fJ (v9 (bA hr)) (sv 1) (sv 2) (bj _))))
 exact au
noncomputable abbrev s1:fR:=top 3
noncomputable def b1:List S:=[.ret (.bin .add ↑1 (.idx (.idx (.idx ↑0 ⇑1) ↑2) ⇑3))]
noncomputable def f1:Fd:=⟨3,3,b1⟩
theorem sc1:aL ["net","hour","way"] ["net","hour","way"] (aC s1):={}
include cl in
theorem d1(a:iM K "hour_out" "hour_out" s1 f fd):↥(["net","hour","way"],3,f1):=by
 exists a,sc1,0,0;refine aR ?_ ?_;.exists(),aA aO (sv 1) (ao (ao (ao (sv 0) aa) (sv 2)) aa)
 exact au
noncomputable abbrev s2:fR:=top 5
noncomputable def b2:List S:=[.ifs (.not (.blt .all [.comp ↑0 3 [1,2,3] a_ b_ (.and (.cmp .ge ↑1 ⇑0) (.cmp .ge ↑3 ⇑1))])) [.ret (.con (.bl a_))] [],.ret (.call 0 [.comp ↑0 3 [1,2,3] a_ b_ (.tup [↑1,↑2])])]
noncomputable def f2:Fd:=⟨1,1,b2⟩
theorem sc2:aL ["triples"] ["triples"] (aC s2):={}
include cl in
theorem d2(a:iM K "is_plan" "is_plan" s2 f fd)(dF:mg "all"=b_)(b:↥(0,"is_rising",1,0)):↥(["triples"],1,f2):=by
 exists a,sc2,0,0;refine aR ?_ ?_;.exists dU ?_ ?_ ?_;exact il (iu (jq rfl hc (by rfl) dF (bZ (N':=["triples","hour","way","loads"]) hc (mR rfl (by rfl)) (cY (sv 0)) ⇑(cU hc (az (aq (i:=1) ‹["triples","hour","way","loads"]› rfl (et rfl) (eu rfl)) (az (aq (i:=2) ‹["triples","hour","way","loads"]› rfl (et rfl) (eu rfl)) (az (aq (i:=3) ‹["triples","hour","way","loads"]› rfl (et rfl) (eu rfl)) bU)))) (fC rfl (aX (show 1<=1 by decide) (aX (show 1<=2 by decide) (aX (show 1<=3 by decide) fB)))) ⇑(bB) ⇑((pI (fJ v8 (sv 1) aa (bj _)) (mH (fJ v8 (sv 3) aa (bj _))))))));(· rfl';(· exists(),fL);exact au);exact au
 rfl';.exists(),cV b hr (aP (bZ (N':=["triples","hour","way","loads"]) hc (mR rfl (by rfl)) (cY (sv 0)) ⇑(cU hc (az (aq (i:=1) ‹["triples","hour","way","loads"]› rfl (et rfl) (eu rfl)) (az (aq (i:=2) ‹["triples","hour","way","loads"]› rfl (et rfl) (eu rfl)) (az (aq (i:=3) ‹["triples","hour","way","loads"]› rfl (et rfl) (eu rfl)) bU)))) (fC rfl (aX (show 1<=1 by decide) (aX (show 1<=2 by decide) (aX (show 1<=3 by decide) fB)))) ⇑(bB) ⇑((cN (bN (sv 1) (bN (sv 2) aK rfl) rfl)))) aB rfl)
 exact au
noncomputable abbrev s3:fR:=top 6
noncomputable def b3:List S:=[.ret (.and (.chain .le .lt ⇑0 (.idx ↑2 ⇑1) (.blt .len [.idx ↑0 ⇑1])) (.and (.cmp .le (.idx ↑2 ⇑2) (.idx (.idx (.idx ↑0 ⇑1) (.idx ↑2 ⇑1)) ⇑2)) (.cmp .le (.call 1 [↑0,.idx ↑2 ⇑0,.idx ↑2 ⇑1]) ↑1)))]
noncomputable def f3:Fd:=⟨3,3,b3⟩
theorem sc3:aL ["net","last","triple"] ["net","last","triple"] (aC s3):={}
include cl in
theorem d3(a:iM K "triple_fits" "triple_fits" s3 f fd)(fO:mg "len"=b_)(b:↥(1,"hour_out",3,0)):↥(["net","last","triple"],3,f3):=by
 exists a,sc3,0,0;refine aR ?_ ?_;.exists(),pI (Jj lE (v9 (bA hr)) aa (ao (sv 2) aa) (lR rfl (by rfl) fO (ao (sv 0) aa))) (pI (fJ lE (ao (sv 2) aa) (ao (ao (ao (sv 0) aa) (ao (sv 2) aa)) aa) (bj _)) (mH (fJ lE (cV b hr (aP (sv 0) (aP (ao (sv 2) aa) (aP (ao (sv 2) aa) aB rfl) rfl) rfl)) (sv 1) (bj _)))).ev
 exact au
noncomputable abbrev s4:fR:=top 7
noncomputable def b4:List S:=[.xm 3 a_,.jk ↑1 [4,5,6] a_ [.ifs (.cmp .eq (.idx (.idx (.idx ↑0 ⇑1) ↑5) ⇑1) ↑2) [.asg 7 (.call 1 [↑0,↑4,↑5]),.dput 3 ↑7 (.bin .add (.Wl 3 ↑7 ⇑0) ↑6)] [],.ifs (.cmp .eq (.idx (.idx (.idx ↑0 ⇑1) ↑5) ⇑0) ↑2) [.dput 3 ↑4 (.bin .sub (.Wl 3 ↑4 ⇑0) ↑6)] []],.ret ↑3]
noncomputable def f4:Fd:=⟨3,8,b4⟩
theorem sc4:aL ["net","plan","place","changes","hour","way","loads","out"] ["net","plan","place"] (aC s4):={}
include cl in
theorem d4(a:iM K "changes_at" "changes_at" s4 f fd)(b:↥(1,"hour_out",3,0)):↥(["net","plan","place"],3,f4):=by
 exists a,sc4,0,0;refine aR ?_ ?_;.exact(Qk (i:=3) nd rfl oi (by rfl) (et rfl))
 rfl';.exact(pK gy hc (cY (sv 1)) (cU hc (az (aq (i:=4) nd rfl oi oi) (az (aq (i:=5) nd rfl oi oi) (az (aq (i:=6) nd rfl oi oi) bU)))) (jc rfl (aY _ _ (aY _ _ (aY _ _ fX 6) 5) 4)) (by rfl';(· exists dU ?_ ?_ ?_;exact cG (iZ (bA hr)) (ao (ao (ao (sv 0) aa) (sv 5)) aa) (sv 2) (bj _);(· rfl';(· exists 7,cV b hr (aP (sv 0) (aP (sv 4) (aP (sv 5) aB rfl) rfl) rfl));(· rfl';exact Dd (i:=3) (bA hr) rfl (by ac_rfl) (sv 7) (aA aO (KD (i:=3) (bA hr) rfl (by ac_rfl) (sv 7) aa ⟨rfl,rfl,rfl,rfl⟩) (sv 6)) (by rfl);exact au));exact au);(· rfl';(· exists dU ?_ ?_ ?_;exact cG (iZ (bA hr)) (ao (ao (ao (sv 0) aa) (sv 5)) aa) (sv 2) (bj _);(· rfl';exact Dd (i:=3) (bA hr) rfl (by ac_rfl) (sv 4) (aA cL (KD (i:=3) (bA hr) rfl (by ac_rfl) (sv 4) aa ⟨rfl,rfl,rfl,rfl⟩) (sv 6)) (by rfl);exact au);exact au);exact au)))
 rfl';.exists(),sv 3
 exact au
noncomputable abbrev s5:fR:=top 8
noncomputable def b5:List S:=[.asg 3 (.call 4 [↑0,↑1,↑2]),.asg 4 ⇑0,.jk (.blt .zH [↑3]) [5] ck [.aug 4 a_ (.bin .Hz ↑3 ↑5),.ifs (.cmp .lt ↑4 ⇑0) [.ret (.con (.bl a_))] []],.ret (.con (.bl ck))]
noncomputable def f5:Fd:=⟨3,6,b5⟩
theorem sc5:aL ["net","plan","place","changes","standing","hour"] ["net","plan","place"] (aC s5):={}
include cl in
theorem d5(a:iM K "never_short" "never_short" s5 f fd)(dM:mg "sorted"=b_)(b:↥(4,"changes_at",3,0)):↥(["net","plan","place"],3,f5):=by
 exists a,sc5,0,0;refine aR ?_ ?_;.exists 3,cV b hr (aP (sv 0) (aP (sv 1) (aP (sv 2) aB rfl) rfl) rfl)
 rfl';.exists 4,aa
 rfl';.exists 5,cY (Jk rfl hc (by rfl) dM (sv 3)),0;(· rfl';exact Vo (i:=4) (sub:=a_) O9 nd rfl oi (wQ (bA hr) (sv 3) (sv 5) (λ_ _=>rfl)) (et rfl);(· rfl';(· exists dU ?_ ?_ ?_;exact cG (v9 (bA hr)) (sv 4) aa (bj _);(· rfl';(· exists(),fL);exact au);exact au);exact au))
 rfl';.exists(),fL
 exact au
noncomputable abbrev s6:fR:=top 9
noncomputable def b6:List S:=[.ifs (.or (.not (.call 2 [↑2])) (.not (.blt .all [.comp ↑2 1 [3] ck b_ (.call 3 [↑0,↑1,↑3])]))) [.ret (.con (.bl a_))] [],.ret (.blt .all [.comp (.nJ ⇑1 (.idx ↑0 ⇑0)) 1 [3] ck b_ (.call 5 [↑0,↑2,↑3])])]
noncomputable def f6:Fd:=⟨3,3,b6⟩
theorem sc6:aL ["net","last","plan"] ["net","last","plan"] (aC s6):={}
include cl in
theorem d6(a:iM K "plan_right" "plan_right" s6 f fd)(dF:mg "all"=b_)(aJ:mg "range"=b_)(b:↥(2,"is_plan",1,0))(e:↥(5,"never_short",3,0))(g:↥(3,"triple_fits",3,0)):↥(["net","last","plan"],3,f6):=by
 exists a,sc6,0,0;refine aR ?_ ?_;.exists dU ?_ ?_ ?_;exact SW.st (vf (il (iu (cV b hr (aP (sv 2) aB rfl)))) (pL (il (iu (jq rfl hc (by rfl) dF (bZ (N':=["net","last","plan","triple"]) hc (mR rfl (by rfl)) (cY (sv 2)) ⇑(aq (i:=3) ‹["net","last","plan","triple"]› rfl (et rfl) (eu rfl)) (bI (di)) ⇑(bB) ⇑((cV g hr (aP (sv 0) (aP (sv 1) (aP (sv 3) aB rfl) rfl) rfl)))))))));(· rfl';(· exists(),fL);exact au);exact au
 rfl';.exists(),jq rfl hc (by rfl) dF (bZ (N':=["net","last","plan","place"]) hc (mR rfl (by rfl)) (qQ rfl (by rfl) aJ aa (ao (sv 0) aa)) ⇑(aq (i:=3) ‹["net","last","plan","place"]› rfl (et rfl) (eu rfl)) (bI (di)) ⇑(bB) ⇑((cV e hr (aP (sv 0) (aP (sv 2) (aP (sv 3) aB rfl) rfl) rfl))))
 exact au
noncomputable abbrev s7:fR:=top 10
noncomputable def b7:List S:=[.ret (.and (.cmp .ne (.idx (.idx (.idx ↑0 ⇑1) ↑1) ⇑1) ⇑0) (.cmp .ne (.idx (.idx (.idx ↑0 ⇑1) ↑1) ⇑0) (.bin .sub (.idx ↑0 ⇑0) ⇑1)))]
noncomputable def f7:Fd:=⟨2,2,b7⟩
theorem sc7:aL ["net","number"] ["net","number"] (aC s7):={}
include cl in
theorem d7(a:iM K "is_clean_way" "is_clean_way" s7 f fd):↥(["net","number"],2,f7):=by
 exists a,sc7,0,0;refine aR ?_ ?_;.exists(),pI (fJ (jz (bA hr)) (ao (ao (ao (sv 0) aa) (sv 1)) aa) aa (bj _)) (mH (fJ (jz (bA hr)) (ao (ao (ao (sv 0) aa) (sv 1)) aa) (aA cL (ao (sv 0) aa) aa) (bj _)))
 exact au
noncomputable abbrev s8:fR:=top 11
noncomputable def b8:List S:=[.ifs (.or (.not (.call 6 [↑0,↑1,↑2])) (.not (.blt .all [.comp ↑2 3 [3,4,5] a_ b_ (.call 7 [↑0,↑4])]))) [.ret (.con (.bl a_))] [],.ret (.blt .all [.comp (.nJ ⇑1 (.bin .sub (.idx ↑0 ⇑0) ⇑1)) 1 [3] ck b_ (.cmp .eq (.call 9 [↑0,↑2,↑3,↑1]) ⇑0)])]
noncomputable def f8:Fd:=⟨3,3,b8⟩
theorem sc8:aL ["net","last","plan"] ["net","last","plan"] (aC s8):={}
include cl in
theorem d8(a:iM K "plan_clean" "plan_clean" s8 f fd)(dF:mg "all"=b_)(aJ:mg "range"=b_)(b:↥(7,"is_clean_way",2,0))(e:↥(6,"plan_right",3,0))(g:↥(9,"stands_at",4,0)):↥(["net","last","plan"],3,f8):=by
 exists a,sc8,0,0;refine aR ?_ ?_;.exists dU ?_ ?_ ?_;exact SW.st (vf (il (iu (cV e hr (aP (sv 0) (aP (sv 1) (aP (sv 2) aB rfl) rfl) rfl)))) (pL (il (iu (jq rfl hc (by rfl) dF (bZ (N':=["net","last","plan","hour","way","loads"]) hc (mR rfl (by rfl)) (cY (sv 2)) ⇑(cU hc (az (aq (i:=3) ‹["net","last","plan","hour","way","loads"]› rfl (et rfl) (eu rfl)) (az (aq (i:=4) ‹["net","last","plan","hour","way","loads"]› rfl (et rfl) (eu rfl)) (az (aq (i:=5) ‹["net","last","plan","hour","way","loads"]› rfl (et rfl) (eu rfl)) bU)))) (fC rfl (aX (show 3<=3 by decide) (aX (show 3<=4 by decide) (aX (show 3<=5 by decide) fB)))) ⇑(bB) ⇑((cV b hr (aP (sv 0) (aP (sv 4) aB rfl) rfl)))))))));(· rfl';(· exists(),fL);exact au);exact au
 rfl';.exists(),jq rfl hc (by rfl) dF (bZ (N':=["net","last","plan","place"]) hc (mR rfl (by rfl)) (qQ rfl (by rfl) aJ aa (aA cL (ao (sv 0) aa) aa)) ⇑(aq (i:=3) ‹["net","last","plan","place"]› rfl (et rfl) (eu rfl)) (bI (di)) ⇑(bB) ⇑((fJ (iZ (bA hr)) (cV g hr (aP (sv 0) (aP (sv 2) (aP (sv 3) (aP (sv 1) aB rfl) rfl) rfl) rfl)) aa (bj _))))
 exact au
noncomputable abbrev s9:fR:=top 12
noncomputable def b9:List S:=[.asg 4 (.call 4 [↑0,↑1,↑2]),.ret (.blt .sum [.comp (.blt .keys [↑4]) 1 [5] ck (aD (.cmp .le ↑5 ↑3)) (.bin .Hz ↑4 ↑5)])]
noncomputable def f9:Fd:=⟨4,5,b9⟩
theorem sc9:aL ["net","plan","place","hour","changes"] ["net","plan","place","hour"] (aC s9):={}
include cl in
theorem d9(a:iM K "stands_at" "stands_at" s9 f fd)(vq:mg "sum"=b_)(b:↥(4,"changes_at",3,0)):↥(["net","plan","place","hour"],4,f9):=by
 exists a,sc9,0,0;refine aR ?_ ?_;.exists iy (i:=4) ?_ ?_ ?_ ?_ ?_ ?_;exact nd;exact rfl;exact eu rfl;rotate_left;rfl;exact oi;exact cV b hr (aP (sv 0) (aP (sv 1) (aP (sv 2) aB rfl) rfl) rfl)
 rfl';.exists(),Jb rfl hc (by rfl) vq (bZ (N':=["net","plan","place","hour","changes","at"]) hc (mR rfl (by rfl)) (Df (sv 4)) ⇑(aq (i:=5) ‹["net","plan","place","hour","changes","at"]› rfl (et rfl) (eu rfl)) (bI (di)) ⇑(qM (cG lE (sv 5) (sv 3) (bj _))) ⇑((wQ (bA hr) (sv 4) (sv 5) (λ_ _=>rfl))))
 exact au
noncomputable abbrev jM:fR:=top 13
noncomputable def b10:List S:=[.ret (.call 9 [↑0,↑1,.bin .sub (.idx ↑0 ⇑0) ⇑1,↑2])]
noncomputable def Zt:Fd:=⟨3,3,b10⟩
theorem ad7:aL ["net","plan","hour"] ["net","plan","hour"] (aC jM):={}
include cl in
theorem d10(a:iM K "brought_by" "brought_by" jM f fd)(b:↥(9,"stands_at",4,0)):↥(["net","plan","hour"],3,Zt):=by
 exists a,ad7,0,0;refine aR ?_ ?_;.exists(),cV b hr (aP (sv 0) (aP (sv 1) (aP (aA cL (ao (sv 0) aa) aa) (aP (sv 2) aB rfl) rfl) rfl) rfl)
 exact au
noncomputable abbrev jD:fR:=top 14
noncomputable def b11:List S:=[.asg 3 (.call 4 [↑0,↑1,⇑0]),.ret (.neg (.blt .sum [.comp (.blt .keys [↑3]) 1 [4] ck (aD (.cmp .ge ↑4 ↑2)) (.bin .Hz ↑3 ↑4)]))]
noncomputable def f11:Fd:=⟨3,4,b11⟩
theorem adF:aL ["net","plan","hour","changes"] ["net","plan","hour"] (aC jD):={}
include cl in
theorem d11(a:iM K "sent_from" "sent_from" jD f fd)(vq:mg "sum"=b_)(b:↥(4,"changes_at",3,0)):↥(["net","plan","hour"],3,f11):=by
 exists a,adF,0,0;refine aR ?_ ?_;.exists iy (i:=3) ?_ ?_ ?_ ?_ ?_ ?_;exact nd;exact rfl;exact eu rfl;rotate_left;rfl;exact oi;exact cV b hr (aP (sv 0) (aP (sv 1) (aP aa aB rfl) rfl) rfl)
 rfl';.exists(),By (Jb rfl hc (by rfl) vq (bZ (N':=["net","plan","hour","changes","at"]) hc (mR rfl (by rfl)) (Df (sv 3)) ⇑(aq (i:=4) ‹["net","plan","hour","changes","at"]› rfl (et rfl) (eu rfl)) (bI (di)) ⇑(qM (cG v8 (sv 4) (sv 2) (bj _))) ⇑((wQ (bA hr) (sv 3) (sv 4) (λ_ _=>rfl)))))
 exact au
noncomputable abbrev s12:fR:=top 16
noncomputable def b12:List S:=[.asg 1 (.comp (.zip (.idx ↑0 ⇑2) (.idx ↑0 ⇑3)) 2 [2,3] a_ b_ (.tup [.idx ↑2 ⇑0,.idx ↑2 ⇑1,.blt .HD [↑3],.idx ↑2 ⇑2])),.ret (.tup [.idx ↑0 ⇑0,.blt .tuple [↑1]])]
noncomputable def f12:Fd:=⟨1,2,b12⟩
theorem adK:aL ["calendar","ways"] ["calendar"] (aC s12):={}
include cl in
theorem d12(a:iM K "roomiest_net" "roomiest_net" s12 f fd)(m7:mg "max"=b_)(bC:mg "tuple"=b_)(jh:mg "zip"=b_):↥(["calendar"],1,f12):=by
 exists a,adK,0,0;refine aR ?_ ?_;.exact(gR (i:=1) (N':=["calendar","ways","way","row"]) hc nd rfl oi (mR rfl (by rfl)) (sS rfl (by rfl) jh (ao (sv 0) aa) (ao (sv 0) aa)) ⇑(cU hc (az (aq (i:=2) ‹["calendar","ways","way","row"]› rfl (et rfl) (eu rfl)) (az (aq (i:=3) ‹["calendar","ways","way","row"]› rfl (et rfl) (eu rfl)) bU))) (fC rfl (aX (show 2<=2 by decide) (aX (show 2<=3 by decide) fB))) ⇑(bB) ⇑((cN (bN (ao (sv 2) aa) (bN (ao (sv 2) aa) (bN (PL rfl hc (by rfl) m7 (sv 3)) (bN (ao (sv 2) aa) aK rfl) rfl) rfl) rfl))) (by rfl) (by intro _;rfl) (et rfl))
 rfl';.exists(),cN (bN (ao (sv 0) aa) (bN (cX rfl (by rfl) bC (sv 1)) aK rfl) rfl)
 exact au
noncomputable abbrev s13:fR:=top 17
noncomputable def b13:List S:=[.ret (.blt .all [.comp ↑1 3 [2,3,4] a_ b_ (.cmp .le ↑4 (.idx (.idx (.idx ↑0 ⇑3) ↑3) ↑2))])]
noncomputable def f13:Fd:=⟨2,2,b13⟩
theorem afh:aL ["calendar","plan"] ["calendar","plan"] (aC s13):={}
include cl in
theorem d13(a:iM K "within_hours_rooms" "within_hours_rooms" s13 f fd)(dF:mg "all"=b_):↥(["calendar","plan"],2,f13):=by
 exists a,afh,0,0;refine aR ?_ ?_;.exists(),jq rfl hc (by rfl) dF (bZ (N':=["calendar","plan","hour","way","loads"]) hc (mR rfl (by rfl)) (cY (sv 1)) ⇑(cU hc (az (aq (i:=2) ‹["calendar","plan","hour","way","loads"]› rfl (et rfl) (eu rfl)) (az (aq (i:=3) ‹["calendar","plan","hour","way","loads"]› rfl (et rfl) (eu rfl)) (az (aq (i:=4) ‹["calendar","plan","hour","way","loads"]› rfl (et rfl) (eu rfl)) bU)))) (fC rfl (aX (show 2<=2 by decide) (aX (show 2<=3 by decide) (aX (show 2<=4 by decide) fB)))) ⇑(bB) ⇑((fJ lE (sv 4) (ao (ao (ao (sv 0) aa) (sv 3)) (sv 2)) (bj _))))
 exact au
noncomputable abbrev Uv:fR:=top 18
noncomputable def b14:List S:=[.asg 3 (.idx (.idx ↑0 ⇑4) ↑2),.ifs (.cmp .isN ↑3 (.con .non)) [.ret (.con (.bl ck))] [],.ret (.blt .all [.comp (.enm ↑3) 2 [4,5] a_ b_ (.cmp .le (.call 18 [↑0,↑1,↑2,↑4]) ↑5)])]
noncomputable def f14:Fd:=⟨3,4,b14⟩
theorem afG:aL ["calendar","plan","place","waits"] ["calendar","plan","place"] (aC Uv):={}
include cl in
theorem d14(a:iM K "within_waits" "within_waits" Uv f fd)(dF:mg "all"=b_)(lX:mg "enumerate"=b_)(b:↥(18,"cal_stands",4,0)):↥(["calendar","plan","place"],3,f14):=by
 exists a,afG,0,0;refine aR ?_ ?_;.exists 3,ao (ao (sv 0) aa) (sv 2)
 rfl';.exists dU ?_ ?_ ?_;exact cG Il (sv 3) nD (bj _);(· rfl';(· exists(),fL);exact au);exact au
 rfl';.exists(),jq rfl hc (by rfl) dF (bZ (N':=["calendar","plan","place","waits","hour","room"]) hc (mR rfl (by rfl)) (UT rfl (by rfl) lX (sv 3)) ⇑(cU hc (az (aq (i:=4) ‹["calendar","plan","place","waits","hour","room"]› rfl (et rfl) (eu rfl)) (az (aq (i:=5) ‹["calendar","plan","place","waits","hour","room"]› rfl (et rfl) (eu rfl)) bU))) (fC rfl (aX (show 4<=4 by decide) (aX (show 4<=5 by decide) fB))) ⇑(bB) ⇑((fJ lE (cV b hr (aP (sv 0) (aP (sv 1) (aP (sv 2) (aP (sv 4) aB rfl) rfl) rfl) rfl)) (sv 5) (bj _))))
 exact au
noncomputable abbrev U4:fR:=top 19
noncomputable def b15:List S:=[.ifs (.not (.call 13 [↑0,↑1])) [.ret (.con (.bl a_))] [],.ret (.blt .all [.comp (.nJ ⇑1 (.idx ↑0 ⇑0)) 1 [2] ck b_ (.call 14 [↑0,↑1,↑2])])]
noncomputable def f15:Fd:=⟨2,2,b15⟩
theorem aeq:aL ["calendar","plan"] ["calendar","plan"] (aC U4):={}
include cl in
theorem d15(a:iM K "hours_hold" "hours_hold" U4 f fd)(dF:mg "all"=b_)(aJ:mg "range"=b_)(b:↥(13,"within_hours_rooms",2,0))(e:↥(14,"within_waits",3,0)):↥(["calendar","plan"],2,f15):=by
 exists a,aeq,0,0;refine aR ?_ ?_;.exists dU ?_ ?_ ?_;exact il (iu (cV b hr (aP (sv 0) (aP (sv 1) aB rfl) rfl)));(· rfl';(· exists(),fL);exact au);exact au
 rfl';.exists(),jq rfl hc (by rfl) dF (bZ (N':=["calendar","plan","place"]) hc (mR rfl (by rfl)) (qQ rfl (by rfl) aJ aa (ao (sv 0) aa)) ⇑(aq (i:=2) ‹["calendar","plan","place"]› rfl (et rfl) (eu rfl)) (bI (di)) ⇑(bB) ⇑((cV e hr (aP (sv 0) (aP (sv 1) (aP (sv 2) aB rfl) rfl) rfl))))
 exact au
noncomputable abbrev VF:fR:=top 20
noncomputable def b16:List S:=[.ret (.and (.call 6 [.call 12 [↑0],.idx ↑0 ⇑1,↑1]) (.call 15 [↑0,↑1]))]
noncomputable def f16:Fd:=⟨2,2,b16⟩
theorem adL:aL ["calendar","plan"] ["calendar","plan"] (aC VF):={}
include cl in
theorem d16(a:iM K "cal_right" "cal_right" VF f fd)(b:↥(15,"hours_hold",2,0))(e:↥(6,"plan_right",3,0))(g:↥(12,"roomiest_net",1,0)):↥(["calendar","plan"],2,f16):=by
 exists a,adL,0,0;refine aR ?_ ?_;.exists(),pI (cV e hr (aP (cV g hr (aP (sv 0) aB rfl)) (aP (ao (sv 0) aa) (aP (sv 1) aB rfl) rfl) rfl)) (mH (cV b hr (aP (sv 0) (aP (sv 1) aB rfl) rfl)))
 exact au
noncomputable abbrev Vb:fR:=top 21
noncomputable def b17:List S:=[.ret (.and (.call 8 [.call 12 [↑0],.idx ↑0 ⇑1,↑1]) (.call 15 [↑0,↑1]))]
noncomputable def ZM:Fd:=⟨2,2,b17⟩
theorem ae9:aL ["calendar","plan"] ["calendar","plan"] (aC Vb):={}
include cl in
theorem d17(a:iM K "cal_clean" "cal_clean" Vb f fd)(b:↥(15,"hours_hold",2,0))(e:↥(8,"plan_clean",3,0))(g:↥(12,"roomiest_net",1,0)):↥(["calendar","plan"],2,ZM):=by
 exists a,ae9,0,0;refine aR ?_ ?_;.exists(),pI (cV e hr (aP (cV g hr (aP (sv 0) aB rfl)) (aP (ao (sv 0) aa) (aP (sv 1) aB rfl) rfl) rfl)) (mH (cV b hr (aP (sv 0) (aP (sv 1) aB rfl) rfl)))
 exact au
noncomputable abbrev s18:fR:=top 22
noncomputable def b18:List S:=[.ret (.call 9 [.call 12 [↑0],↑1,↑2,↑3])]
noncomputable def Yt:Fd:=⟨4,4,b18⟩
theorem aer:aL ["calendar","plan","place","hour"] ["calendar","plan","place","hour"] (aC s18):={}
include cl in
theorem d18(a:iM K "cal_stands" "cal_stands" s18 f fd)(b:↥(12,"roomiest_net",1,0))(e:↥(9,"stands_at",4,0)):↥(["calendar","plan","place","hour"],4,Yt):=by
 exists a,aer,0,0;refine aR ?_ ?_;.exists(),cV e hr (aP (cV b hr (aP (sv 0) aB rfl)) (aP (sv 1) (aP (sv 2) (aP (sv 3) aB rfl) rfl) rfl) rfl)
 exact au
noncomputable abbrev s19:fR:=top 23
noncomputable def b19:List S:=[.asg 2 (.call 12 [↑0]),.ret (.comp (.nJ ⇑0 (.bin .add (.idx ↑0 ⇑1) ⇑1)) 1 [3] ck b_ (.call 10 [↑2,↑1,↑3]))]
noncomputable def f19:Fd:=⟨2,3,b19⟩
theorem ad1:aL ["calendar","plan","net"] ["calendar","plan"] (aC s19):={}
include cl in
theorem d19(a:iM K "cal_brought" "cal_brought" s19 f fd)(aJ:mg "range"=b_)(b:↥(10,"brought_by",3,0))(e:↥(12,"roomiest_net",1,0)):↥(["calendar","plan"],2,f19):=by
 exists a,ad1,0,0;refine aR ?_ ?_;.exists iy (i:=2) ?_ ?_ ?_ ?_ ?_ ?_;exact nd;exact rfl;exact eu rfl;rotate_left;rfl;exact oi;exact cV e hr (aP (sv 0) aB rfl)
 rfl';.exists(),bZ (N':=["calendar","plan","net","hour"]) hc (mR rfl (by rfl)) (dm rfl (by rfl) aJ (aA aO (ao (sv 0) aa) aa)) ⇑(aq (i:=3) ‹["calendar","plan","net","hour"]› rfl (et rfl) (eu rfl)) (bI (di)) ⇑(bB) ⇑((cV b hr (aP (sv 2) (aP (sv 1) (aP (sv 3) aB rfl) rfl) rfl)))
 exact au
noncomputable abbrev s20:fR:=top 24
noncomputable def b20:List S:=[.asg 2 (.call 12 [↑0]),.ret (.comp (.nJ ⇑0 (.bin .add (.idx ↑0 ⇑1) ⇑1)) 1 [3] ck b_ (.call 11 [↑2,↑1,↑3]))]
noncomputable def f20:Fd:=⟨2,3,b20⟩
theorem afp:aL ["calendar","plan","net"] ["calendar","plan"] (aC s20):={}
include cl in
theorem d20(a:iM K "cal_sent" "cal_sent" s20 f fd)(aJ:mg "range"=b_)(b:↥(12,"roomiest_net",1,0))(e:↥(11,"sent_from",3,0)):↥(["calendar","plan"],2,f20):=by
 exists a,afp,0,0;refine aR ?_ ?_;.exists iy (i:=2) ?_ ?_ ?_ ?_ ?_ ?_;exact nd;exact rfl;exact eu rfl;rotate_left;rfl;exact oi;exact cV b hr (aP (sv 0) aB rfl)
 rfl';.exists(),bZ (N':=["calendar","plan","net","hour"]) hc (mR rfl (by rfl)) (dm rfl (by rfl) aJ (aA aO (ao (sv 0) aa) aa)) ⇑(aq (i:=3) ‹["calendar","plan","net","hour"]› rfl (et rfl) (eu rfl)) (bI (di)) ⇑(bB) ⇑((cV e hr (aP (sv 2) (aP (sv 1) (aP (sv 3) aB rfl) rfl) rfl)))
 exact au
noncomputable abbrev s21:fR:=top 26
noncomputable def b21:List S:=[.asg 2 (.comp (.idx ↑0 ⇑1) 1 [4] ck b_ (.tup [.idx ↑4 ⇑0,.idx ↑4 ⇑1,.idx ↑4 ⇑3])),.asg 3 (.comp (.idx ↑0 ⇑1) 1 [4] ck b_ (.bin .mul (.tup [.idx ↑4 ⇑2]) (.bin .add ↑1 ⇑1))),.ret (.tup [.idx ↑0 ⇑0,↑1,.blt .tuple [↑2],.blt .tuple [↑3],.bin .mul (.tup [.con .non]) (.idx ↑0 ⇑0)])]
noncomputable def f21:Fd:=⟨2,4,b21⟩
theorem afX:aL ["net","last","ways","rooms"] ["net","last"] (aC s21):={}
include cl in
theorem d21(a:iM K "net_calendar" "net_calendar" s21 f fd)(bC:mg "tuple"=b_):↥(["net","last"],2,f21):=by
 exists a,afX,0,0;refine aR ?_ ?_;.exact(gR (i:=2) (N':=["net","last","ways","rooms","way"]) hc nd rfl oi (mR rfl (by rfl)) (cY (ao (sv 0) aa)) ⇑(aq (i:=4) ‹["net","last","ways","rooms","way"]› rfl (et rfl) (eu rfl)) (bI (di)) ⇑(bB) ⇑((cN (bN (ao (sv 4) aa) (bN (ao (sv 4) aa) (bN (ao (sv 4) aa) aK rfl) rfl) rfl))) (by rfl) (by intro _;rfl) (et rfl))
 rfl';.exact(gR (i:=3) (N':=["net","last","ways","rooms","way"]) hc nd rfl oi (mR rfl (by rfl)) (cY (ao (sv 0) aa)) ⇑(aq (i:=4) ‹["net","last","ways","rooms","way"]› rfl (et rfl) (eu rfl)) (bI (di)) ⇑(bB) ⇑((aA gV (cN (bN (ao (sv 4) aa) aK rfl)) (aA aO (sv 1) aa))) (by rfl) (by intro _;rfl) (et rfl))
 rfl';.exists(),cN (bN (ao (sv 0) aa) (bN (sv 1) (bN (cX rfl (by rfl) bC (sv 2)) (bN (cX rfl (by rfl) bC (sv 3)) (bN (aA gV (cN (bN nD aK rfl)) (ao (sv 0) aa)) aK rfl) rfl) rfl) rfl) rfl)
 exact au
noncomputable abbrev s22:fR:=top 27
noncomputable def b22:List S:=[.asg 2 (.comp (.zip (.idx ↑0 ⇑2) (.idx ↑0 ⇑3)) 2 [3,4] a_ b_ (.Wk (.cmp .eq (.idx ↑3 ⇑0) ⇑0) (.bin .add (.bin .mul (.tup [⇑0]) ↑1) (.slice ↑4 ↑1 (.con .non))) ↑4)),.ret (.tup [.idx ↑0 ⇑0,.idx ↑0 ⇑1,.idx ↑0 ⇑2,.blt .tuple [↑2],.idx ↑0 ⇑4])]
noncomputable def f22:Fd:=⟨2,3,b22⟩
theorem ad6:aL ["calendar","hour","rooms"] ["calendar","hour"] (aC s22):={}
include cl in
theorem d22(a:iM K "late_calendar" "late_calendar" s22 f fd)(bC:mg "tuple"=b_)(jh:mg "zip"=b_):↥(["calendar","hour"],2,f22):=by
 exists a,ad6,0,0;refine aR ?_ ?_;.exact(gR (i:=2) (N':=["calendar","hour","rooms","way","row"]) hc nd rfl oi (mR rfl (by rfl)) (sS rfl (by rfl) jh (ao (sv 0) aa) (ao (sv 0) aa)) ⇑(cU hc (az (aq (i:=3) ‹["calendar","hour","rooms","way","row"]› rfl (et rfl) (eu rfl)) (az (aq (i:=4) ‹["calendar","hour","rooms","way","row"]› rfl (et rfl) (eu rfl)) bU))) (fC rfl (aX (show 3<=3 by decide) (aX (show 3<=4 by decide) fB))) ⇑(bB) ⇑((Ac (cG (iZ (bA hr)) (ao (sv 3) aa) aa (bj _)) (aA aO (aA gV (cN (bN aa aK rfl)) (sv 1)) (ig (sv 4) (iJ (sv 1)) jQ)) (sv 4))) (by rfl) (by intro _;rfl) (et rfl))
 rfl';.exists(),cN (bN (ao (sv 0) aa) (bN (ao (sv 0) aa) (bN (ao (sv 0) aa) (bN (cX rfl (by rfl) bC (sv 2)) (bN (ao (sv 0) aa) aK rfl) rfl) rfl) rfl) rfl)
 exact au
noncomputable abbrev s23:fR:=top 28
noncomputable def b23:List S:=[.ret (.blt .tuple [.comp (.nJ ⇑0 (.bin .add ↑0 ⇑1)) 1 [3] ck b_ (.Wk (.cmp .le (.bin .add ↑3 ↑1) ↑0) (.idx ↑2 (.bin .sub (.bin .sub ↑0 ↑3) ↑1)) ⇑0)])]
noncomputable def f23:Fd:=⟨3,3,b23⟩
theorem afi:aL ["last","hours","row"] ["last","hours","row"] (aC s23):={}
include cl in
theorem d23(a:iM K "turned_rooms" "turned_rooms" s23 f fd)(aJ:mg "range"=b_)(bC:mg "tuple"=b_):↥(["last","hours","row"],3,f23):=by
 exists a,afi,0,0;refine aR ?_ ?_;.exists(),cX rfl (by rfl) bC (bZ (N':=["last","hours","row","hour"]) hc (mR rfl (by rfl)) (dm rfl (by rfl) aJ (aA aO (sv 0) aa)) ⇑(aq (i:=3) ‹["last","hours","row","hour"]› rfl (et rfl) (eu rfl)) (bI (di)) ⇑(bB) ⇑((Ac (cG lE (aA aO (sv 3) (sv 1)) (sv 0) (bj _)) (ao (sv 2) (aA cL (aA cL (sv 0) (sv 3)) (sv 1))) aa)))
 exact au
noncomputable abbrev s24:fR:=top 29
noncomputable def b24:List S:=[.asg 1 (.bin .sub (.idx ↑0 ⇑0) ⇑1),.asg 2 (.idx ↑0 ⇑1),.asg 3 (.comp (.idx ↑0 ⇑2) 1 [6] ck b_ (.tup [.bin .sub ↑1 (.idx ↑6 ⇑1),.bin .sub ↑1 (.idx ↑6 ⇑0),.idx ↑6 ⇑2])),.asg 4 (.comp (.zip (.idx ↑0 ⇑2) (.idx ↑0 ⇑3)) 2 [6,7] a_ b_ (.call 23 [↑2,.idx ↑6 ⇑2,↑7])),.asg 5 (.comp (.rev (.idx ↑0 ⇑4)) 1 [6] ck b_ (.Wk (.cmp .isN ↑6 (.con .non)) (.con .non) (.blt .tuple [.rev ↑6]))),.ret (.tup [.idx ↑0 ⇑0,↑2,.blt .tuple [↑3],.blt .tuple [↑4],.blt .tuple [↑5]])]
noncomputable def f24:Fd:=⟨1,6,b24⟩
theorem adq:aL ["calendar","end","last","ways","rooms","waits"] ["calendar"] (aC s24):={}
include cl in
theorem d24(a:iM K "turned_calendar" "turned_calendar" s24 f fd)(km:mg "reversed"=b_)(bC:mg "tuple"=b_)(jh:mg "zip"=b_)(b:↥(23,"turned_rooms",3,0)):↥(["calendar"],1,f24):=by
 exists a,adq,0,0;refine aR ?_ ?_;.exists iy (i:=1) ?_ ?_ ?_ ?_ ?_ ?_;exact nd;exact rfl;exact eu rfl;rotate_left;rfl;exact oi;exact aA cL (ao (sv 0) aa) aa
 rfl';.exists iy (i:=2) ?_ ?_ ?_ ?_ ?_ ?_;exact nd;exact rfl;exact eu rfl;rotate_left;rfl;exact oi;exact ao (sv 0) aa
 rfl';.exact(gR (i:=3) (N':=["calendar","end","last","ways","rooms","waits","way"]) hc nd rfl oi (mR rfl (by rfl)) (cY (ao (sv 0) aa)) ⇑(aq (i:=6) ‹["calendar","end","last","ways","rooms","waits","way"]› rfl (et rfl) (eu rfl)) (bI (di)) ⇑(bB) ⇑((cN (bN (aA cL (sv 1) (ao (sv 6) aa)) (bN (aA cL (sv 1) (ao (sv 6) aa)) (bN (ao (sv 6) aa) aK rfl) rfl) rfl))) (by rfl) (by intro _;rfl) (et rfl))
 rfl';.exact(gR (i:=4) (N':=["calendar","end","last","ways","rooms","waits","way","row"]) hc nd rfl oi (mR rfl (by rfl)) (sS rfl (by rfl) jh (ao (sv 0) aa) (ao (sv 0) aa)) ⇑(cU hc (az (aq (i:=6) ‹["calendar","end","last","ways","rooms","waits","way","row"]› rfl (et rfl) (eu rfl)) (az (aq (i:=7) ‹["calendar","end","last","ways","rooms","waits","way","row"]› rfl (et rfl) (eu rfl)) bU))) (fC rfl (aX (show 6<=6 by decide) (aX (show 6<=7 by decide) fB))) ⇑(bB) ⇑((cV b hr (aP (sv 2) (aP (ao (sv 6) aa) (aP (sv 7) aB rfl) rfl) rfl))) (by rfl) (by intro _;rfl) (et rfl))
 rfl';.exact(gR (i:=5) (N':=["calendar","end","last","ways","rooms","waits","row"]) hc nd rfl oi (mR rfl (by rfl)) (U0 rfl (by rfl) km (ao (sv 0) aa)) ⇑(aq (i:=6) ‹["calendar","end","last","ways","rooms","waits","row"]› rfl (et rfl) (eu rfl)) (bI (di)) ⇑(bB) ⇑((Ac (cG Il (sv 6) nD (bj _)) nD (GD rfl rfl hc (by rfl) bC (by rfl) km (sv 6)))) (by rfl) (by intro _;rfl) (et rfl))
 rfl';.exists(),cN (bN (ao (sv 0) aa) (bN (sv 2) (bN (cX rfl (by rfl) bC (sv 3)) (bN (cX rfl (by rfl) bC (sv 4)) (bN (cX rfl (by rfl) bC (sv 5)) aK rfl) rfl) rfl) rfl) rfl)
 exact au
noncomputable abbrev s25:fR:=top 31
noncomputable def b25:List S:=[.ret (.lst [.blt .max2 [⇑0,.bin .sub (.blt .abs [↑0]) (.bin .pow ⇑10 ⇑18)],.bin .mod ↑0 (.bin .pow ⇑10 ⇑18),⇑0])]
noncomputable def f25:Fd:=⟨1,1,b25⟩
theorem aey:aL ["cell"] ["cell"] (aC s25):={}
include cl in
theorem d25(a:iM K "_law_pool" "_law_pool" s25 f fd)(MK:mg "abs"=b_)(m7:mg "max"=b_):↥(["cell"],1,f25):=by
 exists a,aey,0,0;refine aR ?_ ?_;.exists(),cQ (bN (vO rfl hc (by rfl) m7 (bN aa (bN (aA cL (R8 rfl (by rfl) MK (sv 0)) (aA j5 aa aa)) aK rfl) rfl)) (bN (aA gU (sv 0) (aA j5 aa aa)) (bN aa aK rfl) rfl) rfl)
 exact au
noncomputable abbrev s26:fR:=top 32
noncomputable def b26:List S:=[.ifs (.cmp .gt (.idx ↑0 ⇑0) ⇑0) [.asg 2 (.bin .mod (.idx ↑0 ⇑0) ↑1),.CN 0 ⇑0 (.bin .fdiv (.idx ↑0 ⇑0) ↑1),.ret ↑2] [],.CN 0 ⇑2 (.bin .add (.idx ↑0 ⇑2) ⇑1),.asg 3 (.bin .mod (.bin .add (.idx ↑0 ⇑1) (.bin .mul ⇑7919 (.idx ↑0 ⇑2))) ⇑1000000007),.asg 4 (.bin .mod (.bin .mul (.bin .add ↑3 ⇑11) (.bin .add ↑3 ⇑48271)) ⇑998244353),.ret (.bin .mod (.bin .fdiv (.bin .mod (.bin .mul ↑4 ↑4) ⇑2147483647) ⇑8) ↑1)]
noncomputable def f26:Fd:=⟨2,5,b26⟩
theorem aep:aL ["pool","base","digit","near","stir"] ["pool","base"] (aC s26):={}
include cl in
theorem d26(a:iM K "_law_next" "_law_next" s26 f fd):↥(["pool","base"],2,f26):=by
 exists a,aep,0,0;refine aR ?_ ?_;.exists dU ?_ ?_ ?_;exact cG wY (ao (sv 0) aa) aa (bj _);(· rfl';(· exists 2,aA gU (ao (sv 0) aa) (sv 1));(· rfl';exact qI (k:=0) rfl (by ac_rfl) aa (aA xG (ao (sv 0) aa) (sv 1));(· rfl';(· exists(),sv 2);exact au)));exact au
 rfl';.exact(qI (k:=0) rfl (by ac_rfl) aa (aA aO (ao (sv 0) aa) aa))
 rfl';.exists 3,aA gU (aA aO (ao (sv 0) aa) (aA gV aa (ao (sv 0) aa))) aa
 rfl';.exists 4,aA gU (aA gV (aA aO (sv 3) aa) (aA aO (sv 3) aa)) aa
 rfl';.exists(),aA gU (aA xG (aA gU (aA gV (sv 4) (sv 4)) aa) aa) (sv 1)
 exact au
noncomputable abbrev s27:fR:=top 33
noncomputable def b27:List S:=[.ret (.bin .mod (.bin .add (.bin .mul (.call 26 [↑0,⇑100000]) ⇑100000) (.call 26 [↑0,⇑100000])) ↑1)]
noncomputable def f27:Fd:=⟨2,2,b27⟩
theorem afc:aL ["pool","base"] ["pool","base"] (aC s27):={}
include cl in
theorem d27(b:iM K "_law_wide" "_law_wide" s27 f fd)(a:↥(26,"_law_next",2,0)):↥(["pool","base"],2,f27):=by
 exists b,afc,0,0;refine aR ?_ ?_;.exists(),aA gU (aA aO (aA gV (cV a hr (aP (sv 0) (aP aa aB rfl) rfl)) aa) (cV a hr (aP (sv 0) (aP aa aB rfl) rfl))) (sv 1)
 exact au
noncomputable abbrev s28:fR:=top 34
noncomputable def b28:List S:=[.asg 2 (.lst []),.jk (.nJ ⇑0 (.bin .sub ↑1 ⇑1)) [3] ck [.ifs (.cmp .gt (.call 26 [↑0,⇑8]) ⇑0) [.app 2 (.tup [↑3,.bin .add ↑3 ⇑1])] []],.jk (.nJ ⇑0 (.call 26 [↑0,.bin .sub ⇑13 (.blt .len [↑2])])) [4] ck [.asg 5 (.call 26 [↑0,↑1]),.app 2 (.tup [↑5,.bin .mod (.bin .add (.bin .add ↑5 ⇑1) (.call 26 [↑0,.bin .sub ↑1 ⇑1])) ↑1])],.asg 6 (.lst []),.jk ↑2 [5,7] a_ [.app 6 (.tup [↑5,↑7,.idx (.lst [⇑1,⇑1,⇑2,⇑2,⇑3,.bin .add ⇑1 (.call 26 [↑0,⇑5]),.bin .add ⇑1 (.call 27 [↑0,.bin .pow ⇑10 ⇑6])]) (.call 26 [↑0,⇑7])])],.ret ↑6]
noncomputable def f28:Fd:=⟨2,8,b28⟩
theorem ae1:aL ["pool","many","roads","place","k","begin","found","end"] ["pool","many"] (aC s28):={}
include cl in
theorem d28(b:iM K "_law_roads" "_law_roads" s28 f fd)(fO:mg "len"=b_)(aJ:mg "range"=b_)(a:↥(26,"_law_next",2,0))(e:↥(27,"_law_wide",2,0)):↥(["pool","many"],2,f28):=by
 exists b,ae1,0,0;refine aR ?_ ?_;.exists 2,cQ aK
 rfl';.exists 3,dm rfl (by rfl) aJ (aA cL (sv 1) aa),0;(· rfl';(· exists dU ?_ ?_ ?_;exact cG wY (cV a hr (aP (sv 0) (aP aa aB rfl) rfl)) aa (bj _);(· rfl';exact dC (k:=2) rfl (by ac_rfl) (cN (bN (sv 3) (bN (aA aO (sv 3) aa) aK rfl) rfl));exact au);exact au);exact au)
 rfl';.exists 4,dm rfl (by rfl) aJ (cV a hr (aP (sv 0) (aP (aA cL aa (lR rfl (by rfl) fO (sv 2))) aB rfl) rfl)),0;(· rfl';(· exists 5,cV a hr (aP (sv 0) (aP (sv 1) aB rfl) rfl));(· rfl';exact dC (k:=2) rfl (by ac_rfl) (cN (bN (sv 5) (bN (aA gU (aA aO (aA aO (sv 5) aa) (cV a hr (aP (sv 0) (aP (aA cL (sv 1) aa) aB rfl) rfl))) (sv 1)) aK rfl) rfl));exact au))
 rfl';.exists 6,cQ aK
 rfl';.exact(pK gy hc (cY (sv 2)) (cU hc (az (aq (i:=5) nd rfl oi oi) (az (aq (i:=7) nd rfl oi oi) bU))) (jc rfl (aY _ _ (aY _ _ fX 7) 5)) (by rfl';exact dC (k:=6) rfl (by ac_rfl) (cN (bN (sv 5) (bN (sv 7) (bN (ao (cQ (mD [1,1,2,2,3] rfl (bN (aA aO aa (cV a hr (aP (sv 0) (aP aa aB rfl) rfl))) (bN (aA aO aa (cV e hr (aP (sv 0) (aP (aA j5 aa aa) aB rfl) rfl))) aK rfl) rfl))) (cV a hr (aP (sv 0) (aP aa aB rfl) rfl))) aK rfl) rfl) rfl));exact au))
 rfl';.exists(),sv 6
 exact au
noncomputable abbrev s29:fR:=top 35
noncomputable def Wd:List S:=[.asg 4 ⇑0,.asg 5 (.call 26 [↑0,.bin .add ↑2 ⇑1]),.asg 6 (.lst []),.jk (.nJ ⇑0 ⇑8) [7] ck [.asg 8 (.comp (.nJ ⇑0 (.blt .len [↑3])) 1 [10] ck (aD (.and (.cmp .eq (.idx (.idx ↑3 ↑10) ⇑0) ↑4) (.and (.cmp .gt (.idx (.idx ↑3 ↑10) ⇑1) ⇑0) (.cmp .le (.bin .add ↑5 (.idx (.idx ↑3 ↑10) ⇑2)) ↑2)))) ↑10),.ifs (.or (.cmp .eq ↑4 (.bin .sub ↑1 ⇑1)) (.cmp .eq ↑8 (.lst []))) [.brk] [],.asg 9 (.idx ↑8 (.call 26 [↑0,.blt .len [↑8]])),.app 6 (.tup [↑5,↑9]),.asg 4 (.idx (.idx ↑3 ↑9) ⇑1),.asg 5 (.blt .min2 [↑2,.bin .add (.bin .add ↑5 (.idx (.idx ↑3 ↑9) ⇑2)) (.idx (.lst [⇑0,⇑0,⇑0,⇑1,⇑2]) (.call 26 [↑0,⇑5]))])],.ifs (.cmp .lt ↑4 (.bin .sub ↑1 ⇑1)) [.ret (.lst [])] [],.ret ↑6]
noncomputable def f29:Fd:=⟨4,10,Wd⟩
theorem afE:aL ["pool","many","last","ways","place","hour","found","turn","some","k"] ["pool","many","last","ways"] (aC s29):={}
include cl in
theorem d29(b:iM K "_law_route" "_law_route" s29 f fd)(fO:mg "len"=b_)(kY:mg "min"=b_)(aJ:mg "range"=b_)(a:↥(26,"_law_next",2,0)):↥(["pool","many","last","ways"],4,f29):=by
 exists b,afE,0,0;refine aR ?_ ?_;.exists iy (i:=4) ?_ ?_ ?_ ?_ ?_ ?_;exact nd;exact rfl;exact eu rfl;rotate_left;rfl;exact oi;exact aa
 rfl';.exists iy (i:=5) ?_ ?_ ?_ ?_ ?_ ?_;exact nd;exact rfl;exact eu rfl;rotate_left;rfl;exact oi;exact cV a hr (aP (sv 0) (aP (aA aO (sv 2) aa) aB rfl) rfl)
 rfl';.exists 6,cQ aK
 rfl';.exists 7,dm rfl (by rfl) aJ aa,0;(· rfl';exact gR (i:=8) (N':=["pool","many","last","ways","place","hour","found","turn","some","k#9","k"]) hc nd rfl oi (mR rfl (by rfl)) (dm rfl (by rfl) aJ (lR rfl (by rfl) fO (sv 3))) ⇑(aq (i:=10) ‹["pool","many","last","ways","place","hour","found","turn","some","k#9","k"]› rfl (et rfl) (eu rfl)) (bI (di)) ⇑(qM (SW.st (Iv (cG (iZ (bA hr)) (ao (ao (sv 3) (sv 10)) aa) (sv 4) (bj _)) (Iv (cG wY (ao (ao (sv 3) (sv 10)) aa) aa (bj _)) (Oa (cG lE (aA aO (sv 5) (ao (ao (sv 3) (sv 10)) aa)) (sv 2) (bj _))))))) ⇑((sv 10)) (by rfl) (by intro _;rfl) (et rfl);(· rfl';(· exists dU ?_ ?_ ?_;exact SW.st (vf (cG (iZ (bA hr)) (sv 4) (aA cL (sv 1) aa) (bj _)) (pL (cG (iZ (bA hr)) (sv 8) (cQ aK) (bj _))));(· rfl';exact R5;exact au);exact au);(· rfl';(· exists 9,ao (sv 8) (cV a hr (aP (sv 0) (aP (lR rfl (by rfl) fO (sv 8)) aB rfl) rfl)));(· rfl';exact dC (k:=6) rfl (by ac_rfl) (cN (bN (sv 5) (bN (sv 9) aK rfl) rfl));(· rfl';(· exists iy (i:=4) ?_ ?_ ?_ ?_ ?_ ?_;exact nd;exact rfl;exact eu rfl;rotate_left;rfl;exact oi;exact ao (ao (sv 3) (sv 9)) aa);(· rfl';(· exists iy (i:=5) ?_ ?_ ?_ ?_ ?_ ?_;exact nd;exact rfl;exact eu rfl;rotate_left;rfl;exact oi;exact wk rfl hc (by rfl) kY (bN (sv 2) (bN (aA aO (aA aO (sv 5) (ao (ao (sv 3) (sv 9)) aa)) (ao (cQ (mD [0,0,0,1,2] rfl aK)) (cV a hr (aP (sv 0) (aP aa aB rfl) rfl)))) aK rfl) rfl));exact au))))))
 rfl';.exists dU ?_ ?_ ?_;exact cG (v9 (bA hr)) (sv 4) (aA cL (sv 1) aa) (bj _);(· rfl';(· exists(),cQ aK);exact au);exact au
 rfl';.exists(),sv 6
 exact au
noncomputable abbrev s30:fR:=top 36
noncomputable def b30:List S:=[.xm 4 ck,.jk (.nJ ⇑0 (.call 26 [↑0,⇑7])) [5] ck [.asg 6 (.idx (.lst [⇑1,⇑1,⇑2,.bin .add ⇑1 (.call 26 [↑0,⇑5]),.bin .add ⇑1 (.call 27 [↑0,.bin .pow ⇑10 ⇑8])]) (.call 26 [↑0,⇑5])),.jk (.call 29 [↑0,↑1,↑2,↑3]) [7,8] a_ [.tM 4 [↑7,↑8] (.bin .add (.CK 4 [↑7,↑8] ⇑0) ↑6)]],.ret (.comp (.blt .sorted [.blt .lkT [.vw 4]]) 2 [9,10] a_ b_ (.tup [↑9,↑10,.RW 4 [↑9,↑10]]))]
noncomputable def f30:Fd:=⟨4,9,b30⟩
theorem ada:aL ["pool","many","last","ways","table","turn","loads","hour","way"] ["pool","many","last","ways"] (aC s30):={}
include cl in
theorem d30(b:iM K "_law_flow" "_law_flow" s30 f fd)(pW:mg "list"=b_)(aJ:mg "range"=b_)(dM:mg "sorted"=b_)(a:↥(26,"_law_next",2,0))(e:↥(29,"_law_route",4,0))(g:↥(27,"_law_wide",2,0)):↥(["pool","many","last","ways"],4,f30):=by
 exists b,ada,0,0;refine aR ?_ ?_;.exact(xX (i:=4) nd rfl (eu rfl) (by rfl) (et rfl))
 rfl';.exists 5,dm rfl (by rfl) aJ (cV a hr (aP (sv 0) (aP aa aB rfl) rfl)),0;(· rfl';(· exists 6,ao (cQ (mD [1,1,2] rfl (bN (aA aO aa (cV a hr (aP (sv 0) (aP aa aB rfl) rfl))) (bN (aA aO aa (cV g hr (aP (sv 0) (aP (aA j5 aa aa) aB rfl) rfl))) aK rfl) rfl))) (cV a hr (aP (sv 0) (aP aa aB rfl) rfl)));(· rfl';exact pK gy hc (cY (cV e hr (aP (sv 0) (aP (sv 1) (aP (sv 2) (aP (sv 3) aB rfl) rfl) rfl) rfl))) (cU hc (az (aq (i:=7) nd rfl oi oi) (az (aq (i:=8) nd rfl oi oi) bU))) (jc rfl (aY _ _ (aY _ _ fX 8) 7)) (by rfl';exact yX (i:=4) (bA hr) rfl (by ac_rfl) (bN (sv 7) (bN (sv 8) aK rfl) rfl) (aA aO (Dv (i:=4) (bA hr) rfl (by ac_rfl) (bN (sv 7) (bN (sv 8) aK rfl) rfl) aa ⟨rfl,rfl,rfl,rfl⟩) (sv 6)) (by rfl);exact au);exact au))
 rfl';.exists(),bZ (N':=["pool","many","last","ways","table","turn","loads","hour#7","way#8","hour","way"]) hc (mR rfl (by rfl)) (cY (pB rfl (by rfl) dM (Wg rfl hc (by rfl) pW (aab (i:=4) rfl (by ac_rfl))))) ⇑(cU hc (az (aq (i:=9) ‹["pool","many","last","ways","table","turn","loads","hour#7","way#8","hour","way"]› rfl (et rfl) (eu rfl)) (az (aq (i:=10) ‹["pool","many","last","ways","table","turn","loads","hour#7","way#8","hour","way"]› rfl (et rfl) (eu rfl)) bU))) (fC rfl (aX (show 9<=9 by decide) (aX (show 9<=10 by decide) fB))) ⇑(bB) ⇑((cN (bN (sv 9) (bN (sv 10) (bN (Tz (i:=4) (bA hr) rfl (by first|exact et rfl|exact eu (et rfl)|exact eu (eu rfl)) (bN (sv 9) (bN (sv 10) aK rfl) rfl) (λ_ _=>rfl)) aK rfl) rfl) rfl)))
 exact au
noncomputable abbrev s31:fR:=top 37
noncomputable def b31:List S:=[.Mx 4 (.nJ ⇑0 ↑0) 1 [12] ck (.bin .mul (.lst [⇑0]) (.bin .add ↑1 ⇑1)),.HJ ↑3 [5,6,7] a_ [.QK [8,9,10] (.idx ↑2 ↑6),.zJ 4 ↑8 ↑5 ck ↑7,.zJ 4 ↑9 (.bin .add ↑5 ↑10) a_ ↑7],.HJ (.nJ ⇑1 (.bin .add ↑1 ⇑1)) [5] ck [.My 4 11 ↑5 ↑5 (.bin .sub ↑5 ⇑1)],.fG 4,.ret ↑4]
noncomputable def f31:Fd:=⟨4,12,b31⟩
theorem ae4:aL ["many","last","ways","plan","found","hour","way","loads","begin","end","hours","row"] ["many","last","ways","plan"] (aC s31):={}
include cl in
theorem d31(a:iM K "_law_stocks" "_law_stocks" s31 f fd)(aJ:mg "range"=b_):↥(["many","last","ways","plan"],4,f31):=by exists a,ae4,0,0;exact(by(refine Pa (i:=4) (N':=["many","last","ways","plan","found","hour","way","loads","begin","end","hours","row","place"]) (g:=jG 12) ?_ ?_ ?_ ?_ ?_ ?_ ?_ ?_ ?_ ?_ ?_ ?_ ?_ ?_);exact hc;exact nd;exact rfl;exact oi;exact mR rfl (by rfl);exact dm rfl (by rfl) aJ (sv 0);exact ⇑(aq (i:=12) ‹["many","last","ways","plan","found","hour","way","loads","begin","end","hours","row","place"]› rfl (et rfl) (eu rfl));exact bI (di);exact ⇑(bB);exact ⇑((aA gV (cQ (bN aa aK rfl)) (aA aO (sv 1) aa)));(· exists yP ?_ ?_;(· exists Fg (g:=Np K 3 (uO (jG 5) (uO (jG 6) (uO (jG 7) P0)))) ?_ ?_ ?_ ?_ ?_ ?_ ?_;exact gy;exact hc;exact O7 (sv 3);exact cU hc (az (aq (i:=5) nd rfl oi oi) (az (aq (i:=6) nd rfl oi oi) (az (aq (i:=7) nd rfl oi oi) bU)));exact jc rfl (aY _ _ (aY _ _ (aY _ _ fX 7) 6) 5);(· exists ou ?_ ?_;(· exists Wc ?_;exact sy (ao (sv 2) (sv 6)) (cU hc (az (aq (i:=8) nd rfl oi oi) (az (aq (i:=9) nd rfl oi oi) (az (aq (i:=10) nd rfl oi oi) bU)))) (jc rfl (aY _ _ (aY _ _ (aY _ _ fX 10) 9) 8)));(· exists ou ?_ ?_;(· exists xU (k:=4) ?_ ?_ ?_ ?_ ?_ ?_ ?_ ?_ ?_ ?_ ?_ ?_ ?_ ?_ ?_ ?_ ?_;exact rfl;(· first|exact et rfl|exact eu (et rfl));exact sv 8;exact sv 5;exact sv 8;exact sv 5;exact sv 7;exact et ⟨rfl,rfl⟩;(· intro _ _;rfl);(· intro _ _;rfl);(· intro _ _;rfl);(· intro _;rfl);rfl;rfl;rfl;rfl;rfl);(· exists ou ?_ ?_;(· exists xU (k:=4) ?_ ?_ ?_ ?_ ?_ ?_ ?_ ?_ ?_ ?_ ?_ ?_ ?_ ?_ ?_ ?_ ?_;exact rfl;(· first|exact et rfl|exact eu (et rfl));exact sv 9;exact aA aO (sv 5) (sv 10);exact sv 9;exact aA aO (sv 5) (sv 10);exact sv 7;exact eu ⟨rfl,rfl⟩;(· intro _ _;rfl);(· intro _ _;rfl);(· intro _ _;rfl);(· intro _;rfl);rfl;rfl;rfl;rfl;rfl);exact Eu)));(· intro _;rfl));(· exists yP ?_ ?_;(· exists Fg (g:=jG 5) ?_ ?_ ?_ ?_ ?_ ?_ ?_;exact gy;exact hc;(· exists Kq ?_ ?_ ?_ ?_ ?_ ?_ ?_;exact rfl;rfl;exact aJ;exact aa;exact aA aO (sv 1) aa;rfl;rfl);exact aq (i:=5) nd rfl oi oi;(· rw[uR];exact Dl 5);(· exists ou ?_ ?_;(· exists Mr (kx:=4) (ky:=11) ?_ ?_ ?_ ?_ ?_ ?_ ?_ ?_ ?_ ?_ ?_ ?_ ?_ ?_ ?_ ?_ ?_ ?_ ?_ ?_ ?_ ?_ ?_;exact gy;exact hc;exact nd;exact rfl;(· first|exact et rfl|exact eu (et rfl));exact rfl;exact oi;(· first|exact et rfl|exact eu (et rfl));exact sv 5;exact sv 5;exact aA cL (sv 5) aa;(· intro _ _;rfl);(· intro _ _;rfl);(· intro _;rfl);rfl;rfl;rfl;(· intro _;rfl);exact oi;rfl;rfl;rfl;rfl);exact Eu);(· intro _;rfl));(· exists Py ?_;(· rfl';(· exists(),sv 4);exact au))));rfl;(· intro _;rfl);exact oi)
noncomputable abbrev s32:fR:=top 38
noncomputable def Gj:List S:=[.asg 1 (.bin .add ⇑2 (.call 26 [↑0,⇑5])),.asg 2 (.idx (.lst [.call 26 [↑0,⇑13],.bin .add ⇑4 (.call 26 [↑0,⇑9]),⇑12]) (.call 26 [↑0,⇑3])),.asg 3 (.call 28 [↑0,↑1]),.asg 4 (.call 30 [↑0,↑1,↑2,↑3]),.xm 5 ck,.jk ↑4 [6,7,8] a_ [.tM 5 [↑6,↑7] ↑8],.asg 9 (.lst []),.jk (.nJ ⇑0 (.blt .len [↑3])) [7] ck [.app 9 (.blt .tuple [.comp (.nJ ⇑0 (.bin .add ↑2 ⇑1)) 1 [13] ck b_ (.blt .min2 [.bin .pow ⇑10 ⇑9,.bin .add (.CK 5 [↑13,↑7] ⇑0) (.idx (.lst [⇑0,⇑0,⇑1,.call 26 [↑0,⇑4],.call 27 [↑0,.bin .pow ⇑10 ⇑9]]) (.call 26 [↑0,⇑5]))])])],.asg 10 (.lst [.con .non]),.jk (.slice (.call 31 [↑1,↑2,↑3,↑4]) ⇑1 (.neg ⇑1)) [11] ck [.asg 11 (.slice ↑11 (.con .non) ↑2),.asg 12 (.comp ↑11 1 [13] ck b_ (.idx (.lst [⇑0,⇑0,⇑1,.call 26 [↑0,⇑3]]) (.call 26 [↑0,⇑4]))),.app 10 (.idx (.lst [.con .non,.blt .tuple [.comp (.zip ↑11 ↑12) 2 [13,14] a_ b_ (.bin .add ↑13 ↑14)]]) (.blt .int [.cmp .gt (.call 26 [↑0,⇑3]) ⇑0]))],.app 10 (.con .non),.ret (.tup [.tup [↑1,↑2,.blt .tuple [↑3],.blt .tuple [↑9],.blt .tuple [↑10]],↑4])]
noncomputable def f32:Fd:=⟨1,13,Gj⟩
theorem aem:aL ["pool","many","last","ways","plan","used","hour","way","loads","rooms","waits","row","more"] ["pool"] (aC s32):={}
include cl in
theorem d32(b:iM K "_law_case" "_law_case" s32 f fd)(vz:mg "int"=b_)(fO:mg "len"=b_)(kY:mg "min"=b_)(aJ:mg "range"=b_)(bC:mg "tuple"=b_)(jh:mg "zip"=b_)(e:↥(30,"_law_flow",4,0))(a:↥(26,"_law_next",2,0))(g:↥(28,"_law_roads",2,0))(h:↥(31,"_law_stocks",4,0))(j:↥(27,"_law_wide",2,0)):↥(["pool"],1,f32):=by
 exists b,aem,0,0;refine aR ?_ ?_;.exists 1,aA aO aa (cV a hr (aP (sv 0) (aP aa aB rfl) rfl))
 rfl';.exists 2,ao (cQ (bN (cV a hr (aP (sv 0) (aP aa aB rfl) rfl)) (bN (aA aO aa (cV a hr (aP (sv 0) (aP aa aB rfl) rfl))) (bN aa aK rfl) rfl) rfl)) (cV a hr (aP (sv 0) (aP aa aB rfl) rfl))
 rfl';.exists 3,cV g hr (aP (sv 0) (aP (sv 1) aB rfl) rfl)
 rfl';.exists 4,cV e hr (aP (sv 0) (aP (sv 1) (aP (sv 2) (aP (sv 3) aB rfl) rfl) rfl) rfl)
 rfl';.exact(xX (i:=5) nd rfl (eu rfl) (by rfl) (et rfl))
 rfl';.exact(pK gy hc (cY (sv 4)) (cU hc (az (aq (i:=6) nd rfl oi oi) (az (aq (i:=7) nd rfl (eu rfl) (et rfl)) (az (aq (i:=8) nd rfl oi oi) bU)))) (jc rfl (aY _ _ (aY _ _ (aY _ _ fX 8) 7) 6)) (by rfl';exact yX (i:=5) (bA hr) rfl (by ac_rfl) (bN (sv 6) (bN (sv 7) aK rfl) rfl) (sv 8) (by rfl);exact au))
 rfl';.exists 9,cQ aK
 rfl';.exists Ex (i:=7) ?_ ?_ ?_ ?_ ?_ ?_ ?_ ?_ ?_;exact gy;exact hc;exact nd;exact rfl;exact eu rfl;exact dm rfl (by rfl) aJ (lR rfl (by rfl) fO (sv 3));(· rfl';exact dC (k:=9) rfl (by ac_rfl) (cX rfl (by rfl) bC (bZ (N':=["pool","many","last","ways","plan","used","hour#6","way","loads","rooms","waits","row","more","hour"]) hc (mR rfl (by rfl)) (dm rfl (by rfl) aJ (aA aO (sv 2) aa)) ⇑(aq (i:=13) ‹["pool","many","last","ways","plan","used","hour#6","way","loads","rooms","waits","row","more","hour"]› rfl (et rfl) (eu rfl)) (bI (di)) ⇑(bB) ⇑((wk rfl hc (by rfl) kY (bN (aA j5 aa aa) (bN (aA aO (Dv (i:=5) (bA hr) rfl (by ac_rfl) (bN (sv 13) (bN (sv 7) aK rfl) rfl) aa ⟨rfl,rfl,rfl,rfl⟩) (ao (cQ (mD [0,0,1] rfl (bN (cV a hr (aP (sv 0) (aP aa aB rfl) rfl)) (bN (cV j hr (aP (sv 0) (aP (aA j5 aa aa) aB rfl) rfl)) aK rfl) rfl))) (cV a hr (aP (sv 0) (aP aa aB rfl) rfl)))) aK rfl) rfl)))));exact au);(· intro _;rfl);exact oi
 rfl';.exists 10,cQ (bN nD aK rfl)
 rfl';.exists 11,cY (ig (cV h hr (aP (sv 1) (aP (sv 2) (aP (sv 3) (aP (sv 4) aB rfl) rfl) rfl) rfl)) (iJ aa) (iJ (By aa))),0;(· rfl';(· exists 11,ig (sv 11) jQ (iJ (sv 2)));(· rfl';exact gR (i:=12) (N':=["pool","many","last","ways","plan","used","hour","way","loads#8","rooms","waits","row","more","loads"]) hc nd rfl oi (mR rfl (by rfl)) (cY (sv 11)) ⇑(aq (i:=13) ‹["pool","many","last","ways","plan","used","hour","way","loads#8","rooms","waits","row","more","loads"]› rfl (et rfl) (eu rfl)) (bI (di)) ⇑(bB) ⇑((ao (cQ (mD [0,0,1] rfl (bN (cV a hr (aP (sv 0) (aP aa aB rfl) rfl)) aK rfl))) (cV a hr (aP (sv 0) (aP aa aB rfl) rfl)))) (by rfl) (by intro _;rfl) (et rfl);(· rfl';exact dC (k:=10) rfl (by ac_rfl) (ao (cQ (bN nD (bN (cX rfl (by rfl) bC (bZ (N':=["pool","many","last","ways","plan","used","hour","way","loads#8","rooms","waits","row","more","loads","other"]) hc (mR rfl (by rfl)) (sS rfl (by rfl) jh (sv 11) (sv 12)) ⇑(cU hc (az (aq (i:=13) ‹["pool","many","last","ways","plan","used","hour","way","loads#8","rooms","waits","row","more","loads","other"]› rfl (et rfl) (eu rfl)) (az (aq (i:=14) ‹["pool","many","last","ways","plan","used","hour","way","loads#8","rooms","waits","row","more","loads","other"]› rfl (et rfl) (eu rfl)) bU))) (fC rfl (aX (show 13<=13 by decide) (aX (show 13<=14 by decide) fB))) ⇑(bB) ⇑((aA aO (sv 13) (sv 14))))) aK rfl) rfl)) (DN rfl (by rfl) vz (fJ wY (cV a hr (aP (sv 0) (aP aa aB rfl) rfl)) aa (bj _))));exact au)))
 rfl';.exact(dC (k:=10) rfl (by ac_rfl) nD)
 rfl';.exists(),cN (bN (cN (bN (sv 1) (bN (sv 2) (bN (cX rfl (by rfl) bC (sv 3)) (bN (cX rfl (by rfl) bC (sv 9)) (bN (cX rfl (by rfl) bC (sv 10)) aK rfl) rfl) rfl) rfl) rfl)) (bN (sv 4) aK rfl) rfl)
 exact au
noncomputable abbrev s33:fR:=top 39
noncomputable def b33:List S:=[.QK [2,3,4,5,6] ↑0,.ret (.blt .sorted [.comp ↑1 3 [7,8,9] a_ b_ (.tup [.bin .sub (.bin .sub ↑3 ↑7) (.idx (.idx ↑4 ↑8) ⇑2),↑8,↑9])])]
noncomputable def f33:Fd:=⟨2,7,b33⟩
theorem adk:aL ["calendar","plan","many","last","ways","rooms","waits"] ["calendar","plan"] (aC s33):={}
include cl in
theorem d33(a:iM K "_law_turned" "_law_turned" s33 f fd)(dM:mg "sorted"=b_):↥(["calendar","plan"],2,f33):=by
 exists a,adk,0,0;refine aR ?_ ?_;.exact(sy (sv 0) (cU hc (az (aq (i:=2) nd rfl oi oi) (az (aq (i:=3) nd rfl (eu rfl) (et rfl)) (az (aq (i:=4) nd rfl (eu rfl) (et rfl)) (az (aq (i:=5) nd rfl oi oi) (az (aq (i:=6) nd rfl oi oi) bU)))))) (jc rfl (aY _ _ (aY _ _ (aY _ _ (aY _ _ (aY _ _ fX 6) 5) 4) 3) 2)))
 rfl';.exists(),pB rfl (by rfl) dM (bZ (N':=["calendar","plan","many","last","ways","rooms","waits","hour","way","loads"]) hc (mR rfl (by rfl)) (cY (sv 1)) ⇑(cU hc (az (aq (i:=7) ‹["calendar","plan","many","last","ways","rooms","waits","hour","way","loads"]› rfl (et rfl) (eu rfl)) (az (aq (i:=8) ‹["calendar","plan","many","last","ways","rooms","waits","hour","way","loads"]› rfl (et rfl) (eu rfl)) (az (aq (i:=9) ‹["calendar","plan","many","last","ways","rooms","waits","hour","way","loads"]› rfl (et rfl) (eu rfl)) bU)))) (fC rfl (aX (show 7<=7 by decide) (aX (show 7<=8 by decide) (aX (show 7<=9 by decide) fB)))) ⇑(bB) ⇑((cN (bN (aA cL (aA cL (sv 3) (sv 7)) (ao (ao (sv 4) (sv 8)) aa)) (bN (sv 8) (bN (sv 9) aK rfl) rfl) rfl))))
 exact au
noncomputable abbrev s34:fR:=top 40
noncomputable def b34:List S:=[.asg 2 (.call 24 [↑0]),.asg 3 (.call 33 [↑0,↑1]),.ifs (.or (.not (.call 17 [↑0,↑1])) (.not (.call 17 [↑2,↑3]))) [.ret (.con (.bl a_))] [],.ifs (.cmp .ne (.call 19 [↑2,↑3]) (.blt .HF [.call 20 [↑0,↑1]])) [.ret (.con (.bl a_))] [],.ret (.cmp .eq (.call 20 [↑2,↑3]) (.blt .HF [.call 19 [↑0,↑1]]))]
noncomputable def f34:Fd:=⟨2,4,b34⟩
theorem aeJ:aL ["calendar","plan","other","turned"] ["calendar","plan"] (aC s34):={}
include cl in
theorem d34(g:iM K "_law_is_turned" "_law_is_turned" s34 f fd)(h:↥(33,"_law_turned",2,0))(a:↥(19,"cal_brought",2,0))(b:↥(17,"cal_clean",2,0))(e:↥(20,"cal_sent",2,0))(i:↥(24,"turned_calendar",1,0)):↥(["calendar","plan"],2,f34):=by
 exists g,aeJ,0,0;refine aR ?_ ?_;.exists 2,cV i hr (aP (sv 0) aB rfl)
 rfl';.exists 3,cV h hr (aP (sv 0) (aP (sv 1) aB rfl) rfl)
 rfl';.exists dU ?_ ?_ ?_;exact SW.st (vf (il (iu (cV b hr (aP (sv 0) (aP (sv 1) aB rfl) rfl)))) (pL (il (iu (cV b hr (aP (sv 2) (aP (sv 3) aB rfl) rfl))))));(· rfl';(· exists(),fL);exact au);exact au
 rfl';.exists dU ?_ ?_ ?_;exact cG (jz (bA hr)) (cV a hr (aP (sv 2) (aP (sv 3) aB rfl) rfl)) (Ep (cV e hr (aP (sv 0) (aP (sv 1) aB rfl) rfl))) (bj _);(· rfl';(· exists(),fL);exact au);exact au
 rfl';.exists(),fJ (iZ (bA hr)) (cV e hr (aP (sv 2) (aP (sv 3) aB rfl) rfl)) (Ep (cV a hr (aP (sv 0) (aP (sv 1) aB rfl) rfl))) (bj _)
 exact au
noncomputable abbrev s35:fR:=top 41
noncomputable def b35:List S:=[.asg 2 (.comp ↑1 1 [4] ck (aD (.cmp .eq (.idx (.idx (.idx ↑0 ⇑2) (.idx ↑4 ⇑1)) ⇑0) ⇑0)) (.idx ↑4 ⇑0)),.jk (.nJ ⇑0 (.bin .add (.idx ↑0 ⇑1) ⇑1)) [3] ck [.ifs (.cmp .ne (.call 17 [.call 22 [↑0,↑3],↑1]) (.or (.cmp .eq ↑2 (.lst [])) (.cmp .ge (.blt .HB [↑2]) ↑3))) [.ret (.con (.bl a_))] []],.ret (.con (.bl ck))]
noncomputable def f35:Fd:=⟨2,4,b35⟩
theorem afy:aL ["calendar","plan","starts","hour"] ["calendar","plan"] (aC s35):={}
include cl in
theorem d35(a:iM K "_law_is_late" "_law_is_late" s35 f fd)(kY:mg "min"=b_)(aJ:mg "range"=b_)(b:↥(17,"cal_clean",2,0))(e:↥(22,"late_calendar",2,0)):↥(["calendar","plan"],2,f35):=by
 exists a,afy,0,0;refine aR ?_ ?_;.exact(gR (i:=2) (N':=["calendar","plan","starts","hour","one"]) hc nd rfl oi (mR rfl (by rfl)) (cY (sv 1)) ⇑(aq (i:=4) ‹["calendar","plan","starts","hour","one"]› rfl (et rfl) (eu rfl)) (bI (di)) ⇑(qM (cG (iZ (bA hr)) (ao (ao (ao (sv 0) aa) (ao (sv 4) aa)) aa) aa (bj _))) ⇑((ao (sv 4) aa)) (by rfl) (by intro _;rfl) (et rfl))
 rfl';.exists 3,dm rfl (by rfl) aJ (aA aO (ao (sv 0) aa) aa),0;(· rfl';(· exists dU ?_ ?_ ?_;exact cG (jz (bA hr)) (cV b hr (aP (cV e hr (aP (sv 0) (aP (sv 3) aB rfl) rfl)) (aP (sv 1) aB rfl) rfl)) (aai (fJ (iZ (bA hr)) (sv 2) (cQ aK) (bj _)) (mH (fJ v8 (Oz rfl hc (by rfl) kY (sv 2)) (sv 3) (bj _)))) (bj _);(· rfl';(· exists(),fL);exact au);exact au);exact au)
 rfl';.exists(),fL
 exact au
noncomputable abbrev s36:fR:=top 42
noncomputable def b36:List S:=[.asg 3 (.call 21 [↑0,↑1]),.asg 4 (.call 6 [↑0,↑1,↑2]),.ifs (.or (.cmp .ne (.call 16 [↑3,↑2]) ↑4) (.cmp .ne (.call 17 [↑3,↑2]) (.call 8 [↑0,↑1,↑2]))) [.ret (.con (.bl a_))] [],.ifs (.not ↑4) [.ret (.con (.bl ck))] [],.ifs (.cmp .ne (.call 19 [↑3,↑2]) (.comp (.nJ ⇑0 (.bin .add ↑1 ⇑1)) 1 [7] ck b_ (.call 10 [↑0,↑2,↑7]))) [.ret (.con (.bl a_))] [],.ifs (.cmp .ne (.call 20 [↑3,↑2]) (.comp (.nJ ⇑0 (.bin .add ↑1 ⇑1)) 1 [7] ck b_ (.call 11 [↑0,↑2,↑7]))) [.ret (.con (.bl a_))] [],.jk (.nJ ⇑1 (.idx ↑0 ⇑0)) [5] ck [.jk (.nJ ⇑0 (.bin .add ↑1 ⇑1)) [6] ck [.ifs (.cmp .ne (.call 18 [↑3,↑2,↑5,↑6]) (.call 9 [↑0,↑2,↑5,↑6])) [.ret (.con (.bl a_))] []]],.ret (.con (.bl ck))]
noncomputable def f36:Fd:=⟨3,7,b36⟩
theorem aeI:aL ["net","last","plan","calendar","right","place","hour"] ["net","last","plan"] (aC s36):={}
include cl in
theorem d36(a:iM K "_law_is_steady" "_law_is_steady" s36 f fd)(aJ:mg "range"=b_)(b:↥(10,"brought_by",3,0))(e:↥(19,"cal_brought",2,0))(g:↥(17,"cal_clean",2,0))(h:↥(16,"cal_right",2,0))(j:↥(20,"cal_sent",2,0))(l:↥(18,"cal_stands",4,0))(m:↥(21,"net_calendar",2,0))(o:↥(8,"plan_clean",3,0))(p:↥(6,"plan_right",3,0))(q:↥(11,"sent_from",3,0))(r:↥(9,"stands_at",4,0)):↥(["net","last","plan"],3,f36):=by
 exists a,aeI,0,0;refine aR ?_ ?_;.exists 3,cV m hr (aP (sv 0) (aP (sv 1) aB rfl) rfl)
 rfl';.exists 4,cV p hr (aP (sv 0) (aP (sv 1) (aP (sv 2) aB rfl) rfl) rfl)
 rfl';.exists dU ?_ ?_ ?_;exact SW.st (vf (cG (jz (bA hr)) (cV h hr (aP (sv 3) (aP (sv 2) aB rfl) rfl)) (sv 4) (bj _)) (pL (cG (jz (bA hr)) (cV g hr (aP (sv 3) (aP (sv 2) aB rfl) rfl)) (cV o hr (aP (sv 0) (aP (sv 1) (aP (sv 2) aB rfl) rfl) rfl)) (bj _))));(· rfl';(· exists(),fL);exact au);exact au
 rfl';.exists dU ?_ ?_ ?_;exact il (iu (sv 4));(· rfl';(· exists(),fL);exact au);exact au
 rfl';.exists dU ?_ ?_ ?_;exact cG (jz (bA hr)) (cV e hr (aP (sv 3) (aP (sv 2) aB rfl) rfl)) (bZ (N':=["net","last","plan","calendar","right","place","hour#6","hour"]) hc (mR rfl (by rfl)) (dm rfl (by rfl) aJ (aA aO (sv 1) aa)) ⇑(aq (i:=7) ‹["net","last","plan","calendar","right","place","hour#6","hour"]› rfl (et rfl) (eu rfl)) (bI (di)) ⇑(bB) ⇑((cV b hr (aP (sv 0) (aP (sv 2) (aP (sv 7) aB rfl) rfl) rfl)))) (bj _);(· rfl';(· exists(),fL);exact au);exact au
 rfl';.exists dU ?_ ?_ ?_;exact cG (jz (bA hr)) (cV j hr (aP (sv 3) (aP (sv 2) aB rfl) rfl)) (bZ (N':=["net","last","plan","calendar","right","place","hour#6","hour"]) hc (mR rfl (by rfl)) (dm rfl (by rfl) aJ (aA aO (sv 1) aa)) ⇑(aq (i:=7) ‹["net","last","plan","calendar","right","place","hour#6","hour"]› rfl (et rfl) (eu rfl)) (bI (di)) ⇑(bB) ⇑((cV q hr (aP (sv 0) (aP (sv 2) (aP (sv 7) aB rfl) rfl) rfl)))) (bj _);(· rfl';(· exists(),fL);exact au);exact au
 rfl';.exists 5,qQ rfl (by rfl) aJ aa (ao (sv 0) aa),0;(· rfl';(· exists 6,dm rfl (by rfl) aJ (aA aO (sv 1) aa),0;(· rfl';(· exists dU ?_ ?_ ?_;exact cG (jz (bA hr)) (cV l hr (aP (sv 3) (aP (sv 2) (aP (sv 5) (aP (sv 6) aB rfl) rfl) rfl) rfl)) (cV r hr (aP (sv 0) (aP (sv 2) (aP (sv 5) (aP (sv 6) aB rfl) rfl) rfl) rfl)) (bj _);(· rfl';(· exists(),fL);exact au);exact au);exact au));exact au)
 rfl';.exists(),fL
 exact au
noncomputable abbrev s37:fR:=top 43
noncomputable def M7:List S:=[.QK [1,2] (.call 32 [↑0]),.QK [3,4,5,6,7] ↑1,.ifs (.or (.not (.call 34 [↑1,↑2])) (.not (.call 35 [↑1,↑2]))) [.ret (.con (.bl a_))] [],.asg 8 (.lst []),.jk ↑5 [9,10,11] a_ [.app 8 (.tup [↑9,↑10,.idx (.lst [.bin .pow ⇑10 ⇑9,.call 26 [↑0,⇑4]]) (.blt .int [.cmp .eq (.call 26 [↑0,⇑6]) ⇑0]),↑11])],.asg 12 (.tup [↑3,.blt .tuple [↑8]]),.asg 13 (.blt .list [↑2]),.ifs (.cmp .ne ↑2 (.lst [])) [.asg 14 (.call 26 [↑0,.blt .len [↑2]]),.QK [15,16,17] (.idx ↑2 ↑14),.CN 13 ↑14 (.idx (.lst [.tup [.bin .add ↑15 ⇑1,↑16,↑17],.tup [↑15,↑16,.bin .add ↑17 ⇑1],.tup [↑15,↑16,.blt .max2 [⇑1,.bin .sub ↑17 ⇑1]],.tup [.blt .max2 [⇑0,.bin .sub ↑15 ⇑1],↑16,↑17]]) (.call 26 [↑0,⇑4]))] [],.ret (.blt .all [.comp (.lst [↑2,↑13,.blt .sorted [↑13],.slice ↑2 ⇑1 (.con .non),.slice ↑2 (.con .non) (.neg ⇑1)]) 1 [18] ck b_ (.call 36 [↑12,↑4,↑18])])]
noncomputable def f37:Fd:=⟨1,18,M7⟩
theorem af0:aL ["pool","calendar","plan","many","last","ways","rooms","waits","found","begin","end","hours","net","other","at","hour","way","loads"] ["pool"] (aC s37):={}
include cl in
theorem d37(b:iM K "_law_one" "_law_one" s37 f fd)(dF:mg "all"=b_)(vz:mg "int"=b_)(fO:mg "len"=b_)(pW:mg "list"=b_)(m7:mg "max"=b_)(dM:mg "sorted"=b_)(bC:mg "tuple"=b_)(e:↥(32,"_law_case",1,0))(g:↥(35,"_law_is_late",2,0))(h:↥(36,"_law_is_steady",3,0))(j:↥(34,"_law_is_turned",2,0))(a:↥(26,"_law_next",2,0)):↥(["pool"],1,f37):=by
 exists b,af0,0,0;refine aR ?_ ?_;.exact(sy (cV e hr (aP (sv 0) aB rfl)) (cU hc (az (aq (i:=1) nd rfl oi oi) (az (aq (i:=2) nd rfl oi oi) bU))) (jc rfl (aY _ _ (aY _ _ fX 2) 1)))
 rfl';.exact(sy (sv 1) (cU hc (az (aq (i:=3) nd rfl oi oi) (az (aq (i:=4) nd rfl (eu rfl) (et rfl)) (az (aq (i:=5) nd rfl oi oi) (az (aq (i:=6) nd rfl oi oi) (az (aq (i:=7) nd rfl oi oi) bU)))))) (jc rfl (aY _ _ (aY _ _ (aY _ _ (aY _ _ (aY _ _ fX 7) 6) 5) 4) 3)))
 rfl';.exists dU ?_ ?_ ?_;exact SW.st (vf (il (iu (cV j hr (aP (sv 1) (aP (sv 2) aB rfl) rfl)))) (pL (il (iu (cV g hr (aP (sv 1) (aP (sv 2) aB rfl) rfl))))));(· rfl';(· exists(),fL);exact au);exact au
 rfl';.exists 8,cQ aK
 rfl';.exact(pK gy hc (cY (sv 5)) (cU hc (az (aq (i:=9) nd rfl oi oi) (az (aq (i:=10) nd rfl oi oi) (az (aq (i:=11) nd rfl oi oi) bU)))) (jc rfl (aY _ _ (aY _ _ (aY _ _ fX 11) 10) 9)) (by rfl';exact dC (k:=8) rfl (by ac_rfl) (cN (bN (sv 9) (bN (sv 10) (bN (ao (cQ (bN (aA j5 aa aa) (bN (cV a hr (aP (sv 0) (aP aa aB rfl) rfl)) aK rfl) rfl)) (DN rfl (by rfl) vz (fJ (iZ (bA hr)) (cV a hr (aP (sv 0) (aP aa aB rfl) rfl)) aa (bj _)))) (bN (sv 11) aK rfl) rfl) rfl) rfl));exact au))
 rfl';.exists iy (i:=12) ?_ ?_ ?_ ?_ ?_ ?_;exact nd;exact rfl;exact eu rfl;rotate_left;rfl;exact oi;exact cN (bN (sv 3) (bN (cX rfl (by rfl) bC (sv 8)) aK rfl) rfl)
 rfl';.exists 13,Pr rfl (by rfl) pW (sv 2)
 rfl';.exists dU ?_ ?_ ?_;exact cG (jz (bA hr)) (sv 2) (cQ aK) (bj _);(· rfl';(· exists 14,cV a hr (aP (sv 0) (aP (lR rfl (by rfl) fO (sv 2)) aB rfl) rfl));(· rfl';exact sy (ao (sv 2) (sv 14)) (cU hc (az (aq (i:=15) nd rfl oi oi) (az (aq (i:=16) nd rfl oi oi) (az (aq (i:=17) nd rfl oi oi) bU)))) (jc rfl (aY _ _ (aY _ _ (aY _ _ fX 17) 16) 15));(· rfl';exact qI (k:=13) rfl (by ac_rfl) (sv 14) (ao (cQ (bN (cN (bN (aA aO (sv 15) aa) (bN (sv 16) (bN (sv 17) aK rfl) rfl) rfl)) (bN (cN (bN (sv 15) (bN (sv 16) (bN (aA aO (sv 17) aa) aK rfl) rfl) rfl)) (bN (cN (bN (sv 15) (bN (sv 16) (bN (vO rfl hc (by rfl) m7 (bN aa (bN (aA cL (sv 17) aa) aK rfl) rfl)) aK rfl) rfl) rfl)) (bN (cN (bN (vO rfl hc (by rfl) m7 (bN aa (bN (aA cL (sv 15) aa) aK rfl) rfl)) (bN (sv 16) (bN (sv 17) aK rfl) rfl) rfl)) aK rfl) rfl) rfl) rfl)) (cV a hr (aP (sv 0) (aP aa aB rfl) rfl)));exact au)));exact au
 rfl';.exists(),jq rfl hc (by rfl) dF (bZ (N':=["pool","calendar","plan","many","last","ways","rooms","waits","found","begin","end","hours","net","other","at","hour","way","loads","one"]) hc (mR rfl (by rfl)) (cY (cQ (bN (sv 2) (bN (sv 13) (bN (pB rfl (by rfl) dM (sv 13)) (bN (ig (sv 2) (iJ aa) jQ) (bN (ig (sv 2) jQ (iJ (By aa))) aK rfl) rfl) rfl) rfl) rfl))) ⇑(aq (i:=18) ‹["pool","calendar","plan","many","last","ways","rooms","waits","found","begin","end","hours","net","other","at","hour","way","loads","one"]› rfl (et rfl) (eu rfl)) (bI (di)) ⇑(bB) ⇑((cV h hr (aP (sv 12) (aP (sv 4) (aP (sv 18) aB rfl) rfl) rfl))))
 exact au
noncomputable abbrev s38:fR:=top 44
noncomputable def b38:List S:=[.asg 2 (.bin .mul (.lst [⇑0]) ↑1),.jk (.nJ ⇑0 (.blt .len [↑0])) [3] ck [.CN 2 (.bin .mod ↑3 ↑1) (.bin .add (.bin .mul (.idx ↑2 (.bin .mod ↑3 ↑1)) ⇑1000003) (.idx ↑0 ↑3))],.ret (.slice ↑2 (.con .non) (.blt .min2 [.blt .len [↑0],↑1]))]
noncomputable def f38:Fd:=⟨2,4,b38⟩
theorem adS:aL ["script","most","cells","k"] ["script","most"] (aC s38):={}
include cl in
theorem d38(a:iM K "_law_folded" "_law_folded" s38 f fd)(fO:mg "len"=b_)(kY:mg "min"=b_)(aJ:mg "range"=b_):↥(["script","most"],2,f38):=by
 exists a,adS,0,0;refine aR ?_ ?_;.exists 2,aA gV (cQ (bN aa aK rfl)) (sv 1)
 rfl';.exists 3,dm rfl (by rfl) aJ (lR rfl (by rfl) fO (sv 0)),0;(· rfl';exact qI (k:=2) rfl (by ac_rfl) (aA gU (sv 3) (sv 1)) (aA aO (aA gV (ao (sv 2) (aA gU (sv 3) (sv 1))) aa) (ao (sv 0) (sv 3)));exact au)
 rfl';.exists(),ig (sv 2) jQ (iJ (wk rfl hc (by rfl) kY (bN (lR rfl (by rfl) fO (sv 0)) (bN (sv 1) aK rfl) rfl)))
 exact au
noncomputable abbrev s39:fR:=top 45
noncomputable def b39:List S:=[.jk (.bin .add (.lst [⇑0]) (.call 38 [.slice ↑0 (.con .non) ⇑63,⇑16])) [1] ck [.ifs (.not (.call 37 [.call 25 [↑1]])) [.ret (.con (.bl a_))] []],.ret (.con (.bl ck))]
noncomputable def f39:Fd:=⟨1,2,b39⟩
theorem adA:aL ["script","cell"] ["script"] (aC s39):={}
include cl in
theorem d39(a:iM K "law" "law" s39 f fd)(b:↥(38,"_law_folded",2,0))(e:↥(37,"_law_one",1,0))(g:↥(25,"_law_pool",1,0)):↥(["script"],1,f39):=by
 exists a,adA,0,0;refine aR ?_ ?_;.exists 1,cY (aA aO (cQ (bN aa aK rfl)) (cV b hr (aP (ig (sv 0) jQ (iJ aa)) (aP aa aB rfl) rfl))),0;(· rfl';(· exists dU ?_ ?_ ?_;exact il (iu (cV e hr (aP (cV g hr (aP (sv 1) aB rfl)) aB rfl)));(· rfl';(· exists(),fL);exact au);exact au);exact au)
 rfl';.exists(),fL
 exact au
end _T
end
noncomputable section
namespace _T
open PySem _L Spec PyProof.Rows _H
noncomputable def Γ:Tab:=λi=>[f0,f1,f2,f3,f4,f5,f6,f7,f8,f9,Zt,f11,f12,f13,f14,f15,f16,ZM,Yt,f19,f20,f21,f22,f23,f24,f25,f26,f27,f28,f29,f30,f31,f32,f33,f34,f35,f36,f37,f38,f39][i]?
end _T
end
noncomputable section
namespace _T
open _H
variable{w n x L M:Nat}{y z m i p t v h last B:Int}{Q:R->List Sl->Prop}{ns r:List Int}{ρ:List Sl}{s a0:Sl}{ds:List D}{c:Call}{is:List Nat}{F:Int->Int->Int}{ps:List (Int×Int)}{kvs:List (List Int×Int)}{rooms:List (List Int)}{wd:D}{wt:List (Option (List Int))}
local macro_rules|`(tactic|symm)=>`(tactic|first|apply ak|apply Gh)
noncomputable abbrev big:Int:=1606938044258990275541962092341162602522202993782792835301376
theorem bh{x:Int}(h0:0<m)(a:m<big)(k:∀d x z:Int,0<=d->d<m->Q (.val (.int d)) [.own ck [.int x,.int y,.int z],.val a_ (.int m)]):(run Γ w (n+1) 26 [.own ck [.int x,.int y,.int z],.val a_ (.int m)]).sat Q:=by
 have b:m<1606938044258990275541962092341162602522202993782792835301376:=a;refine aQ (d:=f26) rfl rfl (by decide) ?_;symm;simp[f26];constructor;.intro _;symm;simp[h0];apply ak;simp[h0,b,kZ];apply ak;simp;exact k _ _ _ (o5 _ (by lia)) (k7 _ h0)
 . intro _;symm;simp[kZ];apply ak;simp;generalize g:(y+7919*(z+1))%1000000007=q;have j:0<=q/\q<1000000007:=by lia
   have e:-18446744073709551616<q+11/\q+11<18446744073709551616:=by lia
   symm;simp[e];generalize hs:(q+11)*(q+48271)%998244353=st;have f:-18446744073709551616<st/\st<18446744073709551616:=by lia
   symm;simp[f,h0];exact k _ _ _ (o5 _ (by lia)) (k7 _ h0)
theorem Jp{x:Int}(k:∀a b c:Int,Q (.own [.int a,.int b,.int c]) [.val a_ (.int x)]):(run Γ w (n+1) 25 [.val a_ (.int x)]).sat Q:=by refine aQ (d:=f25) rfl rfl (by decide) ?_;symm;simp[f25];exact k _ _ _
structure Wy where(s t r h:Int)
variable{ws:List Wy}
noncomputable def Wy.d(w:Wy):D:=.tup [.int w.s,.int w.t,.int w.r,.int w.h]
structure Wy.Ok(m:Int)(w:Wy):Prop where
 s0:0<=w.s
 s1:w.s<m
 t0:0<=w.t
 t1:w.t<m
 ne:w.s≠w.t
 r0:0<=w.r
 r1:w.r<=1000000000
 h0:1<=w.h
 h1:w.h<=1000000
theorem other{a b:Int}(h1:0<=a)(f:a<m)(g:0<=b)(j:b<m-1):0<=(a+1+b)%m/\(a+1+b)%m<m/\(a+1+b)%m≠a:=by
 by_cases h:a+1+b<m;.rw[Int.emod_eq_of_lt (by lia) h];lia
 . have e:(a+1+b)%m=a+1+b-m:=by rw[<-Int.sub_emod_right,Int.emod_eq_of_lt (by lia) (by lia)]
   rw[e];lia
noncomputable def cB(m:Int)(ws:List Wy):D:=.tup [.int m,.tup (ws.map Wy.d)]
structure mX(m:Int)(ws:List Wy):Prop where
 m0:2<=m
 m1:m<=6
 len:ws.length<=12
 ok:∀w∈ws,w.Ok m
@[simp]theorem ahj{m:Int}{ws:List Wy}:pG (cB m ws) (.int 0)=aD (.val (.int m)):=rfl
@[simp]theorem ahf{m:Int}{ws:List Wy}:pG (cB m ws) (.int 1)=aD (.val (.tup (ws.map Wy.d))):=rfl
theorem vh{lo hi:Int}(h0:0<=i)(h1:i<(ns.length:Int))(k:∀x∈ns,lo<=x/\x<=hi):∃r,at' (ns.map D.int) i=aD (.int r)/\lo<=r/\r<=hi:=by
 have a:i.toNat<ns.length:=by lia
 refine⟨ns[i.toNat],?_,k _ (ic a)⟩;rw[iw h0 (by simpa using h1)];simp[a]
theorem o9{a:Int}(h:a<=1000000000000000000000):a<big:=by show _<(1606938044258990275541962092341162602522202993782792835301376:Int);lia
theorem qU{x:Int}(h0:0<m)(k:∀d x z:Int,0<=d->d<m->Q (.val (.int d)) [.own ck [.int x,.int y,.int z],.val a_ (.int m)]):(run Γ w (n+2) 27 [.own ck [.int x,.int y,.int z],.val a_ (.int m)]).sat Q:=by refine aQ (d:=f27) rfl rfl (by decide) ?_;symm;simp[f27];refine bh (by decide) (by decide) λd x z d0 d1=>?_;simp;refine bh (by decide) (by decide) λe x z a b=>?_;simp[h0];exact k _ _ _ (o5 _ (by lia)) (k7 _ h0)
structure aZ where(s t h:Int)
noncomputable def aZ.d(r:aZ):D:=.tup [.int r.s,.int r.t,.int r.h]
structure aZ.Ok(m:Int)(r:aZ):Prop where
 s0:0<=r.s
 s1:r.s<m
 t0:0<=r.t
 t1:r.t<m
 ne:r.s≠r.t
 h0:1<=r.h
 h1:r.h<=1000000
noncomputable def rF(p:Int×Int):D:=.tup [.int p.1,.int p.2]
noncomputable def Tt(m:Int)(p:Int×Int):Prop:=0<=p.1/\p.1<m/\0<=p.2/\p.2<m/\p.1≠p.2
inductive JRo(y m:Int)(b:Nat)(s4 s5 s6 s7:Sl)(i:Nat)(ρ:List Sl):Prop where|mk(x z:Int)(ps:List (Int×Int))(s3:Sl)(q0:ρ=[.own ck [.int x,.int y,.int z],.val a_ (.int m),.own a_ (ps.map rF),s3,s4,s5,s6,s7])(q1:fr s3=ck)(q2:(∀p∈ps,Tt m p))(q3:ps.length<=b+i)
inductive JRp(y m:Int)(b:Nat)(s3 s6 s7:Sl)(i:Nat)(ρ:List Sl):Prop where|mk(x z:Int)(ps:List (Int×Int))(s4 s5:Sl)(q0:ρ=[.own ck [.int x,.int y,.int z],.val a_ (.int m),.own a_ (ps.map rF),s3,s4,s5,s6,s7])(q1:(fr s4=ck/\fr s5=ck))(q2:(∀p∈ps,Tt m p))(q3:ps.length<=b+i)
inductive JRq(y m:Int)(ds:List D)(s3 s4:Sl)(r:List D)(ρ:List Sl):Prop where|mk(x z:Int)(us:List (Int×Int))(vs:List aZ)(s5 s7:Sl)(q0:ρ=[.own ck [.int x,.int y,.int z],.val a_ (.int m),.lent ds,s3,s4,s5,.own a_ (vs.map aZ.d),s7])(q1:(fr s5=ck/\fr s7=ck))(q2:r=us.map rF)(q3:(∀p∈us,Tt m p))(q4:(∀v∈vs,v.Ok m))(q5:us.length+vs.length<=12)
theorem FN{x:Int}(m0:2<=m)(m1:m<=6)(k:∀(vs:List aZ)(x z:Int),(∀v∈vs,v.Ok m)->vs.length<=12->Q (.own (vs.map aZ.d)) [.own ck [.int x,.int y,.int z],.val a_ (.int m)]):(run Γ w (n+3) 28 [.own ck [.int x,.int y,.int z],.val a_ (.int m)]).sat Q:=by
 refine aQ (d:=f28) rfl rfl (by decide) ?_;symm;simp[f28];apply ak;simp[show m-1<=1000000000 by lia,show-1000000000<=m-1 by lia];refine fc (JRo y m 0 _ _ _ _) ?_ ?_ ⟨x,z,[],.aN,rfl,rfl,by simp,by simp⟩
 . rintro i _ hi⟨x,z,ps,s3,rfl,I,u,A⟩;simp[I];apply ak;simp;refine bh (by decide) (by decide) λd x z d0 d1=>?_;simp;refine⟨λ_=>?_,λ_=>?_⟩
   . symm;simp[show ps.length<lim by show _<16777216;lia];refine⟨x,z,ps++[((i:Int),(i:Int)+1)],_,by simp[rF];rfl,rfl,λp hp'=>?_,by simp;lia⟩;rcases gl.mp hp' with hp'|hp';.exact u p hp'
     .rw[f_.mp hp'];refine⟨?_,?_,?_,?_,?_⟩<;>simp<;>lia
   .exact⟨x,z,ps,_,rfl,rfl,u,by lia⟩
 rintro _⟨x,z,ps,s3,rfl,I,u,A⟩;symm;simp;have O:ps.length<=5:=by lia
 refine bh (by lia) (o9 (by lia)) λc x z c0 c1=>?_;simp;refine⟨by lia,?_⟩;refine fc (JRp y m ps.length _ _ _) ?_ ?_ ⟨x,z,ps,.aN,.aN,rfl,⟨rfl,rfl⟩,u,by simp⟩
 . rintro i _ hi⟨x,z,j,s4,s5,rfl,⟨J,g⟩,l,C⟩;simp[J];apply ak;simp;refine bh (by lia) (o9 (by lia)) λa x z a0 E=>?_;simp[g];apply ak;simp;refine bh (by lia) (o9 (by lia)) λb x z b0 b1=>?_;obtain⟨t0,t1,U⟩:=other a0 E b0 b1;simp[show 0<m by lia,show j.length<lim by show _<16777216;lia];refine⟨x,z,j++[(a,(a+1+b)%m)],.val a_ (.int i),.val a_ (.int a),by simp[rF],⟨rfl,rfl⟩,λp hp'=>?_,by simp;lia⟩;rcases gl.mp hp' with hp'|hp';.exact l p hp'
   .rw[f_.mp hp'];exact⟨a0,E,t0,t1,λz=>U z.symm⟩
 rintro _⟨x,z,j,s4,s5,rfl,⟨J,g⟩,l,C⟩;have G:j.length<=12:=by lia
 symm;simp;apply ak;simp;refine dJ (JRq y m _ _ _) ?_ ?_ ⟨x,z,j,[],s5,.aN,rfl,⟨g,rfl⟩,rfl,l,by simp,by simpa using G⟩;.rintro d r _⟨x,z,o,vs,s5,s7,rfl,⟨g,N⟩,hr,H,hv,A⟩;cases o with|nil=>cases hr|cons p o=>
     obtain⟨rfl,rfl⟩:d=rF p/\r=o.map rF:=by simpa using hr
     have f:=H p (by simp);simp at A;simp[g,N,rF];apply ak;simp;refine bh (by decide) (by decide) λa x z a0 E=>?_;simp;refine qU (by decide) λb x z b0 b1=>?_;simp;refine bh (by decide) (by decide) λe x z W X=>?_;obtain⟨h,he,h0,h1⟩:=vh (ns:=[1,1,2,2,3,1+a,1+b]) (lo:=1) (hi:=1000000) W (by simpa using X) (by simp;lia);simp only[eK,mS]at he;simp[he,show vs.length<lim by show _<16777216;lia];refine⟨x,z,o,vs++[⟨p.1,p.2,h⟩],.val a_ (.int p.1),.val a_ (.int p.2),by simp[aZ.d],⟨rfl,rfl⟩,rfl,λq l=>H q (by simp[l]),λv hv'=>?_,by simp;lia⟩;rcases gl.mp hv' with hv'|hv';.exact hv v hv'
     .rw[f_.mp hv'];exact⟨f.1,f.2.1,f.2.2.1,f.2.2.2.1,f.2.2.2.2,h0,h1⟩
 .rintro _⟨x,z,o,vs,s5,s7,rfl,⟨g,N⟩,hr,H,hv,A⟩;symm;simp;exact k vs x z hv (by lia)
@[simp]theorem Rr{b e:Type}{a:b}{ρ:List Sl}{f:b->List Sl->Res e}:(Res.ok a ρ).bind f=f a ρ:=rfl
@[simp]theorem Zr{a b:Type}{f:a->List Sl->Res b}:(Res.stuck:Res a).bind f=.stuck:=rfl
@[simp]theorem DG{b:Type}{a:b}{ρ:List Sl}:lift (aD a) ρ=.ok a ρ:=rfl
theorem Z5{k:Int}(h0:0<=k)(h1:k<(ws.length:Int)):∃v,ws[k.toNat]?=aD v/\v∈ws/\at' (ws.map Wy.d) k=aD v.d:=by
 have a:k.toNat<ws.length:=by lia
 refine⟨ws[k.toNat],by simp[a],ic a,?_⟩;rw[iw h0 (by simpa using h1)];simp[a]
theorem Cw{v:Wy}:pG v.d (.int 0)=aD (.val (.int v.s)):=by simp[Wy.d]
theorem An{v:Wy}:pG v.d (.int 1)=aD (.val (.int v.t)):=by simp[Wy.d]
theorem VG{v:Wy}:pG v.d (.int 2)=aD (.val (.int v.r)):=by simp[Wy.d]
theorem Zg{v:Wy}:pG v.d (.int 3)=aD (.val (.int v.h)):=by simp[Wy.d]
noncomputable def sm{b:Type}(f:b->Int):List b->Int|[]=>0|a::l=>f a+sm f l
section
variable{α β:Type}{f g:α->Int}{l k:List α}
@[simp]theorem Vx:sm f []=0:=rfl
@[simp]theorem cR{a:α}:sm f (a::l)=f a+sm f l:=rfl
theorem Lk:sm f (l++k)=sm f l+sm f k:=by induction l with|nil=>simp|cons a l b=>simp[b];lia
theorem fY(h:∀a∈l,f a=g a):sm f l=sm g l:=by induction l with|nil=>rfl|cons a l e=>rw[cR,cR,h a (by simp),e λb j=>h b (by simp[j])]
theorem wF(h:l.Perm k):sm f l=sm f k:=by induction h with|nil=>rfl|cons a _ e=>simp[e]|swap a b l=>simp;lia|trans _ _ h1 j=>rw[h1,j]
theorem Lj:sm (λa=>f a+g a) l=sm f l+sm g l:=by induction l with|nil=>rfl|cons a l b=>simp only[cR,b];lia
theorem K9:sm (λa=>f a-g a) l=sm f l-sm g l:=by induction l with|nil=>rfl|cons a l b=>simp only[cR,b];lia
theorem TY{c:Int}:sm (λa=>f a*c) l=sm f l*c:=by induction l with|nil=>simp|cons a l b=>simp only[cR,b,Int.add_mul]
theorem aaJ(h:∀a∈l,f a<=g a):sm f l<=sm g l:=by induction l with|nil=>simp|cons a l e=>have h1:=h a (by simp);have o:=e λb j=>h b (by simp[j]);simp only[cR];lia
theorem qK(h:∀a∈l,f a=0):sm f l=0:=by induction l with|nil=>rfl|cons a l e=>rw[cR,h a (by simp),e λb j=>h b (by simp[j])];rfl
theorem J2{q:β->α}{l:List β}:sm f (l.map q)=sm (λb=>f (q b)) l:=by induction l with|nil=>rfl|cons a l e=>simp only[eK,cR,e]
theorem afL{l:List Int}:l.sum=sm (λi=>i) l:=by induction l with|nil=>rfl|cons a l b=>simp[b]
end
structure Tr where(h w l:Int)
noncomputable def Tr.d(x:Tr):D:=.tup [.int x.h,.int x.w,.int x.l]
noncomputable def yx:D->Tr|.tup [.int h,.int w,.int l]=>⟨h,w,l⟩|_=>⟨0,0,0⟩
@[simp]theorem aeC{h w l:Int}:yx (.tup [.int h,.int w,.int l])=⟨h,w,l⟩:=rfl
@[simp]theorem aeO{x:Tr}:yx x.d=x:=rfl
@[simp]theorem adV{i:Int}:gB (.int i)=i:=rfl
noncomputable def wy(ws:List Wy)(k:Int):Wy:=(ws[k.toNat]?).getD ⟨0,0,0,0⟩
noncomputable def xx(ws:List Wy)(x:Tr):Prop:=0<=x.w/\x.w<(ws.length:Int)
theorem sJ{k:Int}(h0:0<=k)(h1:k<(ws.length:Int)):at' (ws.map Wy.d) k=aD (wy ws k).d/\wy ws k∈ws:=by
 obtain⟨v,a,b,e⟩:=Z5 h0 h1;have:wy ws k=v:=by unfold wy;rw[a];rfl
 rw[this];exact⟨e,b⟩
theorem aad{x:Tr}:pG x.d (.int 0)=aD (.val (.int x.h)):=by simp[Tr.d]
theorem Ha{x:Tr}:pG x.d (.int 1)=aD (.val (.int x.w)):=by simp[Tr.d]
theorem aaf{x:Tr}:pG x.d (.int 2)=aD (.val (.int x.l)):=by simp[Tr.d]
noncomputable def fu(ws:List Wy)(x:Tr):Int:=x.h+(wy ws x.w).h
noncomputable def Av(ws:List Wy)(p:Int)(P:Int->Bool)(x:Tr):Int:=if(wy ws x.w).t=p/\P (fu ws x)=ck then x.l else 0
noncomputable def zY(ws:List Wy)(p:Int)(P:Int->Bool)(x:Tr):Int:=if(wy ws x.w).s=p/\P x.h=ck then x.l else 0
noncomputable def iC(t:Int):Int->Bool:=λk=>decide (k<=t)
noncomputable def p8(t:Int):Int->Bool:=λk=>decide (t<=k)
noncomputable def come(ws:List Wy)(pl:List Tr)(p t:Int):Int:=sm (Av ws p (iC t)) pl
noncomputable def left(ws:List Wy)(pl:List Tr)(p t:Int):Int:=sm (zY ws p (iC t)) pl
noncomputable def stP(ws:List Wy)(pl:List Tr)(p:Int)(P:Int->Bool):Int:=sm (λx=>Av ws p P x-zY ws p P x) pl
theorem aeX{pl:List Tr}:stP ws pl p (iC t)=come ws pl p t-left ws pl p t:=K9
noncomputable def LS(s:Sl)(ds:List D):Prop:=(∃b,s=.own b ds)\/∃b,s=.val b (.lst ds)
theorem jK{k:Nat}{e:Ev}(h:ρ[k]?=aD s)(hs:LS s ds):∃g,srcOf (aD k) e ρ=.ok ds (ρ.set k g)/\∀a,a[k]?=aD g->bG ρ (aD k) a=a.set k s:=by
 have j:=(gC h).1;rcases hs with⟨b,rfl⟩|⟨b,rfl⟩;.exact⟨.lent ds,by unfold srcOf;simp only[h],λa _=>by unfold bG;simp only[h]⟩
 . refine⟨.val b (.lst ds),?_,λa h'=>?_⟩;.unfold srcOf;simp only[h,Hv,DG];obtain⟨h1,f⟩:=gC h;rw[<-f,kt]
   .unfold bG;simp only[h];obtain⟨h1,f⟩:=gC h';rw[<-f,kt]
noncomputable def LT(s:Sl)(ds:List D):Prop:=LS s ds\/s=.lent ds
theorem Zd{k:Nat}{e:Ev}(h:ρ[k]?=aD s)(hs:LT s ds):∃f,srcOf (aD k) e ρ=.ok ds (ρ.set k f)/\∀a,a[k]?=aD f->bG ρ (aD k) a=a.set k s:=by
 rcases hs with hs|rfl;.exact jK h hs
 . refine⟨.lent ds,?_,λa h'=>?_⟩;.unfold srcOf;simp only[h];obtain⟨h1,b⟩:=gC h;rw[<-b,kt]
   .unfold bG;simp only[h];obtain⟨h1,b⟩:=gC h';rw[<-b,kt]
noncomputable def gv{κ:Type}[DecidableEq κ](kvs:List (κ×Int))(k:κ):Int:=((kvs.find? λa=>decide (a.1=k)).map (·.2)).getD 0
noncomputable def uZ{κ:Type}(P:κ->Bool)(kvs:List (κ×Int)):Int:=sm (λa=>if P a.1=ck then a.2 else 0) kvs
section
variable{κ:Type}[DecidableEq κ]
theorem dN{a k:κ}{b:Int}{r:List (κ×Int)}:gv ((a,b)::r) k=if a=k then b else gv r k:=by unfold gv;by_cases h:a=k<;>simp[h]
theorem De{k:κ}:∀{r:List (κ×Int)},k∉r.map (·.1)->gv r k=0|[],_=>rfl|(a,b)::r,h=>by simp at h;rw[dN,if_neg (λe=>h.1 e.symm),De (r:=r) (by simpa using h.2)]
theorem pR{a k:κ}{b:Int}{r:List (κ×Int)}(o:a∉r.map (·.1)):putD ((a,b)::r) k v=if a=k then(a,v)::r else(a,b)::putD r k v:=by
 unfold putD;by_cases h:a=k;.subst h;rw[if_pos (by simp),if_pos rfl];simp;refine(fe (g:=id) λj l=>?_).trans (by simp);rw[if_neg];rfl;intro e;exact o (ey.mpr ⟨j,l,e⟩)
 . rw[if_neg h];by_cases f:(r.any λj=>decide (j.1=k))=ck;.rw[if_pos f,if_pos (by simp[f])];simp[h]
   .rw[if_neg f,if_neg (by simp[h];simpa using f)];simp
theorem jf{k:κ}{v:Int}:∀{r:List (κ×Int)},(r.map (·.1)).Nodup->((putD r k v).map (·.1)).Nodup/\(putD r k v).length<=r.length+1/\(∀j∈(putD r k v).map (·.1),j=k\/j∈r.map (·.1))/\∀P,uZ P (putD r k v)=uZ P r+if P k=ck then v-gv r k else 0
 |[],_=>by simp[putD,uZ,gv]|(a,b)::r,h=>by
   simp only[eK,hX]at h;obtain⟨g,q,f,l⟩:=jf (k:=k) (v:=v) (r:=r) h.2;rw[pR h.1];by_cases e:a=k;.subst e;rw[if_pos rfl];refine⟨by simpa using h,by simp,λj hj=>.inr (by simpa using hj),λP=>?_⟩;have:=De h.1;simp only[uZ,cR,dN,if_true];split<;>lia
   . rw[if_neg e];refine⟨?_,by simp;lia,λj hj=>?_,λP=>?_⟩
     . simp only[eK,hX];refine⟨λo=>?_,g⟩;rcases f a o with z|z;.exact e z
       .exact h.1 z
     . simp only[eK,eM]at hj ⊢;rcases hj with rfl|hj;.exact .inr (.inl rfl)
       . rcases f j hj with z|z;.exact .inl z
         .exact .inr (.inr z)
     .have:=l P;simp only[uZ,cR,dN,if_neg e]at this ⊢;lia
theorem oK{P:κ->Bool}:∀{r:List (κ×Int)},(r.map (·.1)).Nodup->uZ P r=sm (λk=>if P k=ck then gv r k else 0) (r.map (·.1))|[],_=>rfl|(a,b)::r,h=>by simp only[eK,hX]at h;have g:=oK (P:=P) (r:=r) h.2;simp only[uZ,cR,eK]at g ⊢;rw[g,dN,if_pos rfl];congr 1;refine fY λk j=>?_;have f:¬ a=k:=λe=>h.1 (by rw[e];exact j);rw[dN,if_neg f]
end
theorem qP{k:Int}:∀{r:List (Int×Int)},k∈r.map (·.1)->uK (.dD (.k r)) (.int k)=aD (.val (.int (gv r k)))
 |[],h=>by simp at h|(a,b)::r,h=>by
   by_cases e:a=k;.simp[uK,Dc.get,gv,e]
   .simp at h;have f:=qP (k:=k) (r:=r) (by rcases h with h|h;exact absurd h.symm e;simpa using h);simp[uK,Dc.get,gv,e]at f ⊢;exact f
theorem LC{k d:P}:ev c (.Wl x k d) ρ=match ρ[x]?with
 |some (.eG _)=>(cT (isVar k) (ev c k) ρ).bind λa ρ=>(cT (isVar d) (ev c d) ρ).bind λb ρ=>match ρ[x]?with|some (.eG m)=>lift ((m.get a).bind λo=>(gD b).map λv=>.val (.int (o.getD v))) ρ|_=>.stuck
 |_=>.stuck:=(rfl)
theorem O2:ex c n (.xm x a_) ρ=match ρ[x]?with|some .aN=>.ok .next (ρ.set x (.eG (.k [])))|_=>.stuck:=(rfl)
theorem Di{k e:P}:ex c n (.dput x k e) ρ=(ev c e ρ).bind λr ρ=>match ρ[x]?with
 |some (.eG _)=>(cT (isVar k) (ev c k) ρ).bind λa ρ=>match ρ[x]?,r with
   |some (.eG m),.val (.int v)=>match m.put a v with|some b=>.ok .next (ρ.set x (.eG b))|none=>.stuck
   |_,_=>.stuck
 |_=>.stuck:=(rfl)
@[simp]theorem Ye{x:Nat}{k d:P}:isVar (.Wl x k d)=b_:=rfl
@[simp]theorem ZF:vV .Hz=uK:=rfl
theorem ql{k:Int}(h0:0<=k)(h1:k<(ws.length:Int))(q:Q (.val (.int (h+(wy ws k).h))) [.val a_ (cB m ws),.val a_ (.int h),.val a_ (.int k)]):(run Γ w (n+1) 1 [.val a_ (cB m ws),.val a_ (.int h),.val a_ (.int k)]).sat Q:=by refine aQ (d:=f1) rfl rfl (by decide) ?_;symm;simpa[f1,(sJ h0 h1).1,Zg]using q
noncomputable def KP(ws:List Wy)(p:Int)(P:Int->Bool)(x:Tr):Int:=Av ws p P x-zY ws p P x
inductive JCh(ws:List Wy)(pl:List Tr)(p:Int)(a0 a1 a2:Sl)(r:List D)(ρ:List Sl):Prop where|mk(rest:List Tr)(kvs:List (Int×Int))(s4 s5 s6 s7:Sl)(q0:ρ=[a0,a1,a2,.eG (.k kvs),s4,s5,s6,s7])(q1:A4 (fr s4=ck) (fr s5=ck) (fr s6=ck) (fr s7=ck))(q2:r=rest.map Tr.d)(q3:(∀x∈rest,xx ws x))(q4:(kvs.map (·.1)).Nodup)(q5:kvs.length+rest.length<=pl.length)(q6:∀P,uZ P kvs+sm (KP ws p P) rest=sm (KP ws p P) pl)
theorem Ls{kvs:List (Int×Int)}:(Dc.get (.k kvs) (.int i))=aD ((kvs.find? λa=>decide (a.1=i)).map (·.2)):=rfl
theorem Q3{kvs:List (Int×Int)}(h:kvs.length<lim):Dc.put (.k kvs) (.int i) v=aD (.k (putD kvs i v)):=by show(if _ then _ else _)=_;rw[if_pos h]
theorem fM{pl:List Tr}{s1:Sl}(hs:LS s1 (pl.map Tr.d))(O:∀x∈pl,xx ws x)(C:∀v∈ws,v.s≠v.t)(hl:pl.length<=60)(q:∀kvs:List (Int×Int),(kvs.map (·.1)).Nodup->kvs.length<=pl.length->(∀P,uZ P kvs=stP ws pl p P)->Q (.val (.dD (.k kvs))) [.val a_ (cB m ws),s1,.val a_ (.int p)]):(run Γ w (n+2) 4 [.val a_ (cB m ws),s1,.val a_ (.int p)]).sat Q:=by
 refine aQ (d:=f4) rfl rfl (by decide) ?_;symm;simp[f4,O2];apply ak;obtain⟨U,W,X⟩:=jK (ρ:=[.val a_ (cB m ws),s1,.val a_ (.int p),.eG (.k []),.aN,.aN,.aN,.aN]) (k:=1) (e:=ev (run Γ w (n+1)) (.var 1)) rfl hs;simp[-dW,-dB,W];refine dJ (JCh ws pl p _ U _) ?_ ?_ ⟨pl,[],.aN,.aN,.aN,.aN,rfl,⟨rfl,rfl,rfl,rfl⟩,rfl,O,by simp,by simp,λP=>by simp[uZ]⟩;.rintro d r _⟨a,kvs,s4,s5,s6,s7,rfl,⟨Y,Z,h6,E⟩,hr,hi,j,G,hd⟩;cases a with|nil=>cases hr|cons x a=>
     obtain⟨rfl,rfl⟩:d=x.d/\r=a.map Tr.d:=by simpa using hr
     have A:=hi x (by simp);obtain⟨g,o⟩:=sJ A.1 A.2;have u:=C _ o;have f:∀y∈a,xx ws y:=λy hy=>hi y (by simp[hy]);simp at G;have b:kvs.length<lim:=by show _<16777216;lia
     simp[Tr.d,Y,Z,h6];by_cases c1:(wy ws x.w).t=p;.have c2:(wy ws x.w).s≠p:=λz=>u (z.trans c1.symm);obtain⟨H,p2,p3,I⟩:=jf (k:=fu ws x) (v:=gv kvs (fu ws x)+x.l) j;symm;simp[g,An,c1];apply ak;simp;refine ql A.1 A.2 ?_;simp[E];apply ak;simp[Di,LC,Ls];rw[show(map (λx=>x.snd) (find? (λJ=>decide (J.fst=x.h+(wy ws x.w).h)) kvs)).getD 0=gv kvs (fu ws x)from rfl,Q3 b];simp;apply ak;simp[g,Cw,c2];refine⟨a,putD kvs (fu ws x) (gv kvs (fu ws x)+x.l),_,_,_,_,rfl,⟨rfl,rfl,rfl,rfl⟩,rfl,f,H,by lia,λP=>?_⟩;have:=hd P;rw[I P];simp only[cR,KP,Av,zY,c1,c2,true_and,false_and,if_false]at this ⊢;split<;>split at this<;>simp_all<;>lia
     . by_cases c2:(wy ws x.w).s=p;.obtain⟨H,p2,p3,I⟩:=jf (k:=x.h) (v:=gv kvs x.h-x.l) j;symm;simp[g,An,c1];apply ak;simp[g,Cw,c2];apply ak;simp[Di,LC,Ls];rw[show(map (λx=>x.snd) (find? (λJ=>decide (J.fst=x.h)) kvs)).getD 0=gv kvs x.h from rfl,Q3 b];simp;refine⟨a,_,_,_,_,_,rfl,⟨rfl,rfl,rfl,E⟩,rfl,f,H,by lia,λP=>?_⟩;have:=hd P;rw[I P];simp only[cR,KP,Av,zY,c1,c2,true_and,false_and,if_false]at this ⊢;split<;>split at this<;>simp_all<;>lia
       .symm;simp[g,An,c1];apply ak;simp[g,Cw,c2];refine⟨a,_,_,_,_,_,rfl,⟨rfl,rfl,rfl,E⟩,rfl,f,j,by lia,λP=>?_⟩;have:=hd P;simp only[cR,KP,Av,zY,c1,c2,false_and,if_false]at this ⊢;lia
 . rintro _⟨a,kvs,s4,s5,s6,s7,rfl,_,hr,hi,j,G,hd⟩;have N:a=[]:=by cases a with|nil=>rfl|cons _ _=>cases hr
   subst N;rw[X _ rfl];symm;simp;exact q kvs j (by simpa using G) λP=>by have:=hd P;simp at this;exact this
inductive F5(a0 a1 a2 a3 a4:Sl)(ρ:List Sl):Prop where|mk(s:Sl)(q0:ρ=[a0,a1,a2,a3,a4,s])(q1:fr s=ck)
theorem yV{kvs:List (Int×Int)}:blt .keys [.dD (.k kvs)]=aD (.val (.tup ((kvs.map (·.1)).map D.int))):=by show aD _=aD _;simp
theorem fsm{P:Int->Bool}{kvs:List (Int×Int)}:∀l:List Int,∃ns:List Int,(l.map D.int).filterMap (λd=>if P (gB d)=ck then aD (D.int (gv kvs (gB d)))else b_)=ns.map D.int/\ns.sum=sm (λk=>if P k=ck then gv kvs k else 0) l
 |[]=>⟨[],rfl,rfl⟩|k::l=>by
   obtain⟨ns,h1,a⟩:=fsm (P:=P) (kvs:=kvs) l;by_cases h:P k=ck;.exact⟨gv kvs k::ns,by simp[h];simpa using h1,by simp[h,a]⟩
   .exact⟨ns,by simp[h];simpa using h1,by simp[h,a]⟩
noncomputable def gK(P:Int->Bool)(kvs:List (Int×Int))(d:D):Option D:=if P (gB d)=ck then aD (D.int (gv kvs (gB d)))else b_
theorem fH{pl:List Tr}{s1:Sl}(hs:LS s1 (pl.map Tr.d))(g:∀x∈pl,xx ws x)(a:∀v∈ws,v.s≠v.t)(j:pl.length<=60)(q:Q (.val (.int (stP ws pl p (iC t)))) [.val a_ (cB m ws),s1,.val a_ (.int p),.val a_ (.int t)]):(run Γ w (n+3) 9 [.val a_ (cB m ws),s1,.val a_ (.int p),.val a_ (.int t)]).sat Q:=by
 refine aQ (d:=f9) rfl rfl (by decide) ?_;refine jT (λρ=>∃kvs:List (Int×Int),ρ=[.val a_ (cB m ws),s1,.val a_ (.int p),.val a_ (.int t),.val a_ (.dD (.k kvs))]/\(kvs.map (·.1)).Nodup/\kvs.length<=pl.length/\∀P,uZ P kvs=stP ws pl p P) ?_ ?_
 . rcases hs with⟨b,rfl⟩|⟨b,rfl⟩;.simp[f9];refine fM (.inl ⟨_,rfl⟩) g a j λkvs h1 f e=>?_;simp;exact⟨h1,f,e⟩
   .simp[f9];refine fM (.inr ⟨_,rfl⟩) g a j λkvs h1 f e=>?_;simp;exact⟨h1,f,e⟩
 . rintro _⟨kvs,rfl,h1,f,e⟩;symm;simp[yV];refine⟨λ_=>?_,by show _<=16777216;lia⟩;refine pQ (F5 _ _ _ _ _) (gK (iC t) kvs) ⟨.aN,rfl,rfl⟩ ?_ ?_
   . rintro d hd _⟨s,rfl,hs⟩;obtain⟨⟨k,v⟩,o,rfl⟩:=ey.mp hd;have u:=qP (r:=kvs) (k:=k) (ey.mpr ⟨_,o,rfl⟩);by_cases c:k<=t;.simp[hs,c,u,gK,iC];exact⟨_,rfl,rfl⟩
     .simp[hs,c,gK,iC];exact⟨_,rfl,rfl⟩
   . rintro _⟨s,rfl,hs⟩;obtain⟨ns,l,A⟩:=fsm (P:=iC t) (kvs:=kvs) (kvs.map (·.1));rw[eC]at l;have C:kvs.filterMap (gK (iC t) kvs ∘ D.int ∘ λx=>x.1)=ns.map D.int:=by rw[<-ny];exact l
     simp[C];rw[A,<-oK h1,e];exact q
theorem lF{pl:List Tr}{s1:Sl}(hs:LS s1 (pl.map Tr.d))(e:∀x∈pl,xx ws x)(a:∀v∈ws,v.s≠v.t)(f:pl.length<=60)(q:Q (.val (.int (stP ws pl (m-1) (iC t)))) [.val a_ (cB m ws),s1,.val a_ (.int t)]):(run Γ w (n+4) 10 [.val a_ (cB m ws),s1,.val a_ (.int t)]).sat Q:=by
 refine aQ (d:=Zt) rfl rfl (by decide) ?_;symm;rcases hs with⟨b,rfl⟩|⟨b,rfl⟩;.simp[Zt];refine fH (.inl ⟨_,rfl⟩) e a f ?_;simpa using q
 .simp[Zt];refine fH (.inr ⟨_,rfl⟩) e a f ?_;simpa using q
inductive F4(a0 a1 a2 a3:Sl)(ρ:List Sl):Prop where|mk(s:Sl)(q0:ρ=[a0,a1,a2,a3,s])(q1:fr s=ck)
theorem qR{pl:List Tr}{s1:Sl}(hs:LS s1 (pl.map Tr.d))(g:∀x∈pl,xx ws x)(a:∀v∈ws,v.s≠v.t)(j:pl.length<=60)(q:Q (.val (.int (-stP ws pl 0 (p8 t)))) [.val a_ (cB m ws),s1,.val a_ (.int t)]):(run Γ w (n+3) 11 [.val a_ (cB m ws),s1,.val a_ (.int t)]).sat Q:=by
 refine aQ (d:=f11) rfl rfl (by decide) ?_;refine jT (λρ=>∃kvs:List (Int×Int),ρ=[.val a_ (cB m ws),s1,.val a_ (.int t),.val a_ (.dD (.k kvs))]/\(kvs.map (·.1)).Nodup/\kvs.length<=pl.length/\∀P,uZ P kvs=stP ws pl 0 P) ?_ ?_
 . rcases hs with⟨b,rfl⟩|⟨b,rfl⟩;.simp[f11];refine fM (.inl ⟨_,rfl⟩) g a j λkvs h1 f e=>?_;simp;exact⟨h1,f,e⟩
   .simp[f11];refine fM (.inr ⟨_,rfl⟩) g a j λkvs h1 f e=>?_;simp;exact⟨h1,f,e⟩
 . rintro _⟨kvs,rfl,h1,f,e⟩;symm;simp[yV];refine⟨λ_=>?_,by show _<=16777216;lia⟩;refine pQ (F4 _ _ _ _) (gK (p8 t) kvs) ⟨.aN,rfl,rfl⟩ ?_ ?_
   . rintro d hd _⟨s,rfl,hs⟩;obtain⟨⟨k,v⟩,o,rfl⟩:=ey.mp hd;have u:=qP (r:=kvs) (k:=k) (ey.mpr ⟨_,o,rfl⟩);by_cases c:t<=k;.simp[hs,c,u,gK,p8];exact⟨_,rfl,rfl⟩
     .simp[hs,c,gK,p8];exact⟨_,rfl,rfl⟩
   . rintro _⟨s,rfl,hs⟩;obtain⟨ns,l,A⟩:=fsm (P:=p8 t) (kvs:=kvs) (kvs.map (·.1));rw[eC]at l;have C:kvs.filterMap (gK (p8 t) kvs ∘ D.int ∘ λx=>x.1)=ns.map D.int:=by rw[<-ny];exact l
     simp[C];rw[A,<-oK h1,e];exact q
noncomputable def pre(kvs:List (Int×Int)):Int->List Int->Bool|_,[]=>ck|st,k::r=>if st+gv kvs k<0 then a_ else pre kvs (st+gv kvs k) r
theorem Dk{kvs:List (Int×Int)}:∀{ks:List Int}{st:Int},ks.Pairwise (·<·)->(pre kvs st ks=ck↔∀t,(∃k∈ks,k<=t)->0<=st+sm (λk=>if iC t k=ck then gv kvs k else 0) ks)
 |[],st,_=>by simp[pre]|k::r,st,h=>by
   rw[mo]at h;have f:=Dk (kvs:=kvs) (ks:=r) (st:=st+gv kvs k) h.2;have z:∀t,¬(∃j∈r,j<=t)->sm (λk=>if iC t k=ck then gv kvs k else 0) r=0:=λt g=>qK λj hj=>by rw[if_neg];simp only[iC,decide_eq_true_eq];intro a;exact g ⟨j,hj,a⟩
   rw[pre];by_cases c:st+gv kvs k<0;.rw[if_pos c];refine⟨λq=>(by cases q),λq=>?_⟩;have:=q k ⟨k,by simp,gN _⟩;rw[cR,z k (λ⟨j,hj,a⟩=>by have:=h.1 j hj;lia)]at this;simp[iC]at this;lia
   . rw[if_neg c,f];constructor
     . intro q t⟨j,hj,a⟩;have b:k<=t:=by
        rcases eM.mp hj with rfl|hj;.exact a
        .have:=h.1 j hj;lia
       have e:(if iC t k=ck then gv kvs k else 0)=gv kvs k:=by simp[iC,b]
       rw[cR,e];by_cases hr:∃j∈r,j<=t;.have:=q t hr;lia
       .rw[z t hr];lia
     . intro q t⟨j,hj,a⟩;have b:k<=t:=by have:=h.1 j hj;lia
       have:=q t ⟨k,by simp,b⟩;have e:(if iC t k=ck then gv kvs k else 0)=gv kvs k:=by simp[iC,b]
       rw[cR,e]at this;lia
theorem Ot{kvs:List (Int×Int)}{ks:List Int}(f:(kvs.map (·.1)).Nodup)(g:ks.Perm (kvs.map (·.1)))(hs:ks.Pairwise (·<=·)):pre kvs 0 ks=ck↔∀t,0<=uZ (iC t) kvs:=by
 have a:ks.Pairwise (·<·):=by have hd:ks.Pairwise (·≠·):=g.nodup_iff.mpr f;exact(hs.and hd).imp λ⟨h1,o⟩=>by lia
 rw[Dk a];have e:∀t,uZ (iC t) kvs=sm (λk=>if iC t k=ck then gv kvs k else 0) ks:=λt=>by rw[oK f];exact(wF g).symm
 constructor
 . intro q t;by_cases c:∃k∈ks,k<=t;.have:=q t c;rw[e];lia
   .rw[e,qK λj l=>by rw[if_neg];simp only[iC,decide_eq_true_eq];intro b;exact c ⟨j,l,b⟩];exact gN _
 .intro q t _;have:=q t;rw[e]at this;lia
theorem JR:∃ks:List Int,lu (ns.map D.int)=ks.map D.int/\ks.Perm ns/\ks.Pairwise (·<=·):=by
 have f:=jF (ns.map D.int);have hs:=jW (ns.map D.int);have e:lu (ns.map D.int)=((lu (ns.map D.int)).map gB).map D.int:=by rw[eC];refine((fe λd hd=>?_).trans (sB _)).symm;obtain⟨i,_,rfl⟩:=ey.mp (f.mem_iff.mp hd);rfl
 refine⟨_,e,?_,?_⟩;.have:=f.map gB;rw[eC]at this;exact this.trans (.of_eq ((fe λd _=>rfl).trans (sB _)))
 .rw[k_];refine hs.imp_of_mem λ{a b}g l h=>?_;obtain⟨i,_,rfl⟩:=ey.mp (f.mem_iff.mp g);obtain⟨j,_,rfl⟩:=ey.mp (f.mem_iff.mp l);simp[lU,bT,bH]at h;show i<=j;lia
theorem Gm{kvs:List (Int×Int)}(h:kvs.length<61):blt .zH [.dD (.k kvs)]=aD (.own (lu ((kvs.map (·.1)).map D.int))):=by
 have e:(kvs.map λp=>D.int p.1)=(kvs.map (·.1)).map D.int:=by simp
 show(if _ then _ else _)=_;rw[if_pos,e];rw[e];have h:=(show kvs.length<=63 by lia);simp[sortable,h,dX]
inductive JNs(kvs:List (Int×Int))(b:Bool)(a0 a1 a2 a3:Sl)(r:List D)(ρ:List Sl):Prop where|mk(ks:List Int)(st:Int)(s:Sl)(q0:ρ=[a0,a1,a2,a3,.val a_ (.int st),s])(q1:fr s=ck)(q2:r=ks.map D.int)(q3:(∀k∈ks,k∈kvs.map (·.1)))(q4:pre kvs st ks=b)
theorem uE{pl:List Tr}{s1:Sl}(C:LS s1 (pl.map Tr.d))(G:∀x∈pl,xx ws x)(l:∀v∈ws,v.s≠v.t)(U:pl.length<61)(q:∀r:Bool,(r=ck↔∀t,0<=stP ws pl p (iC t))->Q (.val (.bl r)) [.val a_ (cB m ws),s1,.val a_ (.int p)]):(run Γ w (n+3) 5 [.val a_ (cB m ws),s1,.val a_ (.int p)]).sat Q:=by
 refine aQ (d:=f5) rfl rfl (by decide) ?_;refine jT (λρ=>∃kvs:List (Int×Int),ρ=[.val a_ (cB m ws),s1,.val a_ (.int p),.val a_ (.dD (.k kvs)),.aN,.aN]/\(kvs.map (·.1)).Nodup/\kvs.length<=pl.length/\∀P,uZ P kvs=stP ws pl p P) ?_ ?_
 . rcases C with⟨b,rfl⟩|⟨b,rfl⟩;.simp[f5];refine fM (.inl ⟨_,rfl⟩) G l (by lia) λkvs h1 u g=>?_;simp;exact⟨h1,u,g⟩
   .simp[f5];refine fM (.inr ⟨_,rfl⟩) G l (by lia) λkvs h1 u g=>?_;simp;exact⟨h1,u,g⟩
 rintro _⟨kvs,rfl,h1,u,g⟩;symm;simp;apply ak;obtain⟨ks,e,H,hs⟩:=JR (ns:=kvs.map (·.1));have A:=q _ ((Ot h1 H hs).trans ⟨λz t=>by rw[<-g];exact z t,λz t=>by rw[g];exact z t⟩);simp[Gm (show kvs.length<61 by lia)];rw[eC]at e;have J:lu (kvs.map (D.int ∘ λx=>x.1))=ks.map D.int:=e;simp[J];refine dJ (JNs kvs (pre kvs 0 ks) _ _ _ _) ?_ ?_ ⟨ks,0,.aN,rfl,rfl,rfl,λk o=>H.mem_iff.mp o,rfl⟩;.rintro d r _⟨a,st,s,rfl,I,hr,o,f⟩;cases a with|nil=>cases hr|cons k a=>
     obtain⟨rfl,rfl⟩:d=.int k/\r=a.map D.int:=by simpa using hr
     have N:=qP (r:=kvs) (o k (by simp));simp[I];apply ak;simp[N];apply ak;rw[pre]at f;by_cases c:st+gv kvs k<0;.rw[if_pos c]at f;simp[c];apply ak;simp;rw[<-f]at A;exact A
     .rw[if_neg c]at f;simp[c];exact⟨a,_,_,rfl,rfl,rfl,λj O=>o j (by simp[O]),f⟩
 . rintro _⟨a,st,s,rfl,I,hr,o,f⟩;have E:a=[]:=by cases a with|nil=>rfl|cons _ _=>cases hr
   subst E;rw[pre]at f;symm;simp;rw[<-f]at A;exact A
theorem fZ{bs:List Bool}:(bs.map D.bl).mapM Cu=aD bs:=by induction bs with|nil=>rfl|cons b bs a=>simp[a]
noncomputable def fK:List Tr->Bool|a::b::r=>bH [a.h,a.w] [b.h,b.w]&&fK (b::r)|_=>ck
noncomputable def Tr.k(x:Tr):D:=.tup [.int x.h,.int x.w]
theorem u6:∀pl:List Tr,(((pl.map Tr.k).zip (pl.map Tr.k).tail).map λp=>bH (bT p.1) (bT p.2)).all id=fK pl|[]=>rfl|[_]=>rfl|a::b::r=>by have e:=u6 (b::r);simp only[eK,List.tail_cons,List.zip_cons_cons,oe,fK]at e ⊢;rw[e];rfl
noncomputable def Vg:D->D|.tup [a,b]=>.bl (bH (bT a) (bT b))|d=>d
@[simp]theorem adC{a b:D}:Vg (.tup [a,b])=.bl (bH (bT a) (bT b)):=rfl
inductive F1(a0:Sl)(ρ:List Sl):Prop where|mk(s:Sl)(t:Sl)(q0:ρ=[a0,s,t])(q1:fr s=ck)(q2:fr t=ck)
theorem aeg{a b:Tr}:cm .lt a.k b.k=aD (bH (bT a.k) (bT b.k)):=rfl
theorem Cy{b:Bool}{pl:List Tr}(u:pl.length<=60)(q:Q (.val (.bl (fK pl))) [.val b (.lst (pl.map Tr.k))]):(run Γ w (n+1) 0 [.own b (pl.map Tr.k)]).sat Q:=by
 refine aQ (d:=f0) rfl rfl (by decide) ?_;symm;have l:cut (pl.map Tr.k) (aD 1) b_=(pl.map Tr.k).tail:=by cases pl with|nil=>rfl|cons a r=>simp[cut,dY];exact jI (by simp)
 simp[f0,Gn,part,vD,l];refine⟨λ_=>?_,by show _<=16777217;lia⟩;refine cD (F1 _) Vg ⟨.aN,.aN,rfl,rfl,rfl⟩ ?_ ?_;.rintro d hd _⟨s,t,rfl,hs,g⟩;obtain⟨⟨x,y⟩,f,rfl⟩:=ey.mp hd;have j:=j_ f;obtain⟨a,_,rfl⟩:=ey.mp j.1;obtain⟨c,_,rfl⟩:=ey.mp (List.mem_of_mem_tail j.2);simp[hs,g,aeg];exact⟨_,_,rfl,rfl,rfl⟩
 . rintro _⟨s,t,rfl,hs,g⟩;have e:=u6 pl;have o:(((pl.map Tr.k).zip (pl.map Tr.k).tail).map λp=>D.tup [p.1,p.2]).map Vg=((((pl.map Tr.k).zip (pl.map Tr.k).tail).map λp=>bH (bT p.1) (bT p.2))).map D.bl:=by rw[eC,eC];rfl
   rw[o];simp only[jy,iG,fZ,fh,bz,aV,iR,e];simp;exact q
noncomputable def Bo(x:Tr):Bool:=decide (0<=x.h)&&decide (1<=x.l)
noncomputable def okD(d:D):D:=.bl (Bo (yx d))
noncomputable def Vl(d:D):D:=(yx d).k
inductive F3(a0:Sl)(ρ:List Sl):Prop where|mk(s:Sl)(t:Sl)(u:Sl)(q0:ρ=[a0,s,t,u])(q1:fr s=ck)(q2:fr t=ck)(q3:fr u=ck)
theorem rY{s0:Sl}{pl:List Tr}(g:LS s0 (pl.map Tr.d))(o:pl.length<=60)(q:Q (.val (.bl (pl.all Bo&&fK pl))) [s0]):(run Γ w (n+2) 2 [s0]).sat Q:=by
 have a:pl.length<=lim:=by show _<=16777216;lia
 refine aQ (d:=f2) rfl rfl (by decide) ?_;symm;obtain⟨G,j,l⟩:=jK (ρ:=[s0]) (k:=0) (e:=ev (run Γ w (n+1)) (.var 0)) rfl g;simp[f2,-dW,-dB,j,a];refine cD (F3 _) okD ⟨.aN,.aN,.aN,rfl,rfl,rfl,rfl⟩ ?_ ?_
 . rintro d hd _⟨s,t,u,rfl,hs,b,f⟩;obtain⟨x,_,rfl⟩:=ey.mp hd;by_cases c:0<=x.h;.simp[hs,b,f,Tr.d,c,okD,Bo];first|exact⟨_,_,_,rfl,rfl,rfl,rfl⟩|exact⟨rfl,_,_,_,rfl,rfl,rfl,rfl⟩
   .simp[hs,b,f,Tr.d,c,okD,Bo];first|exact⟨_,_,_,rfl,rfl,rfl,rfl⟩|exact⟨rfl,_,_,_,rfl,rfl,rfl,rfl⟩
 rintro _⟨s,t,u,rfl,hs,b,f⟩;have A:(pl.map Tr.d).map okD=(pl.map Bo).map D.bl:=by rw[eC,eC];rfl
 have C:(pl.map Bo).all id=pl.all Bo:=by rw[lm];rfl
 rw[A];simp only[iO,lc];rw[l _ rfl];simp only[jy,iG,fZ,fh,bz,aV,iR,C];simp only[Ba,Ck,bz,lw];cases hc:pl.all Bo with|false=>rw[hc]at q;simp;apply ak;simp;simpa using q|true=>
   rw[hc]at q;simp;apply ak;simp[-dW,-dB,j,a];refine cD (F3 _) Vl ⟨.aN,.aN,.aN,rfl,rfl,rfl,rfl⟩ ?_ ?_;.rintro d hd _⟨s,t,u,rfl,hs,b,f⟩;obtain⟨x,_,rfl⟩:=ey.mp hd;simp[hs,b,f,Tr.d,Vl];first|exact⟨_,_,_,rfl,rfl,rfl,rfl⟩|exact⟨rfl,_,_,_,rfl,rfl,rfl,rfl⟩
   rintro _⟨s,t,u,rfl,hs,b,f⟩;have E:(pl.map Tr.d).map Vl=pl.map Tr.k:=by rw[eC];rfl
   rw[E];simp only[iO,lc];rw[l _ rfl];simp;refine Cy o ?_;simpa using q
noncomputable def Mp(ws:List Wy)(last:Int)(x:Tr):Prop:=xx ws x/\x.l<=(wy ws x.w).r/\fu ws x<=last
noncomputable def qt(ws:List Wy)(last:Int)(x:Tr):Bool:=@decide (Mp ws last x) (fi _)
theorem rM{x:Tr}:qt ws last x=ck↔Mp ws last x:=by unfold qt;simp
theorem vB{x:Tr}(h:¬ Mp ws last x):qt ws last x=a_:=by unfold qt;simp[h]
theorem Li{x:Tr}(q:Q (.val (.bl (qt ws last x))) [.val a_ (cB m ws),.val a_ (.int last),.val a_ x.d]):(run Γ w (n+2) 3 [.val a_ (cB m ws),.val a_ (.int last),.val a_ x.d]).sat Q:=by
 refine aQ (d:=f3) rfl rfl (by decide) ?_;symm;by_cases c0:0<=x.w
 . by_cases c1:x.w<(ws.length:Int)
   . obtain⟨a,b⟩:=sJ c0 c1;by_cases c2:x.l<=(wy ws x.w).r
     . simp[f3,aad,Ha,aaf,c0,c1,a,VG,c2];refine ql c0 c1 ?_;simp;have:qt ws last x=decide (x.h+(wy ws x.w).h<=last):=by rw[gp,rM,decide_eq_true_eq];exact⟨λh=>h.2.2,λh=>⟨⟨c0,c1⟩,c2,h⟩⟩
       rw[this]at q;exact q
     .rw[vB λh=>c2 h.2.1]at q;simp[f3,Ha,aaf,c0,c1,a,VG,c2];exact q
   .rw[vB λh=>c1 h.1.2]at q;simp[f3,Ha,c0,c1];exact q
 .rw[vB λh=>c0 h.1.1]at q;simp[f3,Ha,c0];exact q
inductive F3b(a0 a1 a2:Sl)(ρ:List Sl):Prop where|mk(s:Sl)(q0:ρ=[a0,a1,a2,s])(q1:fr s=ck)
structure gk(m:Int)(ws:List Wy)(last:Int)(pl:List Tr):Prop where
 ok:pl.all Bo=ck
 QW:fK pl=ck
 fit:∀x∈pl,Mp ws last x
 st:∀p,1<=p->p<m->∀t,0<=stP ws pl p (iC t)
noncomputable def Ux(ws:List Wy)(last:Int)(d:D):D:=.bl (qt ws last (yx d))
theorem Vh{x:Tr}:Ux ws last x.d=.bl (qt ws last x):=rfl
noncomputable def jP(ws:List Wy)(pl:List Tr)(p:Int):Bool:=@decide (∀t,0<=stP ws pl p (iC t)) (fi _)
noncomputable def Cp(ws:List Wy)(pl:List Tr)(d:D):D:=.bl (jP ws pl (gB d))
theorem run_eq{x:Res R}{r:R}(h:x.sat λa b=>a=r/\b=ρ):x=.ok r ρ:=by obtain⟨a,b,e,rfl,rfl⟩:=sat_iff.mp h;exact e
theorem Gp{a s2:Sl}{pl:List Tr}(hs:LS s2 (pl.map Tr.d))(e:pl.length<=60):ev (run Γ w (n+2)) (.call 2 [.var 2]) [a0,a,s2]=.ok (.val (.bl (pl.all Bo&&fK pl))) [a0,a,s2]:=by
 refine run_eq ?_;rcases hs with⟨b,rfl⟩|⟨b,rfl⟩;.simp;refine rY (.inl ⟨_,rfl⟩) e ?_;simp
 .simp;refine rY (.inr ⟨_,rfl⟩) e ?_;simp
theorem J3{f s2:Sl}{pl:List Tr}(hs:LS s2 (pl.map Tr.d))(g:∀x∈pl,xx ws x)(a:∀v∈ws,v.s≠v.t)(j:pl.length<61):ev (run Γ w (n+3)) (.call 5 [.var 0,.var 2,.var 3]) [.val a_ (cB m ws),f,s2,.val a_ (.int p)]=.ok (.val (.bl (jP ws pl p))) [.val a_ (cB m ws),f,s2,.val a_ (.int p)]:=by
 have e:∀r:Bool,(r=ck↔∀t,0<=stP ws pl p (iC t))->r=jP ws pl p:=λr hr=>by rw[gp,hr];unfold jP;simp
 refine run_eq ?_;rcases hs with⟨b,rfl⟩|⟨b,rfl⟩;.simp;refine uE (.inl ⟨_,rfl⟩) g a j λr hr=>?_;simp[e r hr]
 .simp;refine uE (.inr ⟨_,rfl⟩) g a j λr hr=>?_;simp[e r hr]
theorem eU{s2:Sl}{pl:List Tr}(a:LS s2 (pl.map Tr.d))(N:0<=m/\m<=60)(g:∀v∈ws,v.s≠v.t)(u:pl.length<61)(q:∀r:Bool,(r=ck↔gk m ws last pl)->Q (.val (.bl r)) [.val a_ (cB m ws),.val a_ (.int last),s2]):(run Γ w (n+4) 6 [.val a_ (cB m ws),.val a_ (.int last),s2]).sat Q:=by
 have f:pl.length<=lim:=by show _<=16777216;lia
 refine aQ (d:=f6) rfl rfl (by decide) ?_;symm;obtain⟨O,A,C⟩:=jK (ρ:=[.val a_ (cB m ws),.val a_ (.int last),s2]) (k:=2) (e:=ev (run Γ w (n+3)) (.var 2)) rfl a;simp[f6,-fW,Gp a (show pl.length<=60 by lia),-dW,-dB];refine⟨λc1=>?_,λc1 c2=>?_⟩
 . symm;simp;refine q a_ ⟨λh=>(by cases h),λh=>?_⟩;rcases c1 with⟨x,b,hz⟩|hz;.have:=eL.mp h.ok x b;rw[hz]at this;cases this
   .have:=h.QW;rw[hz]at this;cases this
 simp[A,f,-dW,-dB];refine cD (F3b _ _ _) (Ux ws last) ⟨.aN,rfl,rfl⟩ ?_ ?_;.rintro d hd _⟨s,rfl,hs⟩;obtain⟨x,_,rfl⟩:=ey.mp hd;simp[hs];refine Li ?_;simp[Vh];exact⟨_,rfl,rfl⟩
 rintro _⟨s,rfl,hs⟩;have E:(pl.map Tr.d).map (Ux ws last)=(pl.map (qt ws last)).map D.bl:=by rw[eC,eC];rfl
 have G:(pl.map (qt ws last)).all id=pl.all (qt ws last):=by rw[lm];rfl
 rw[E];simp only[iO,lc];rw[C _ rfl];simp only[jy,iG,fZ,fh,bz,aV,iR,G];simp only[Ba,Ck,bz,lw,nq];cases hc:pl.all (qt ws last)with|false=>simp;apply ak;simp;refine q a_ ⟨λh=>(by cases h),λh=>?_⟩;rw[eL.mpr λx b=>rM.mpr (h.fit x b)]at hc;cases hc|true=>
   have l:∀x∈pl,Mp ws last x:=λx b=>rM.mp (eL.mp hc x b);simp;apply ak;simp[show m<=1000000000 by lia,show-1000000000<=m by lia];refine⟨λ_=>?_,by lia⟩;refine cD (F3b _ _ _) (Cp ws pl) ⟨.aN,rfl,rfl⟩ ?_ ?_;.rintro d hd _⟨s,rfl,hs⟩;obtain⟨k,_,rfl⟩:=ey.mp hd;simp[hs,-fW,J3 a (λx b=>(l x b).1) g u,Cp];exact⟨_,rfl,rfl⟩
   rintro _⟨s,rfl,hs⟩;generalize j:(ej (m.toNat-1)).map (λ(k:Nat)=>(1+(k:Int)))=L;have H:((ej (m.toNat-1)).map λ(k:Nat)=>D.int (1+(k:Int))).map (Cp ws pl)=(L.map (jP ws pl)).map D.bl:=by rw[<-j,eC,eC,eC];rfl
   have I:(L.map (jP ws pl)).all id=L.all (jP ws pl):=by rw[lm];rfl
   rw[H];simp only[jy,iG,fZ,fh,bz,aV,iR,I];simp;refine q _ ?_;rw[eL];constructor
   . intro h;refine⟨?_,?_,l,λp h1 U=>?_⟩;.rw[eL];exact c1
     .exact c2
     . have:p∈L:=by rw[<-j,ey];exact⟨(p-1).toNat,by rw[kr];lia,by lia⟩
       have:=h p this;unfold jP at this;simpa using this
   .intro h p o;rw[<-j,ey]at o;obtain⟨k,J,rfl⟩:=o;rw[kr]at J;unfold jP;simp only[decide_eq_true_eq];exact h.st _ (by lia) (by lia)
noncomputable def Rv(a b:Tr):Prop:=a.h<b.h\/a.h=b.h/\a.w<b.w
theorem N7{a b:Tr}:bH [a.h,a.w] [b.h,b.w]=ck↔Rv a b:=by simp[bH,Rv]
theorem jJ:∀{pl:List Tr},fK pl=ck↔pl.Pairwise Rv
 |[]=>by simp[fK]|[a]=>by simp[fK]|a::b::r=>by
   have f:=jJ (pl:=b::r);simp only[fK,gi,N7,f];rw[mo (a:=a)];refine⟨λ⟨h1,e⟩=>⟨λc hc=>?_,e⟩,λ⟨h1,e⟩=>⟨h1 b (by simp),e⟩⟩;rcases eM.mp hc with rfl|hc;.exact h1
   .have:=(mo.mp e).1 c hc;unfold Rv at*;lia
noncomputable def neT(a b:Tr):Prop:=¬(a.h=b.h/\a.w=b.w)
theorem Dh{pl:List Tr}:∃ks:List Tr,lu (pl.map Tr.d)=ks.map Tr.d/\ks.Perm pl/\(pl.Pairwise neT->fK ks=ck):=by
 have q:=jF (pl.map Tr.d);have hs:=jW (pl.map Tr.d);let g:D->Tr:=λd=>match d with|.tup [.int h,.int w,.int l]=>⟨h,w,l⟩|_=>⟨0,0,0⟩;have A:∀x:Tr,g x.d=x:=λx=>rfl;have e:lu (pl.map Tr.d)=((lu (pl.map Tr.d)).map g).map Tr.d:=by rw[eC];refine((fe λd hd=>?_).trans (sB _)).symm;obtain⟨i,_,rfl⟩:=ey.mp (q.mem_iff.mp hd);rfl
 have f:((lu (pl.map Tr.d)).map g).Perm pl:=by have:=q.map g;rw[eC]at this;exact this.trans (.of_eq ((fe λd _=>rfl).trans (sB _)))
 refine⟨_,e,f,λu=>?_⟩;rw[jJ];have j:((lu (pl.map Tr.d)).map g).Pairwise neT:=(f.pairwise_iff (λ{a b}h=>by unfold neT at*;lia)).mpr u;have o:((lu (pl.map Tr.d)).map g).Pairwise λa b=>lU a.d b.d=ck:=by rw[e,k_]at hs;exact hs
 refine(o.and j).imp λ{a b}⟨h1,h2⟩=>?_;simp[lU,bT,Tr.d,gB,bH]at h1;unfold neT at h2;unfold Rv;lia
theorem nR{pl:List Tr}(h:pl.length<61):sortable (pl.map Tr.d)=ck:=by have h:=(show pl.length<=63 by lia);simp[sortable,h,rW,dX,Tr.d]
theorem Qz{k:Nat}{src e:P}{one:Bool}:ex c n (.Mx x src k is one e) ρ=(srcOf (isVar src) (ev c src) ρ).bind λds a=>if ds.length<=lim then(jg is one (ev c e) ds [] (a++dV k .aN)).bind λf b=>(lift (put (bG ρ (isVar src) (b.take a.length)) x (.hold f)) ρ).bind λg _=>.ok .next g else .stuck:=(rfl)
theorem wO{src:P}{one:Bool}{body:List S}:ex c n (.HJ src is one body) ρ=(ev c src ρ).bind λr a=>(lift (items r.d) a).bind λds a=>ju is one (jC c n body) ds a:=(rfl)
theorem U9:ex c n (.fG x) ρ=match ρ[x]?with|some (.hold a)=>.ok .next (ρ.set x (.val a_ (.lst (a.map D.lst))))|_=>.stuck:=(rfl)
theorem Ds{i j e:P}{sub:Bool}:ex c n (.zJ x i j sub e) ρ=(cT (isVar i) (ev c i) ρ).bind λk ρ=>(lift (lA ρ x k) ρ).bind λ_ ρ=>(cT (isVar j) (ev c j) ρ).bind λl ρ=>(lift ((lA ρ x k).bind λrow=>(gD l).bind λl=>(at' row l).bind gD) ρ).bind λu ρ=>(cT (isVar e) (ev c e) ρ).bind λw ρ=>(cT (isVar i) (ev c i) ρ).bind λk ρ=>(lift (lA ρ x k) ρ).bind λ_ ρ=>(cT (isVar j) (ev c j) ρ).bind λl ρ=>Ho ρ x ((iU ρ x).bind λa=>(gD w).bind λv=>(gD k).bind λk=>(gD l).bind λl=>jY a k (setAt l (.int (if sub then u-v else u+v)))):=(rfl)
theorem Nk{y:Nat}{j k l:P}:ex c n (.My x y j k l) ρ=(lift (iU ρ x) ρ).bind λa ρ=>iT x y (cT (isVar j) (ev c j)) (cT (isVar k) (ev c k)) (cT (isVar l) (ev c l)) a.length 0 ρ:=(rfl)
@[simp]theorem aci{a:Sl}{l:List Sl}{x:Nat}:iU (a::l) x=match(a::l)[x]?with|some (.hold b)=>aD b|_=>b_:=rfl
@[simp]theorem XD{ρ:List Sl}{x:Nat}{a:List (List D)}:Ho ρ x (aD a)=.ok .next (ρ.set x (.hold a)):=rfl
@[simp]theorem adX{a:Sl}{l:List Sl}{x:Nat}{k:Int}:lA (a::l) x (.int k)=match(a::l)[x]?with|some (.hold b)=>rowAt b k|_=>b_:=by unfold lA iU;cases h:(a::l)[x]?with|none=>rfl|some s=>cases s<;>rfl
theorem rT{is:List Nat}{one:Bool}{f:Ev}(J:List Sl->Prop)(g:D->List D){Q:List (List D)->List Sl->Prop}:∀{ds:List D}{a:List (List D)}{ρ:List Sl},J ρ->(∀d,d∈ds->∀ρ,J ρ->∃b,cF ρ is one d=aD b/\(f b).sat λr l=>r=.own (g d)/\J l)->(∀ρ,J ρ->Q (a++ds.map g) ρ)->(jg is one f ds a ρ).sat Q|[],a,ρ,j,h,k=>by rw[Ig];simpa using k ρ j|d::r,a,ρ,j,h,k=>by obtain⟨b,e,h1⟩:=h d (by simp) ρ j;rw[Ky,e];show((f b).bind _).sat Q;rw[aV];refine h1.imp λx l⟨u,j3⟩=>?_;subst u;exact rT J g j3 (λd' o=>h d' (by simp[o])) λq A=>by simpa using k q A
theorem sr{x y N:Nat}{f g l:List Sl->Res D}(J:Nat->List Sl->Prop){Q:Fl->List Sl->Prop}(h:∀r ρ,r<N->J r ρ->∃a,put ρ y .aN=aD a/\(rowOne x r f g l a).sat λ_ b=>J (r+1) b)(k:∀ρ,J N ρ->Q .next ρ):∀(m r:Nat)(ρ:List Sl),r+m=N->J r ρ->(iT x y f g l m r ρ).sat Q|0,r,ρ,e,j=>by rw[iT];exact k ρ (by rw[<-e];exact j)|m+1,r,ρ,e,j=>by obtain⟨a,o,h1⟩:=h r ρ (by lia) j;rw[iT,o];show((rowOne x r f g l a).bind _).sat Q;rw[aV];exact h1.imp λ_ b q=>sr J h k m (r+1) b (by lia) q
noncomputable def cg(L:Nat)(f:Int->Int):List D:=(ej L).map λ(t:Nat)=>D.int (f (t:Int))
noncomputable def mat(M L:Nat)(F:Int->Int->Int):List (List D):=(ej M).map λ(p:Nat)=>cg L (F (p:Int))
noncomputable def up(F:Int->Int->Int)(p t v:Int):Int->Int->Int:=λa b=>if a=p/\b=t then v else F a b
@[simp]theorem sV{L:Nat}{f:Int->Int}:(cg L f).length=L:=by simp[cg]
@[simp]theorem Dr{M L:Nat}{F:Int->Int->Int}:(mat M L F).length=M:=by simp[mat]
theorem wu(h0:0<=i)(h1:i<(n:Int)):kZ n i=aD i.toNat:=by unfold kZ;rw[if_pos h0,if_pos h1]
theorem oR{f:Int->Int}(h0:0<=t)(h1:t<(L:Int)):at' (cg L f) t=aD (.int (f t)):=by
 unfold at';rw[sV,wu h0 h1];have:t.toNat<L:=by lia
 simp[cg,this,ml h0]
theorem wG{r:Nat}(h:r<M):(mat M L F)[r]?=aD (cg L (F (r:Int))):=by simp[mat,h]
theorem Ey(h0:0<=p)(h1:p<(M:Int)):rowAt (mat M L F) p=aD (cg L (F p)):=by unfold rowAt;rw[Dr,wu h0 h1];show(mat M L F)[p.toNat]?=_;rw[wG (by lia),ml h0]
theorem zu{f:Int->Int}(h0:0<=t)(h1:t<(L:Int)):setAt t (.int v) (cg L f)=aD (cg L λb=>if b=t then v else f b):=by
 unfold setAt;rw[sV,wu h0 h1];show aD _=aD _;congr 1;refine kc (by simp) λi a g=>?_;simp at a;rw[List.getElem_set];by_cases e:t.toNat=i
 . rw[if_pos e];have:(i:Int)=t:=by lia
   simp[cg,this]
 . rw[if_neg e];have:¬(i:Int)=t:=by lia
   simp[cg,this]
theorem Eb{r:Nat}(hr:r<M)(a:(r:Int)=p):(mat M L F).set r (cg L λb=>if b=t then v else F p b)=mat M L (up F p t v):=by
 refine kc (by simp) λi f g=>?_;simp at f;rw[List.getElem_set];by_cases e:r=i;.rw[if_pos e];subst e;simp[mat,a];congr 1;funext b;simp[up]
 . rw[if_neg e];have:¬(i:Int)=p:=by lia
   simp[mat];congr 1;funext b;simp[up,this]
theorem Du(h0:0<=p)(h1:p<(M:Int))(a:0<=t)(b:t<(L:Int)):jY (mat M L F) p (setAt t (.int v))=aD (mat M L (up F p t v)):=by unfold jY;rw[Dr,wu h0 h1];show((mat M L F)[p.toNat]?).bind _=_;rw[wG (by lia),ml h0];show((setAt t (.int v) (cg L (F p))).map _)=_;rw[zu a b];show aD ((mat M L F).set p.toNat _)=_;rw[Eb (by lia) (by lia)]
theorem aaN{k:Int}(h:(L:Int)=k):(dV k.toNat [D.int 0]).flatten=cg L λ_=>0:=by
 have:k.toNat=L:=by lia
 rw[this];unfold cg;induction L generalizing k with|zero=>rfl|succ L a=>rw[List.range_succ,kM,List.replicate_succ',List.flatten_append];rw[a (k:=(L:Int)) rfl (by lia)];rfl
theorem Gq{a:List D}(b:a.length=M){f:Int->Int}:a.map (λ_=>cg L f)=mat M L λ_=>f:=by subst b;refine kc (by simp) λi e g=>by simp[mat]
noncomputable def bd(l:List S)(k:Nat):List S:=l.drop k
theorem El{l:List S}{k:Nat}{s:S}(h:l[k]?=aD s):bd l k=s::bd l (k+1):=by obtain⟨h1,a⟩:=gC h;unfold bd;rw[hR h1,a]
theorem aU{l:List S}{s:S}{k:Nat}{Q:Fl->List Sl->Prop}(h:l[k]?=aD s)(q:(ex c n s ρ).sat (sQ c n (bd l (k+1)) Q)):(jC c n (bd l k) ρ).sat Q:=by rw[El h];exact ak q
theorem xY{l:List S}{s:S}{k:Nat}{Q:Fl->List Sl->Prop}(h:l[k]?=aD s)(M:List Sl->Prop)(q:(ex c n s ρ).sat λb a=>b=.next/\M a)(e:∀a,M a->(jC c n (bd l (k+1)) a).sat Q):(jC c n (bd l k) ρ).sat Q:=by rw[El h];exact jT M q e
noncomputable def toW(v:aZ):Wy:=⟨v.s,v.t,0,v.h⟩
noncomputable def rd(vs:List aZ)(k:Int):aZ:=(vs[k.toNat]?).getD ⟨0,0,0⟩
theorem gQ{vs:List aZ}{k:Int}(h0:0<=k)(h1:k<(vs.length:Int)):at' (vs.map aZ.d) k=aD (rd vs k).d/\rd vs k∈vs:=by
 have a:k.toNat<vs.length:=by lia
 have:rd vs k=vs[k.toNat]:=by unfold rd;simp[a]
 rw[this];refine⟨?_,ic a⟩;rw[iw h0 (by simpa using h1)];simp[a]
theorem Th{v:aZ}:pG v.d (.int 0)=aD (.val (.int v.s)):=by simp[aZ.d]
theorem rd1{v:aZ}:pG v.d (.int 1)=aD (.val (.int v.t)):=by simp[aZ.d]
theorem Xa{v:aZ}:pG v.d (.int 2)=aD (.val (.int v.h)):=by simp[aZ.d]
structure eY(vs:List aZ)(T:Int)(x:Tr):Prop where
 h0:0<=x.h
 w0:0<=x.w
 w1:x.w<(vs.length:Int)o1:x.h+(rd vs x.w).h<=T
noncomputable def dl(vs:List aZ)(p t:Int)(x:Tr):Int:=(if(rd vs x.w).t=p/\x.h+(rd vs x.w).h=t then x.l else 0)-(if(rd vs x.w).s=p/\x.h=t then x.l else 0)
noncomputable def ji(vs:List aZ)(pl:List Tr)(p t:Int):Int:=sm (λx=>(if(rd vs x.w).t=p/\x.h+(rd vs x.w).h<=t then x.l else 0)-(if(rd vs x.w).s=p/\x.h<=t then x.l else 0)) pl
theorem Js{vs:List aZ}{pl:List Tr}:ji vs pl p (t+1)=ji vs pl p t+sm (dl vs p (t+1)) pl:=by
 unfold ji;rw[<-Lj];refine fY λx _=>?_;unfold dl;repeat' split
 all_goals lia
theorem Ly{vs:List aZ}{pl:List Tr}{T:Int}(h:∀x∈pl,eY vs T x)(hv:∀v∈vs,1<=v.h):ji vs pl p 0=sm (dl vs p 0) pl:=by
 unfold ji;refine fY λx a=>?_;have f:=h x a;have h1:=f.h0;have b:=hv _ (gQ f.w0 f.w1).2;unfold dl;repeat' split
 all_goals lia
noncomputable def WS(s:Sl)(vs:List aZ):Prop:=(∃b,s=.own b (vs.map aZ.d))\/∃b,s=.val b (.tup (vs.map aZ.d))
noncomputable def Wx:Sl->Sl|.own b ds=>.val b (.lst ds)|s=>s
theorem WS.pk{s:Sl}{vs:List aZ}(h:WS s vs){ρ:List Sl}{k:Nat}(e:ρ[k]?=aD s):∃d,pk ρ k=aD d/\items d=aD (vs.map aZ.d):=by
 rcases h with⟨b,rfl⟩|⟨b,rfl⟩;.exact⟨_,by unfold _H.pk;rw[e],rfl⟩
 .exact⟨_,by unfold _H.pk;rw[e],rfl⟩
inductive Jx(l:List Sl)(ρ:List Sl):Prop where|mk(s:Sl)(q0:ρ=l++[s])(q1:fr s=ck)
theorem QD{k:Int}(h:0<=k)(h0:0<ds.length)(h1:ds.length*k.toNat<=lim):qg (.lst ds) (.int k)=aD (.own (dV k.toNat ds).flatten):=by show(if _ then _ else _)=_;rw[if_pos ⟨h,h0,h1⟩]
inductive JS1(vs:List aZ)(M L:Nat)(pl:List Tr)(a0 a1 s2 p3 jD:Sl)(r:List D)(ρ:List Sl):Prop where|mk(done rest:List Tr)(F:Int->Int->Int)(s5 s6 s7 s8 s9 jM:Sl)(q0:ρ=[a0,a1,s2,p3,.hold (mat M L F),s5,s6,s7,s8,s9,jM,jD])(q1:A6 (fr s5=ck) (fr s6=ck) (fr s7=ck) (fr s8=ck) (fr s9=ck) (fr jM=ck))(q2:r=rest.map Tr.d)(q3:pl=done++rest)(q4:∀p t,F p t=sm (dl vs p t) done)
inductive JS2(vs:List aZ)(M L:Nat)(pl:List Tr)(a0 a1 s2 p3 s6 s7 s8 s9 jM:Sl)(i:Nat)(ρ:List Sl):Prop where|mk(F:Int->Int->Int)(s5 jD:Sl)(q0:ρ=[a0,a1,s2,p3,.hold (mat M L F),s5,s6,s7,s8,s9,jM,jD])(q1:(fr s5=ck/\fr jD=ck))(q2:∀p t,0<=p->p<(M:Int)->0<=t->F p t=if t<=(i:Int)then ji vs pl p t else sm (dl vs p t) pl)
inductive JS3(vs:List aZ)(M L:Nat)(pl:List Tr)(i:Nat)(a0 a1 s2 p3 s5 s6 s7 s8 s9 jM:Sl)(r:Nat)(ρ:List Sl):Prop where|mk(F:Int->Int->Int)(jD:Sl)(q0:ρ=[a0,a1,s2,p3,.hold (mat M L F),s5,s6,s7,s8,s9,jM,jD])(q1:fr jD=ck)(q2:∀p t,0<=p->p<(M:Int)->0<=t->F p t=if t<=(i:Int)\/(t=(i:Int)+1/\p<(r:Int))then ji vs pl p t else sm (dl vs p t) pl)
theorem Br{T:Int}{vs:List aZ}{pl:List Tr}{s2 s3:Sl}(ab:WS s2 vs)(ac:LS s3 (pl.map Tr.d))(m0:2<=m)(m1:m<=6)(t0:0<=T)(t1:T<=12)(hv:∀v∈vs,v.Ok m)(hf:∀x∈pl,eY vs T x)(q:Q (.val (.lst ((mat m.toNat (T+1).toNat (ji vs pl)).map D.lst))) [.val a_ (.int m),.val a_ (.int T),s2,Wx s3]):(run Γ w (n+1) 31 [.val a_ (.int m),.val a_ (.int T),s2,s3]).sat Q:=by
 refine aQ (d:=f31) rfl rfl (by decide) ?_;have hM:(m.toNat:Int)=m:=by lia
 have hL:((T+1).toNat:Int)=T+1:=by lia
 generalize m.toNat=M at*;generalize ae:(T+1).toNat=L at*;refine jT (λρ=>ρ=[.val a_ (.int m),.val a_ (.int T),s2,s3,.hold (mat M L λ_ _=>0),.aN,.aN,.aN,.aN,.aN,.aN,.aN]) ?_ ?_
 . simp[f31,Qz,show m<=1000000000 by lia,show-1000000000<=m by lia];refine⟨λ_=>?_,by lia⟩;rw[aV];refine rT (Jx [.val a_ (.int m),.val a_ (.int T),s2,s3,.aN,.aN,.aN,.aN,.aN,.aN,.aN,.aN]) (λ_=>cg L λ_=>0) ⟨.aN,rfl,rfl⟩ ?_ ?_;.rintro d hd _⟨s,rfl,hs⟩;simp[hs,show 0<=T+1 by lia,show T+1<=16777216 by lia,QD];refine⟨?_,⟨_,rfl,rfl⟩⟩;rw[ae];unfold cg;rw[List.map_const',i6]
   .rintro _⟨s,rfl,hs⟩;rw[nN,Gq (M:=M) (by simp;lia)];simp
 . rintro _ rfl;refine jT (λρ=>∃(F:Int->Int->Int)(s5 s6 s7 s8 s9 jM:Sl),ρ=[.val a_ (.int m),.val a_ (.int T),s2,Wx s3,.hold (mat M L F),s5,s6,s7,s8,s9,jM,.aN]/\(fr s5=ck/\fr s6=ck/\fr s7=ck/\fr s8=ck/\fr s9=ck/\fr jM=ck)/\∀p t,F p t=sm (dl vs p t) pl) ?_ ?_
   . have H:∀I,(ju [5,6,7] a_ (jC (run Γ w n) w [.QK [8,9,10] (.idx (.var 2) (.var 6)),.zJ 4 (.var 8) (.var 5) ck (.var 7),.zJ 4 (.var 9) (.bin .add (.var 5) (.var 10)) a_ (.var 7)]) (pl.map Tr.d) [.val a_ (.int m),.val a_ (.int T),s2,I,.hold (mat M L λ_ _=>0),.aN,.aN,.aN,.aN,.aN,.aN,.aN]).sat (λfl ρ=>fl=.next/\∃(F:Int->Int->Int)(s5 s6 s7 s8 s9 jM:Sl),ρ=[.val a_ (.int m),.val a_ (.int T),s2,I,.hold (mat M L F),s5,s6,s7,s8,s9,jM,.aN]/\(fr s5=ck/\fr s6=ck/\fr s7=ck/\fr s8=ck/\fr s9=ck/\fr jM=ck)/\∀p t,F p t=sm (dl vs p t) pl):=by
      intro I;refine dJ (JS1 vs M L pl _ _ s2 I _) ?_ ?_ ⟨[],pl,_,.aN,.aN,.aN,.aN,.aN,.aN,rfl,⟨rfl,rfl,rfl,rfl,rfl,rfl⟩,rfl,rfl,λ_ _=>rfl⟩;.rintro d r _⟨done,a,F,s5,s6,s7,s8,s9,jM,rfl,⟨E,O,U,W,X,u⟩,hr,hpl,g⟩;cases a with|nil=>cases hr|cons x a=>
          obtain⟨rfl,rfl⟩:d=x.d/\r=a.map Tr.d:=by simpa using hr
          have Y:=hf x (by rw[hpl];simp);obtain⟨hg,J⟩:=gQ Y.w0 Y.w1;have ok:=hv _ J;obtain⟨d2,Z,i2⟩:=ab.pk (ρ:=[.val a_ (.int m),.val a_ (.int T),s2,I,.hold (mat M L F),.val a_ (.int x.h),.val a_ (.int x.w),.val a_ (.int x.l),s8,s9,jM,.aN]) (k:=2) rfl;have h0:=Y.h0;have o1:=Y.o1;have:=ok.s0;have:=ok.s1;have:=ok.t0;have:=ok.t1;have:=ok.h0;have:=ok.ne;simp[Tr.d,E,O,U];apply ak;simp[Z,i2,pG,hg];generalize af:rd vs x.w=v at*;simp[aZ.d,W,X,u];have r1:rowAt (mat M L F) v.s=aD (cg L (F v.s)):=Ey (by lia) (by lia);have r2:at' (cg L (F v.s)) x.h=aD (.int (F v.s x.h)):=oR (by lia) (by lia);have r3:jY (mat M L F) v.s (setAt x.h (.int (F v.s x.h-x.l)))=aD (mat M L (up F v.s x.h (F v.s x.h-x.l))):=Du (by lia) (by lia) (by lia) (by lia);symm;simp[Ds,r1,r2,r3];have hG:∀p t,up F v.s x.h (F v.s x.h-x.l) p t=F p t-if v.s=p/\x.h=t then x.l else 0:=λp t=>by
           unfold up;by_cases c:p=v.s/\t=x.h;.obtain⟨rfl,rfl⟩:=c;simp
           .rw[if_neg c,if_neg (λz=>c ⟨z.1.symm,z.2.symm⟩)];lia
          generalize up F v.s x.h (F v.s x.h-x.l)=G at*;have r4:rowAt (mat M L G) v.t=aD (cg L (G v.t)):=Ey (by lia) (by lia);have r5:at' (cg L (G v.t)) (x.h+v.h)=aD (.int (G v.t (x.h+v.h))):=oR (by lia) (by lia);have r6:jY (mat M L G) v.t (setAt (x.h+v.h) (.int (G v.t (x.h+v.h)+x.l)))=aD (mat M L (up G v.t (x.h+v.h) (G v.t (x.h+v.h)+x.l))):=Du (by lia) (by lia) (by lia) (by lia);symm;simp[Ds,r4,r5,r6];refine⟨done++[x],a,_,_,_,_,_,_,_,rfl,⟨rfl,rfl,rfl,rfl,rfl,rfl⟩,rfl,by rw[hpl];simp,λp t=>?_⟩;rw[Lk,cR,Vx,<-g];unfold up dl;rw[af];have:=hG p t;by_cases c:p=v.t/\t=x.h+v.h;.obtain⟨rfl,rfl⟩:=c;rw[if_pos ⟨rfl,rfl⟩,if_pos ⟨rfl,rfl⟩];lia
          .rw[if_neg c,if_neg (λz=>c ⟨z.1.symm,z.2.symm⟩)];lia
      . rintro _⟨done,a,F,s5,s6,s7,s8,s9,jM,rfl,⟨E,O,U,W,X,u⟩,hr,hpl,g⟩;have ag:a=[]:=by cases a with|nil=>rfl|cons _ _=>cases hr
        subst ag;rw[qk]at hpl;subst hpl;exact⟨rfl,F,s5,s6,s7,s8,s9,jM,rfl,⟨E,O,U,W,X,u⟩,g⟩
     rcases ac with⟨b,rfl⟩|⟨b,rfl⟩;.simp[wO];exact H _
     .simp[wO];exact H _
   . rintro _⟨F,s5,s6,s7,s8,s9,jM,rfl,⟨E,O,U,W,X,u⟩,g⟩;refine jT (λρ=>∃(F:Int->Int->Int)(s5 jD:Sl),ρ=[.val a_ (.int m),.val a_ (.int T),s2,Wx s3,.hold (mat M L F),s5,s6,s7,s8,s9,jM,jD]/\∀p t,0<=p->p<(M:Int)->0<=t->t<=T->F p t=ji vs pl p t) ?_ ?_
     . simp[wO,show T+1<=1000000000 by lia,show-1000000000<=T+1 by lia];refine fc (JS2 vs M L pl _ _ s2 (Wx s3) s6 s7 s8 s9 jM) ?_ ?_ ⟨F,s5,.aN,rfl,⟨E,rfl⟩,λp t A C o=>?_⟩
       . rintro i _ hi⟨F,s5,jD,rfl,⟨E,j⟩,g⟩;simp[E];apply ak;simp[Nk];refine sr (N:=M) (JS3 vs M L pl i _ _ s2 (Wx s3) (.val a_ (.int (1+(i:Int)))) s6 s7 s8 s9 jM) ?_ ?_ M 0 _ (by lia) ⟨F,jD,rfl,j,λp t A C o=>?_⟩
         . rintro r _ hr⟨F,jD,rfl,j,g⟩;have r1:at' (cg L (F r)) (1+(i:Int))=aD (.int (F r (1+(i:Int)))):=oR (by lia) (by lia);have r2:at' (cg L (F r)) (1+(i:Int)-1)=aD (.int (F r (1+(i:Int)-1))):=oR (by lia) (by lia);have r3:=zu (L:=L) (f:=F r) (t:=1+(i:Int)) (v:=F r (1+(i:Int))+F r (1+(i:Int)-1)) (by lia) (by lia);have e1:=g r (1+(i:Int)) (by lia) (by lia) (by lia);have Z:=g r (1+(i:Int)-1) (by lia) (by lia) (by lia);rw[if_neg (by lia)]at e1;rw[if_pos (by lia)]at Z;have e3:=Js (vs:=vs) (pl:=pl) (p:=r) (t:=(i:Int));rw[show 1+(i:Int)-1=(i:Int)by lia]at Z;rw[show 1+(i:Int)=(i:Int)+1 by lia]at e1;simp[j,rowOne,wG hr,r1,r2,r3,Eb hr rfl];refine⟨_,_,rfl,rfl,λp t A C o=>?_⟩;unfold up;by_cases c:p=(r:Int)/\t=1+(i:Int);.obtain⟨rfl,rfl⟩:=c;rw[if_pos ⟨rfl,rfl⟩,if_pos (by lia),show 1+(i:Int)-1=(i:Int)by lia,show 1+(i:Int)=(i:Int)+1 by lia];lia
           . rw[if_neg c,g p t A C o];by_cases c2:t<=(i:Int)\/t=(i:Int)+1/\p<(r:Int);.rw[if_pos c2,if_pos (by lia)]
             .rw[if_neg c2,if_neg (by lia)]
         . rintro _⟨F,jD,rfl,j,g⟩;simp;refine⟨F,_,jD,rfl,⟨rfl,j⟩,λp t A C o=>?_⟩;rw[g p t A C o];by_cases c:t<=(i:Int)+1;.rw[if_pos (by lia),if_pos (by lia)]
           .rw[if_neg (by lia),if_neg (by lia)]
         . rw[g p t A C o];by_cases c:t<=(i:Int);.rw[if_pos c,if_pos (.inl c)]
           .rw[if_neg c,if_neg (by lia)]
       .rintro _⟨F,s5,jD,rfl,_,g⟩;exact⟨rfl,F,⟨s5,jD,rfl⟩,λp t A C o h2=>by rw[g p t A C o,if_pos (by lia)]⟩
       . rw[g];by_cases c:t<=((0:Nat):Int)
         . have:t=0:=by lia
           subst this;rw[if_pos c,Ly hf λv h=>(hv v h).h0]
         .rw[if_neg c]
     . rintro _⟨F,s5,jD,rfl,g⟩;have e:mat M L F=mat M L (ji vs pl):=by unfold mat cg;refine fe λp hp=>fe λt o=>?_;simp at hp o;rw[g p t (by lia) (by lia) (by lia) (by lia)]
       rw[e];symm;simp[U9];apply ak;simp;exact q
noncomputable def rB(vs:List aZ)(T:Int)(p:Int×Int):Prop:=0<=p.1/\0<=p.2/\p.2<(vs.length:Int)/\p.1+(rd vs p.2).h<=T
theorem Vv{vs:List aZ}{T h:Int}:∀{xs:List D},(∀x∈xs,∃k:Int,x=D.int k/\rB vs T (h,k))->∃ks:List Int,xs=ks.map D.int/\∀k∈ks,rB vs T (h,k)|[],_=>⟨[],rfl,by simp⟩|x::xs,h=>by obtain⟨v,rfl,h1⟩:=h x (by simp);obtain⟨ws,rfl,a⟩:=Vv (xs:=xs) λy b=>h y (by simp[b]);exact⟨v::ws,rfl,λu hu=>by
    rcases eM.mp hu with rfl|hu;.exact h1
    .exact a u hu⟩
theorem WS.ix{vs:List aZ}(h:WS s vs){k:Nat}(e:ρ[k]?=aD s)(h0:0<=i)(h1:i<(vs.length:Int)):∃d,_H.pk ρ k=aD d/\pG d (.int i)=aD (.val (rd vs i).d):=by obtain⟨d,a,b⟩:=h.pk e;exact⟨d,a,by simp[pG,b,(gQ h0 h1).1]⟩
theorem WS.len{s:Sl}{vs:List aZ}(h:WS s vs){ρ:List Sl}{k:Nat}(e:ρ[k]?=aD s):∃d,_H.pk ρ k=aD d/\blt .len [d]=aD (.val (.int (vs.length:Int))):=by obtain⟨d,a,b⟩:=h.pk e;exact⟨d,a,by show(items d).map (λds=>R.val (.int ds.length))=_;rw[b];simp⟩
theorem QZ{P:Int->Prop}:∀{xs:List D},(∀x∈xs,∃k:Int,x=D.int k/\P k)->∃ks:List Int,xs=ks.map D.int/\∀k∈ks,P k
 |[],_=>⟨[],rfl,by simp⟩|x::xs,h=>by
   obtain⟨k,rfl,a⟩:=h x (by simp);obtain⟨ks,e,b⟩:=QZ (xs:=xs) λy f=>h y (by simp[f]);refine⟨k::ks,by rw[e];rfl,λj hj=>?_⟩;rcases eM.mp hj with rfl|hj;.exact a
   .exact b j hj
noncomputable def Io(vs:List aZ)(m:Int)(q:Int×Int):Prop:=0<(rd vs q.2).t/\(rd vs q.2).s≠m-1
noncomputable def Fp(vs:List aZ)(p t:Int)(q:Int×Int):Int:=(if(rd vs q.2).t=p/\q.1+(rd vs q.2).h<=t then 1 else 0)-(if(rd vs q.2).s=p/\q.1<=t then 1 else 0)
inductive RP(vs:List aZ)(m T:Int):Int->Int->List (Int×Int)->Prop|nil{b:Int}:RP vs m T 0 b []|snoc{a b b':Int}{ps:List (Int×Int)}{q:Int×Int}:RP vs m T a b ps->rB vs T q->Io vs m q->(rd vs q.2).s=a->1<=(rd vs q.2).h->b<=q.1->q.1+(rd vs q.2).h<=b'->RP vs m T (rd vs q.2).t b' (ps++[q])
theorem RP.sum{vs:List aZ}{T a b:Int}(h:RP vs m T a b ps):∀p:Int,1<=p->∀t,0<=sm (Fp vs p t) ps/\(b<=t->sm (Fp vs p t) ps=if p=a then 1 else 0):=by induction h with|nil=>intro p j t;exact⟨by simp[sm],λ_=>by rw[if_neg (by lia)];rfl⟩|@snoc a b G ps q h1 f c e H I A l=>
   intro p j t;obtain⟨J,o⟩:=l p j t;have C:sm (Fp vs p t) (ps++[q])=sm (Fp vs p t) ps+((if(rd vs q.2).t=p/\q.1+(rd vs q.2).h<=t then 1 else 0)-(if a=p/\q.1<=t then 1 else 0)):=by rw[Lk];simp only[sm,Fp,e];lia
   rw[C];generalize sm (Fp vs p t) ps=s at*;generalize(rd vs q.2).t=u at*;generalize(rd vs q.2).h=E at*;generalize q.1=g at*;by_cases z:b<=t;.have:=o z;clear o l;by_cases c1:p=a<;>by_cases c2:u=p<;>by_cases c3:g<=t<;>by_cases c4:g+E<=t<;>simp_all<;>lia
   .rw[if_neg (λy:a=p/\g<=t=>z (by lia))];refine⟨by split<;>lia,λy=>absurd y (by lia)⟩
theorem RP.fit{vs:List aZ}{T a b:Int}(h:RP vs m T a b ps):∀q∈ps,rB vs T q/\Io vs m q:=by induction h with|nil=>simp|snoc h1 f c e l o g j=>
   intro q hq;rcases gl.mp hq with hq|hq;.exact j q hq
   .rw[f_.mp hq];exact⟨f,c⟩
theorem RP.ndp{vs:List aZ}{T a b:Int}(h:RP vs m T a b ps):ps.Nodup/\∀q∈ps,q.1<b:=by induction h with|nil=>simp|@snoc a b o ps q h1 f c e u A j g=>
   refine⟨?_,λy hy=>?_⟩;.rw[List.nodup_append];refine⟨g.1,by simp,λy hy z l=>?_⟩;rw[f_.mp l];intro e;have:=g.2 y hy;rw[e]at this;lia
   . rcases gl.mp hy with hy|hy;.have:=g.2 y hy;lia
     .rw[f_.mp hy];lia
structure YD(vs:List aZ)(m T:Int)(ps:List (Int×Int)):Prop where
 nd:ps.Nodup
 fit:∀q∈ps,rB vs T q/\Io vs m q
 pos:∀p:Int,1<=p->∀t,0<=sm (Fp vs p t) ps
 fin:∀p:Int,1<=p->p<m-1->∀t,T<=t->sm (Fp vs p t) ps=0
theorem YD.nil{vs:List aZ}{T:Int}:YD vs m T []:=⟨by simp,by simp,λ_ _ _=>by simp[sm],λ_ _ _ _ _=>rfl⟩
theorem RP.whole{vs:List aZ}{T b:Int}(h:RP vs m T (m-1) b ps)(e:b<=T):YD vs m T ps:=⟨h.ndp.1,h.fit,λp a t=>(h.sum p a t).1,λp h1 f t g=>by rw[(h.sum p h1 t).2 (by lia),if_neg (by lia)]⟩
inductive JRt(y m T:Int)(vs:List aZ)(a1 a2 s3:Sl)(i:Nat)(ρ:List Sl):Prop where|mk(x z place hour:Int)(ps:List (Int×Int))(s7 s8 s9:Sl)(q0:ρ=[.own ck [.int x,.int y,.int z],a1,a2,s3,.val a_ (.int place),.val a_ (.int hour),.own a_ (ps.map rF),s7,s8,s9])(q1:A3 (fr s7=ck) (fr s8=ck) (fr s9=ck))(q2:0<=hour)(q3:hour<=T)(q4:A3 (0<=place) (place<m) (RP vs m T place hour ps))(q5:ps.length<=i)
inductive MRt(y m T:Int)(vs:List aZ)(a1 a2 s3:Sl)(ρ:List Sl):Prop where|mk(x z place hour:Int)(ps:List (Int×Int))(s7 s8 s9:Sl)(q0:ρ=[.own ck [.int x,.int y,.int z],a1,a2,s3,.val a_ (.int place),.val a_ (.int hour),.own a_ (ps.map rF),s7,s8,s9])(q1:A4 (hour<=T) (0<=place) (place<m) (RP vs m T place hour ps))(q2:ps.length<=8)
theorem GR{x T:Int}{vs:List aZ}{s3:Sl}(m0:2<=m)(o:WS s3 vs)(hl:vs.length<=12)(t0:0<=T)(t1:T<=12)(hv:∀v∈vs,v.Ok m)(k:∀(ps:List (Int×Int))(x z:Int),YD vs m T ps->ps.length<=8->Q (.own (ps.map rF)) [.own ck [.int x,.int y,.int z],.val a_ (.int m),.val a_ (.int T),s3]):(run Γ w (n+2) 29 [.own ck [.int x,.int y,.int z],.val a_ (.int m),.val a_ (.int T),s3]).sat Q:=by
 have A:vs.length<=lim:=by show _<=16777216;lia
 refine aQ (d:=f29) rfl rfl (by decide) ?_;refine aU (l:=Wd) (k:=0) rfl ?_;simp[f29];refine aU (l:=Wd) (k:=1) rfl ?_;simp;refine bh (by lia) (o9 (by lia)) λh x z h0 h1=>?_;simp;refine aU (l:=Wd) (k:=2) rfl ?_;simp;refine xY (l:=Wd) (k:=3) rfl (MRt y m T vs (.val a_ (.int m)) (.val a_ (.int T)) s3) ?_ ?_
 . simp;refine fc (JRt y m T vs _ _ s3) ?_ ?_ ⟨x,z,0,h,[],.aN,.aN,.aN,rfl,⟨rfl,rfl,rfl⟩,h0,by lia,⟨by lia,by lia,.nil⟩,by simp⟩
   . rintro i _ hi⟨x,z,b,f,ps,s7,s8,s9,rfl,⟨X,Y,Z⟩,r0,r1,⟨C,E,u⟩,hpl⟩;obtain⟨d0,el,ll⟩:=o.len (ρ:=[.own ck [.int x,.int y,.int z],.val a_ (.int m),.val a_ (.int T),s3,.val a_ (.int b),.val a_ (.int f),.own a_ (ps.map rF),.val a_ (.int i),s8,s9]) (k:=3) rfl;simp[X];apply ak;simp[el,ll,show(vs.length:Int)<=1000000000 by lia,A];refine FT (Jx [.own ck [.int x,.int y,.int z],.val a_ (.int m),.val a_ (.int T),s3,.val a_ (.int b),.val a_ (.int f),.own a_ (ps.map rF),.val a_ (.int i),s8,s9]) (λd=>∃k:Int,d=D.int k/\A3 (rB vs T (f,k)) ((rd vs k).s=b) (0<(rd vs k).t)) ⟨.aN,rfl,rfl⟩ ?_ ?_
     . rintro d hd _⟨s,rfl,hs⟩;obtain⟨j,hj,rfl⟩:=ey.mp hd;simp at hj;obtain⟨d1,G,N⟩:=o.ix (ρ:=[.own ck [.int x,.int y,.int z],.val a_ (.int m),.val a_ (.int T),s3,.val a_ (.int b),.val a_ (.int f),.own a_ (ps.map rF),.val a_ (.int i),s8,s9,.val a_ (.int (j:Int))]) (k:=3) (i:=(j:Int)) rfl (by lia) (by lia);have J:Jx [.own ck [.int x,.int y,.int z],.val a_ (.int m),.val a_ (.int T),s3,.val a_ (.int b),.val a_ (.int f),.own a_ (ps.map rF),.val a_ (.int i),s8,s9] [.own ck [.int x,.int y,.int z],.val a_ (.int m),.val a_ (.int T),s3,.val a_ (.int b),.val a_ (.int f),.own a_ (ps.map rF),.val a_ (.int i),s8,s9,.val a_ (.int (j:Int))]:=⟨_,rfl,rfl⟩;simp[hs,G,N,Th,rd1,Xa];refine⟨λc1=>⟨λc2=>?_,λ_=>J⟩,λ_=>J⟩;split;.rename_i c;exact⟨⟨⟨r0,by show(0:Int)<=(j:Int);lia,by show(j:Int)<_;lia,c⟩,c1,c2⟩,J⟩
       .exact J
     . rintro xs _⟨s,rfl,hs⟩O hx;obtain⟨ks,rfl,hk⟩:=QZ hx;simp[Y];apply ak;simp[Pn];refine⟨λ_=>?_,λ_=>⟨λ_=>?_,λU=>?_⟩⟩;.symm;simp;exact⟨x,z,b,f,ps,_,_,_,rfl,⟨r1,C,E,u⟩,by lia⟩
       .symm;simp;exact⟨x,z,b,f,ps,_,_,_,rfl,⟨r1,C,E,u⟩,by lia⟩
       rename_i W;have ab:0<(ks.length:Int):=by cases ks with|nil=>exact absurd rfl U|cons a l=>simp<;>lia
       have ac:(ks.length:Int)<=12:=by simp at O;lia
       symm;simp;refine bh (by lia) (o9 (by lia)) λd x z d0 d1=>?_;have H:d.toNat<ks.length:=by lia
       have I:at' (ks.map D.int) d=aD (.int ks[d.toNat]):=by rw[iw d0 (by simpa using d1)];simp[H]
       have q:=hk _ (ic H);generalize ks[d.toNat]=g at I q;obtain⟨⟨f1,f2,f3,f4⟩,fs,ft⟩:=q;simp[I,Z];apply ak;simp[show ps.length<lim by show _<16777216;lia];obtain⟨d1,G,N⟩:=o.ix (ρ:=[.own ck [.int x,.int y,.int z],.val a_ (.int m),.val a_ (.int T),s3,.val a_ (.int b),.val a_ (.int f),.own a_ (ps.map rF++[.tup [.int f,.int g]]),.val a_ (.int i),.own a_ (ks.map D.int),.val a_ (.int g)]) (k:=3) (i:=g) rfl f2 f3;symm;simp[G,N,rd1];obtain⟨d2,e2,i2⟩:=o.ix (ρ:=[.own ck [.int x,.int y,.int z],.val a_ (.int m),.val a_ (.int T),s3,.val a_ (.int (rd vs g).t),.val a_ (.int f),.own a_ (ps.map rF++[.tup [.int f,.int g]]),.val a_ (.int i),.own a_ (ks.map D.int),.val a_ (.int g)]) (k:=3) (i:=g) rfl f2 f3;symm;simp[e2,i2,Xa];refine bh (by decide) (by decide) λe x z e0 G=>?_;obtain⟨hg,he,g0,g1⟩:=vh (ns:=[0,0,0,1,2]) (lo:=0) (hi:=2) e0 (by simpa using G) (by simp);simp only[eK,mS]at he;simp[he];have ok:(rd vs g).Ok m:=hv _ (gQ f2 f3).2;have:=ok.h0;refine⟨x,z,_,_,ps++[(f,g)],_,_,_,by rw[kM];rfl,⟨rfl,rfl,rfl⟩,?_,?_,⟨ok.t0,ok.t1,.snoc u ⟨f1,f2,f3,f4⟩ ⟨ft,?_⟩ fs (by show 1<=(rd vs g).h;lia) (gN _) ?_⟩,by simp;lia⟩;.split<;>lia
       .split<;>lia
       .rw[fs];exact W
       .show f+(rd vs g).h<=_;split<;>lia
   .rintro _⟨x,z,b,f,ps,s7,s8,s9,rfl,_,r0,r1,⟨C,E,u⟩,hpl⟩;exact⟨rfl,x,z,b,f,ps,s7,s8,s9,rfl,⟨r1,C,E,u⟩,hpl⟩
 . rintro _⟨x,z,b,f,ps,s7,s8,s9,rfl,⟨r1,C,E,u⟩,hpl⟩;refine aU (l:=Wd) (k:=4) rfl ?_;simp;refine⟨λ_=>?_,λae=>?_⟩;.symm;simp;exact k [] x z .nil (by simp)
   . refine aU (l:=Wd) (k:=5) rfl ?_;simp;obtain rfl:b=m-1:=by lia
     exact k ps x z (u.whole r1) hpl
structure sU(vs:List aZ)(T:Int)(kvs:List (List Int×Int)):Prop where
 nd:(kvs.map (·.1)).Nodup
 fit:∀k∈kvs.map (·.1),∃h w:Int,k=[h,w]/\rB vs T (h,w)
theorem sU.nil{vs:List aZ}{T:Int}:sU vs T []:=⟨by simp,by simp⟩
theorem sU.put{vs:List aZ}{T:Int}{w:Int}(t:sU vs T kvs)(f:rB vs T (h,w)):sU vs T (putD kvs [h,w] v)/\(putD kvs [h,w] v).length<=kvs.length+1:=by obtain⟨a,b,e,_⟩:=jf (k:=[h,w]) (v:=v) t.nd;exact⟨⟨a,λk g=>by
  rcases e k g with rfl|z;.exact⟨h,w,rfl,f⟩
  .exact t.fit k z⟩,b⟩
noncomputable def inK(vs:List aZ)(p t:Int):List Int->Bool|[h,w]=>decide ((rd vs w).t=p/\h+(rd vs w).h<=t)|_=>a_
noncomputable def ouK(vs:List aZ)(p t:Int):List Int->Bool|[h,w]=>decide ((rd vs w).s=p/\h<=t)|_=>a_
noncomputable def stK(vs:List aZ)(p t:Int)(kvs:List (List Int×Int)):Int:=uZ (inK vs p t) kvs-uZ (ouK vs p t) kvs
theorem N6{vs:List aZ}{q:Int×Int}(h:(kvs.map (·.1)).Nodup):stK vs p t (putD kvs [q.1,q.2] (gv kvs [q.1,q.2]+v))=stK vs p t kvs+v*Fp vs p t q:=by
 obtain⟨_,_,_,e⟩:=jf (k:=[q.1,q.2]) (v:=gv kvs [q.1,q.2]+v) h;unfold stK;rw[e,e];have hv:gv kvs [q.1,q.2]+v-gv kvs [q.1,q.2]=v:=by lia
 rw[hv];by_cases c1:(rd vs q.2).t=p/\q.1+(rd vs q.2).h<=t<;>by_cases c2:(rd vs q.2).s=p/\q.1<=t;all_goals
  simp only[inK,ouK,Fp,c1,c2,decide_true,decide_false,if_true,if_false];try simp
  try lia
theorem zB{k:List Int}{r:List (List Int×Int)}{x:List Int×Int}(h:x∈putD r k v):x=(k,v)\/x∈r:=by
 unfold putD at h;split at h
 . obtain⟨y,a,e⟩:=ey.mp h;by_cases c:y.1=k;.rw[if_pos c]at e;exact .inl (by rw[<-e];try rw[c])
   .rw[if_neg c]at e;exact .inr (by rw[<-e];exact a)
 . rcases gl.mp h with z|z;.exact .inr z
   .exact .inl (f_.mp z)
theorem Jr{k:List Int}:∀{r:List (List Int×Int)},(∀x∈r,1<=x.2)->0<=gv r k
 |[],_=>by simp[gv]|(a,b)::r,h=>by
   rw[dN];split;.have:=h (a,b) (by simp);simp at this;lia
   .exact Jr λx e=>h x (by simp[e])
structure zX(vs:List aZ)(m T v B:Int)(rest:List (Int×Int))(kvs:List (List Int×Int)):Prop where
 ok:sU vs T kvs
 cl:∀h w:Int,[h,w]∈kvs.map (·.1)->Io vs m (h,w)one:∀x∈kvs,1<=x.2
 b0:0<=B
 nd:rest.Nodup
 lo:∀q∈rest,gv kvs [q.1,q.2]<=B
 hi:∀x∈kvs,x.2<=B+v
 todo:∀q∈rest,rB vs T q/\Io vs m q
 pos:∀p:Int,1<=p->∀t,0<=stK vs p t kvs+v*sm (Fp vs p t) rest
 fin:∀p:Int,1<=p->p<m-1->∀t,T<=t->stK vs p t kvs+v*sm (Fp vs p t) rest=0
theorem zX.nil{vs:List aZ}{m T v:Int}:zX vs m T v 0 [] []:=⟨sU.nil,by simp,by simp,by decide,by simp,by simp,by simp,by simp,λ_ _ _=>by simp[stK,uZ,sm],λ_ _ _ _ _=>by simp[stK,uZ,sm]⟩
theorem Rw{k:List Int}{B:Int}(hB:0<=B):∀{r:List (List Int×Int)},(∀x∈r,x.2<=B)->gv r k<=B
 |[],_=>by simp[gv];exact hB|(a,b)::r,h=>by
   rw[dN];split;.exact h (a,b) (by simp)
   .exact Rw hB λx e=>h x (by simp[e])
theorem wX{k j:List Int}{v:Int}(f:j≠k):∀{r:List (List Int×Int)},(r.map (·.1)).Nodup->gv (putD r k v) j=gv r j
 |[],_=>by simp[putD,gv,iF f]|(a,b)::r,n=>by
   simp only[eK,hX]at n;rw[pR n.1];split;.rename_i e;subst e;rw[dN,dN,if_neg (iF f),if_neg (iF f)]
   .rw[dN,dN,wX f n.2]
theorem zX.begin{vs:List aZ}{T:Int}(h:zX vs m T 0 B [] kvs)(r:YD vs m T ps)(hv:0<=v):zX vs m T v B ps kvs:=⟨h.ok,h.cl,h.one,h.b0,r.nd,λq _=>Rw h.b0 λx e=>by have:=h.hi x e;lia,λx e=>by have:=h.hi x e;lia,r.fit,λp f t=>by have a:=h.pos p f t;have b:=Int.mul_nonneg hv (r.pos p f t);simp only[sm,Int.mul_zero]at a;lia,λp h1 g t j=>by have a:=h.fin p h1 g t j;rw[r.fin p h1 g t j];simpa[sm]using a⟩
theorem zX.done{vs:List aZ}{T:Int}(h:zX vs m T v B [] kvs)(hv:0<=v):zX vs m T 0 (B+v) [] kvs:=⟨h.ok,h.cl,h.one,by have:=h.b0;lia,by simp,by simp,λx b=>by have:=h.hi x b;lia,by simp,λp e t=>by have a:=h.pos p e t;simpa[sm]using a,λp h1 f t g=>by have a:=h.fin p h1 f t g;simpa[sm]using a⟩
theorem zX.put{vs:List aZ}{m T v B:Int}{q:Int×Int}{a:List (Int×Int)}{kvs:List (List Int×Int)}(h:zX vs m T v B (q::a) kvs)(hv:1<=v):zX vs m T v B a (putD kvs [q.1,q.2] (gv kvs [q.1,q.2]+v)):=by
 obtain⟨f,c⟩:=h.todo q (by simp);have e:∀p t,stK vs p t (putD kvs [q.1,q.2] (gv kvs [q.1,q.2]+v))+v*sm (Fp vs p t) a=stK vs p t kvs+v*sm (Fp vs p t) (q::a):=λp t=>by rw[N6 h.ok.nd];simp only[sm,Int.mul_add];lia
 have g:=hX.mp h.nd;refine⟨(h.ok.put f).1,λo w u=>?_,λx l=>?_,h.b0,g.2,λb j=>?_,λx l=>?_,λb j=>h.todo b (by simp[j]),λp A t=>by rw[e];exact h.pos p A t,λp h1 C t E=>by rw[e];exact h.fin p h1 C t E⟩
 . obtain⟨_,_,G,_⟩:=jf (k:=[q.1,q.2]) (v:=gv kvs [q.1,q.2]+v) h.ok.nd;rcases G _ u with z|z
   . obtain⟨rfl,rfl⟩:o=q.1/\w=q.2:=by simpa using z
     exact c
   .exact h.cl o w z
 . rcases zB l with rfl|z;.have:=Jr (k:=[q.1,q.2]) h.one;show 1<=gv kvs [q.1,q.2]+v;lia
   .exact h.one x z
 .rw[wX (λe=>g.1 (by
    obtain⟨H,I⟩:b.1=q.1/\b.2=q.2:=by simpa using e
    have:b=q:=Prod.ext H I;rw[<-this];exact j)) h.ok.nd];exact h.lo b (by simp[j])
 . rcases zB l with rfl|z;.have:=h.lo q (by simp);show gv kvs [q.1,q.2]+v<=B+v;lia
   .exact h.hi x z
noncomputable def trK(a:List Int×Int):Tr:=match a.1 with|[h,w]=>⟨h,w,a.2⟩|_=>⟨0,0,0⟩
theorem Ml{k:List Int}{v:Int}:∀{r:List (List Int×Int)},(r.map (·.1)).Nodup->(k,v)∈r->gv r k=v
 |[],_,h=>by simp at h|(a,b)::r,n,h=>by
   simp only[eK,hX]at n;rw[dN];rcases eM.mp h with z|z;.cases z;rw[if_pos rfl]
   .rw[if_neg (λe=>n.1 (ey.mpr ⟨(k,v),z,e.symm⟩))];exact Ml n.2 z
structure Xf(vs:List aZ)(m T B:Int)(kvs:List (List Int×Int))(pl:List Tr):Prop where
 e:lu (kvs.map λp=>D.tup (p.1.map D.int))=pl.map Tr.k
 len:pl.length=kvs.length
 val:∀x∈pl,gv kvs [x.h,x.w]=x.l/\[x.h,x.w]∈kvs.map (·.1)fit:∀x∈pl,eY vs T x
 QW:fK pl=ck
 one:∀x∈pl,1<=x.l/\x.l<=B
 cl:∀x∈pl,Io vs m (x.h,x.w)pos:∀p:Int,1<=p->∀t,0<=ji vs pl p t
 fin:∀p:Int,1<=p->p<m-1->∀t,T<=t->ji vs pl p t=0
theorem zX.aeU{vs:List aZ}{T:Int}(t:zX vs m T 0 B [] kvs):∃pl,Xf vs m T B kvs pl:=by
 have C:∀o∈kvs,∃h w l:Int,o=([h,w],l)/\rB vs T (h,w)/\Io vs m (h,w)/\gv kvs [h,w]=l/\(1<=l/\l<=B)/\[h,w]∈kvs.map (·.1):=λo j=>by have E:o.1∈kvs.map (·.1):=ey.mpr ⟨o,j,rfl⟩;obtain⟨h,w,e,f⟩:=t.ok.fit o.1 E;obtain⟨k,l⟩:=o;simp only at e;subst e;exact⟨h,w,l,rfl,f,t.cl h w E,Ml t.ok.nd j,⟨t.one _ j,by have:=t.hi _ j;simp only at this;lia⟩,E⟩
 let g:D->Tr:=λd=>match d with|.tup [.int h,.int w]=>⟨h,w,gv kvs [h,w]⟩|_=>⟨0,0,0⟩;have J:=jF (kvs.map λp=>D.tup (p.1.map D.int));have hs:=jW (kvs.map λp=>D.tup (p.1.map D.int));have e:lu (kvs.map λp=>D.tup (p.1.map D.int))=((lu (kvs.map λp=>D.tup (p.1.map D.int))).map g).map Tr.k:=by rw[eC];refine((fe λd hd=>?_).trans (sB _)).symm;obtain⟨o,j,rfl⟩:=ey.mp (J.mem_iff.mp hd);obtain⟨h,w,l,rfl,_⟩:=C o j;rfl
 have q:((lu (kvs.map λp=>D.tup (p.1.map D.int))).map g).Perm (kvs.map trK):=by have:=J.map g;rw[eC]at this;refine this.trans (.of_eq (fe λo j=>?_));obtain⟨h,w,l,rfl,_,_,e,_⟩:=C o j;show(⟨h,w,gv kvs [h,w]⟩:Tr)=⟨h,w,l⟩;rw[e]
 generalize(lu (kvs.map λp=>D.tup (p.1.map D.int))).map g=pl at e q;have mem:∀x∈pl,∃h w l:Int,x=⟨h,w,l⟩/\rB vs T (h,w)/\Io vs m (h,w)/\gv kvs [h,w]=l/\(1<=l/\l<=B)/\[h,w]∈kvs.map (·.1):=λx A=>by obtain⟨o,j,rfl⟩:=ey.mp (q.mem_iff.mp A);obtain⟨h,w,l,rfl,z⟩:=C o j;exact⟨h,w,l,rfl,z⟩
 have st:∀p u,ji vs pl p u=stK vs p u kvs:=λp u=>by
  unfold ji stK uZ;rw[wF q,J2,<-K9];refine fY λo j=>?_;obtain⟨h,w,l,rfl,_⟩:=C o j;by_cases c1:(rd vs w).t=p/\h+(rd vs w).h<=u<;>by_cases c2:(rd vs w).s=p/\h<=u;all_goals simp only[trK,inK,ouK,c1,c2,decide_true,decide_false,if_true,if_false]
  all_goals simp
 refine⟨pl,e,by rw[q.length_eq,en],λx A=>?_,λx A=>?_,?_,λx A=>?_,λx A=>?_,λp h1 u=>?_,λp h1 G u O=>?_⟩;.obtain⟨h,w,l,rfl,_,_,z,_,y⟩:=mem x A;exact⟨z,y⟩
 .obtain⟨h,w,l,rfl,f,_⟩:=mem x A;exact⟨f.1,f.2.1,f.2.2.1,f.2.2.2⟩
 . rw[jJ];have U:(kvs.map trK).Pairwise neT:=by rw[k_];have:=t.ok.nd;unfold List.Nodup at this;rw[k_]at this;refine List.Pairwise.imp_of_mem (λ{a b}W X z=>?_) this;obtain⟨h,w,l,rfl,_⟩:=C a W;obtain⟨h',N,Y,rfl,_⟩:=C b X;intro y;apply z;show[h,w]=[h',N];rw[show h=h' from y.1,show w=N from y.2]
   have H:pl.Pairwise neT:=(q.pairwise_iff (λ{a b}h=>by unfold neT at*;lia)).mpr U;have I:pl.Pairwise λa b=>lU a.k b.k=ck:=by rw[e,k_]at hs;exact hs
   refine(I.and H).imp λ{a b}⟨h1,G⟩=>?_;simp[lU,bT,Tr.k,gB,bH]at h1;unfold neT at G;unfold Rv;lia
 .obtain⟨h,w,l,rfl,_,_,_,z,_⟩:=mem x A;exact z
 .obtain⟨h,w,l,rfl,_,z,_⟩:=mem x A;exact z
 .rw[st];have:=t.pos p h1 u;simpa[sm]using this
 .rw[st];have:=t.fin p h1 G u O;simpa[sm]using this
theorem dq{A:Type}{one:Bool}{a:P}(J:List Sl->Prop)(e g:A->D){Q:List D->List Sl->Prop}{l:List A}(j:J ρ)(h:∀p∈l,∀ρ,J ρ->∃f,cF ρ is one (e p)=aD f/\(ev c a f).sat λr u=>r.d=g p/\J u)(k:∀ρ,J ρ->Q (l.map g) ρ):(lH c is one b_ a (l.map e) ρ).sat Q:=by
 suffices hh:∀(l:List A)(o:List D)(ρ:List Sl),J ρ->(∀p∈l,∀ρ,J ρ->∃f,cF ρ is one (e p)=aD f/\(ev c a f).sat λr u=>r.d=g p/\J u)->(turns is one (lr c b_) (ev c a) (l.map e) o ρ).sat λxs ρ=>J ρ/\xs=o++l.map g from(hh l [] ρ j h).imp λxs ρ⟨C,q2⟩=>by rw[q2];exact k ρ C
 intro l;induction l with|nil=>intro o ρ j _;exact⟨j,by simp⟩|cons p l E=>intro o ρ j h;obtain⟨f,G,h1⟩:=h p (by simp) ρ j;rw[eK];show(match cF ρ is one (e p)with|none=>Res.stuck|some ρ=>(lr c b_ ρ).bind λ(b:Bool)(ρ:List Sl)=>if b=ck then(ev c a ρ).bind λ(x:R)(ρ:List Sl)=>turns is one (lr c b_) (ev c a) (l.map e) (o++[x.d]) ρ else turns is one (lr c b_) (ev c a) (l.map e) o ρ).sat _;rw[G];show((lr c b_ f).bind _).sat _;rw[lr];show((ev c a f).bind _).sat _;rw[aV];refine h1.imp λr u⟨H,j3⟩=>?_;rw[H];exact(E (o++[g p]) u j3 λq I=>h q (by simp[I])).imp λxs ρ⟨C,q2⟩=>⟨C,by rw[q2];simp⟩
@[simp]theorem acx{c:Call}{x:Nat}{ks:List P}{d:P}{ρ:List Sl}:ev c (.CK x ks d) ρ=match ρ[x]?with
 |some (.eG _)=>(evs c ks ρ).bind λa ρ=>(cT (isVar d) (ev c d) ρ).bind λb ρ=>match ρ[x]?with|some (.eG m)=>lift ((m.yW a).bind λo=>(gD b).map λv=>.val (.int (o.getD v))) ρ|_=>.stuck
 |_=>.stuck:=(rfl)
theorem Vu{ks:List P}:ev c (.RW x ks) ρ=(lift (pk ρ x) ρ).bind λ_ ρ=>(evs c ks ρ).bind λa ρ=>(lift (pk ρ x) ρ).bind λb ρ=>lift (Ft b a) ρ:=(rfl)
theorem Zm:ev c (.vw x) ρ=match ρ[x]?with|some (.eG m)=>.ok (.val (.dD m)) (ρ.set x (.val a_ (.dD m)))|some (.vp kvs)=>.ok (.val (.dv (kvs.map (·.1)) (kvs.map (·.2)))) (ρ.set x (.val a_ (.dv (kvs.map (·.1)) (kvs.map (·.2)))))|some (.own b ds)=>.ok (.val (.lst ds)) (ρ.set x (.val b (.lst ds)))|some (.val _ d)=>.ok (.val d) ρ|_=>.stuck:=(rfl)
theorem yE:ex c n (.xm x ck) ρ=match ρ[x]?with|some .aN=>.ok .next (ρ.set x (.eG (.t [])))|_=>.stuck:=(rfl)
theorem xO{ks:List P}{e:P}:ex c n (.tM x ks e) ρ=(ev c e ρ).bind λr ρ=>match ρ[x]?with
 |some (.eG _)=>(evs c ks ρ).bind λa ρ=>match ρ[x]?,r with
   |some (.eG m),.val (.int v)=>match m.NZ a v with|some b=>.ok .next (ρ.set x (.eG b))|none=>.stuck
   |_,_=>.stuck
 |_=>.stuck:=(rfl)
@[simp]theorem V1{x:Nat}{ks:List P}{d:P}:isVar (.CK x ks d)=b_:=rfl
@[simp]theorem W7{x:Nat}{ks:List P}:isVar (.RW x ks)=b_:=rfl
@[simp]theorem aaD{x:Nat}:isVar (.vw x)=b_:=rfl
@[simp]theorem Qw{kvs:List (List Int×Int)}{a b:Int}:Dc.yW (.t kvs) [.int a,.int b]=aD ((kvs.find? λe=>decide (e.1=[a,b])).map (·.2)):=rfl
theorem Jh{a b:Int}(h:kvs.length<lim):Dc.NZ (.t kvs) [.int a,.int b] v=aD (.t (putD kvs [a,b] v)):=by show(if _ then _ else _)=_;rw[if_pos ⟨rfl,h⟩];rfl
theorem yJ{k:List Int}:∀{r:List (List Int×Int)},k∈r.map (·.1)->(r.find? λg=>decide (g.1=k)).map (·.2)=aD (gv r k)
 |[],h=>by simp at h|(a,b)::r,h=>by
   by_cases e:a=k;.simp[gv,e]
   .simp at h;have f:=yJ (k:=k) (r:=r) (by rcases h with h|h;exact absurd h.symm e;simpa using h);simp[gv,e]at f ⊢;exact f
theorem Nu(h:kvs.length<=60):blt .lkT [.dD (.t kvs)]=aD (.own (kvs.map λp=>.tup (p.1.map D.int))):=by show(if _ then _ else _)=_;rw[if_pos (by lia)]
theorem JF{vs:List aZ}{T:Int}(h:kvs.length<=60)(t:sU vs T kvs):blt .sorted [.lst (kvs.map λp=>.tup (p.1.map D.int))]=aD (.own (lu (kvs.map λp=>.tup (p.1.map D.int)))):=by show(if _ then _ else _)=_;rw[if_pos];have h:=(show kvs.length<=63 by lia);simp only[sortable,en,h,decide_true,Bool.true_and,li];right;rw[eL];intro d hd;obtain⟨p,f,rfl⟩:=ey.mp hd;obtain⟨a,b,e,_⟩:=t.fit p.1 (ey.mpr ⟨p,f,rfl⟩);rw[e];rfl
theorem Ox(h:kvs.length<=60):(lu (kvs.map λp=>D.tup (p.1.map D.int))).length<=lim:=by rw[(jF _).length_eq,en];show _<=16777216;lia
theorem Bs{l:List Sl}{i a b:Nat}{vs:List aZ}{T:Int}{Q:List D->List Sl->Prop}{pl:List Tr}(t:Xf vs m T B kvs pl)(hi:(l++[Sl.aN,Sl.aN])[i]?=aD (.val a_ (.dD (.t kvs))))(N:a=l.length)(O:b=l.length+1)(q:∀(s u:Sl),Q (pl.map Tr.d) (l++[s,u])):(lH c [a,b] a_ b_ (.tup [.var a,.var b,.RW i [.var a,.var b]]) (lu (kvs.map λp=>.tup (p.1.map D.int))) (l++[.aN,.aN])).sat Q:=by
 subst N O;have f:i<l.length:=by
  have:=(gC hi).1;simp at this;rcases tm i l.length with z|z;.exact z
  . rw[eW z]at hi;have:i-l.length=0\/i-l.length=1:=by lia
    rcases this with z|z<;>(rw[z]at hi;cases hi)
 have j:l[i]?=aD (.val a_ (.dD (.t kvs))):=by rw[ei f]at hi;exact hi
 have A:∀{s u:Sl},(l++[s,u])[l.length]?=aD s:=λ{s u}=>by simp
 have C:∀{s u:Sl},(l++[s,u])[l.length+1]?=aD u:=λ{s u}=>by rw[eW (by lia)];simp
 have U:∀{s u:Sl},(l++[s,u])[i]?=aD (.val a_ (.dD (.t kvs))):=λ{s u}=>by rw[ei f];exact j
 rw[t.e];refine dq (λρ=>∃s u,ρ=l++[s,u]/\fr s=ck/\fr u=ck) Tr.k Tr.d ⟨_,_,rfl,rfl,rfl⟩ ?_ ?_
 . rintro x W _⟨s,u,rfl,hs,E⟩;obtain⟨g,G⟩:=t.val x W;obtain⟨h,w,lo⟩:=x;simp only at g G;refine⟨l++[.val a_ (.int h),.val a_ (.int w)],?_,?_⟩
   . show putAll _ _ _=_;rw[iB,v7,A];simp only[hs,if_true];show putAll ((l++[s,u]).set l.length _) _ _=_;have X:(l++[s,u]).set l.length (.val a_ (.int h))=l++[.val a_ (.int h),u]:=by rw[qB _ _ (di)];simp
     rw[X,iB,v7,C];simp only[E,if_true];show putAll ((l++[_,u]).set (l.length+1) _) _ _=_;rw[qB _ _ (by lia),BZ];simp
   . have H:pk (l++[Sl.val a_ (.int h),Sl.val a_ (.int w)]) i=aD (.dD (.t kvs)):=by unfold pk;rw[U]
     have I:ev c (.var l.length) (l++[Sl.val a_ (.int h),Sl.val a_ (.int w)])=.ok (.val (.int h)) (l++[Sl.val a_ (.int h),Sl.val a_ (.int w)]):=by rw[RG,A]
     have J:ev c (.var (l.length+1)) (l++[Sl.val a_ (.int h),Sl.val a_ (.int w)])=.ok (.val (.int w)) (l++[Sl.val a_ (.int h),Sl.val a_ (.int w)]):=by rw[RG,C]
     have Y:Ft (.dD (.t kvs)) [.int h,.int w]=aD (.val (.int (gv kvs [h,w]))):=by show((Dc.t kvs).yW [.int h,.int w]).bind (λo=>o.map λv=>R.val (.int v))=_;rw[Qw,yJ G];rfl
     have Z:ev c (.RW i [.var l.length,.var (l.length+1)]) (l++[Sl.val a_ (.int h),Sl.val a_ (.int w)])=.ok (.val (.int (gv kvs [h,w]))) (l++[Sl.val a_ (.int h),Sl.val a_ (.int w)]):=by rw[Vu,H];simp only[DG,Rr,vY,pD,I,J,H,R.d,Y]
     rw[UJ];simp only[vY,pD,I,J,Z,Rr,R.d];exact⟨by rw[g];rfl,_,_,rfl,rfl,rfl⟩
 .rintro _⟨s,u,rfl,hs,E⟩;exact q s u
inductive JF2(y m B:Int)(vs:List aZ)(T v:Int)(b:Nat)(a1 a2 a3 a5:Sl)(r:List D)(ρ:List Sl):Prop where|mk(x z:Int)(kvs:List (List Int×Int))(ps:List (Int×Int))(s7 s8:Sl)(q0:ρ=[.own ck [.int x,.int y,.int z],a1,a2,a3,.eG (.t kvs),a5,.val a_ (.int v),s7,s8])(q1:(fr s7=ck/\fr s8=ck))(q2:r=ps.map rF)(q3:(1<=v/\v<=100000000))(q4:zX vs m T v B ps kvs)(q5:kvs.length+ps.length<=b)
inductive JF1(y m:Int)(vs:List aZ)(T:Int)(a1 a2 a3:Sl)(i:Nat)(ρ:List Sl):Prop where|mk(x z:Int)(kvs:List (List Int×Int))(s5 s6 s7 s8:Sl)(q0:ρ=[.own ck [.int x,.int y,.int z],a1,a2,a3,.eG (.t kvs),s5,s6,s7,s8])(q1:A4 (fr s5=ck) (fr s6=ck) (fr s7=ck) (fr s8=ck))(q2:(∃B:Int,B<=100000000*(i:Int)/\zX vs m T 0 B [] kvs))(q3:kvs.length<=8*i)
theorem Ih{x T:Int}{vs:List aZ}(H:vs.length<=12)(t0:0<=T)(t1:T<=12)(hv:∀v∈vs,v.Ok m)(m0:2<=m)(k:∀(kvs:List (List Int×Int))(pl:List Tr)(x z:Int),Xf vs m T 600000000 kvs pl->pl.length<=48->Q (.own (pl.map Tr.d)) [.own ck [.int x,.int y,.int z],.val a_ (.int m),.val a_ (.int T),.own ck (vs.map aZ.d)]):(run Γ w (n+3) 30 [.own ck [.int x,.int y,.int z],.val a_ (.int m),.val a_ (.int T),.own ck (vs.map aZ.d)]).sat Q:=by
 refine aQ (d:=f30) rfl rfl (by decide) ?_;symm;simp[f30,yE];apply ak;simp;refine bh (by decide) (by decide) λd x z d0 d1=>?_;simp[show d<=1000000000 by lia,show-1000000000<=d by lia];refine fc (JF1 y m vs T _ _ _) ?_ ?_ ⟨x,z,[],.aN,.aN,.aN,.aN,rfl,⟨rfl,rfl,rfl,rfl⟩,⟨0,by simp,zX.nil⟩,by simp⟩
 . rintro i _ hi⟨x,z,kvs,s5,s6,s7,s8,rfl,⟨I,J,A,C⟩,⟨B,hB,j⟩,g⟩;simp[I];apply ak;simp;refine bh (by decide) (by decide) λa x z a0 Y=>?_;simp;refine qU (by decide) λb x z b0 b1=>?_;simp;refine bh (by decide) (by decide) λe x z N O=>?_;obtain⟨v,he,U,W⟩:=vh (ns:=[1,1,2,1+a,1+b]) (i:=e) (lo:=1) (hi:=100000000) N (by simpa using O) (by simp;lia);simp only[eK,mS]at he;simp[he,J];apply ak;simp;refine GR m0 (.inl ⟨_,rfl⟩) H t0 t1 hv λps x z o hpl=>?_;simp;refine dJ (JF2 y m B vs T v (8*(i+1)) _ _ _ _) ?_ ?_ ⟨x,z,kvs,ps,s7,s8,rfl,⟨A,C⟩,rfl,⟨U,W⟩,j.begin o (by lia),by lia⟩;.rintro d r _⟨x,z,kvs,ps,s7,s8,rfl,⟨A,C⟩,hr,o,j,g⟩;cases ps with|nil=>cases hr|cons p ps=>
       obtain⟨rfl,rfl⟩:d=rF p/\r=ps.map rF:=by simpa using hr
       simp at g;have E:kvs.length<lim:=by show _<16777216;lia
       simp[rF,A,C];apply ak;simp[xO,Jh E];have X:=j.put o.1;have Z:=(jf (k:=[p.1,p.2]) (v:=gv kvs [p.1,p.2]+v) j.ok.nd).2.1;exact⟨x,z,_,ps,_,_,rfl,⟨rfl,rfl⟩,rfl,o,X,by show(putD kvs [p.1,p.2] (gv kvs [p.1,p.2]+v)).length+_<=_;lia⟩
   . rintro _⟨x,z,kvs,ps,s7,s8,rfl,⟨A,C⟩,hr,o,j,g⟩;obtain rfl:ps=[]:=by cases ps with|nil=>rfl|cons a l=>cases hr
     simp;exact⟨x,z,kvs,_,_,_,_,rfl,⟨rfl,rfl,A,C⟩,⟨B+v,by have:=o.2;lia,j.done (by have:=o.1;lia)⟩,by simp at g;lia⟩
 . rintro _⟨x,z,kvs,s5,s6,s7,s8,rfl,_,⟨B,hB,j⟩,g⟩;have q:kvs.length<=60:=by lia
   obtain⟨pl,f⟩:=j.aeU;symm;simp[Zm,Nu q,JF q j.ok];refine⟨λ_=>?_,Ox q⟩;refine Bs (l:=[.own ck [.int x,.int y,.int z],.val a_ (.int m),.val a_ (.int T),.own ck (vs.map aZ.d),.val a_ (.dD (.t kvs)),s5,s6,s7,s8]) (i:=4) f rfl rfl rfl λs u=>?_;exact k kvs pl x z ⟨f.e,f.len,f.val,f.fit,f.QW,λx G=>⟨(f.one x G).1,by have:=(f.one x G).2;lia⟩,f.cl,f.pos,f.fin⟩ (by have:=f.len;lia)
inductive Zp{α β:Type}(R:α->β->Prop):List α->List β->Prop|nil:Zp R [] []|cons{a:α}{b:β}{l:List α}{k:List β}:R a b->Zp R l k->Zp R (a::l) (b::k)
theorem Zp.len{a b:Type}{R:a->b->Prop}{l:List a}{k:List b}(h:Zp R l k):k.length=l.length:=by induction h with|nil=>rfl|cons _ _ e=>simp[e]
theorem Zp.get{f g:Type}{R:f->g->Prop}{l:List f}{k:List g}(h:Zp R l k):∀{i:Nat}{a:f},l[i]?=aD a->∃b,k[i]?=aD b/\R a b:=by induction h with|nil=>intro i a e;simp at e|cons r _ j=>intro i a e;cases i with|zero=>simp at e;subst e;exact⟨_,by simp,r⟩|succ i=>simp at e;obtain⟨b,o,q⟩:=j e;exact⟨b,by simpa using o,q⟩
theorem Zp.ints{b:Type}{P:b->Int->Prop}{l:List b}{xs:List D}(h:Zp (λa d=>∃i:Int,d=D.int i/\P a i) l xs):∃is:List Int,xs=is.map D.int/\Zp P l is:=by induction h with|nil=>exact⟨[],rfl,.nil⟩|cons r _ e=>obtain⟨i,rfl,p⟩:=r;obtain⟨is,rfl,z⟩:=e;exact⟨i::is,rfl,.cons p z⟩
theorem uz{u:Type}{one:Bool}{a:P}(J:List Sl->Prop)(e:u->D)(A:u->D->Prop){Q:List D->List Sl->Prop}{l:List u}(j:J ρ)(h:∀p∈l,∀ρ,J ρ->∃f,cF ρ is one (e p)=aD f/\(ev c a f).sat λr o=>A p r.d/\J o)(k:∀xs ρ,J ρ->Zp A l xs->Q xs ρ):(lH c is one b_ a (l.map e) ρ).sat Q:=by
 suffices hh:∀(l:List u)(g:List D)(ρ:List Sl),J ρ->(∀p∈l,∀ρ,J ρ->∃f,cF ρ is one (e p)=aD f/\(ev c a f).sat λr o=>A p r.d/\J o)->(turns is one (lr c b_) (ev c a) (l.map e) g ρ).sat λxs ρ=>J ρ/\∃ys,xs=g++ys/\Zp A l ys from(hh l [] ρ j h).imp λxs ρ⟨C,ys,q2,q3⟩=>by rw[q2];exact k ys ρ C q3
 intro l;induction l with|nil=>intro g ρ j _;exact⟨j,[],by simp,.nil⟩|cons p l E=>intro g ρ j h;obtain⟨f,G,h1⟩:=h p (by simp) ρ j;rw[eK];show(match cF ρ is one (e p)with|none=>Res.stuck|some ρ=>(lr c b_ ρ).bind λ(b:Bool)(ρ:List Sl)=>if b=ck then(ev c a ρ).bind λ(x:R)(ρ:List Sl)=>turns is one (lr c b_) (ev c a) (l.map e) (g++[x.d]) ρ else turns is one (lr c b_) (ev c a) (l.map e) g ρ).sat _;rw[G];show((lr c b_ f).bind _).sat _;rw[lr];show((ev c a f).bind _).sat _;rw[aV];refine h1.imp λr o⟨H,j3⟩=>?_;exact(E (g++[r.d]) o j3 λq I=>h q (by simp[I])).imp λxs ρ⟨C,ys,q2,q3⟩=>⟨C,r.d::ys,by rw[q2];simp,.cons H q3⟩
theorem DR{k:List Int}{v:Int}:∀{r:List (List Int×Int)},(r.map (·.1)).Nodup->gv (putD r k v) k=v
 |[],_=>by simp[putD,gv]|(a,b)::r,n=>by
   simp only[eK,hX]at n;rw[pR n.1];split;.rename_i e;rw[dN,if_pos e]
   .rename_i e;rw[dN,if_neg e,DR n.2]
noncomputable def cZ(r:List Int):D:=.tup (r.map D.int)
theorem intsOf:∀{xs:List D},(∀x∈xs,∃i,x=D.int i)->∃a:List Int,xs=a.map D.int|[],_=>⟨[],rfl⟩|x::xs,h=>by obtain⟨v,rfl⟩:=h x (by simp);obtain⟨ws,rfl⟩:=intsOf (xs:=xs) λy b=>h y (by simp[b]);exact⟨v::ws,rfl⟩
inductive JU(vs:List aZ)(T:Int)(pl:List Tr)(a0 a1 a2 a3 a4:Sl)(tl:List Sl)(r:List D)(ρ:List Sl):Prop where|mk(kvs:List (List Int×Int))(done rest:List Tr)(s6 s7 s8:Sl)(q0:ρ=a0::a1::a2::a3::a4::.eG (.t kvs)::s6::s7::s8::tl)(q1:A3 (fr s6=ck) (fr s7=ck) (fr s8=ck))(q2:r=rest.map Tr.d)(q3:(∀x∈rest,eY vs T x))(q4:(pl=done++rest/\∀x∈done,gv kvs [x.h,x.w]=x.l))(q5:sU vs T kvs)(q6:kvs.length+rest.length<=100)
theorem G4{vs:List aZ}{T:Int}{E G H I:Sl}{J:List Sl}{pl:List Tr}{Q:Fl->List Sl->Prop}(o:∀x∈pl,eY vs T x)(u:pl.Pairwise neT)(Y:pl.length<=100)(q:∀(kvs:List (List Int×Int))(s6 s7 s8:Sl),(fr s6=ck/\fr s7=ck/\fr s8=ck)->sU vs T kvs->(∀x∈pl,gv kvs [x.h,x.w]=x.l)->kvs.length<=100->Q .next (a0::E::G::H::I::.eG (.t kvs)::s6::s7::s8::J)):(ju [6,7,8] a_ (jC c w [.tM 5 [.var 6,.var 7] (.var 8)]) (pl.map Tr.d) (a0::E::G::H::I::.eG (.t [])::.aN::.aN::.aN::J)).sat Q:=by
 refine dJ (JU vs T pl a0 E G H I J) ?_ ?_ ⟨[],[],pl,.aN,.aN,.aN,rfl,⟨rfl,rfl,rfl⟩,rfl,o,⟨rfl,by simp⟩,sU.nil,by simpa using Y⟩;.rintro d r _⟨kvs,done,b,s6,s7,s8,rfl,⟨N,O,U⟩,hr,o,⟨g,j⟩,A,W⟩;cases b with|nil=>cases hr|cons x b=>
     obtain⟨rfl,rfl⟩:d=x.d/\r=b.map Tr.d:=by simpa using hr
     simp at W;have C:kvs.length<lim:=by show _<16777216;lia
     simp[Tr.d,N,O,U];apply ak;simp[xO,Jh C];have f:=o x (by simp);obtain⟨Z,q2⟩:=A.put (v:=x.l) (h:=x.h) (w:=x.w) ⟨f.h0,f.w0,f.w1,f.o1⟩;refine⟨_,done++[x],b,_,_,_,rfl,⟨rfl,rfl,rfl⟩,rfl,λy hy=>o y (by simp[hy]),⟨by rw[g];simp,λy hy=>?_⟩,Z,by lia⟩;rcases gl.mp hy with hy|hy
     . rw[wX (λe=>?_) A.nd];.exact j y hy
       .rw[g,List.pairwise_append]at u;have:=u.2.2 y hy x (by simp);unfold neT at this;simp at e;exact this e
     .rw[f_.mp hy];exact DR A.nd
 . rintro _⟨kvs,done,b,s6,s7,s8,rfl,⟨N,O,U⟩,hr,o,⟨g,j⟩,A,W⟩;obtain rfl:b=[]:=by cases b with|nil=>rfl|cons a l=>cases hr
   exact q kvs s6 s7 s8 ⟨N,O,U⟩ A (λx X=>j x (by rw[g]at X;simpa using X)) (by lia)
structure fV(m T:Int)(vs:List aZ)(rooms:List (List Int)):Prop where
 m0:2<=m
 m1:m<=6
 t0:0<=T
 t1:T<=12
 vl:vs.length<=12
 hv:∀v∈vs,v.Ok m
 rl:rooms.length=vs.length
 ro:∀r∈rooms,(r.length:Int)=T+1
theorem Z1{f:Int->Int}{lo hi:Option Int}:∃is:List Int,cut (cg L f) lo hi=is.map D.int/\is.length<=L:=by
 refine⟨cut ((ej L).map λ(t:Nat)=>f (t:Int)) lo hi,?_,?_⟩
 . have:cg L f=((ej L).map λ(t:Nat)=>f (t:Int)).map D.int:=by unfold cg;rw[eC];rfl
   rw[this];simp[cut,List.map_take,List.map_drop]
 .simp[cut];lia
theorem oZ:blt .int [.bl ck]=aD (.val (.int 1)):=rfl
theorem n6:blt .int [.bl a_]=aD (.val (.int 0)):=rfl
noncomputable def rm(rooms:List (List Int))(w h:Int):Int:=((rooms[w.toNat]?.getD [])[h.toNat]?).getD 0
noncomputable def wD:Option (List Int)->D|none=>.non|some r=>cZ r
noncomputable def Ca(vs:List aZ)(pl:List Tr)(T:Int)(p:Nat)(o:Option (List Int)):Prop:=∀r,o=aD r->(r.length:Int)=T/\∀j:Nat,(j:Int)<T->ji vs pl (p:Int) (j:Int)<=(r[j]?).getD 0
theorem Qm{T:Int}{f:Int->Int}(t0:0<=T):cut (cg (T+1).toNat f) b_ (aD T)=((ej T.toNat).map λ(j:Nat)=>f (j:Int)).map D.int:=by
 have e:cut (cg (T+1).toNat f) b_ (aD T)=(cg (T+1).toNat f).take T.toNat:=by have g:(cg (T+1).toNat f).length=(T+1).toNat:=sV;simp[cut,dY,g,t0]
 rw[e];refine kc (by simp;lia) λi a b=>?_;simp[cg]
theorem LR(h:2<=M):cut ((mat M L F).map D.lst) (aD 1) (aD (-1))=(ej (M-2)).map λ(k:Nat)=>D.lst (cg L (F ((k:Int)+1))):=by
 have f:((mat M L F).map D.lst).length=M:=by simp
 have e:cut ((mat M L F).map D.lst) (aD 1) (aD (-1))=(((mat M L F).map D.lst).drop 1).take (M-2):=by show((mat M L F).map D.lst|>.drop (min 1 _)).take ((-1+(((mat M L F).map D.lst).length:Int)).toNat-min 1 _)=_;rw[f,show min 1 M=1 by lia,show(-1+(M:Int)).toNat-1=M-2 by lia]
 rw[e];refine kc (by simp;lia) λi a b=>?_;simp[mat]
inductive Jy(y:Int)(l:List Sl)(ρ:List Sl):Prop where|mk(x z:Int)(s:Sl)(q0:ρ=.own ck [.int x,.int y,.int z]::(l++[s]))(q1:fr s=ck)
inductive JRm(y T:Int)(vs:List aZ)(pl:List Tr)(a1 a2 a3 a4 a5 a6 s8 jM jD s12:Sl)(i:Nat)(ρ:List Sl):Prop where|mk(x z:Int)(rooms:List (List Int))(s7:Sl)(q0:ρ=[.own ck [.int x,.int y,.int z],a1,a2,a3,a4,a5,a6,s7,s8,.own a_ (rooms.map cZ),jM,jD,s12])(q1:fr s7=ck)(q2:rooms.length=i)(q3:(∀x∈pl,x.w<(rooms.length:Int)->x.l<=rm rooms x.w x.h))(q4:∀r∈rooms,(r.length:Int)=T+1)
inductive JWt(y T:Int)(M:Nat)(vs:List aZ)(pl:List Tr)(a1 a2 a3 a4 a5 a6 a7 a8 a9:Sl)(r:List D)(ρ:List Sl):Prop where|mk(x z:Int)(ws:List (Option (List Int)))(jD s12:Sl)(q0:ρ=[.own ck [.int x,.int y,.int z],a1,a2,a3,a4,a5,a6,a7,a8,a9,.own a_ (ws.map wD),jD,s12])(q1:(fr jD=ck/\fr s12=ck))(q2:1<=ws.length)(q3:ws.length+r.length=M-1)(q4:r=((ej (M-2)).drop (ws.length-1)).map (λ(k:Nat)=>D.lst (cg (T+1).toNat (ji vs pl ((k:Int)+1)))))(q5:(∀p o,ws[p]?=aD o->Ca vs pl T p o))(q6:ws[0]?=aD b_)
inductive Jyy(y:Int)(l:List Sl)(ρ:List Sl):Prop where|mk(x z:Int)(s u:Sl)(q0:ρ=.own ck [.int x,.int y,.int z]::(l++[s,u]))(q1:fr s=ck)(q2:fr u=ck)
theorem Ke{x:Int}(k:∀(m T:Int)(vs:List aZ)(rooms:List (List Int))(wt:List (Option (List Int)))(I:List (List Int×Int))(pl:List Tr)(x z:Int),fV m T vs rooms->Xf vs m T 600000000 I pl->pl.length<=48->(∀x∈pl,x.l<=rm rooms x.w x.h)->(wt.length:Int)=m->(∀p o,wt[p]?=aD o->Ca vs pl T p o)->wt[0]?=aD b_->Q (.val (.tup [.tup [.int m,.int T,.tup (vs.map aZ.d),.tup (rooms.map cZ),.tup (wt.map wD)],.lst (pl.map Tr.d)])) [.own ck [.int x,.int y,.int z]]):(run Γ w (n+4) 32 [.own ck [.int x,.int y,.int z]]).sat Q:=by
 refine aQ (d:=f32) rfl rfl (by decide) ?_;refine aU (l:=Gj) (k:=0) rfl ?_;simp[f32];refine bh (by decide) (by decide) λa x z a0 a1=>?_;simp;obtain⟨m,hm,m0,m1⟩:∃m,m=2+a/\2<=m/\m<=6:=⟨_,rfl,by lia,by lia⟩;rw[<-hm];refine aU (l:=Gj) (k:=1) rfl ?_;simp;refine bh (by decide) (by decide) λb x z b0 b1=>?_;simp;refine bh (by decide) (by decide) λc x z c0 c1=>?_;simp;refine bh (by decide) (by decide) λe x z U g=>?_;obtain⟨T,he,t0,t1⟩:=vh (ns:=[b,4+c,12]) (i:=e) (lo:=0) (hi:=12) U (by simpa using g) (by simp;lia);simp only[eK,mS]at he;simp[he];refine aU (l:=Gj) (k:=2) rfl ?_;simp;refine FN m0 m1 λvs x z hv X=>?_;simp;refine aU (l:=Gj) (k:=3) rfl ?_;simp;refine Ih X t0 t1 hv m0 λI pl x z hP hpl=>?_;have W:=hP.fit;have af:pl.Pairwise neT:=(jJ.mp hP.QW).imp λh=>by unfold Rv at h;unfold neT;lia
 simp;refine aU (l:=Gj) (k:=4) rfl ?_;simp[yE];refine aU (l:=Gj) (k:=5) rfl ?_;simp;refine G4 (vs:=vs) (T:=T) W af (by lia) λkvs s6 s7 s8 hs ht hg hk=>?_;obtain⟨h6,h7,h8⟩:=hs;simp;refine aU (l:=Gj) (k:=6) rfl ?_;simp;refine aU (l:=Gj) (k:=7) rfl ?_;simp[show(vs.length:Int)<=1000000000 by lia];have ag:T+1<=1000000000:=by lia
 have ah:-1000000000<=T+1:=by lia
 have ai:(T+1).toNat<=lim:=by show _<=16777216;lia
 refine fc (JRm y T vs pl _ _ _ _ _ s6 s8 _ _ _) ?_ ?_ ⟨x,z,[],s7,rfl,h7,rfl,λx Y hw=>absurd (W x Y).w0 (by simp at hw;lia),by simp⟩
 . rintro i _ hi⟨x,z,rooms,s7,rfl,h7,A,J,N⟩;simp[h7];apply ak;simp[ag,ah,ai];refine uz (Jy y [.val a_ (.int m),.val a_ (.int T),.own a_ (vs.map aZ.d),.own a_ (pl.map Tr.d),.eG (.t kvs),s6,.val a_ (.int i),s8,.own a_ (rooms.map cZ),.aN,.aN,.aN]) (λ(j:Nat)=>D.int (j:Int)) (λ(j:Nat)d=>∃v:Int,d=D.int v/\(gv kvs [(j:Int),(i:Int)]<=1000000000->gv kvs [(j:Int),(i:Int)]<=v)) ⟨x,z,.aN,rfl,rfl⟩ ?_ ?_;.rintro j _ _⟨x,z,s,rfl,hs⟩;simp[hs];refine bh (by decide) (by decide) λa x z a0 a1=>?_;simp;refine qU (by decide) λb x z b0 b1=>?_;simp;refine bh (by decide) (by decide) λe x z U g=>?_;obtain⟨v,he,v0,_⟩:=vh (ns:=[0,0,1,a,b]) (i:=e) (lo:=0) (hi:=1000000000) U (by simpa using g) (by simp;lia);simp only[eK,mS]at he;simp[he];refine⟨λaI=>?_,x,z,_,rfl,rfl⟩;have eg:gv kvs [(j:Int),(i:Int)]=(map (λx=>x.snd) (find? (λkv=>decide (kv.fst=[(j:Int),(i:Int)])) kvs)).getD 0:=rfl;rw[<-eg];split<;>lia
   . rintro xs _⟨x,z,s,rfl,hs⟩Y;obtain⟨is,rfl,G⟩:=Y.ints;have hl:=G.len;simp at hl;simp[show rooms.length<lim by show _<16777216;lia];refine⟨x,z,rooms++[is],_,by rw[kM];rfl,rfl,by simp[A],λy O am=>?_,λr hr=>?_⟩
     . have f:=W y O;have f0:=f.w0;by_cases c:y.w<(rooms.length:Int);.have:=J y O c;unfold rm at this ⊢;rw[ei (by lia)];exact this
       . simp at am;have ew:y.w=(i:Int):=by lia
         unfold rm;rw[eW (by lia),show y.w.toNat-rooms.length=0 by lia];have hh:=(hv _ (gQ f.w0 f.w1).2).h0;have ho:=f.o1;have h0:=f.h0;obtain⟨v,g,e2⟩:=G.get (i:=y.h.toNat) (a:=y.h.toNat) (by rw[mf (by lia)]);have eh:((y.h.toNat:Nat):Int)=y.h:=by lia
         rw[eh,<-ew,hg y O]at e2;simp[g];exact e2 (by have:=(hP.one y O).2;lia)
     rcases gl.mp hr with hr|hr;.exact N r hr
     .rw[f_.mp hr];lia
 . rintro _⟨x,z,rooms,s7,rfl,h7,A,J,N⟩;simp;refine aU (l:=Gj) (k:=8) rfl ?_;simp;refine aU (l:=Gj) (k:=9) rfl ?_;simp;refine Br (.inl ⟨_,rfl⟩) (.inl ⟨_,rfl⟩) m0 m1 t0 t1 hv W ?_;simp[Wx,Gn,part,vD];rw[LR (by lia)];refine dJ (JWt y T m.toNat vs pl _ _ _ _ _ _ _ _ _) ?_ ?_ ⟨x,z,[b_],.aN,.aN,rfl,⟨rfl,rfl⟩,by simp,by simp;lia,by simp,λp o e=>?_,by simp⟩
   . rintro d r _⟨x,z,ws,jD,s12,rfl,⟨Z,ab⟩,w1,C,hr,hW,E⟩;have hi:ws.length-1<m.toNat-2:=by simp only[ia]at C;lia
     rw[hR (by simpa using hi),eK]at hr;obtain⟨ap,ac⟩:=lS hr;subst ap;have ar:((ej (m.toNat-2))[ws.length-1]'(by simpa using hi))=ws.length-1:=nv _;rw[ar,show(((ws.length-1:Nat)):Int)+1=(ws.length:Int)by lia];simp[Z];apply ak;simp[Gn,part,vD];rw[Qm t0];generalize ae:(ej T.toNat).map (λ(j:Nat)=>ji vs pl (ws.length:Int) (j:Int))=is;have av:is.length=T.toNat:=by rw[<-ae];simp
     have aw:is.length<=lim:=by show _<=16777216;lia
     symm;simp[aw];refine uz (Jy y [.val a_ (.int m),.val a_ (.int T),.own a_ (vs.map aZ.d),.val a_ (.lst (pl.map Tr.d)),.eG (.t kvs),s6,s7,s8,.own a_ (rooms.map cZ),.own a_ (ws.map wD),.lent (is.map D.int),s12]) D.int (λ_ d=>∃v:Int,d=D.int v/\0<=v) ⟨x,z,.aN,rfl,rfl⟩ ?_ ?_;.rintro d hd _⟨x,z,s,rfl,hs⟩;simp[hs];refine bh (by decide) (by decide) λa x z a0 a1=>?_;simp;refine bh (by decide) (by decide) λe x z U g=>?_;obtain⟨v,he,v0,_⟩:=vh (ns:=[0,0,1,a]) (i:=e) (lo:=0) (hi:=1000000000) U (by simpa using g) (by simp;lia);simp only[eK,mS]at he;simp[he];exact⟨v0,x,z,_,rfl,rfl⟩
     . rintro xs _⟨x,z,s,rfl,hs⟩Y;obtain⟨js,rfl,G⟩:=Y.ints;have ax:=G.len;simp[ab];apply ak;simp;refine⟨λ_=>?_,by show _<=16777216;lia⟩;have ez:((is.map D.int).zip (js.map D.int)).map (λp=>D.tup [p.1,p.2])=(is.zip js).map λp=>D.tup [.int p.1,.int p.2]:=by rw[List.zip_map,eC];rfl
       rw[ez];refine dq (Jyy y [.val a_ (.int m),.val a_ (.int T),.own a_ (vs.map aZ.d),.val a_ (.lst (pl.map Tr.d)),.eG (.t kvs),s6,s7,s8,.own a_ (rooms.map cZ),.own a_ (ws.map wD),.val a_ (.lst (is.map D.int)),.val a_ (.lst (js.map D.int))]) (λp:Int×Int=>D.tup [.int p.1,.int p.2]) (λp=>D.int (p.1+p.2)) ⟨x,z,.aN,.aN,rfl,rfl,rfl⟩ ?_ ?_;.rintro p W _⟨x,z,s,u,rfl,hs,hu⟩;simp[hs,hu];exact⟨x,z,_,_,rfl,rfl,rfl⟩
       . rintro _⟨x,z,s,u,rfl,hs,hu⟩;have eg:(is.zip js).map (λp=>D.int (p.1+p.2))=((is.zip js).map λp=>p.1+p.2).map D.int:=by rw[eC];rfl
         rw[eg];have hok:Ca vs pl T ws.length (aD ((is.zip js).map λp=>p.1+p.2)):=λr hr=>by
          cases hr;refine⟨by simp[av,ax];lia,λj hj=>?_⟩;have g:is[j]?=aD (ji vs pl (ws.length:Int) (j:Int)):=by rw[<-ae,eI,mf (by lia)];rfl
          obtain⟨v,e2,v0⟩:=G.get g;have e3:(is.zip js)[j]?=aD (ji vs pl (ws.length:Int) (j:Int),v):=iA.mpr ⟨g,e2⟩;rw[eI,e3];simp only[fh,lZ];lia
         have ay:Ca vs pl T ws.length b_:=λr hr=>by cases hr
         generalize(is.zip js).map (λp=>p.1+p.2)=aE at*;have H:∀o,Ca vs pl T ws.length o->∀p o',(ws++[o])[p]?=aD o'->Ca vs pl T p o':=λo ho p o' e=>by
          by_cases c:p<ws.length;.rw[ei c]at e;exact hW p o' e
          . rw[eW (by lia)]at e;have:p-ws.length=0:=by cases q:p-ws.length with|zero=>rfl|succ n=>rw[q]at e;simp at e
            rw[this]at e;cases e;rw[show p=ws.length by lia];exact ho
         simp only[ia]at C;simp;refine bh (by decide) (by decide) λe x z U g=>?_;by_cases ce:0<e;.simp[ce,oZ,n6,show ws.length<lim by show _<16777216;lia];exact⟨x,z,ws++[aD aE],_,_,by rw[kM];rfl,⟨rfl,rfl⟩,by simp,by simp;lia,by rw[ac,ib];simp only[oN];rw[show ws.length+1-1=ws.length-1+1 by lia],H _ hok,by rw[ei (by lia)];exact E⟩
         .simp[ce,oZ,n6,show ws.length<lim by show _<16777216;lia];exact⟨x,z,ws++[b_],_,_,by rw[kM];rfl,⟨rfl,rfl⟩,by simp,by simp;lia,by rw[ac,ib];simp only[oN];rw[show ws.length+1-1=ws.length-1+1 by lia],H _ ay,by rw[ei (by lia)];exact E⟩
   .rintro _⟨x,z,ws,jD,s12,rfl,⟨Z,ab⟩,w1,C,hr,hW,E⟩;simp at C;simp;refine aU (l:=Gj) (k:=10) rfl ?_;simp[show ws.length<lim by show _<16777216;lia];refine aU (l:=Gj) (k:=11) rfl ?_;simp;have G:=k m T vs rooms (ws++[b_]) I pl x z ⟨m0,m1,t0,t1,X,hv,A,N⟩ hP hpl (λy O=>J y O (by rw[A];exact(W y O).w1)) (by simp;lia) (λp o e=>by
      by_cases c:p<ws.length;.rw[ei c]at e;exact hW p o e
      .rw[eW (by lia)]at e;intro r hr;subst hr;cases q:p-ws.length with|zero=>rw[q]at e;simp at e|succ n=>rw[q]at e;simp at e) (by rw[ei (by lia)];exact E);rw[kM]at G;exact G
   .cases p with|zero=>simp at e;subst e;intro r h;cases h|succ p=>simp at e
noncomputable def M6(r:List Int):Int:=(r.max?).getD 0
theorem OD(h:r≠[]):blt .HD [cZ r]=aD (.val (.int (M6 r))):=by
 have b:(r.map D.int).mapM gD=aD r:=by clear h;induction r with|nil=>rfl|cons a l e=>simp[sd,e,gD]
 obtain⟨i,hi⟩:∃i,r.max?=aD i:=by cases r with|nil=>exact absurd rfl h|cons a l=>exact⟨_,List.max?_cons'⟩
 show((aD (r.map D.int)).bind λds=>ds.mapM gD).bind (λns=>ns.max?.map λi=>R.val (.int i))=_;rw[se,b,se,hi];unfold M6;rw[hi];rfl
noncomputable def bu(m T:Int)(vs:List aZ)(rooms:List (List Int))(wd:D):D:=.tup [.int m,.int T,.tup (vs.map aZ.d),.tup (rooms.map cZ),wd]
@[simp]theorem cD0{m T:Int}{vs:List aZ}{rooms:List (List Int)}{wd:D}:pG (bu m T vs rooms wd) (.int 0)=aD (.val (.int m)):=by simp[bu]
@[simp]theorem cD1{m T:Int}{vs:List aZ}{rooms:List (List Int)}{wd:D}:pG (bu m T vs rooms wd) (.int 1)=aD (.val (.int T)):=by simp[bu]
@[simp]theorem cD2{m T:Int}{vs:List aZ}{rooms:List (List Int)}{wd:D}:pG (bu m T vs rooms wd) (.int 2)=aD (.val (.tup (vs.map aZ.d))):=by simp[bu]
@[simp]theorem cD3{m T:Int}{vs:List aZ}{rooms:List (List Int)}{wd:D}:pG (bu m T vs rooms wd) (.int 3)=aD (.val (.tup (rooms.map cZ))):=by simp[bu]
noncomputable def jw(vs:List aZ)(rooms:List (List Int)):List Wy:=(vs.zip rooms).map λp=>⟨p.1.s,p.1.t,M6 p.2,p.1.h⟩
theorem Ua{vs:List aZ}:((vs.map aZ.d).zip (rooms.map cZ)).map (λp=>D.tup [p.1,p.2])=(vs.zip rooms).map λp=>D.tup [p.1.d,cZ p.2]:=by rw[List.zip_map,eC];rfl
inductive Jxx(l:List Sl)(ρ:List Sl):Prop where|mk(s:Sl)(u:Sl)(q0:ρ=l++[s,u])(q1:fr s=ck)(q2:fr u=ck)
theorem cP{T:Int}{vs:List aZ}(ok:fV m T vs rooms)(q:Q (.val (cB m (jw vs rooms))) [.val a_ (bu m T vs rooms wd)]):(run Γ w (n+1) 12 [.val a_ (bu m T vs rooms wd)]).sat Q:=by
 refine aQ (d:=f12) rfl rfl (by decide) ?_;symm;have j:=ok.vl;have hr:=ok.rl;simp[f12];refine⟨λ_=>?_,by show _<=16777216;lia⟩;rw[Ua];refine dq (Jxx [.val a_ (bu m T vs rooms wd),.aN]) _ (λp=>(⟨p.1.s,p.1.t,M6 p.2,p.1.h⟩:Wy).d) ⟨.aN,.aN,rfl,rfl,rfl⟩ ?_ ?_
 . rintro⟨v,r⟩g _⟨s,u,rfl,hs,f⟩;have a:=ok.ro r (j_ g).2;have b:r≠[]:=by rintro rfl;have:=ok.t0;simp at a;lia
   simp[hs,f,Th,rd1,Xa,OD b,Wy.d];exact⟨_,_,rfl,rfl,rfl⟩
 . rintro _⟨s,u,rfl,hs,f⟩;simp;apply ak;simp;have e:D.tup [.int m,.tup ((vs.zip rooms).map λp=>(⟨p.1.s,p.1.t,M6 p.2,p.1.h⟩:Wy).d)]=cB m (jw vs rooms):=by unfold cB jw;rw[eC];rfl
   rw[e];exact q
noncomputable def Hn(vs:List aZ)(pl:List Tr)(t:Int):Int:=sm (λx=>(if(rd vs x.w).s=0/\t<=x.h then x.l else 0)-(if(rd vs x.w).t=0/\t<=x.h+(rd vs x.w).h then x.l else 0)) pl
section
variable{m T:Int}{vs:List aZ}{rooms:List (List Int)}{pl:List Tr}
theorem Bl(h:rooms.length=vs.length):(jw vs rooms).length=vs.length:=by unfold jw;rw[en,qc];lia
theorem m5(h:rooms.length=vs.length){k:Int}(h0:0<=k)(h1:k<(vs.length:Int)):(wy (jw vs rooms) k).s=(rd vs k).s/\(wy (jw vs rooms) k).t=(rd vs k).t/\(wy (jw vs rooms) k).h=(rd vs k).h:=by
 have a:k.toNat<vs.length:=by lia
 have b:k.toNat<rooms.length:=by lia
 have e:(vs.zip rooms)[k.toNat]?=aD (vs[k.toNat],rooms[k.toNat]):=by rw[gT (by simp;lia),List.getElem_zip]
 unfold wy rd jw;simp[a,e]
theorem rZ(h:rooms.length=vs.length)(a:∀x∈pl,eY vs T x):∀x∈pl,xx (jw vs rooms) x:=λx b=>by have f:=a x b;exact⟨f.w0,by rw[Bl h];exact f.w1⟩
theorem qm(hv:∀v∈vs,v.Ok m):∀v∈jw vs rooms,v.s≠v.t:=λv a=>by obtain⟨p,b,rfl⟩:=ey.mp a;exact(hv p.1 (j_ b).1).ne
theorem kO(h:rooms.length=vs.length)(a:∀x∈pl,eY vs T x):stP (jw vs rooms) pl p (iC t)=ji vs pl p t:=by unfold stP ji;refine fY λx b=>?_;have f:=a x b;obtain⟨e,g,j⟩:=m5 h f.w0 f.w1;unfold Av zY fu iC;rw[e,g,j];simp only[decide_eq_true_eq]
theorem Em(h:rooms.length=vs.length)(a:∀x∈pl,eY vs T x):-stP (jw vs rooms) pl 0 (p8 t)=Hn vs pl t:=by
 have:Hn vs pl t=sm (λx=>(Av (jw vs rooms) 0 (p8 t) x-zY (jw vs rooms) 0 (p8 t) x)*(-1)) pl:=by unfold Hn;refine fY λx b=>?_;have f:=a x b;obtain⟨e,g,j⟩:=m5 h f.w0 f.w1;unfold Av zY fu p8;rw[e,g,j];simp only[decide_eq_true_eq];lia
 rw[this,TY];unfold stP;lia
end
theorem lV{T:Int}{vs:List aZ}{pl:List Tr}{s1:Sl}(ok:fV m T vs rooms)(hs:LS s1 (pl.map Tr.d))(a:∀x∈pl,eY vs T x)(e:pl.length<=60)(q:Q (.val (.int (ji vs pl p t))) [.val a_ (bu m T vs rooms wd),s1,.val a_ (.int p),.val a_ (.int t)]):(run Γ w (n+4) 18 [.val a_ (bu m T vs rooms wd),s1,.val a_ (.int p),.val a_ (.int t)]).sat Q:=by
 refine aQ (d:=Yt) rfl rfl (by decide) ?_;symm;rcases hs with⟨b,rfl⟩|⟨b,rfl⟩;.simp[Yt];refine cP ok ?_;simp;refine fH (.inl ⟨_,rfl⟩) (rZ ok.rl a) (qm ok.hv) e ?_;rw[kO ok.rl a];simpa using q
 .simp[Yt];refine cP ok ?_;simp;refine fH (.inr ⟨_,rfl⟩) (rZ ok.rl a) (qm ok.hv) e ?_;rw[kO ok.rl a];simpa using q
theorem V2{pl:List Tr}{s1:Sl}(hs:LS s1 (pl.map Tr.d))(e:∀x∈pl,xx ws x)(a:∀v∈ws,v.s≠v.t)(f:pl.length<=60):ev (run Γ w (n+4)) (.call 10 [.var 2,.var 1,.var 3]) [a0,s1,.val a_ (cB m ws),.val a_ (.int t)]=.ok (.val (.int (stP ws pl (m-1) (iC t)))) [a0,s1,.val a_ (cB m ws),.val a_ (.int t)]:=by
 refine run_eq ?_;rcases hs with⟨b,rfl⟩|⟨b,rfl⟩;.simp;refine lF (.inl ⟨_,rfl⟩) e a f ?_;simp
 .simp;refine lF (.inr ⟨_,rfl⟩) e a f ?_;simp
theorem Uu{pl:List Tr}{s1:Sl}(hs:LS s1 (pl.map Tr.d))(e:∀x∈pl,xx ws x)(a:∀v∈ws,v.s≠v.t)(f:pl.length<=60):ev (run Γ w (n+3)) (.call 11 [.var 2,.var 1,.var 3]) [a0,s1,.val a_ (cB m ws),.val a_ (.int t)]=.ok (.val (.int (-stP ws pl 0 (p8 t)))) [a0,s1,.val a_ (cB m ws),.val a_ (.int t)]:=by
 refine run_eq ?_;rcases hs with⟨b,rfl⟩|⟨b,rfl⟩;.simp;refine qR (.inl ⟨_,rfl⟩) e a f ?_;simp
 .simp;refine qR (.inr ⟨_,rfl⟩) e a f ?_;simp
theorem jU{T:Int}{vs:List aZ}{pl:List Tr}{s1:Sl}(ok:fV m T vs rooms)(a:LS s1 (pl.map Tr.d))(b:∀x∈pl,eY vs T x)(e:pl.length<=60)(q:Q (.own (cg (T+1).toNat (ji vs pl (m-1)))) [.val a_ (bu m T vs rooms wd),s1]):(run Γ w (n+5) 19 [.val a_ (bu m T vs rooms wd),s1]).sat Q:=by
 have t0:=ok.t0;have t1:=ok.t1;refine aQ (d:=f19) rfl rfl (by decide) ?_;symm;simp[f19];refine cP ok ?_;simp;apply ak;simp[show T+1<=1000000000 by lia,show-1000000000<=T+1 by lia,show(T+1).toNat<=lim by show _<=16777216;lia];refine dq (Jx [.val a_ (bu m T vs rooms wd),s1,.val a_ (cB m (jw vs rooms))]) _ (λ(k:Nat)=>D.int (ji vs pl (m-1) (k:Int))) ⟨.aN,rfl,rfl⟩ ?_ ?_;.rintro j f _⟨s,rfl,hs⟩;simp[hs,-fW,V2 a (rZ ok.rl b) (qm ok.hv) e,kO ok.rl b];exact⟨_,rfl,rfl⟩
 .rintro _⟨s,rfl,hs⟩;simpa[cg]using q
theorem pP{T:Int}{vs:List aZ}{pl:List Tr}{s1:Sl}(ok:fV m T vs rooms)(a:LS s1 (pl.map Tr.d))(b:∀x∈pl,eY vs T x)(e:pl.length<=60)(q:Q (.own (cg (T+1).toNat (Hn vs pl))) [.val a_ (bu m T vs rooms wd),s1]):(run Γ w (n+5) 20 [.val a_ (bu m T vs rooms wd),s1]).sat Q:=by
 have t0:=ok.t0;have t1:=ok.t1;refine aQ (d:=f20) rfl rfl (by decide) ?_;symm;simp[f20];refine cP ok ?_;simp;apply ak;simp[show T+1<=1000000000 by lia,show-1000000000<=T+1 by lia,show(T+1).toNat<=lim by show _<=16777216;lia];refine dq (Jx [.val a_ (bu m T vs rooms wd),s1,.val a_ (cB m (jw vs rooms))]) _ (λ(k:Nat)=>D.int (Hn vs pl (k:Int))) ⟨.aN,rfl,rfl⟩ ?_ ?_;.rintro j f _⟨s,rfl,hs⟩;simp only[jZ,iB,nF,nC,Iw,v7,ki,po,nI,nN,hs,if_true];refine⟨_,rfl,?_⟩;simp[-fW,Uu a (rZ ok.rl b) (qm ok.hv) e,Em ok.rl b];exact⟨_,rfl,rfl⟩
 .rintro _⟨s,rfl,hs⟩;simpa[cg]using q
@[simp]theorem cD4{m T:Int}{vs:List aZ}{rooms:List (List Int)}{wd:D}:pG (bu m T vs rooms wd) (.int 4)=aD (.val wd):=by simp[bu]
theorem Dp{T:Int}{vs:List aZ}{x:Tr}(ok:fV m T vs rooms)(f:eY vs T x):∃r:List Int,at' (rooms.map cZ) x.w=aD (cZ r)/\at' (r.map D.int) x.h=aD (.int (rm rooms x.w x.h))/\r∈rooms/\rooms[x.w.toNat]?=aD r/\rm rooms x.w x.h∈r:=by
 have f0:=f.w0;have f1:=f.w1;have f2:=f.h0;have f3:=f.o1;have g:=(ok.hv _ (gQ f.w0 f.w1).2).h0;have a:x.w.toNat<rooms.length:=by rw[ok.rl];lia
 have hr:=ok.ro rooms[x.w.toNat] (ic a);have b:x.h.toNat<rooms[x.w.toNat].length:=by lia
 have e:rm rooms x.w x.h=rooms[x.w.toNat][x.h.toNat]:=by unfold rm;simp[a,b]
 refine⟨rooms[x.w.toNat],?_,?_,ic a,by simp[a],by rw[e];exact ic b⟩;.rw[iw f0 (by simp;lia),eI];simp[a]
 .rw[iw f2 (by simp;lia),eI,e];simp[b]
noncomputable def Je(rooms:List (List Int))(x:Tr):Bool:=decide (x.l<=rm rooms x.w x.h)
inductive F3c(a0 a1:Sl)(ρ:List Sl):Prop where|mk(s:Sl)(t:Sl)(u:Sl)(q0:ρ=[a0,a1,s,t,u])(q1:fr s=ck)(q2:fr t=ck)(q3:fr u=ck)
theorem uH{T:Int}{vs:List aZ}{pl:List Tr}{s1:Sl}(ok:fV m T vs rooms)(b:LS s1 (pl.map Tr.d))(j:∀x∈pl,eY vs T x)(H:pl.length<=60)(q:Q (.val (.bl (pl.all (Je rooms)))) [.val a_ (bu m T vs rooms wd),s1]):(run Γ w (n+1) 13 [.val a_ (bu m T vs rooms wd),s1]).sat Q:=by
 have a:pl.length<=lim:=by show _<=16777216;lia
 refine aQ (d:=f13) rfl rfl (by decide) ?_;symm;obtain⟨I,l,o⟩:=jK (ρ:=[.val a_ (bu m T vs rooms wd),s1]) (k:=1) (e:=ev (run Γ w n) (.var 1)) rfl b;simp[f13,-dW,-dB,l,a];refine dq (F3c _ _) Tr.d (λx=>D.bl (Je rooms x)) ⟨.aN,.aN,.aN,rfl,rfl,rfl,rfl⟩ ?_ ?_;.rintro x A _⟨s,t,u,rfl,hs,f,g⟩;obtain⟨r,r1,C,_⟩:=Dp ok (j x A);simp[hs,f,g,Tr.d,r1,cZ,C,Je];exact⟨_,_,_,rfl,rfl,rfl,rfl⟩
 rintro _⟨s,t,u,rfl,hs,f,g⟩;have E:pl.map (λx=>D.bl (Je rooms x))=(pl.map (Je rooms)).map D.bl:=by rw[eC];rfl
 have G:(pl.map (Je rooms)).all id=pl.all (Je rooms):=by rw[lm];rfl
 rw[E];simp only[iO,lc];rw[o _ rfl];simp only[jy,iG,fZ,fh,bz,aV,iR,G];simp only[lw,nq];exact q
noncomputable def Zw(vs:List aZ)(pl:List Tr)(p:Int):Option (List Int)->Bool|none=>ck|some r=>r.zipIdx.all λq=>decide (ji vs pl p (q.2:Int)<=q.1)
theorem QG:((r.map D.int).mapIdx λi d=>D.tup [.int (i:Int),d])=r.zipIdx.map λq=>D.tup [.int (q.2:Int),.int q.1]:=by rw[List.mapIdx_eq_zipIdx_map,List.zipIdx_map,eC];rfl
theorem T5{T:Int}{vs:List aZ}{pl:List Tr}{s1 a e:Sl}(ok:fV m T vs rooms)(hs:LS s1 (pl.map Tr.d))(f:∀x∈pl,eY vs T x)(g:pl.length<=60):ev (run Γ w (n+4)) (.call 18 [.var 0,.var 1,.var 2,.var 4]) [.val a_ (bu m T vs rooms wd),s1,.val a_ (.int p),a,.val a_ (.int t),e]=.ok (.val (.int (ji vs pl p t))) [.val a_ (bu m T vs rooms wd),s1,.val a_ (.int p),a,.val a_ (.int t),e]:=by
 refine run_eq ?_;rcases hs with⟨b,rfl⟩|⟨b,rfl⟩;.simp;refine lV ok (.inl ⟨_,rfl⟩) f g ?_;simp
 .simp;refine lV ok (.inr ⟨_,rfl⟩) f g ?_;simp
inductive F4c(a0 a1 a2 a3:Sl)(ρ:List Sl):Prop where|mk(s:Sl)(t:Sl)(q0:ρ=[a0,a1,a2,a3,s,t])(q1:fr s=ck)(q2:fr t=ck)
theorem uJ{T:Int}{vs:List aZ}{o:Option (List Int)}{pl:List Tr}{s1:Sl}(ok:fV m T vs rooms)(a:LS s1 (pl.map Tr.d))(f:∀x∈pl,eY vs T x)(g:pl.length<=60)(l:0<=p)(ho:wt[p.toNat]?=aD o)(b:∀r,o=aD r->(r.length:Int)<=100)(q:Q (.val (.bl (Zw vs pl p o))) [.val a_ (bu m T vs rooms (.tup (wt.map wD))),s1,.val a_ (.int p)]):(run Γ w (n+5) 14 [.val a_ (bu m T vs rooms (.tup (wt.map wD))),s1,.val a_ (.int p)]).sat Q:=by
 have hpl:p.toNat<wt.length:=by
  rcases tm p.toNat wt.length with h|h;.exact h
  .rw[qE h]at ho;cases ho
 have u:at' (wt.map wD) p=aD (wD o):=by rw[iw l (by simp;lia),eI,ho];rfl
 refine aQ (d:=f14) rfl rfl (by decide) ?_;symm;simp[f14,u];cases o with|none=>symm;simp[wD];apply ak;simp;exact q|some r=>
   symm;simp[wD,cZ];apply ak;have A:=b r rfl;simp[show r.length<=lim by show _<=16777216;lia];rw[QG];refine dq (F4c _ _ _ _) (λq:Int×Nat=>D.tup [.int (q.2:Int),.int q.1]) (λq=>D.bl (decide (ji vs pl p (q.2:Int)<=q.1))) ⟨.aN,.aN,rfl,rfl,rfl⟩ ?_ ?_;.rintro⟨v,j⟩G _⟨s,t,rfl,hs,e⟩;simp[hs,e,-fW,T5 ok a f g];exact⟨_,_,rfl,rfl,rfl⟩
   rintro _⟨s,t,rfl,hs,e⟩;have C:(r.zipIdx.map λq:Int×Nat=>D.bl (decide (ji vs pl p (q.2:Int)<=q.1)))=(r.zipIdx.map λq:Int×Nat=>decide (ji vs pl p (q.2:Int)<=q.1)).map D.bl:=by rw[eC];rfl
   have E:(r.zipIdx.map λq:Int×Nat=>decide (ji vs pl p (q.2:Int)<=q.1)).all id=Zw vs pl p (aD r):=by rw[lm];rfl
   rw[C];simp only[jy,iG,fZ,fh,bz,aV,iR,E];simp only[iO,lc];exact q
structure lL(m:Int)(vs:List aZ)(rooms:List (List Int))(wt:List (Option (List Int)))(pl:List Tr):Prop where
 room:∀x∈pl,x.l<=rm rooms x.w x.h
 wait:∀p:Int,1<=p->p<m->∀r,wt[p.toNat]?=aD (aD r)->∀j:Nat,j<r.length->ji vs pl p (j:Int)<=(r[j]?).getD 0
theorem DK{vs:List aZ}{pl:List Tr}:Zw vs pl p (aD r)=ck↔∀j:Nat,j<r.length->ji vs pl p (j:Int)<=(r[j]?).getD 0:=by
 show(r.zipIdx.all λq=>decide (ji vs pl p (q.2:Int)<=q.1))=ck↔_;rw[eL];constructor;.intro h j a;have:=h (r[j],j) (List.mem_iff_getElem?.mpr ⟨j,by rw[List.getElem?_zipIdx];simp[a]⟩);simpa[a]using this
 .rintro h⟨v,j⟩f;obtain⟨h1,b,e⟩:=List.mem_zipIdx f;have:=h j (by lia);simp at e;rw[decide_eq_true_eq];simp at b;simp[b]at this;rw[e];exact this
theorem Kh{T:Int}{vs:List aZ}{pl:List Tr}{s1:Sl}(ok:fV m T vs rooms)(hs:LS s1 (pl.map Tr.d))(a:∀x∈pl,eY vs T x)(e:pl.length<=60):ev (run Γ w (n+1)) (.call 13 [.var 0,.var 1]) [.val a_ (bu m T vs rooms wd),s1]=.ok (.val (.bl (pl.all (Je rooms)))) [.val a_ (bu m T vs rooms wd),s1]:=by
 refine run_eq ?_;rcases hs with⟨b,rfl⟩|⟨b,rfl⟩;.simp;refine uH ok (.inl ⟨_,rfl⟩) a e ?_;simp
 .simp;refine uH ok (.inr ⟨_,rfl⟩) a e ?_;simp
theorem J4{T:Int}{vs:List aZ}{o:Option (List Int)}{pl:List Tr}{s1:Sl}(ok:fV m T vs rooms)(hs:LS s1 (pl.map Tr.d))(e:∀x∈pl,eY vs T x)(f:pl.length<=60)(g:0<=p)(ho:wt[p.toNat]?=aD o)(a:∀r,o=aD r->(r.length:Int)<=100):ev (run Γ w (n+5)) (.call 14 [.var 0,.var 1,.var 2]) [.val a_ (bu m T vs rooms (.tup (wt.map wD))),s1,.val a_ (.int p)]=.ok (.val (.bl (Zw vs pl p o))) [.val a_ (bu m T vs rooms (.tup (wt.map wD))),s1,.val a_ (.int p)]:=by
 refine run_eq ?_;rcases hs with⟨b,rfl⟩|⟨b,rfl⟩;.simp;refine uJ ok (.inl ⟨_,rfl⟩) e f g ho a ?_;simp
 .simp;refine uJ ok (.inr ⟨_,rfl⟩) e f g ho a ?_;simp
structure Ag(m:Int)(wt:List (Option (List Int))):Prop where
 al:(wt.length:Int)=m
 aok:∀(p:Nat)(r:List Int),wt[p]?=aD (aD r)->r.length<=100
noncomputable def XF(vs:List aZ)(pl:List Tr)(wt:List (Option (List Int)))(p:Int):Bool:=Zw vs pl p ((wt[p.toNat]?).getD b_)
theorem yG{T:Int}{vs:List aZ}{pl:List Tr}{s1:Sl}(ok:fV m T vs rooms)(wo:Ag m wt)(f:LS s1 (pl.map Tr.d))(A:∀x∈pl,eY vs T x)(C:pl.length<=60)(q:∀b:Bool,(b=ck↔lL m vs rooms wt pl)->Q (.val (.bl b)) [.val a_ (bu m T vs rooms (.tup (wt.map wD))),s1]):(run Γ w (n+6) 15 [.val a_ (bu m T vs rooms (.tup (wt.map wD))),s1]).sat Q:=by
 have m0:=ok.m0;have m1:=ok.m1;have E:=wo.al;refine aQ (d:=f15) rfl rfl (by decide) ?_;symm;have a:pl.all (Je rooms)=ck↔∀x∈pl,x.l<=rm rooms x.w x.h:=by rw[eL];unfold Je;simp
 have j:=Kh (w:=w) (n:=n+4) (wd:=.tup (wt.map wD)) ok f A C;generalize pl.all (Je rooms)=b at j a;cases b with|false=>simp[f15,-fW,j];apply ak;simp;exact q a_ ⟨λh=>(by cases h),λh=>a.mpr h.room⟩|true=>
   simp[f15,-fW,j];apply ak;simp[show m<=1000000000 by lia,show-1000000000<=m by lia];refine⟨λ_=>?_,by show _<=16777217;lia⟩;refine dq (λρ=>∃s,ρ=[.val a_ (bu m T vs rooms (.tup (wt.map wD))),s1,s]/\fr s=ck) (λ(k:Nat)=>D.int (1+(k:Int))) (λ(k:Nat)=>D.bl (XF vs pl wt (1+(k:Int)))) ⟨.aN,rfl,rfl⟩ ?_ ?_
   . rintro k u _⟨s,rfl,hs⟩;rw[kr]at u;have g:(1+(k:Int)).toNat<wt.length:=by lia
     have e:wt[(1+(k:Int)).toNat]?=aD wt[(1+(k:Int)).toNat]:=gT g;simp[hs,-fW,J4 ok f A C (by lia) e (λr hr=>by have:=wo.aok _ r (by rw[e,hr]);lia),XF,g]
   rintro _⟨s,rfl,hs⟩;have G:((ej (m.toNat-1)).map λ(k:Nat)=>D.bl (XF vs pl wt (1+(k:Int))))=((ej (m.toNat-1)).map λ(k:Nat)=>XF vs pl wt (1+(k:Int))).map D.bl:=by rw[eC];rfl
   rw[G];simp only[jy,iG,fZ,fh,bz,aV,iR];simp only[iO,lc];refine q _ ?_;rw[lm,eL];constructor;.intro h;refine⟨a.mp rfl,λp h1 H r hr=>?_⟩;have:=h (p-1).toNat (by rw[kr];lia);simp only[n1,id]at this;rw[show 1+(((p-1).toNat:Nat):Int)=p by lia]at this;unfold XF at this;rw[hr]at this;exact DK.mp this
   .intro h k u;rw[kr]at u;simp only[n1,id];unfold XF;cases e:(wt[(1+(k:Int)).toNat]?).getD b_ with|none=>rfl|some r=>rw[DK];refine h.wait _ (by lia) (by lia) r ?_;cases e2:wt[(1+(k:Int)).toNat]?with|none=>rw[e2]at e;cases e|some o=>rw[e2]at e;simp at e;rw[e]
structure iW(m:Int)(ws:List Wy)(last:Int)(pl:List Tr):Prop where
 right:gk m ws last pl
 way:∀x∈pl,(wy ws x.w).t≠0/\(wy ws x.w).s≠m-1
 st:∀p,1<=p->p<m-1->stP ws pl p (iC last)=0
noncomputable def Ln(m:Int)(ws:List Wy)(k:Int):Bool:=!decide ((wy ws k).t=0)&&!decide ((wy ws k).s=m-1)
theorem wH{k:Int}(h0:0<=k)(h1:k<(ws.length:Int))(q:Q (.val (.bl (Ln m ws k))) [.val a_ (cB m ws),.val a_ (.int k)]):(run Γ w (n+1) 7 [.val a_ (cB m ws),.val a_ (.int k)]).sat Q:=by
 refine aQ (d:=f7) rfl rfl (by decide) ?_;symm;have a:=(sJ h0 h1).1;unfold Ln at q;by_cases c1:(wy ws k).t=0;.simp[c1]at q;simpa[f7,a,Cw,An,c1]using q
 . by_cases c2:(wy ws k).s=m-1;.simp[c1,c2]at q;simpa[f7,a,Cw,An,c1,c2]using q
   . have e:((wy ws k).s==m-1)=a_:=by simp[c2]
     simp[c1,c2]at q;simpa[f7,a,Cw,An,c1,e]using q
noncomputable def cwD(m:Int)(ws:List Wy):D->D|.tup [.int _,.int k,.int _]=>.bl (Ln m ws k)|d=>d
@[simp]theorem agY{m:Int}{ws:List Wy}{h k l:Int}:cwD m ws (.tup [.int h,.int k,.int l])=.bl (Ln m ws k):=rfl
noncomputable def noD(ws:List Wy)(pl:List Tr)(last:Int):D->D|.int p=>.bl (stP ws pl p (iC last)==0)|d=>d
inductive F6(a0 a1 a2:Sl)(ρ:List Sl):Prop where|mk(s:Sl)(t:Sl)(u:Sl)(q0:ρ=[a0,a1,a2,s,t,u])(q1:fr s=ck)(q2:fr t=ck)(q3:fr u=ck)
theorem Jz{s2:Sl}{pl:List Tr}(hs:LS s2 (pl.map Tr.d))(f:0<=m/\m<=60)(a:∀v∈ws,v.s≠v.t)(g:pl.length<61):∃r:Bool,(r=ck↔gk m ws last pl)/\ev (run Γ w (n+4)) (.call 6 [.var 0,.var 1,.var 2]) [.val a_ (cB m ws),.val a_ (.int last),s2]=.ok (.val (.bl r)) [.val a_ (cB m ws),.val a_ (.int last),s2]:=by
 refine⟨@decide _ (fi (gk m ws last pl)),by simp,run_eq ?_⟩;have e:∀r:Bool,(r=ck↔gk m ws last pl)->r=@decide _ (fi (gk m ws last pl)):=λr hr=>by rw[gp,hr];simp
 rcases hs with⟨b,rfl⟩|⟨b,rfl⟩;.simp;refine eU (.inl ⟨_,rfl⟩) f a g λr hr=>?_;simp[e r hr]
 .simp;refine eU (.inr ⟨_,rfl⟩) f a g λr hr=>?_;simp[e r hr]
theorem Gx{s2:Sl}{pl:List Tr}(hs:LS s2 (pl.map Tr.d))(e:∀x∈pl,xx ws x)(a:∀v∈ws,v.s≠v.t)(f:pl.length<=60):ev (run Γ w (n+3)) (.call 9 [.var 0,.var 2,.var 3,.var 1]) [.val a_ (cB m ws),.val a_ (.int last),s2,.val a_ (.int p)]=.ok (.val (.int (stP ws pl p (iC last)))) [.val a_ (cB m ws),.val a_ (.int last),s2,.val a_ (.int p)]:=by
 refine run_eq ?_;rcases hs with⟨b,rfl⟩|⟨b,rfl⟩;.simp;refine fH (.inl ⟨_,rfl⟩) e a f ?_;simp
 .simp;refine fH (.inr ⟨_,rfl⟩) e a f ?_;simp
theorem jo{s2:Sl}{pl:List Tr}(a:LS s2 (pl.map Tr.d))(H:0<=m/\m<=60)(f:∀v∈ws,v.s≠v.t)(I:pl.length<61)(q:∀r:Bool,(r=ck↔iW m ws last pl)->Q (.val (.bl r)) [.val a_ (cB m ws),.val a_ (.int last),s2]):(run Γ w (n+5) 8 [.val a_ (cB m ws),.val a_ (.int last),s2]).sat Q:=by
 have g:pl.length<=lim:=by show _<=16777216;lia
 refine aQ (d:=f8) rfl rfl (by decide) ?_;symm;obtain⟨s',J,N⟩:=jK (ρ:=[.val a_ (cB m ws),.val a_ (.int last),s2]) (k:=2) (e:=ev (run Γ w (n+4)) (.var 2)) rfl a;obtain⟨r,hr,O⟩:=Jz (w:=w) (n:=n) (last:=last) a H f I;simp[f8,-fW,O,-dW,-dB];cases r with|false=>simp;apply ak;simp;refine q a_ ⟨λh=>(by cases h),λh=>?_⟩;have:=hr.mpr h.right;cases this|true=>
   have A:=hr.mp rfl;have j:∀x∈pl,xx ws x:=λx b=>(A.fit x b).1;simp[J,g,-dW,-dB];refine cD (F6 _ _ _) (cwD m ws) ⟨.aN,.aN,.aN,rfl,rfl,rfl,rfl⟩ ?_ ?_;.rintro d hd _⟨s,t,u,rfl,hs,C,E⟩;obtain⟨x,b,rfl⟩:=ey.mp hd;have hi:=j x b;simp[Tr.d,hs,C,E];refine wH hi.1 hi.2 ?_;simp;exact⟨_,_,_,rfl,rfl,rfl,rfl⟩
   rintro _⟨s,t,u,rfl,hs,C,E⟩;have U:(pl.map Tr.d).map (cwD m ws)=(pl.map λx=>Ln m ws x.w).map D.bl:=by rw[eC,eC];rfl
   have W:(pl.map λx=>Ln m ws x.w).all id=pl.all λx=>Ln m ws x.w:=by rw[lm];rfl
   rw[U];simp only[iO,lc];rw[N _ rfl];simp only[jy,iG,fZ,fh,bz,aV,iR,W];simp only[Ba,Ck,bz,lw,nq];have l:(pl.all λx=>Ln m ws x.w)=ck↔∀x∈pl,(wy ws x.w).t≠0/\(wy ws x.w).s≠m-1:=by
    rw[eL];refine⟨λh x b=>?_,λh x b=>?_⟩;.have:=h x b;unfold Ln at this;simpa using this
    .have:=h x b;unfold Ln;simpa using this
   cases hc:pl.all λx=>Ln m ws x.w with|false=>simp;apply ak;simp;refine q a_ ⟨λh=>(by cases h),λh=>?_⟩;rw[l.mpr h.way]at hc;cases hc|true=>
     simp;apply ak;simp[show m-1<=1000000000 by lia,show-1000000000<=m-1 by lia];refine⟨λ_=>?_,by lia⟩;refine cD (F3b _ _ _) (noD ws pl last) ⟨.aN,rfl,rfl⟩ ?_ ?_;.rintro d hd _⟨s,rfl,hs⟩;obtain⟨k,_,rfl⟩:=ey.mp hd;simp[hs,-fW,Gx a j f (show pl.length<=60 by lia),noD];exact⟨_,rfl,rfl⟩
     rintro _⟨s,rfl,hs⟩;generalize o:(ej (m.toNat-1-1)).map (λ(k:Nat)=>(1+(k:Int)))=L;have X:((ej (m.toNat-1-1)).map λ(k:Nat)=>D.int (1+(k:Int))).map (noD ws pl last)=(L.map λp=>stP ws pl p (iC last)==0).map D.bl:=by rw[<-o,eC,eC,eC];rfl
     have Y:(L.map λp=>stP ws pl p (iC last)==0).all id=L.all λp=>stP ws pl p (iC last)==0:=by rw[lm];rfl
     rw[X];simp only[jy,iG,fZ,fh,bz,aV,iR,Y];simp only[iO,lc];refine q _ ?_;rw[eL];constructor
     . intro h;refine⟨A,l.mp hc,λp h1 h2=>?_⟩;have:p∈L:=by rw[<-o,ey];exact⟨(p-1).toNat,by rw[kr];lia,by lia⟩
       have:=h p this;simpa using this
     .intro h p G;rw[<-o,ey]at G;obtain⟨k,Z,rfl⟩:=G;rw[kr]at Z;rw[h.st _ (by lia) (by lia)];rfl
theorem rH{T:Int}{vs:List aZ}{pl:List Tr}(h:rooms.length=vs.length)(r:gk m (jw vs rooms) T pl):∀x∈pl,eY vs T x:=λx a=>by obtain⟨⟨f1,f2⟩,_,f3⟩:=r.fit x a;rw[Bl h]at f2;have hok:=eL.mp r.ok x a;simp[Bo]at hok;unfold fu at f3;rw[(m5 h f1 f2).2.2]at f3;exact⟨hok.1,f1,f2,f3⟩
noncomputable def Va(m T:Int)(vs:List aZ)(rooms:List (List Int))(wt:List (Option (List Int)))(pl:List Tr):Prop:=gk m (jw vs rooms) T pl/\lL m vs rooms wt pl
noncomputable def G9(m T:Int)(vs:List aZ)(rooms:List (List Int))(wt:List (Option (List Int)))(pl:List Tr):Prop:=iW m (jw vs rooms) T pl/\lL m vs rooms wt pl
section
variable{w n:Nat}{m T:Int}{vs:List aZ}{rooms:List (List Int)}{wt:List (Option (List Int))}{pl:List Tr}{s1:Sl}{Q:R->List Sl->Prop}
theorem Ek(ok:fV m T vs rooms)(wo:Ag m wt)(hs:LS s1 (pl.map Tr.d))(a:∀x∈pl,eY vs T x)(f:pl.length<=60):∃b:Bool,(b=ck↔lL m vs rooms wt pl)/\ev (run Γ w (n+6)) (.call 15 [.var 0,.var 1]) [.val a_ (bu m T vs rooms (.tup (wt.map wD))),s1]=.ok (.val (.bl b)) [.val a_ (bu m T vs rooms (.tup (wt.map wD))),s1]:=by
 refine⟨@decide _ (fi (lL m vs rooms wt pl)),by simp,run_eq ?_⟩;have e:∀r:Bool,(r=ck↔lL m vs rooms wt pl)->r=@decide _ (fi (lL m vs rooms wt pl)):=λr hr=>by rw[gp,hr];simp
 rcases hs with⟨b,rfl⟩|⟨b,rfl⟩;.simp;refine yG ok wo (.inl ⟨_,rfl⟩) a f λr hr=>?_;simp[e r hr]
 .simp;refine yG ok wo (.inr ⟨_,rfl⟩) a f λr hr=>?_;simp[e r hr]
theorem abJ(ok:fV m T vs rooms):ev (run Γ w (n+6)) (.call 12 [.var 0]) [.val a_ (bu m T vs rooms wd),s1]=.ok (.val (cB m (jw vs rooms))) [.val a_ (bu m T vs rooms wd),s1]:=by refine run_eq ?_;simp;refine cP ok ?_;simp
theorem FJ(ok:fV m T vs rooms)(hs:LS s1 (pl.map Tr.d))(a:pl.length<61):∃b:Bool,(b=ck↔gk m (jw vs rooms) T pl)/\ev (run Γ w (n+6)) (.call 6 [.call 12 [.var 0],.idx (.var 0) (.con (.int 1)),.var 1]) [.val a_ (bu m T vs rooms wd),s1]=.ok (.val (.bl b)) [.val a_ (bu m T vs rooms wd),s1]:=by
 have m0:=ok.m0;have m1:=ok.m1;refine⟨@decide _ (fi (gk m (jw vs rooms) T pl)),by simp,run_eq ?_⟩;have e:∀r:Bool,(r=ck↔gk m (jw vs rooms) T pl)->r=@decide _ (fi (gk m (jw vs rooms) T pl)):=λr hr=>by rw[gp,hr];simp
 rcases hs with⟨b,rfl⟩|⟨b,rfl⟩;.simp;refine cP ok ?_;simp;refine eU (.inl ⟨_,rfl⟩) (by lia) (qm ok.hv) a λr hr=>?_;simp[e r hr]
 .simp;refine cP ok ?_;simp;refine eU (.inr ⟨_,rfl⟩) (by lia) (qm ok.hv) a λr hr=>?_;simp[e r hr]
theorem Hb(ok:fV m T vs rooms)(hs:LS s1 (pl.map Tr.d))(a:pl.length<61):∃b:Bool,(b=ck↔iW m (jw vs rooms) T pl)/\ev (run Γ w (n+6)) (.call 8 [.call 12 [.var 0],.idx (.var 0) (.con (.int 1)),.var 1]) [.val a_ (bu m T vs rooms wd),s1]=.ok (.val (.bl b)) [.val a_ (bu m T vs rooms wd),s1]:=by
 have m0:=ok.m0;have m1:=ok.m1;refine⟨@decide _ (fi (iW m (jw vs rooms) T pl)),by simp,run_eq ?_⟩;have e:∀r:Bool,(r=ck↔iW m (jw vs rooms) T pl)->r=@decide _ (fi (iW m (jw vs rooms) T pl)):=λr hr=>by rw[gp,hr];simp
 rcases hs with⟨b,rfl⟩|⟨b,rfl⟩;.simp;refine cP ok ?_;simp;refine jo (.inl ⟨_,rfl⟩) (by lia) (qm ok.hv) a λr hr=>?_;simp[e r hr]
 .simp;refine cP ok ?_;simp;refine jo (.inr ⟨_,rfl⟩) (by lia) (qm ok.hv) a λr hr=>?_;simp[e r hr]
theorem wg(ok:fV m T vs rooms)(wo:Ag m wt)(a:LS s1 (pl.map Tr.d))(o:pl.length<61)(q:∀b:Bool,(b=ck↔Va m T vs rooms wt pl)->Q (.val (.bl b)) [.val a_ (bu m T vs rooms (.tup (wt.map wD))),s1]):(run Γ w (n+7) 16 [.val a_ (bu m T vs rooms (.tup (wt.map wD))),s1]).sat Q:=by refine aQ (d:=f16) rfl rfl (by decide) ?_;symm;obtain⟨b,g,j⟩:=FJ (w:=w) (n:=n) (wd:=.tup (wt.map wD)) ok a o;cases b with|false=>simp[f16,-fW,j];exact q a_ ⟨λh=>(by cases h),λh=>g.mpr h.1⟩|true=>have l:=g.mp rfl;obtain⟨b2,e,f⟩:=Ek (w:=w) (n:=n) ok wo a (rH ok.rl l) (by lia);simp[f16,-fW,j,f];exact q b2 ⟨λh=>⟨l,e.mp h⟩,λh=>e.mpr h.2⟩
theorem iH(ok:fV m T vs rooms)(wo:Ag m wt)(a:LS s1 (pl.map Tr.d))(o:pl.length<61)(q:∀b:Bool,(b=ck↔G9 m T vs rooms wt pl)->Q (.val (.bl b)) [.val a_ (bu m T vs rooms (.tup (wt.map wD))),s1]):(run Γ w (n+7) 17 [.val a_ (bu m T vs rooms (.tup (wt.map wD))),s1]).sat Q:=by refine aQ (d:=ZM) rfl rfl (by decide) ?_;symm;obtain⟨b,g,j⟩:=Hb (w:=w) (n:=n) (wd:=.tup (wt.map wD)) ok a o;cases b with|false=>simp[ZM,-fW,j];exact q a_ ⟨λh=>(by cases h),λh=>g.mpr h.1⟩|true=>have l:=g.mp rfl;obtain⟨b2,e,f⟩:=Ek (w:=w) (n:=n) ok wo a (rH ok.rl l.right) (by lia);simp[ZM,-fW,j,f];exact q b2 ⟨λh=>⟨l,e.mp h⟩,λh=>e.mpr h.2⟩
end
noncomputable def sZ(h:Nat)(v:aZ)(r:List Int):List Int:=if v.s=0 then dV h 0++r.drop h else r
noncomputable def p6(vs:List aZ)(rooms:List (List Int))(h:Nat):List (List Int):=(vs.zip rooms).map λp=>sZ h p.1 p.2
noncomputable def lO(T h:Int)(r:List Int):List Int:=(ej (T+1).toNat).map λ(i:Nat)=>if(i:Int)+h<=T then r.getD (T-i-h).toNat 0 else 0
noncomputable def eZ(m:Int)(v:aZ):aZ:=⟨m-1-v.t,m-1-v.s,v.h⟩
noncomputable def mV(T:Int)(vs:List aZ)(rooms:List (List Int)):List (List Int):=(vs.zip rooms).map λp=>lO T p.1.h p.2
noncomputable def oJ(wt:List (Option (List Int))):List (Option (List Int)):=wt.reverse.map (·.map (·.reverse))
theorem aap{h:Nat}:cut (r.map D.int) (aD (h:Int)) b_=(r.drop h).map D.int:=by
 unfold cut dY;simp;by_cases e:h<=r.length;.rw[Nat.min_eq_left e,jI (by simp)]
 .rw[Nat.min_eq_right (by lia),ln (by simp),ln (by simp;lia)];simp
noncomputable def lD(h:Nat):D->D|.tup [.tup [.int s,.int _,.int _],.tup r]=>.tup (if s=0 then dV h (D.int 0)++r.drop h else r)|d=>d
inductive F3y(a b c:Sl)(ρ:List Sl):Prop where|mk(s:Sl)(t:Sl)(q0:ρ=[a,b,c,s,t])(q1:fr s=ck)(q2:fr t=ck)
theorem Kd{h:Nat}{T:Int}{vs:List aZ}(hc:fV m T vs rooms)(q:h<=12)(k:Q (.val (bu m T vs (p6 vs rooms h) (.tup (wt.map wD)))) [.val a_ (bu m T vs rooms (.tup (wt.map wD))),.val a_ (.int h)]):(run Γ w (n+1) 22 [.val a_ (bu m T vs rooms (.tup (wt.map wD))),.val a_ (.int h)]).sat Q:=by
 have b:=hc.rl;have f:=hc.vl;have t1:=hc.t1;refine aQ (d:=f22) rfl rfl (by decide) ?_;symm;have g:min vs.length rooms.length<=lim:=by show _<=16777216;lia
 simp[f22,g];rw[Ua];refine cD (F3y _ _ _) (lD h) ⟨.aN,.aN,rfl,rfl,rfl⟩ ?_ ?_
 . rintro d hd _⟨s,t,rfl,hs,a⟩;obtain⟨⟨v,r⟩,j,rfl⟩:=ey.mp hd;have l:=hc.ro r (j_ j).2;by_cases e:v.s=0;.simp[hs,a,Th,e,cZ,Gn,part,vD,aap,show h<=lim by show _<=16777216;lia];refine⟨by show _<=16777216;lia,by simp[lD,aZ.d,e],_,_,rfl,rfl,rfl⟩
   .simp[hs,a,Th,e,cZ];refine⟨by simp[lD,aZ.d,e],_,_,rfl,rfl,rfl⟩
 rintro _⟨s,t,rfl,hs,a⟩;simp;apply ak;simp;have o:((vs.zip rooms).map (lD h ∘ λp=>D.tup [p.1.d,cZ p.2]))=((vs.zip rooms).map λp=>sZ h p.1 p.2).map cZ:=by
  rw[eC];refine fe λp _=>?_;simp only[n1,lD,aZ.d,cZ,sZ];split;.simp
  .rfl
 rw[o];simpa[bu,p6]using k
noncomputable def trD(T h:Int)(r:List Int):D->D|.int i=>.int (if i+h<=T then r.getD (T-i-h).toNat 0 else 0)|d=>d
theorem Cd{T:Int}(t0:0<=T)(t1:T<=12)(h0:1<=h)(hr:(r.length:Int)=T+1)(k:Q (.val (cZ (lO T h r))) [.val a_ (.int T),.val a_ (.int h),.val a_ (cZ r)]):(run Γ w (n+1) 23 [.val a_ (.int T),.val a_ (.int h),.val a_ (cZ r)]).sat Q:=by
 refine aQ (d:=f23) rfl rfl (by decide) ?_;symm;simp[f23,show T+1<=1000000000 by lia,show-1000000000<=T+1 by lia,show(T+1).toNat<=lim by show _<=16777216;lia];refine cD (λρ=>∃s,ρ=[.val a_ (.int T),.val a_ (.int h),.val a_ (cZ r),s]/\fr s=ck) (trD T h r) ⟨.aN,rfl,rfl⟩ ?_ ?_
 . rintro d hd _⟨s,rfl,hs⟩;obtain⟨j,f,rfl⟩:=ey.mp hd;by_cases e:(j:Int)+h<=T
   . have a:(T-(j:Int)-h).toNat<r.length:=by lia
     have b:at' (r.map D.int) (T-(j:Int)-h)=aD (.int (r.getD (T-(j:Int)-h).toNat 0)):=by rw[iw (by lia) (by rw[en];lia),eI];simp[a]
     simp[hs,e,cZ,b,trD]
   .simp[hs,e,trD]
 rintro _⟨s,rfl,hs⟩;simp;simpa[cZ,lO,kU,trD]using k
@[simp]theorem afF{c:Call}{a:P}{ρ:List Sl}:ev c (.rev a) ρ=(ev c a ρ).bind λr ρ=>lift ((sH r.d).map λds=>.val (.lst ds.reverse)) ρ:=(rfl)
@[simp]theorem Ao{ds:List D}:sH (.tup ds)=aD ds:=rfl
noncomputable def tuD(m:Int):D->D|.tup [.int s,.int t,h]=>.tup [.int (m-1-t),.int (m-1-s),h]|d=>d
noncomputable def Nz(T:Int):D->D|.tup [.tup [_,_,.int h],.tup r]=>cZ (lO T h (r.map λd=>match d with|.int i=>i|_=>0))|d=>d
noncomputable def YT:D->D|.tup r=>.tup r.reverse|d=>d
inductive F6y(a b c d e f:Sl)(ρ:List Sl):Prop where|mk(s:Sl)(q0:ρ=[a,b,c,d,e,f,s])(q1:fr s=ck)
inductive F6z(a b c d e f:Sl)(ρ:List Sl):Prop where|mk(s:Sl)(t:Sl)(q0:ρ=[a,b,c,d,e,f,s,t])(q1:fr s=ck)(q2:fr t=ck)
theorem Ah{T:Int}{vs:List aZ}(hc:fV m T vs rooms)(g:(wt.length:Int)=m)(k:Q (.val (bu m T (vs.map (eZ m)) (mV T vs rooms) (.tup ((oJ wt).map wD)))) [.val a_ (bu m T vs rooms (.tup (wt.map wD)))]):(run Γ w (n+2) 24 [.val a_ (bu m T vs rooms (.tup (wt.map wD)))]).sat Q:=by
 have j:=hc.rl;have l:=hc.vl;have m1:=hc.m1;have t1:=hc.t1;refine aQ (d:=f24) rfl rfl (by decide) ?_;symm;simp[f24];apply ak;simp;apply ak;simp[show vs.length<=lim by show _<=16777216;lia];refine cD (F6y _ _ _ _ _ _) (tuD m) ⟨.aN,rfl,rfl⟩ ?_ ?_;.rintro d hd _⟨s,rfl,hs⟩;obtain⟨v,_,rfl⟩:=ey.mp hd;simp[hs,Th,rd1,Xa];exact⟨by simp[tuD,aZ.d],_,rfl,rfl⟩
 rintro _⟨s,rfl,hs⟩;simp;apply ak;simp;rw[Ua];refine⟨λ_=>?_,by show _<=16777216;lia⟩;refine cD (F6z _ _ _ _ _ _) (Nz T) ⟨.aN,.aN,rfl,rfl,rfl⟩ ?_ ?_;.rintro d hd _⟨s,t,rfl,hs,e⟩;obtain⟨⟨v,r⟩,f,rfl⟩:=ey.mp hd;have a:=hc.ro r (j_ f).2;have b:=hc.hv v (j_ f).1;simp[hs,e,Xa];refine Cd hc.t0 hc.t1 b.h0 a ?_;simp;refine⟨by simp[Nz,aZ.d,cZ,kU],_,_,rfl,rfl,rfl⟩
 rintro _⟨s,t,rfl,hs,e⟩;simp;apply ak;simp[show wt.length<=lim by show _<=16777216;lia];refine cD (F6y _ _ _ _ _ _) YT ⟨.aN,rfl,rfl⟩ ?_ ?_;.rintro d hd _⟨s,rfl,hs⟩;rw[<-List.map_reverse]at hd;obtain⟨r,_,rfl⟩:=ey.mp hd;cases r with|none=>simp[hs,wD,YT];exact⟨_,rfl,rfl⟩|some r=>simp[hs,wD,cZ,YT];exact⟨_,rfl,rfl⟩
 rintro _⟨s,rfl,hs⟩;simp;apply ak;simp;have o:vs.map (tuD m ∘ aZ.d)=(vs.map (eZ m)).map aZ.d:=by rw[eC];rfl
 have q:((vs.zip rooms).map (Nz T ∘ λp=>D.tup [p.1.d,cZ p.2]))=((vs.zip rooms).map λp=>lO T p.1.h p.2).map cZ:=by rw[eC];refine fe λp _=>?_;simp[kU,Nz,aZ.d,cZ]
 have u:wt.map (YT ∘ wD)=(wt.map (·.map (·.reverse))).map wD:=by rw[eC];refine fe λr _=>?_;cases r<;>simp[YT,cZ,wD]
 rw[o,q,u];have:bu m T (vs.map (eZ m)) (mV T vs rooms) (.tup ((oJ wt).map wD))=.tup [.int m,.int T,.tup ((vs.map (eZ m)).map aZ.d),.tup (((vs.zip rooms).map λp=>lO T p.1.h p.2).map cZ),.tup ((wt.map (·.map (·.reverse))).map wD).reverse]:=by simp[mV,oJ,bu,List.map_reverse]
 rw[this]at k;simpa using k
noncomputable def wR(v:Wy):aZ:=⟨v.s,v.t,v.h⟩
noncomputable def nj(T:Int)(ws:List Wy):List (List Int):=ws.map λv=>dV (T+1).toNat v.r
noncomputable def Hr(m:Int):List (Option (List Int)):=dV m.toNat b_
noncomputable def nc1:D->D|.tup [s,t,_,h]=>.tup [s,t,h]|d=>d
noncomputable def nc2(T:Int):D->D|.tup [_,_,r,_]=>.tup (dV (T+1).toNat r)|d=>d
inductive F4x(a b c d:Sl)(ρ:List Sl):Prop where|mk(s:Sl)(q0:ρ=[a,b,c,d,s])(q1:fr s=ck)
theorem Af{T:Int}(t0:0<=T)(t1:T<=12)(f:ws.length<=12)(m0:2<=m)(m1:m<=6)(k:Q (.val (bu m T (ws.map wR) (nj T ws) (.tup ((Hr m).map wD)))) [.val a_ (cB m ws),.val a_ (.int T)]):(run Γ w (n+1) 21 [.val a_ (cB m ws),.val a_ (.int T)]).sat Q:=by
 have a:ws.length<=lim:=by show _<=16777216;lia
 refine aQ (d:=f21) rfl rfl (by decide) ?_;symm;simp[f21,a];refine cD (F4x _ _ _ _) nc1 ⟨.aN,rfl,rfl⟩ ?_ ?_;.rintro d hd _⟨s,rfl,hs⟩;obtain⟨v,_,rfl⟩:=ey.mp hd;simp[hs,Cw,An,Zg];exact⟨rfl,_,rfl,rfl⟩
 rintro _⟨s,rfl,hs⟩;simp;apply ak;simp[a];refine cD (F4x _ _ _ _) (nc2 T) ⟨.aN,rfl,rfl⟩ ?_ ?_;.rintro d hd _⟨s,rfl,hs⟩;obtain⟨v,_,rfl⟩:=ey.mp hd;simp[hs,VG];exact⟨⟨by lia,by lia⟩,rfl,_,rfl,rfl⟩
 rintro _⟨s,rfl,hs⟩;simp;apply ak;simp;refine⟨⟨by lia,by lia⟩,?_⟩;simp[bu,nj,Hr,wD]at k;have b:(ws.map (nc1 ∘ Wy.d))=ws.map (aZ.d ∘ wR):=fe λv _=>rfl;have e:(ws.map (nc2 T ∘ Wy.d))=ws.map (cZ ∘ λv=>dV (T+1).toNat v.r):=fe λv _=>by simp[nc2,Wy.d,cZ]
 rw[b,e];exact k
noncomputable def tw(m:Int)(v:Wy):Wy:=⟨m-1-v.t,m-1-v.s,v.r,v.h⟩
noncomputable def tt(ws:List Wy)(last:Int)(x:Tr):Tr:=⟨last-fu ws x,x.w,x.l⟩
theorem ac8(h:mX m ws):mX m (ws.map (tw m)):=by refine⟨h.m0,h.m1,by simpa using h.len,λv hv=>?_⟩;obtain⟨u,a,rfl⟩:=ey.mp hv;have k:=h.ok u a;have b:=k.s0;have e:=k.s1;have f:=k.t0;have g:=k.t1;have j:=k.ne;exact⟨by show 0<=m-1-u.t;lia,by show m-1-u.t<m;lia,by show 0<=m-1-u.s;lia,by show m-1-u.s<m;lia,by show m-1-u.t≠m-1-u.s;lia,k.r0,k.r1,k.h0,k.h1⟩
theorem Fq{k:Int}(h0:0<=k)(h1:k<(ws.length:Int)):wy (ws.map (tw m)) k=tw m (wy ws k):=by
 unfold wy;rw[eI];have:k.toNat<ws.length:=by lia
 simp[this]
theorem YS{P:Int->Bool}{x:Tr}(a:xx ws x):KP (ws.map (tw m)) (m-1-p) P (tt ws last x)=-KP ws p (λk=>P (last-k)) x:=by
 unfold KP Av zY fu;show(if(wy (ws.map (tw m)) x.w).t=m-1-p/\P (last-fu ws x+(wy (ws.map (tw m)) x.w).h)=ck then x.l else 0)-(if(wy (ws.map (tw m)) x.w).s=m-1-p/\P (last-fu ws x)=ck then x.l else 0)=_;rw[Fq a.1 a.2];show(if m-1-(wy ws x.w).s=m-1-p/\P (last-fu ws x+(wy ws x.w).h)=ck then x.l else 0)-(if m-1-(wy ws x.w).t=m-1-p/\P (last-fu ws x)=ck then x.l else 0)=_;have b:last-fu ws x+(wy ws x.w).h=last-x.h:=by unfold fu;lia
 have e:(m-1-(wy ws x.w).s=m-1-p)=((wy ws x.w).s=p):=by apply propext;lia
 have f:(m-1-(wy ws x.w).t=m-1-p)=((wy ws x.w).t=p):=by apply propext;lia
 simp only[b,e,f];unfold fu;lia
theorem Dm{P:Int->Bool}{pl ks:List Tr}(a:∀x∈pl,xx ws x)(b:ks.Perm (pl.map (tt ws last))):stP (ws.map (tw m)) ks (m-1-p) P=-stP ws pl p (λk=>P (last-k)):=by show sm (KP (ws.map (tw m)) (m-1-p) P) ks=-sm (KP ws p (λk=>P (last-k))) pl;rw[wF b,J2,fY (g:=λx=>-KP ws p (λk=>P (last-k)) x) λx e=>YS (a x e)];clear b a;induction pl with|nil=>rfl|cons x pl f=>simp only[cR,f];lia
theorem qW{pl:List Tr}{c:Int}:stP ws pl p (λ_=>ck)=stP ws pl p (iC (c-1))+stP ws pl p (p8 c):=by
 unfold stP;rw[<-Lj];refine fY λx _=>?_;unfold Av zY iC p8;have a:∀k:Int,decide (k<=c-1)=!decide (c<=k):=λk=>by rw[gp];simp;lia
 simp only[a];by_cases c1:c<=fu ws x<;>by_cases c2:c<=x.h<;>simp[c1,c2]<;>lia
theorem Mj{pl:List Tr}(h:∀x∈pl,fu ws x<=t/\x.h<=t):stP ws pl p (iC t)=stP ws pl p (λ_=>ck):=by refine fY λx a=>?_;have:=h x a;unfold Av zY iC;simp[this]
theorem Om{pl:List Tr}(h:∀x∈pl,t<fu ws x/\t<x.h):stP ws pl p (iC t)=0:=by refine qK λx a=>?_;have:=h x a;unfold Av zY iC;simp[show ¬ fu ws x<=t by lia,show ¬ x.h<=t by lia]
theorem Ms:(λk=>iC t (last-k))=p8 (last-t):=by funext k;unfold iC p8;rw[decide_eq_decide];lia
theorem aaR:(λk=>p8 t (last-k))=iC (last-t):=by funext k;unfold iC p8;rw[decide_eq_decide];lia
theorem Y4{pl:List Tr}(hr:fK pl=ck):(pl.map (tt ws last)).Pairwise neT:=by rw[jJ]at hr;rw[k_];refine hr.imp λ{a b}h=>?_;unfold Rv at h;show ¬(last-(a.h+(wy ws a.w).h)=last-(b.h+(wy ws b.w).h)/\a.w=b.w);rintro⟨h1,e⟩;rw[e]at h1;lia
theorem Lw{pl ks:List Tr}(G:mX m ws)(h:iW m ws last pl)(u:ks.Perm (pl.map (tt ws last)))(hr:fK ks=ck):iW m (ws.map (tw m)) last ks:=by
 have A:∀x∈pl,xx ws x:=λx a=>(h.right.fit x a).1;have hok:∀x∈pl,0<=x.h/\1<=x.l:=λx a=>by have:=eL.mp h.right.ok x a;simpa[Bo]using this
 have H:∀x∈pl,1<=(wy ws x.w).h:=λx a=>(G.ok _ (sJ (A x a).1 (A x a).2).2).h0;have o:∀x∈pl,fu ws x<=last/\x.h<=last:=λx a=>by have h1:=(h.right.fit x a).2.2;have b:=H x a;unfold fu at*;lia
 have q:∀p,1<=p->p<m-1->stP ws pl p (λ_=>ck)=0:=λp h1 b=>by rw[<-Mj o];exact h.st p h1 b
 have m0:=G.m0;refine⟨⟨?_,hr,λy C=>?_,λj h1 b t=>?_⟩,λy C=>?_,λj h1 b=>?_⟩;.rw[eL];intro y C;obtain⟨x,a,rfl⟩:=ey.mp (u.mem_iff.mp C);have h1:=o x a;have b:=hok x a;simp[Bo,tt,b];lia
 . obtain⟨x,a,rfl⟩:=ey.mp (u.mem_iff.mp C);have h1:=h.right.fit x a;refine⟨⟨h1.1.1,by show x.w<((ws.map (tw m)).length:Int);rw[en];exact h1.1.2⟩,?_,?_⟩;.show x.l<=(wy (ws.map (tw m)) x.w).r;rw[Fq h1.1.1 h1.1.2];exact h1.2.1
   .show last-fu ws x+(wy (ws.map (tw m)) x.w).h<=last;rw[Fq h1.1.1 h1.1.2];show last-fu ws x+(wy ws x.w).h<=last;have:=hok x a;unfold fu;lia
 . have e:=Dm (m:=m) (p:=m-1-j) (P:=iC t) A u;rw[show m-1-(m-1-j)=j by lia,Ms]at e;rw[e];by_cases c:j=m-1
   . rw[c,show m-1-(m-1)=(0:Int)by lia];have:stP ws pl 0 (p8 (last-t))<=0:=by
      have:=aaJ (l:=pl) (f:=λx=>Av ws 0 (p8 (last-t)) x-zY ws 0 (p8 (last-t)) x) (g:=λ_=>0) λx a=>by have h1:=(h.way x a).1;have b:=hok x a;unfold Av zY;rw[if_neg (λz=>h1 z.1)];split<;>lia
      rw[qK (f:=λ_=>0) λ_ _=>rfl]at this;exact this
     lia
   .have E:=q (m-1-j) (by lia) (by lia);rw[qW (c:=last-t)]at E;have:=h.right.st (m-1-j) (by lia) (by lia) (last-t-1);lia
 .obtain⟨x,a,rfl⟩:=ey.mp (u.mem_iff.mp C);have h1:=h.way x a;have b:=A x a;show(wy (ws.map (tw m)) x.w).t≠0/\(wy (ws.map (tw m)) x.w).s≠m-1;rw[Fq b.1 b.2];show m-1-(wy ws x.w).s≠0/\m-1-(wy ws x.w).t≠m-1;lia
 .have e:=Dm (m:=m) (p:=m-1-j) (P:=iC last) A u;rw[show m-1-(m-1-j)=j by lia,Ms]at e;rw[e];have E:=q (m-1-j) (by lia) (by lia);rw[qW (c:=last-last),Om (t:=last-last-1) λx a=>by have h1:=hok x a;have b:=H x a;unfold fu;lia]at E;lia
noncomputable def bw(vs:List aZ):List Wy:=jw vs (vs.map λ_=>[1000000000])
theorem zf{vs:List aZ}:bw vs=vs.map λv=>⟨v.s,v.t,1000000000,v.h⟩:=by unfold bw jw;induction vs with|nil=>rfl|cons v vs a=>simp only[eK,List.zip_cons_cons]at a ⊢;rw[a];rfl
theorem gM{vs:List aZ}:(vs.map λ_=>([1000000000]:List Int)).length=vs.length:=en _
theorem afu{vs:List aZ}{k:Int}(h0:0<=k)(h1:k<(vs.length:Int)):(wy (bw vs) k).r=1000000000:=by
 have a:k.toNat<vs.length:=by lia
 rw[zf];unfold wy;simp[a]
structure G5(vs:List aZ)(m T:Int)(pl:List Tr):Prop where
 fit:∀x∈pl,eY vs T x
 QW:fK pl=ck
 one:∀x∈pl,1<=x.l
 cl:∀x∈pl,Io vs m (x.h,x.w)pos:∀p:Int,1<=p->p<m->∀t,0<=ji vs pl p t
 fin:∀p:Int,1<=p->p<m-1->ji vs pl p T=0
theorem G5.clean{vs:List aZ}{T:Int}{pl:List Tr}(c:G5 vs m T pl)(hr:rooms.length=vs.length)(e:∀x∈pl,x.l<=(wy (jw vs rooms) x.w).r):iW m (jw vs rooms) T pl:=by
 refine⟨⟨?_,c.QW,λx a=>?_,λp h1 b t=>?_⟩,λx a=>?_,λp h1 b=>?_⟩;.rw[eL];intro x a;simp[Bo,(c.fit x a).h0,c.one x a]
 .have f:=c.fit x a;refine⟨⟨f.w0,by rw[Bl hr];exact f.w1⟩,e x a,?_⟩;unfold fu;rw[(m5 hr f.w0 f.w1).2.2];exact f.o1
 .rw[kO hr c.fit];exact c.pos p h1 b t
 .have f:=c.fit x a;have:=c.cl x a;unfold Io at this;rw[(m5 hr f.w0 f.w1).1,(m5 hr f.w0 f.w1).2.1];simp only at this;lia
 .rw[kO hr c.fit];exact c.fin p h1 b
theorem G5.of{vs:List aZ}{T:Int}{pl:List Tr}(hr:rooms.length=vs.length)(hv:∀v∈vs,v.Ok m)(c:iW m (jw vs rooms) T pl):G5 vs m T pl:=by
 have a:=rH hr c.right;refine⟨a,c.right.QW,λx b=>?_,λx b=>?_,λp h1 e t=>?_,λp h1 e=>?_⟩;.have:=eL.mp c.right.ok x b;simp[Bo]at this;exact this.2
 .have f:=a x b;have:=c.way x b;rw[(m5 hr f.w0 f.w1).1,(m5 hr f.w0 f.w1).2.1]at this;have h0:=(hv _ (gQ f.w0 f.w1).2).t0;unfold Io;simp only;lia
 .rw[<-kO hr a];exact c.right.st p h1 e t
 .rw[<-kO hr a];exact c.st p h1 e
theorem Xf.cln{vs:List aZ}{T:Int}{pl:List Tr}(h:Xf vs m T B kvs pl):G5 vs m T pl:=⟨h.fit,h.QW,λx a=>(h.one x a).1,h.cl,λp h1 _ t=>h.pos p h1 t,λp h1 b=>h.fin p h1 b T (gN _)⟩
noncomputable def yu(vs:List aZ)(T:Int)(x:Tr):Tr:=⟨T-x.h-(rd vs x.w).h,x.w,x.l⟩
theorem vL{vs:List aZ}{T:Int}{pl:List Tr}(a:∀x∈pl,eY vs T x):pl.map (tt (bw vs) T)=pl.map (yu vs T):=by refine fe λx b=>?_;have f:=a x b;unfold tt yu fu;have e:(wy (bw vs) x.w).h=(rd vs x.w).h:=(m5 gM f.w0 f.w1).2.2;rw[e,show T-(x.h+(rd vs x.w).h)=T-x.h-(rd vs x.w).h by lia]
theorem Jv{vs:List aZ}:(bw vs).map (tw m)=bw (vs.map (eZ m)):=by rw[zf,zf,eC,eC];rfl
theorem zq{v:aZ}(h:v.Ok m):(eZ m v).Ok m:=by have h1:=h.s0;have a:=h.s1;have b:=h.t0;have e:=h.t1;have f:=h.ne;have g:=h.h0;have j:=h.h1;refine⟨?_,?_,?_,?_,?_,?_,?_⟩<;>simp only[eZ]<;>lia
theorem YK{vs:List aZ}(m0:2<=m)(m1:m<=6)(b:vs.length<=12)(hv:∀v∈vs,v.Ok m):mX m (bw vs):=by refine⟨m0,m1,by rw[zf,en];exact b,λw a=>?_⟩;rw[zf]at a;obtain⟨v,h,rfl⟩:=ey.mp a;have k:=hv v h;exact⟨k.s0,k.s1,k.t0,k.t1,k.ne,by show(0:Int)<=1000000000;lia,by show(1000000000:Int)<=1000000000;lia,k.h0,k.h1⟩
section
variable{vs:List aZ}{m T:Int}{pl ks:List Tr}
theorem G5.turn(m0:2<=m)(m1:m<=6)(g:vs.length<=12)(hv:∀v∈vs,v.Ok m)(c:G5 vs m T pl)(hB:∀x∈pl,x.l<=600000000)(b:ks.Perm (pl.map (yu vs T)))(hr:fK ks=ck):G5 (vs.map (eZ m)) m T ks:=by rw[<-vL c.fit]at b;have h1:=Lw (YK m0 m1 g hv) (c.clean gM λx e=>by have f:=c.fit x e;have:(wy (jw vs (vs.map λ_=>[1000000000])) x.w).r=1000000000:=afu f.w0 f.w1;rw[this];have:=hB x e;lia) b hr;rw[Jv]at h1;exact G5.of gM (λv a=>by obtain⟨u,j,rfl⟩:=ey.mp a;exact zq (hv u j)) h1
theorem S7(a:∀x∈pl,eY vs T x)(hr:fK pl=ck):(pl.map (yu vs T)).Pairwise neT:=by rw[<-vL a];exact Y4 hr
theorem J0(a:∀x∈pl,eY vs T x)(f:∀x∈ks,eY (vs.map (eZ m)) T x)(b:ks.Perm (pl.map (yu vs T))):ji (vs.map (eZ m)) ks (m-1-p) t=-stP (bw vs) pl p (p8 (T-t)):=by rw[<-vL a]at b;have e:=Dm (m:=m) (p:=p) (P:=iC t) (rZ gM a) b;have g:=kO (p:=m-1-p) (t:=t) gM f;have j:(jw vs (vs.map λ_=>[1000000000])).map (tw m)=bw (vs.map (eZ m)):=Jv;rw[j,Ms]at e;rw[<-g];exact e
theorem U7(a:∀x∈pl,eY vs T x)(f:∀x∈ks,eY (vs.map (eZ m)) T x)(b:ks.Perm (pl.map (yu vs T))):Hn (vs.map (eZ m)) ks t=ji vs pl (m-1) (T-t):=by rw[<-vL a]at b;have e:=Dm (m:=m) (p:=m-1) (P:=p8 t) (rZ gM a) b;have g:(jw vs (vs.map λ_=>[1000000000])).map (tw m)=bw (vs.map (eZ m)):=Jv;rw[g,aaR,show m-1-(m-1)=(0:Int)by lia]at e;rw[<-Em gM f,<-kO gM a];have:stP (jw (vs.map (eZ m)) ((vs.map (eZ m)).map λ_=>[1000000000])) ks 0 (p8 t)=_:=e;rw[this];lia
theorem Su(hv:∀v∈vs,v.Ok m)(c:G5 vs m T pl)(h1:1<=p)(a:p<m-1):-stP (bw vs) pl p (p8 t)=ji vs pl p (t-1):=by
 have g:=rZ (rooms:=vs.map λ_=>[1000000000]) gM c.fit;have j:=qW (ws:=bw vs) (pl:=pl) (p:=p) (c:=t);have l:=Mj (ws:=bw vs) (pl:=pl) (p:=p) (t:=T) λx b=>by have f:=c.fit x b;have e:(wy (bw vs) x.w).h=(rd vs x.w).h:=(m5 gM f.w0 f.w1).2.2;have h0:=(hv _ (gQ f.w0 f.w1).2).h0;have:=f.o1;unfold fu;rw[e];lia
 have o:stP (bw vs) pl p (iC T)=ji vs pl p T:=kO gM c.fit;have q:stP (bw vs) pl p (iC (t-1))=ji vs pl p (t-1):=kO gM c.fit;have u:=c.fin p h1 a;lia
end
structure yh(m T:Int)(vs:List aZ)(rooms:List (List Int))(wt:List (Option (List Int)))(pl:List Tr):Prop where
 ok:fV m T vs rooms
 c:G5 vs m T pl
 hB:∀x∈pl,x.l<=600000000
 len:pl.length<=48
 room:∀x∈pl,x.l<=rm rooms x.w x.h
 al:(wt.length:Int)=m
 wa:∀(p:Nat)o,wt[p]?=aD o->Ca vs pl T p o
 w0:wt[0]?=aD b_
theorem YX{T:Int}{vs:List aZ}{x:Tr}(ok:fV m T vs rooms)(f:eY vs T x):rm rooms x.w x.h<=(wy (jw vs rooms) x.w).r:=by
 obtain⟨r,r1,l,o,g,a⟩:=Dp ok f;have f0:=f.w0;have f1:=f.w1;have j:x.w.toNat<vs.length:=by lia
 have e:(vs.zip rooms)[x.w.toNat]?=aD (vs[x.w.toNat],r):=iA.mpr ⟨by simp[j],g⟩;have:(wy (jw vs rooms) x.w).r=M6 r:=by unfold wy jw;simp[e]
 rw[this];unfold M6;have b:r≠[]:=λe=>by rw[e]at a;cases a
 cases e:r.max? with|none=>simp at e;exact absurd e b|some i=>exact(lI.mp e).2 _ a
section
variable{m T:Int}{vs:List aZ}{rooms:List (List Int)}{wt:List (Option (List Int))}{pl ks:List Tr}
theorem vW(ok:fV m T vs rooms)(c:G5 vs m T pl)(h:lL m vs rooms wt pl):G9 m T vs rooms wt pl:=⟨c.clean ok.rl λx a=>qS (h.room x a) (YX ok (c.fit x a)),h⟩
theorem yh.wo(h:yh m T vs rooms wt pl):Ag m wt:=⟨h.al,λp r e=>by have:=(h.wa p _ e r rfl).1;have:=h.ok.t1;lia⟩
theorem yh.hold(h:yh m T vs rooms wt pl):lL m vs rooms wt pl:=⟨h.room,λp h1 f r e j g=>by obtain⟨a,b⟩:=h.wa _ _ e r rfl;have:=b j (by lia);rw[show((p.toNat:Nat):Int)=p by lia]at this;exact this⟩
theorem yh.aev(h:yh m T vs rooms wt pl):G9 m T vs rooms wt pl:=vW h.ok h.c h.hold
theorem GJ(t0:0<=T):((lO T h r).length:Int)=T+1:=by unfold lO;rw[en,i6];lia
theorem Qn(ok:fV m T vs rooms):fV m T (vs.map (eZ m)) (mV T vs rooms):=by
 refine⟨ok.m0,ok.m1,ok.t0,ok.t1,by rw[en];exact ok.vl,λv hv=>?_,?_,λr hr=>?_⟩;.obtain⟨u,a,rfl⟩:=ey.mp hv;exact zq (ok.hv u a)
 .unfold mV;rw[en,qc,en,ok.rl];lia
 .obtain⟨p,_,rfl⟩:=ey.mp hr;exact GJ ok.t0
theorem vd:(oJ wt).length=wt.length:=by unfold oJ;simp
theorem vo{p:Nat}{a:List Int}(h:(oJ wt)[p]?=aD (aD a)):p<wt.length/\∃r,wt[wt.length-1-p]?=aD (aD r)/\a=r.reverse:=by
 have b:p<wt.length:=by
  rcases tm p wt.length with z|z;.exact z
  .rw[qE (by rw[vd];exact z)]at h;cases h
 refine⟨b,?_⟩;unfold oJ at h;rw[eI,lP b]at h;cases e:wt[wt.length-1-p]?with|none=>rw[e]at h;cases h|some o=>rw[e]at h;cases o with|none=>cases h|some r=>simp at h;exact⟨r,rfl,h.symm⟩
theorem yh.Qi(h:yh m T vs rooms wt pl):Ag m (oJ wt):=⟨by rw[vd];exact h.al,λp b e=>by obtain⟨_,r,a,rfl⟩:=vo e;rw[mB];exact h.wo.aok _ _ a⟩
theorem yh.xK(h:yh m T vs rooms wt pl)(a:ks.Perm (pl.map (yu vs T)))(hr:fK ks=ck):G5 (vs.map (eZ m)) m T ks:=h.c.turn h.ok.m0 h.ok.m1 h.ok.vl h.ok.hv h.hB a hr
theorem OJ(ok:fV m T vs rooms){y:Tr}(f:eY vs T y):rm (mV T vs rooms) y.w (yu vs T y).h=rm rooms y.w y.h:=by
 obtain⟨r,r1,j,l,a,o⟩:=Dp ok f;have f0:=f.w0;have f1:=f.w1;have f2:=f.h0;have f3:=f.o1;have b:y.w.toNat<vs.length:=by lia
 have u:=(ok.hv _ (gQ f0 f1).2).h0;have ev:vs[y.w.toNat]?=aD (rd vs y.w):=by unfold rd;simp[b]
 have e:(vs.zip rooms)[y.w.toNat]?=aD (rd vs y.w,r):=iA.mpr ⟨ev,a⟩;have g:(mV T vs rooms)[y.w.toNat]?=aD (lO T (rd vs y.w).h r):=by unfold mV;rw[eI,e];rfl
 unfold rm;rw[g,a];simp only[lZ];show((lO T (rd vs y.w).h r)[(T-y.h-(rd vs y.w).h).toNat]?).getD 0=_;generalize(rd vs y.w).h=q at*;unfold lO;rw[eI,mf (by lia)];simp only[fh,lZ];rw[if_pos (by lia),show(T-(((T-y.h-q).toNat:Nat):Int)-q).toNat=y.h.toNat by lia,ow]
theorem yh.Hf(h:yh m T vs rooms wt pl)(g:ks.Perm (pl.map (yu vs T)))(hr:fK ks=ck):lL m (vs.map (eZ m)) (mV T vs rooms) (oJ wt) ks:=by
 have hc:=h.xK g hr;have m0:=h.ok.m0;have t0:=h.ok.t0;refine⟨λx A=>?_,λp h1 G H e j o=>?_⟩;.obtain⟨y,q,rfl⟩:=ey.mp (g.mem_iff.mp A);show y.l<=rm (mV T vs rooms) y.w (yu vs T y).h;rw[OJ h.ok (h.c.fit y q)];exact h.room y q
 . obtain⟨I,r,f,rfl⟩:=vo e;have C:=h.al;rw[show wt.length-1-p.toNat=(m-1-p).toNat by lia]at f;obtain⟨a,b⟩:=h.wa _ _ f r rfl;rw[mB]at o;by_cases E:p=m-1;.rw[E,show(m-1-(m-1)).toNat=0 by lia,h.w0]at f;cases f
   .have u:=J0 (m:=m) (p:=m-1-p) (t:=(j:Int)) h.c.fit hc.fit g;rw[show m-1-(m-1-p)=p by lia,Su h.ok.hv h.c (by lia) (by lia)]at u;rw[u,lP o];have:=b (r.length-1-j) (by lia);rw[show(((m-1-p).toNat:Nat):Int)=m-1-p by lia,show((r.length-1-j:Nat):Int)=T-(j:Int)-1 by lia]at this;exact this
end
theorem vQ:∀{S:List Int},jt (S.map D.int) (S.map D.int)=ck|[]=>rfl|u::a=>by show(decide (u=u)&&jt (a.map D.int) (a.map D.int))=ck;rw[vQ];simp
theorem dI:iV 8 (.lst (ns.map D.int))=ck:=by show(ns.map D.int).all (iV 7)=ck;rw[eL];intro d hd;obtain⟨i,_,rfl⟩:=ey.mp hd;rfl
theorem eqI:cm .eq (.lst (ns.map D.int)) (.lst (ns.map D.int))=aD ck:=by show(if iV 8 (.lst (ns.map D.int))&&iV 8 (.lst (ns.map D.int))then aD (jt (ns.map D.int) (ns.map D.int))else b_)=_;rw[dI,vQ];rfl
theorem neI:cm .ne (.lst (ns.map D.int)) (.lst (ns.map D.int))=aD a_:=by show(if iV 8 (.lst (ns.map D.int))&&iV 8 (.lst (ns.map D.int))then aD (!jt (ns.map D.int) (ns.map D.int))else b_)=_;rw[dI,vQ];rfl
theorem u0{f:Int->Int}:∃ns:List Int,cg L f=ns.map D.int:=⟨(ej L).map λ(t:Nat)=>f (t:Int),by unfold cg;rw[eC];rfl⟩
theorem neF{f:Int->Int}:cm .ne (.lst (cg L f)) (.lst (cg L f))=aD a_:=by obtain⟨ns,e⟩:=u0 (L:=L) (f:=f);rw[e];exact neI
theorem eqF{f:Int->Int}:cm .eq (.lst (cg L f)) (.lst (cg L f))=aD ck:=by obtain⟨ns,e⟩:=u0 (L:=L) (f:=f);rw[e];exact eqI
theorem yo{f g:Int->Int}(h:∀t:Nat,t<L->g (t:Int)=f ((L:Int)-1-(t:Int))):(cg L f).reverse=cg L g:=by
 refine kc (by simp[cg]) λi a b=>?_;have hi:i<L:=by simpa[cg]using b
 rw[List.getElem_reverse];simp only[cg,List.getElem_map,nv,en,i6];rw[h i hi,show((L-1-i:Nat):Int)=(L:Int)-1-(i:Int)by lia]
theorem Eh:blt .HF [.lst ds]=aD (.own ds.reverse):=rfl
noncomputable def ltD(vs:List aZ)(T:Int)(d:D):D:=(yu vs T (yx d)).d
inductive F10(l:List Sl)(ρ:List Sl):Prop where|mk(s:Sl)(t:Sl)(u:Sl)(q0:ρ=l++[s,t,u])(q1:fr s=ck)(q2:fr t=ck)(q3:fr u=ck)
section
variable{w n:Nat}{m T:Int}{vs:List aZ}{rooms:List (List Int)}{wt:List (Option (List Int))}{pl:List Tr}{b:Bool}{Q:R->List Sl->Prop}
theorem G7(l:∀x∈pl,eY vs T x)(o:pl.length<61)(q:Q (.own (lu ((pl.map (yu vs T)).map Tr.d))) [.val a_ (bu m T vs rooms wd),.val b (.lst (pl.map Tr.d))]):(run Γ w (n+1) 33 [.val a_ (bu m T vs rooms wd),.val b (.lst (pl.map Tr.d))]).sat Q:=by
 have a:pl.length<=lim:=by show _<=16777216;lia
 refine aQ (d:=f33) rfl rfl (by decide) ?_;symm;simp[f33];simp only[bu];simp;apply ak;simp[a];refine cD (F10 [.val a_ (bu m T vs rooms wd),.val b (.lst (pl.map Tr.d)),.val a_ (.int m),.val a_ (.int T),.val a_ (.tup (vs.map aZ.d)),.val a_ (.tup (rooms.map cZ)),.val a_ wd]) (ltD vs T) ⟨.aN,.aN,.aN,rfl,rfl,rfl,rfl⟩ ?_ ?_;.rintro d hd _⟨s,t,u,rfl,hs,g,j⟩;obtain⟨x,A,rfl⟩:=ey.mp hd;have f:=l x A;simp[hs,g,j,Tr.d,(gQ f.w0 f.w1).1,Xa,ltD,yu];exact⟨_,_,_,rfl,rfl,rfl,rfl⟩
 rintro _⟨s,t,u,rfl,hs,g,j⟩;have e:(pl.map Tr.d).map (ltD vs T)=(pl.map (yu vs T)).map Tr.d:=by rw[eC,eC];rfl
 have C:blt .sorted [.lst ((pl.map (yu vs T)).map Tr.d)]=aD (.own (lu ((pl.map (yu vs T)).map Tr.d))):=by show(if _ then _ else _)=_;rw[if_pos (nR (by simpa using o))]
 rw[e];simp only[jy,C,bz,lw,nq,aV,iR];exact q
theorem G8(h:yh m T vs rooms wt pl)(q:Q (.val (.bl ck)) [.val a_ (bu m T vs rooms (.tup (wt.map wD))),.val b (.lst (pl.map Tr.d))]):(run Γ w (n+8) 34 [.val a_ (bu m T vs rooms (.tup (wt.map wD))),.val b (.lst (pl.map Tr.d))]).sat Q:=by
 have hpl:=h.len;have t0:=h.ok.t0;obtain⟨ks,g,a,j⟩:=Dh (pl:=pl.map (yu vs T));have hr:=j (S7 h.c.fit h.c.QW);have hc:=h.xK a hr;have hok:=Qn h.ok;have l:ks.length<=48:=by rw[a.length_eq,en];exact hpl
 have o:=vW hok hc (h.Hf a hr);have r1:(cg (T+1).toNat (Hn vs pl)).reverse=cg (T+1).toNat (ji (vs.map (eZ m)) ks (m-1)):=yo λt u=>by have:=J0 (m:=m) (p:=0) (t:=(t:Int)) h.c.fit hc.fit a;have A:-stP (bw vs) pl 0 (p8 (T-(t:Int)))=Hn vs pl (T-(t:Int)):=Em gM h.c.fit;rw[show m-1-0=m-1 by lia,A]at this;rw[this,show(((T+1).toNat:Nat):Int)-1-(t:Int)=T-(t:Int)by lia]
 have C:(cg (T+1).toNat (ji vs pl (m-1))).reverse=cg (T+1).toNat (Hn (vs.map (eZ m)) ks):=yo λt u=>by rw[U7 h.c.fit hc.fit a,show(((T+1).toNat:Nat):Int)-1-(t:Int)=T-(t:Int)by lia]
 refine aQ (d:=f34) rfl rfl (by decide) ?_;symm;simp[f34];refine Ah h.ok h.al ?_;simp;apply ak;simp;refine G7 h.c.fit (by lia) ?_;rw[g];simp;apply ak;simp;refine iH h.ok h.wo (.inr ⟨_,rfl⟩) (by lia) λb1 e=>?_;obtain rfl:b1=ck:=e.mpr h.aev;simp;refine iH hok h.Qi (.inl ⟨_,rfl⟩) (by lia) λb2 f=>?_;obtain rfl:b2=ck:=f.mpr o;simp;apply ak;simp;refine jU hok (.inl ⟨_,rfl⟩) hc.fit (by lia) ?_;simp;refine pP h.ok (.inr ⟨_,rfl⟩) h.c.fit (by lia) ?_;simp[Eh,r1,neF];apply ak;simp;refine pP hok (.inl ⟨_,rfl⟩) hc.fit (by lia) ?_;simp;refine jU h.ok (.inr ⟨_,rfl⟩) h.c.fit (by lia) ?_;simp[Eh,C,eqF];exact q
end
section
variable{w n:Nat}{m T:Int}{vs:List aZ}{rooms:List (List Int)}{wt:List (Option (List Int))}{pl:List Tr}{b:Bool}{Q:R->List Sl->Prop}
theorem Hu{h:Nat}{v:aZ}(hr:(r.length:Int)=T+1)(a:(h:Int)<=T):((sZ h v r).length:Int)=T+1:=by
 unfold sZ;split;.rw[ib,ij,nE];lia
 .exact hr
theorem Ef{h:Nat}(ok:fV m T vs rooms)(a:(h:Int)<=T):fV m T vs (p6 vs rooms h):=by
 refine⟨ok.m0,ok.m1,ok.t0,ok.t1,ok.vl,ok.hv,?_,λr hr=>?_⟩;.unfold p6;rw[en,qc,ok.rl];lia
 .obtain⟨p,e,rfl⟩:=ey.mp hr;exact Hu (ok.ro _ (j_ e).2) a
theorem Ej{h:Nat}{x:Tr}(ok:fV m T vs rooms)(f:eY vs T x):rm (p6 vs rooms h) x.w x.h=if(rd vs x.w).s=0/\x.h<(h:Int)then 0 else rm rooms x.w x.h:=by
 obtain⟨r,r1,l,o,a,q⟩:=Dp ok f;have f0:=f.w0;have f1:=f.w1;have f2:=f.h0;have f3:=f.o1;have g:x.w.toNat<vs.length:=by lia
 have ev:vs[x.w.toNat]?=aD (rd vs x.w):=by unfold rd;simp[g]
 have e:(vs.zip rooms)[x.w.toNat]?=aD (rd vs x.w,r):=iA.mpr ⟨ev,a⟩;have j:(p6 vs rooms h)[x.w.toNat]?=aD (sZ h (rd vs x.w) r):=by unfold p6;rw[eI,e];rfl
 unfold rm;rw[j,a];simp only[lZ];unfold sZ;by_cases c:(rd vs x.w).s=0
 . rw[if_pos c];by_cases c2:x.h<(h:Int);.rw[if_pos ⟨c,c2⟩,ei (by rw[ij];lia),im,if_pos (by lia)];rfl
   .rw[if_neg (λz=>c2 z.2),eW (by rw[ij];lia),List.getElem?_drop,ij,show h+(x.h.toNat-h)=x.h.toNat by lia]
 .rw[if_neg c,if_neg (λz=>c z.1)]
theorem yh.late(h:yh m T vs rooms wt pl){k:Nat}(f:(k:Int)<=T):G9 m T vs (p6 vs rooms k) wt pl↔∀x∈pl,(rd vs x.w).s=0->(k:Int)<=x.h:=by
 constructor
 . intro c x a e;have h1:=c.2.room x a;rw[Ej h.ok (h.c.fit x a)]at h1;have:=h.c.one x a;by_cases z:x.h<(k:Int);.rw[if_pos ⟨e,z⟩]at h1;lia
   .lia
 .intro c;refine vW (Ef h.ok f) h.c ⟨λx a=>?_,h.hold.wait⟩;rw[Ej h.ok (h.c.fit x a),if_neg (λz=>by have:=c x a z.1;lia)];exact h.room x a
noncomputable def stG(vs:List aZ)(d:D):Option D:=if(rd vs (yx d).w).s=0 then aD (.int (yx d).h)else b_
noncomputable def starts(vs:List aZ)(pl:List Tr):List Int:=pl.filterMap λx=>if(rd vs x.w).s=0 then aD x.h else b_
theorem Lp:(pl.map Tr.d).filterMap (stG vs)=(starts vs pl).map D.int:=by induction pl with|nil=>rfl|cons x pl a=>
   unfold starts at a ⊢;rw[eK,iX,iX];have e:stG vs x.d=if(rd vs x.w).s=0 then aD (.int x.h)else b_:=rfl;rw[e];by_cases c:(rd vs x.w).s=0;.simp only[if_pos c,eK,a]
   .simp only[if_neg c,a]
theorem Bb{k:Int}:(∀x∈pl,(rd vs x.w).s=0->k<=x.h)↔∀j∈starts vs pl,k<=j:=by
 unfold starts;constructor
 . intro h j f;obtain⟨x,a,e⟩:=k4.mp f;split at e;.rename_i c;cases e;exact h x a c
   .cases e
 .intro h x a c;exact h x.h (k4.mpr ⟨x,a,by rw[if_pos c]⟩)
theorem PQ(h:ns≠[]):∃i,blt .HB [.lst (ns.map D.int)]=aD (.val (.int i))/\∀k:Int,k<=i↔∀j∈ns,k<=j:=by
 have f:(ns.map D.int).mapM gD=aD ns:=by clear h;induction ns with|nil=>rfl|cons a l g=>simp[sd,g,gD]
 obtain⟨i,hi⟩:∃i,ns.min?=aD i:=by cases ns with|nil=>exact absurd rfl h|cons a l=>exact⟨_,List.min?_cons'⟩
 refine⟨i,?_,λk=>⟨λe j o=>qS e ((ly.mp hi).2 j o),λe=>e i (ly.mp hi).1⟩⟩;show((aD (ns.map D.int)).bind λds=>ds.mapM gD).bind (λns=>ns.min?.map λi=>R.val (.int i))=_;rw[se,f,se,hi];rfl
theorem O8{a:D}{ds:List D}:cm .eq (.lst []) (.lst [])=aD ck:=rfl
theorem Nh{a:Int}:cm .eq (.lst ((a::ns).map D.int)) (.lst [])=aD a_:=by show(if iV 8 (.lst ((a::ns).map D.int))&&ck then aD a_ else b_)=_;rw[dI];rfl
inductive JL(a0 a1 a2:Sl)(i:Nat)(ρ:List Sl):Prop where|mk(s:Sl)(q0:ρ=[a0,a1,a2,s])(q1:fr s=ck)
theorem neB{a c:Bool}:cm .ne (.bl a) (.bl c)=aD (a !=c):=rfl
theorem Cr(h:yh m T vs rooms wt pl)(q:Q (.val (.bl ck)) [.val a_ (bu m T vs rooms (.tup (wt.map wD))),.val b (.lst (pl.map Tr.d))]):(run Γ w (n+8) 35 [.val a_ (bu m T vs rooms (.tup (wt.map wD))),.val b (.lst (pl.map Tr.d))]).sat Q:=by
 have hpl:=h.len;have t0:=h.ok.t0;have t1:=h.ok.t1;refine aQ (d:=f35) rfl rfl (by decide) ?_;symm;simp[f35,show pl.length<=lim by show _<=16777216;lia];refine pQ (Jx [.val a_ (bu m T vs rooms (.tup (wt.map wD))),.val b (.lst (pl.map Tr.d)),.aN,.aN]) (stG vs) ⟨.aN,rfl,rfl⟩ ?_ ?_
 . rintro d hd _⟨s,rfl,hs⟩;obtain⟨x,l,rfl⟩:=ey.mp hd;have f:=h.c.fit x l;by_cases c:(rd vs x.w).s=0;.simp[hs,aad,Ha,(gQ f.w0 f.w1).1,Th,c,stG];exact⟨_,rfl,rfl⟩
   .simp[hs,Ha,(gQ f.w0 f.w1).1,Th,c,stG];exact⟨_,rfl,rfl⟩
 rintro _⟨s,rfl,hs⟩;rw[Lp];simp;apply ak;simp[show T+1<=1000000000 by lia,show-1000000000<=T+1 by lia];refine fc (JL _ _ _) ?_ ?_ ⟨.aN,rfl,rfl⟩
 . rintro i _ hi⟨s,rfl,hs⟩;have j:(i:Int)<=T:=by lia
   simp[hs];apply ak;simp;refine Kd h.ok (by lia) ?_;simp;refine iH (Ef h.ok j) h.wo (.inr ⟨_,rfl⟩) (by lia) λb1 g=>?_;rw[h.late j,Bb]at g;cases e:starts vs pl with|nil=>rw[e]at g;obtain rfl:b1=ck:=g.mpr (by simp);simp[O8,neB];exact⟨_,rfl,rfl⟩|cons a ns=>
     rw[e]at g;obtain⟨v,o,u⟩:=PQ (ns:=a::ns) (by simp);have A:b1=decide ((i:Int)<=v):=by rw[gp,g,decide_eq_true_eq,u]
     have C:=Nh (a:=a) (ns:=ns);generalize a::ns=E at*;rw[A];simp[C,o,neB];exact⟨_,rfl,rfl⟩
 .rintro _⟨s,rfl,hs⟩;symm;simp;exact q
end
theorem U3{r:Int}(h:0<n):M6 (dV n r)=r:=by
 have:(dV n r).max?=aD r:=by rw[lI];refine⟨by simp;lia,λb a=>?_⟩;rw[(List.mem_replicate.mp a).2];exact gN _
 unfold M6;rw[this];rfl
section
variable{w n:Nat}{m T:Int}{ws:List Wy}{pl:List Tr}{b:Bool}{Q:R->List Sl->Prop}
theorem o8(t0:0<=T):jw (ws.map wR) (nj T ws)=ws:=by unfold jw nj;rw[List.zip_map',eC];refine(fe λv _=>?_).trans (sB _);show(⟨v.s,v.t,M6 (dV (T+1).toNat v.r),v.h⟩:Wy)=v;rw[U3 (by lia)]
theorem Yu{v:Wy}(h:v.Ok m):(wR v).Ok m:=⟨h.s0,h.s1,h.t0,h.t1,h.ne,h.h0,h.h1⟩
theorem BX(k:mX m ws)(t0:0<=T)(t1:T<=12):fV m T (ws.map wR) (nj T ws):=by
 refine⟨k.m0,k.m1,t0,t1,by rw[en];exact k.len,λv hv=>?_,by unfold nj;rw[en,en],λr hr=>?_⟩;.obtain⟨u,a,rfl⟩:=ey.mp hv;exact Yu (k.ok u a)
 .obtain⟨u,_,rfl⟩:=ey.mp hr;rw[ij];lia
theorem JB{p:Nat}(h:(Hr m)[p]?=aD (aD r)):False:=by unfold Hr at h;rw[im]at h;split at h<;>cases h
theorem aaP(m0:0<=m):Ag m (Hr m):=⟨by unfold Hr;rw[ij];lia,λp r e=>(JB e).elim⟩
theorem ye(k:mX m ws)(t0:0<=T)(t1:T<=12)(h:gk m ws T pl):lL m (ws.map wR) (nj T ws) (Hr m) pl:=by
 refine⟨λx a=>?_,λp h1 l r e=>(JB e).elim⟩;have f:=rH (BX k t0 t1).rl (by rw[o8 t0];exact h) x a;obtain⟨⟨o,q⟩,g,_⟩:=h.fit x a;have f2:=f.h0;have f3:=f.o1;have f1:=f.w1;have u:=((BX k t0 t1).hv _ (gQ f.w0 f.w1).2).h0;have j:x.w.toNat<ws.length:=by lia
 have e:rm (nj T ws) x.w x.h=(wy ws x.w).r:=by unfold rm nj wy;rw[eI,gT j];simp only[fh,lZ];rw[im,if_pos (by lia)];rfl
 rw[e];exact g
theorem Ks(k:mX m ws)(t0:0<=T)(t1:T<=12):Va m T (ws.map wR) (nj T ws) (Hr m) pl↔gk m ws T pl:=by unfold Va;rw[o8 t0];exact⟨λh=>h.1,λh=>⟨h,ye k t0 t1 h⟩⟩
theorem IW(k:mX m ws)(t0:0<=T)(t1:T<=12):G9 m T (ws.map wR) (nj T ws) (Hr m) pl↔iW m ws T pl:=by unfold G9;rw[o8 t0];exact⟨λh=>h.1,λh=>⟨h,ye k t0 t1 h.right⟩⟩
theorem Z0{a c:Bool}:cm .ne (.bl a) (.bl c)=aD (a !=c):=rfl
inductive JP(l:List Sl)(i:Nat)(ρ:List Sl):Prop where|mk(s:Sl)(t:Sl)(q0:ρ=l++[s,t])(q1:fr s=ck)(q2:fr t=ck)
inductive JH(l:List Sl)(i:Nat)(ρ:List Sl):Prop where|mk(t:Sl)(q0:ρ=l++[t])(q1:fr t=ck)
theorem Cj(k:mX m ws)(t0:0<=T)(t1:T<=12)(N:pl.length<=60)(q:Q (.val (.bl ck)) [.val a_ (cB m ws),.val a_ (.int T),.val b (.lst (pl.map Tr.d))]):(run Γ w (n+8) 36 [.val a_ (cB m ws),.val a_ (.int T),.val b (.lst (pl.map Tr.d))]).sat Q:=by
 have m0:=k.m0;have m1:=k.m1;have a:∀v∈ws,v.s≠v.t:=λv hv=>(k.ok v hv).ne;have ok:=BX (T:=T) k t0 t1;have wo:=aaP (m:=m) (by lia);refine aQ (d:=f36) rfl rfl (by decide) ?_;symm;simp[f36];refine Af t0 t1 k.len k.m0 k.m1 ?_;simp;apply ak;simp;refine eU (.inr ⟨_,rfl⟩) (by lia) a (by lia) λr hr=>?_;simp;apply ak;simp;refine wg ok wo (.inr ⟨_,rfl⟩) (by lia) λb1 o=>?_;rw[Ks k t0 t1]at o;obtain rfl:b1=r:=by rw[gp,o,hr]
 simp[Z0];refine iH ok wo (.inr ⟨_,rfl⟩) (by lia) λb2 u=>?_;rw[IW k t0 t1]at u;simp;refine jo (.inr ⟨_,rfl⟩) (by lia) a (by lia) λb3 E=>?_;obtain rfl:b2=b3:=by rw[gp,u,E]
 simp[Z0];cases b1 with|false=>symm;simp;apply ak;simp;exact q|true=>
   have G:=hr.mp rfl;have A:∀x∈pl,eY (ws.map wR) T x:=rH ok.rl (by rw[o8 t0];exact G);have e:∀x∈pl,xx ws x:=λx I=>(G.fit x I).1;have st:∀p t,stP ws pl p (iC t)=ji (ws.map wR) pl p t:=λp t=>by have:=kO (p:=p) (t:=t) ok.rl A;rw[o8 t0]at this;exact this
   have J:∀t,-stP ws pl 0 (p8 t)=Hn (ws.map wR) pl t:=λt=>by have:=Em (t:=t) ok.rl A;rw[o8 t0]at this;exact this
   have f:T+1<=1000000000:=by lia
   have g:-1000000000<=T+1:=by lia
   have C:(T+1).toNat<=lim:=by show _<=16777216;lia
   symm;simp;apply ak;simp;refine jU ok (.inr ⟨_,rfl⟩) A (by lia) ?_;simp[f,g,C];refine dq (Jx [.val a_ (cB m ws),.val a_ (.int T),.val b (.lst (pl.map Tr.d)),.val a_ (bu m T (ws.map wR) (nj T ws) (.tup ((Hr m).map wD))),.val a_ (.bl ck),.aN,.aN]) _ (λ(k:Nat)=>D.int (ji (ws.map wR) pl (m-1) (k:Int))) ⟨.aN,rfl,rfl⟩ ?_ ?_;.rintro j H _⟨s,rfl,hs⟩;simp[hs];refine lF (.inr ⟨_,rfl⟩) e a (by lia) ?_;rw[st];simp;exact⟨_,rfl,rfl⟩
   rintro _⟨s,rfl,hs⟩;rw[show(ej (T+1).toNat).map (λ(k:Nat)=>D.int (ji (ws.map wR) pl (m-1) (k:Int)))=cg (T+1).toNat (ji (ws.map wR) pl (m-1))from rfl];simp[neF];apply ak;simp;refine pP ok (.inr ⟨_,rfl⟩) A (by lia) ?_;simp[f,g,C];refine dq (Jx [.val a_ (cB m ws),.val a_ (.int T),.val b (.lst (pl.map Tr.d)),.val a_ (bu m T (ws.map wR) (nj T ws) (.tup ((Hr m).map wD))),.val a_ (.bl ck),.aN,.aN]) _ (λ(k:Nat)=>D.int (Hn (ws.map wR) pl (k:Int))) ⟨.aN,rfl,rfl⟩ ?_ ?_;.rintro j H _⟨s,rfl,hs⟩;simp[hs];refine qR (.inr ⟨_,rfl⟩) e a (by lia) ?_;rw[J];simp;exact⟨_,rfl,rfl⟩
   rintro _⟨s,rfl,hs⟩;rw[show(ej (T+1).toNat).map (λ(k:Nat)=>D.int (Hn (ws.map wR) pl (k:Int)))=cg (T+1).toNat (Hn (ws.map wR) pl)from rfl];simp[neF];apply ak;simp[show m<=1000000000 by lia,show-1000000000<=m by lia];refine fc (JP [.val a_ (cB m ws),.val a_ (.int T),.val b (.lst (pl.map Tr.d)),.val a_ (bu m T (ws.map wR) (nj T ws) (.tup ((Hr m).map wD))),.val a_ (.bl ck)]) ?_ ?_ ⟨.aN,.aN,rfl,rfl,rfl⟩
   . rintro i _ hi⟨s,t,rfl,hs,l⟩;simp[hs];apply ak;simp[f,g];refine fc (JH [.val a_ (cB m ws),.val a_ (.int T),.val b (.lst (pl.map Tr.d)),.val a_ (bu m T (ws.map wR) (nj T ws) (.tup ((Hr m).map wD))),.val a_ (.bl ck),.val a_ (.int (1+(i:Int)))]) ?_ ?_ ⟨t,rfl,l⟩;.rintro j _ H⟨t,rfl,l⟩;simp[l];apply ak;simp;refine lV ok (.inr ⟨_,rfl⟩) A (by lia) ?_;simp;refine fH (.inr ⟨_,rfl⟩) e a (by lia) ?_;rw[st];simp;exact⟨_,rfl,rfl⟩
     .rintro _⟨t,rfl,l⟩;simp;exact⟨_,_,rfl,rfl,l⟩
   .rintro _⟨s,t,rfl,hs,l⟩;symm;simp;exact q
end
theorem Qu{e:List Int}{a b:Option Int}:cut (e.map D.int) a b=(cut e a b).map D.int:=by unfold cut;simp
theorem Nf{pl:List Tr}{a b:Option Int}:cut (pl.map Tr.d) a b=(cut pl a b).map Tr.d:=by unfold cut;simp
theorem xV{pl:List Tr}{a b:Option Int}:(cut pl a b).length<=pl.length:=by unfold cut;simp;lia
inductive aan(y m:Int)(N:Nat)(a1 a2 a3 a4 a5 a6 a7:Sl)(r:List D)(ρ:List Sl):Prop where|mk(x z:Int)(ws:List Wy)(rest:List aZ)(s9 jM jD:Sl)(q0:ρ=[.own a_ [.int x,.int y,.int z],a1,a2,a3,a4,a5,a6,a7,.own a_ (ws.map Wy.d),s9,jM,jD,.aN,.aN,.aN,.aN,.aN,.aN])(q1:A3 (fr s9=ck) (fr jM=ck) (fr jD=ck))(q2:r=rest.map aZ.d)(q3:(∀v∈rest,v.Ok m))(q4:(∀v∈ws,v.Ok m))(q5:ws.length+rest.length=N)
inductive adY(y:Int)(N:Nat)(l:List Sl)(ρ:List Sl):Prop where|mk(x z:Int)(p2:List Tr)(Uv U4 VF Vb:Sl)(q0:ρ=.own a_ [.int x,.int y,.int z]::(l++[.own a_ (p2.map Tr.d),Uv,U4,VF,Vb]))(q1:p2.length=N)
theorem Nj{pl:List Tr}:cm .ne (.lst (pl.map Tr.d)) (.lst [])=aD (!pl.isEmpty):=by
 have e:iV 8 (.lst (pl.map Tr.d))=ck:=by show(pl.map Tr.d).all (iV 7)=ck;rw[eL];intro d hd;obtain⟨x,_,rfl⟩:=ey.mp hd;rfl
 show(if iV 8 (.lst (pl.map Tr.d))&&ck then aD (!jt (pl.map Tr.d) [])else b_)=_;rw[e];cases pl<;>rfl
theorem Kg{pl:List Tr}(h0:0<=i)(h1:i<(pl.length:Int)):∃t,at' (pl.map Tr.d) i=aD (Tr.d t)/\kZ pl.length i=aD i.toNat:=by
 have a:i.toNat<pl.length:=by lia
 exact⟨pl[i.toNat],by rw[iw h0 (by simpa using h1)];simp[a],by unfold kZ;rw[if_pos h0,if_pos h1]⟩
theorem Qx{x:Int}(q:∀x z:Int,Q (.val (.bl ck)) [.own a_ [.int x,.int y,.int z]]):(run Γ w (n+9) 37 [.own a_ [.int x,.int y,.int z]]).sat Q:=by
 refine aQ (d:=f37) rfl rfl (by decide) ?_;refine aU (l:=M7) (k:=0) rfl ?_;simp[f37];refine Ke λm T vs rooms wt ag pl x z ok hP hpl O U W X=>?_;have h:yh m T vs rooms wt pl:=⟨ok,hP.cln,λx hx=>(hP.one x hx).2,hpl,O,U,W,X⟩;have m0:=ok.m0;have m1:=ok.m1;have t0:=ok.t0;have t1:=ok.t1;have ah:=ok.vl;have hv:=ok.hv;rw[show(D.tup [.int m,.int T,.tup (vs.map aZ.d),.tup (rooms.map cZ),.tup (wt.map wD)])=bu m T vs rooms (.tup (wt.map wD))from rfl];simp;refine aU (l:=M7) (k:=1) rfl ?_;simp;simp only[bu];simp;rw[show(D.tup [.int m,.int T,.tup (vs.map aZ.d),.tup (rooms.map cZ),.tup (wt.map wD)])=bu m T vs rooms (.tup (wt.map wD))from rfl];refine aU (l:=M7) (k:=2) rfl ?_;simp;refine G8 h ?_;simp;refine Cr h ?_;simp;refine aU (l:=M7) (k:=3) rfl ?_;simp;refine aU (l:=M7) (k:=4) rfl ?_;simp;refine dJ (aan y m vs.length _ _ _ _ _ _ _) ?_ ?_ ⟨x,z,[],vs,.aN,.aN,.aN,rfl,⟨rfl,rfl,rfl⟩,rfl,hv,by simp,by simp⟩;.rintro d r _⟨x,z,ws,f,s9,jM,jD,rfl,⟨h9,C,E⟩,hr,o,A,g⟩;cases f with|nil=>cases hr|cons v f=>
     obtain⟨rfl,rfl⟩:d=v.d/\r=f.map aZ.d:=by simpa using hr
     have k:=o v (by simp);simp at g;have j:ws.length<lim:=by show _<16777216;lia
     have done:∀(x z c:Int)(s9 jM jD:Sl),0<=c->c<=1000000000->fr s9=ck->fr jM=ck->fr jD=ck->aan y m vs.length (.val a_ (bu m T vs rooms (.tup (wt.map wD)))) (.val a_ (.lst (pl.map Tr.d))) (.val a_ (.int m)) (.val a_ (.int T)) (.val a_ (.tup (vs.map aZ.d))) (.val a_ (.tup (rooms.map cZ))) (.val a_ (.tup (wt.map wD))) (f.map aZ.d) [.own a_ [.int x,.int y,.int z],.val a_ (bu m T vs rooms (.tup (wt.map wD))),.val a_ (.lst (pl.map Tr.d)),.val a_ (.int m),.val a_ (.int T),.val a_ (.tup (vs.map aZ.d)),.val a_ (.tup (rooms.map cZ)),.val a_ (.tup (wt.map wD)),.own a_ (ws.map Wy.d++[.tup [.int v.s,.int v.t,.int c,.int v.h]]),s9,jM,jD,.aN,.aN,.aN,.aN,.aN,.aN]:=λx z c s9 jM jD c0 c1 g9 Y Z=>⟨x,z,ws++[⟨v.s,v.t,c,v.h⟩],f,s9,jM,jD,by simp[Wy.d],⟨g9,Y,Z⟩,rfl,λu hu=>o u (by simp[hu]),λu hu=>by
       rcases gl.mp hu with hu|hu;.exact A u hu
       .rw[f_.mp hu];exact⟨k.s0,k.s1,k.t0,k.t1,k.ne,c0,c1,k.h0,k.h1⟩,by simp;lia⟩;simp[aZ.d,h9,C,E];apply ak;simp;refine bh (by decide) (by decide) λa x z a0 a1=>?_;simp;refine bh (by decide) (by decide) λe x z e0 I=>?_;by_cases ce:e=0;.simp[ce,oZ,n6,j];exact done _ _ a _ _ _ a0 (by lia) rfl rfl rfl
     . have ab:(e==0)=a_:=by simp[ce]
       simp[ab,oZ,n6,j];exact done _ _ 1000000000 _ _ _ (by lia) (by lia) rfl rfl rfl
 rintro _⟨x,z,ws,f,s9,jM,jD,rfl,⟨h9,C,E⟩,hr,o,A,g⟩;obtain rfl:f=[]:=by cases f with|nil=>rfl|cons a l=>cases hr
 simp at g;have hk:mX m ws:=⟨m0,m1,by lia,A⟩;simp;refine aU (l:=M7) (k:=5) rfl ?_;simp;rw[show(D.tup [.int m,.tup (ws.map Wy.d)])=cB m ws from rfl];refine aU (l:=M7) (k:=6) rfl ?_;simp[show pl.length<=lim by show _<=16777216;lia];generalize ae:bu m T vs rooms (.tup (wt.map wD))=G;generalize ai:ws.map Wy.d=H;refine xY (l:=M7) (k:=7) rfl (adY y pl.length [.val a_ G,.val a_ (.lst (pl.map Tr.d)),.val a_ (.int m),.val a_ (.int T),.val a_ (.tup (vs.map aZ.d)),.val a_ (.tup (rooms.map cZ)),.val a_ (.tup (wt.map wD)),.own a_ H,s9,jM,jD,.val a_ (cB m ws)]) ?_ ?_;.have J:=Nj (pl:=pl);cases Yh:pl.isEmpty with|true=>rw[Yh]at J;simp[J];exact⟨x,z,pl,_,_,_,_,rfl,rfl⟩|false=>
     rw[Yh]at J;have af:0<pl.length:=by cases pl with|nil=>cases Yh|cons a l=>simp
     simp[J];apply ak;simp;refine bh (by lia) (o9 (by lia)) λa x z a0 a1=>?_;obtain⟨t,I,e2⟩:=Kg (pl:=pl) a0 a1;simp;apply ak;simp[I,Tr.d];apply ak;simp;refine bh (by decide) (by decide) λe x z e0 I=>?_;obtain⟨t',g1,_⟩:=Kg (pl:=[⟨t.h+1,t.w,t.l⟩,⟨t.h,t.w,t.l+1⟩,⟨t.h,t.w,if 1<t.l-1 then t.l-1 else 1⟩,⟨if 1<t.h then t.h-1 else 0,t.w,t.l⟩]) e0 (by simpa using I);simp[Tr.d]at g1;simp[g1,e2];exact⟨x,z,pl.set a.toNat t',_,_,_,_,by rw[List.map_set];rfl,by simp⟩
 rintro _⟨x,z,N,Uv,U4,VF,Vb,rfl,am⟩;refine aU (l:=M7) (k:=8) rfl ?_;obtain⟨ks,f1,f2,_⟩:=Dh (pl:=N);have hb:blt .sorted [.lst (N.map Tr.d)]=aD (.own (ks.map Tr.d)):=by show(if _ then _ else _)=_;rw[if_pos (nR (by lia)),f1]
 simp[hb,Gn,part,vD,Nf];have h1:=xV (pl:=pl) (a:=aD 1) (b:=b_);have h2:=xV (pl:=pl) (a:=b_) (b:=aD (-1));generalize cut pl (aD 1) b_=p3 at*;generalize cut pl b_ (aD (-1))=p4 at*;refine⟨λ_=>?_,by show 5<=16777216;lia⟩;refine dq (Jx [.own a_ [.int x,.int y,.int z],.val a_ G,.val a_ (.lst (pl.map Tr.d)),.val a_ (.int m),.val a_ (.int T),.val a_ (.tup (vs.map aZ.d)),.val a_ (.tup (rooms.map cZ)),.val a_ (.tup (wt.map wD)),.own a_ H,s9,jM,jD,.val a_ (cB m ws),.val a_ (.lst (N.map Tr.d)),Uv,U4,VF,Vb]) (λl:List Tr=>D.lst (l.map Tr.d)) (λ_=>D.bl ck) (l:=[pl,N,ks,p3,p4]) ⟨.aN,rfl,rfl⟩ ?_ ?_
 . rintro l hl _⟨s,rfl,hs⟩;have ac:l.length<=60:=by have:=f2.length_eq;simp only[eM,ka,or_false]at hl;rcases hl with rfl|rfl|rfl|rfl|rfl<;>lia
   simp[hs];refine Cj hk t0 t1 ac ?_;simp;exact⟨_,rfl,rfl⟩
 .rintro _⟨s,rfl,hs⟩;simp;exact q x z
inductive afT(ns:List Int)(_:Nat)(ρ:List Sl):Prop where|mk(cs:List Int)(s:Sl)(q0:ρ=[.own a_ (ns.map D.int),.val a_ (.int 16),.own a_ (cs.map D.int),s])(q1:fr s=ck)(q2:cs.length=16)
theorem Cg(q:ns.length<=63)(k:∀a:List Int,a.length<=16->Q (.own (a.map D.int)) [.own a_ (ns.map D.int),.val a_ (.int 16)]):(run Γ w (n+1) 38 [.own a_ (ns.map D.int),.val a_ (.int 16)]).sat Q:=by
 refine aQ (d:=f38) rfl rfl (by decide) ?_;symm;simp[f38];refine⟨by show 16<=16777216;lia,?_⟩;symm;simp;refine⟨by lia,?_⟩;refine fc (g:=λ(k:Nat)=>D.int (k:Int)) (afT ns) ?_ ?_ ⟨dV 16 0,.aN,by simp,rfl,by simp⟩
 . rintro i _ hi⟨a,s,rfl,hs,hc⟩;have u:0<=(i:Int)%16:=o5 _ (by decide);have A:(i:Int)%16<16:=k7 _ (by decide);obtain⟨j,b,e⟩:∃j,(i:Int)%16=j/\j.toNat<a.length:=⟨_,rfl,by lia⟩;have f:at' (a.map D.int) j=aD (.int a[j.toNat]):=by rw[iw (by lia) (by simp;lia)];simp[e]
   have l:at' (ns.map D.int) (i:Int)=aD (.int ns[i]):=by rw[iw (by lia) (by simp;lia)];simp[hi]
   have o:kZ a.length j=aD j.toNat:=by unfold kZ;rw[if_pos (by lia),if_pos (by lia)]
   simp[hs];apply ak;simp[b,f,l,o];exact⟨a.set j.toNat (a[j.toNat]*1000003+ns[i]),.val a_ (.int i),by simp[List.map_set],rfl,by simpa using hc⟩
 .rintro _⟨a,s,rfl,hs,hc⟩;symm;simp[Gn,part,vD,Qu];exact k _ (by unfold cut;simp;lia)
inductive J62(v:Sl)(r:List D)(ρ:List Sl):Prop where|mk(s1:Sl)(q0:ρ=[v,s1])(q1:fr s1=ck)(q2:∀d∈r,∃i,d=D.int i)
theorem Qs(ns:List Int)(f:ns.length<=63):∃as,run Γ 100000000 40 39 [.val a_ (.lst (ns.map D.int))]=.ok (.val (.bl ck)) as:=by
 suffices h:∀w,(run Γ w 40 39 [.val a_ (.lst (ns.map D.int))]).sat λr _=>r=.val (.bl ck)by obtain⟨a,ρ,e,rfl⟩:=sat_iff.mp (h 100000000);exact⟨ρ,e⟩
 intro w;refine aQ (d:=f39) rfl rfl (by decide) ?_;symm;have g:cut (ns.map D.int) b_ (aD 63)=ns.map D.int:=by unfold cut dY;simp;exact jI (by simp;lia)
 simp[f39,Gn,part,vD,g];refine Cg f λj l=>?_;have o:1+j.length<=lim:=by show _<=16777216;lia
 simp[o];refine dJ (J62 (.val a_ (.lst (ns.map D.int)))) ?_ ?_ ?_;.rintro d r _⟨s1,rfl,h1,hd⟩;obtain⟨x,rfl⟩:=hd d (by simp);simp[h1];apply ak;simp;refine Jp λa b c=>?_;simp;refine Qx λx z=>?_;simp;exact⟨_,rfl,rfl,λd h=>hd d (fP _ h)⟩
 .rintro _⟨s1,rfl,h1,hd⟩;symm;simp
 . refine⟨.aN,rfl,rfl,λd hd=>?_⟩;simp at hd;rcases hd with rfl|⟨i,_,rfl⟩;.exact⟨_,rfl⟩
   .exact⟨_,rfl⟩
end _T
end
structure PySem.W.Fast:Prop where(tw11446448528236566343 tw15050880983500999310 tw6901720062277827906 tw8400861531565126069 tw14857384719121381999 tw6442899568845686060 tw1711183643094925202 tw9728888387589106431 tw10993420282864385767 tw7949619755153288200 tw8368254639359422909 tw6156037696439954110 tw17736809299683678223 tw13306227948072858006 tw5778968906151008504 tw5437008317995393579 tw3011854309238925961 tw2029582854818117406 tw509215064418885562 tw7565168504038482357 tw10329706758509506146 tw15356532992444632674 tw1706830375845741696 tw12850229287730142916 tw13222827458499307703 tw2170687517663087770 tw2099671283672253938 tw8899789328087379517 tw13617378578123740513 tw4182759745796487428 tw7711777201870398857 tw292400968676626896 tw950239876913173104 tw10468809231122009251 tw1897274922732302745 tw8149256032047803378 tw15763758676744993358 tw6423648828032430274 tw1016789436622973160 tw5730147573347742862 tw11136311731219997280 tw17485598296111956177 tw18044640104065524819 tw10908149351662004198 tw14116027778710492471 tw14530015491622969220 tw11401640060028259310 tw3359447648787812826 tw12303884678828347026 tw262884156449531985 tw179985306378733636 tw11991176813786935056 tw5308138190008897773 tw2173214725724857836 tw16784479579642488341 tw11861514173480727398 tw4025007279832545998 tw14331113468829485625 tw11418946466514958171 tw13301093498153934851 tw13531419512377930742 tw16326519587265151037 tw3942380212032133647 tw6400520296088707557 tw5527283190644602414 tw7430592312699118376 tw13665692704006060921 tw12839383788621440652 tw14502589474977097866 tw195276992513514216 tw9571820169786810601 tw4833653349713535707 tw16210139272445740867 tw3251967707131764123 tw3719999813327165419 tw4210085188376320554 tw3883898077857557478 tw11262656762833674474 tw2271375483730955887 tw15158940642953256419 tw16099991872330902535 tw10669605561964563534 tw10545392648231456415 tw652567183984674660 tw4232556740269636217 tw1940452434499855665 tw18206984470424923748 tw13068032644235487509 tw8992620295890194424 tw13489731336593612100 tw5709243197148860631 tw13465555222263949858 tw17918907890163508673 tw14655167122874266291 tw2018549192748550769 tw8558839963133821473 tw5498194897981912556 tw13372281967180486127 tw7833172035398026390 tw5135939342665758217 tw18151483077517447979 tw6727789029838117489 tw18409296598443442742 tw18289529091190479040 tw6934873414288365341 tw10003189154470944858 tw4810046220589024490 tw4398989393130012452 tw5466637211636738615 tw17861214050090119402 tw9488361693936262743 tw13718636634601403760 tw4783830466858733671 tw5607337069710936383 tw5968007790772886725 tw16329572178009806158 tw9430591269039165042 tw13885077481603145705 tw14962961036215657644 tw8490647559210933684 tw15255699367124705176 tw17359182079252594711 tw5142507870538414742 tw17580591981160175669 tw12607897027115230671 tw2252537791967193241 tw11466036524842254307 tw276332725775600637 tw12862437389699765580 tw13662270732176625125 tw1299293061655934825 tw13143974649832148716 tw8252942845583261415 tw11772039748743379790 tw12227371621771272057 tw1604414712514961590 tw17774695483731083460 tw4181826259697258042 tw4494379202761100776 tw9199691332805513837 tw2634301642201722617 tw869052900512671234 tw5413774697518604404 tw12919856458627199682 tw12616058602515222982 tw6576714490587787584 tw12405378424608482990 tw17258968534890738934 tw10984010867710394580 tw10899518152276450829 tw12717579269933688463 tw6624092581751381668 tw2046433771058096854 tw708801868062376023 tw647596335509943577 tw17972934993882249390 tw12629396205281623500 tw12221238088757149190 tw18140525196647923785 tw12000199894681514559 tw12975138586904576567 tw15960001091488202462 tw14941006160513955867 tw7345600804426881871 tw11680791277213557194 tw7814683481897627226 tw6699610154859098128 tw14791760529615810968 tw17238242134491272743 tw13827381076587564867 tw2771497628522383238 tw17085304434612263076 tw15714915393866577999 tw8998306971801956924 tw1868963870919108259 tw3626814548154772446 tw7533412237730765953 tw7218192831550765903 tw7805079057898400104 tw15162051819567620384 tw18412714947262350790 tw76435226043084207 tw258174366839309529 tw5895351922298801850 tw10192121637230861280 tw13026926105575626345 tw17987974019019069123 tw6199117380920479033 tw13634418103280241283 tw3477216651367842031 tw11059258271354724156 tw10195898678042809161 tw16674281588137834390 tw16389958776414844938 tw6130278841020197853 tw8505317634030319701 tw3929909530836295847 tw16885367989899403844 tw2527269023633394638 tw16715491875731908458 tw17695045404350017899 tw128453597735425047 tw11629879898811066111 tw10889583406643763439 tw3395719082972018639 tw3193895313013400304 tw5807090633862204131 tw1423956876836255475 tw1188878033629449373 tw7676122448854847485 tw14489463525110046426 tw7144265187360920572 tw1697404429739167736 tw7376468813873890417 tw16268922870505235085:True)
namespace _T
open PySem _L Spec PyProof.Rows _H
theorem Z6{P:List bV → Prop}{n:Nat}(h:∀(a:bV)(b:List bV),b.length=n → P (a::b))(b:List bV)(c:b.length=n+1):P b:=by cases b with|nil=>cases c|cons a b=>exact h a b (Nat.succ.inj c)
theorem lk0{P:List bV → Prop}(h:P [])(b:List bV)(c:b.length=0):P b:=by cases b with|nil=>exact h|cons a b=>cases c
theorem yj{P:List bV → Prop}(h:∀a,P [a]):∀b:List bV,b.length=1 → P b:=Z6 λa=>lk0 (h a)
theorem mL{P:List bV → Prop}(h:∀a b,P [a,b]):∀c:List bV,c.length=2 → P c:=Z6 λa=>yj (h a)
theorem rK{P:List bV → Prop}(h:∀a b c,P [a,b,c]):∀e:List bV,e.length=3 → P e:=Z6 λa=>mL (h a)
theorem JW{P:List bV → Prop}(h:∀a b c d,P [a,b,c,d]):∀e:List bV,e.length=4 → P e:=Z6 λa=>rK (h a)
theorem lk5{P:List bV → Prop}(h:∀a b c d e,P [a,b,c,d,e]):∀f:List bV,f.length=5 → P f:=Z6 λa=>JW (h a)
local macro_rules|`(term|‹$p›)=>`(λ_ _ _ _ _ _=>$p)
structure Txt(K:PySem.W.Frag):Prop where
 D0:bJ K "is_rising" s0
 D1:bJ K "hour_out" s1
 D2:bJ K "is_plan" s2
 D3:bJ K "triple_fits" s3
 D4:bJ K "changes_at" s4
 D5:bJ K "never_short" s5
 D6:bJ K "plan_right" s6
 D7:bJ K "is_clean_way" s7
 D8:bJ K "plan_clean" s8
 D9:bJ K "stands_at" s9
 D10:bJ K "brought_by" jM
 D11:bJ K "sent_from" jD
 D12:bJ K "roomiest_net" s12
 D13:bJ K "within_hours_rooms" s13
 D14:bJ K "within_waits" Uv
 D15:bJ K "hours_hold" U4
 D16:bJ K "cal_right" VF
 D17:bJ K "cal_clean" Vb
 D18:bJ K "cal_stands" s18
 D19:bJ K "cal_brought" s19
 D20:bJ K "cal_sent" s20
 D21:bJ K "net_calendar" s21
 D22:bJ K "late_calendar" s22
 D23:bJ K "turned_rooms" s23
 D24:bJ K "turned_calendar" s24
 D25:bJ K "_law_pool" s25
 D26:bJ K "_law_next" s26
 D27:bJ K "_law_wide" s27
 D28:bJ K "_law_roads" s28
 D29:bJ K "_law_route" s29
 D30:bJ K "_law_flow" s30
 D31:bJ K "_law_stocks" s31
 D32:bJ K "_law_case" s32
 D33:bJ K "_law_turned" s33
 D34:bJ K "_law_is_turned" s34
 D35:bJ K "_law_is_late" s35
 D36:bJ K "_law_is_steady" s36
 D37:bJ K "_law_one" s37
 D38:bJ K "_law_folded" s38
 D39:bJ K "law" s39
 MK:PySem.W.nsIn K eF "abs"=aD b_
 dF:PySem.W.nsIn K eF "all"=aD b_
 lX:PySem.W.nsIn K eF "enumerate"=aD b_
 vz:PySem.W.nsIn K eF "int"=aD b_
 fO:PySem.W.nsIn K eF "len"=aD b_
 pW:PySem.W.nsIn K eF "list"=aD b_
 m7:PySem.W.nsIn K eF "max"=aD b_
 kY:PySem.W.nsIn K eF "min"=aD b_
 aJ:PySem.W.nsIn K eF "range"=aD b_
 km:PySem.W.nsIn K eF "reversed"=aD b_
 dM:PySem.W.nsIn K eF "sorted"=aD b_
 vq:PySem.W.nsIn K eF "sum"=aD b_
 bC:PySem.W.nsIn K eF "tuple"=aD b_
 jh:PySem.W.nsIn K eF "zip"=aD b_
noncomputable def jA{K:PySem.W.Frag}(T:Txt K):Nat->dQ:=λk=>0
structure Oks(Pg:ek)(w:fg)(K:PySem.W.Frag)(mg:Str->Option bV)(base:Heap)(cl:Nat->dQ)(n:Nat):Prop where
 c0:aW Pg w K mg base n (run Γ 100000000 n) 0 "is_rising" 1
 c1:aW Pg w K mg base n (run Γ 100000000 n) 1 "hour_out" 3
 c2:aW Pg w K mg base n (run Γ 100000000 n) 2 "is_plan" 1
 c3:aW Pg w K mg base n (run Γ 100000000 n) 3 "triple_fits" 3
 c4:aW Pg w K mg base n (run Γ 100000000 n) 4 "changes_at" 3
 c5:aW Pg w K mg base n (run Γ 100000000 n) 5 "never_short" 3
 c6:aW Pg w K mg base n (run Γ 100000000 n) 6 "plan_right" 3
 c7:aW Pg w K mg base n (run Γ 100000000 n) 7 "is_clean_way" 2
 c8:aW Pg w K mg base n (run Γ 100000000 n) 8 "plan_clean" 3
 c9:aW Pg w K mg base n (run Γ 100000000 n) 9 "stands_at" 4
 c10:aW Pg w K mg base n (run Γ 100000000 n) 10 "brought_by" 3
 c11:aW Pg w K mg base n (run Γ 100000000 n) 11 "sent_from" 3
 c12:aW Pg w K mg base n (run Γ 100000000 n) 12 "roomiest_net" 1
 c13:aW Pg w K mg base n (run Γ 100000000 n) 13 "within_hours_rooms" 2
 c14:aW Pg w K mg base n (run Γ 100000000 n) 14 "within_waits" 3
 c15:aW Pg w K mg base n (run Γ 100000000 n) 15 "hours_hold" 2
 c16:aW Pg w K mg base n (run Γ 100000000 n) 16 "cal_right" 2
 c17:aW Pg w K mg base n (run Γ 100000000 n) 17 "cal_clean" 2
 c18:aW Pg w K mg base n (run Γ 100000000 n) 18 "cal_stands" 4
 c19:aW Pg w K mg base n (run Γ 100000000 n) 19 "cal_brought" 2
 c20:aW Pg w K mg base n (run Γ 100000000 n) 20 "cal_sent" 2
 c21:aW Pg w K mg base n (run Γ 100000000 n) 21 "net_calendar" 2
 c22:aW Pg w K mg base n (run Γ 100000000 n) 22 "late_calendar" 2
 c23:aW Pg w K mg base n (run Γ 100000000 n) 23 "turned_rooms" 3
 c24:aW Pg w K mg base n (run Γ 100000000 n) 24 "turned_calendar" 1
 c25:aW Pg w K mg base n (run Γ 100000000 n) 25 "_law_pool" 1
 R4:aW Pg w K mg base n (run Γ 100000000 n) 26 "_law_next" 2
 c27:aW Pg w K mg base n (run Γ 100000000 n) 27 "_law_wide" 2
 c28:aW Pg w K mg base n (run Γ 100000000 n) 28 "_law_roads" 2
 c29:aW Pg w K mg base n (run Γ 100000000 n) 29 "_law_route" 4
 c30:aW Pg w K mg base n (run Γ 100000000 n) 30 "_law_flow" 4
 c31:aW Pg w K mg base n (run Γ 100000000 n) 31 "_law_stocks" 4
 c32:aW Pg w K mg base n (run Γ 100000000 n) 32 "_law_case" 1
 c33:aW Pg w K mg base n (run Γ 100000000 n) 33 "_law_turned" 2
 c34:aW Pg w K mg base n (run Γ 100000000 n) 34 "_law_is_turned" 2
 c35:aW Pg w K mg base n (run Γ 100000000 n) 35 "_law_is_late" 2
 c36:aW Pg w K mg base n (run Γ 100000000 n) 36 "_law_is_steady" 3
 c37:aW Pg w K mg base n (run Γ 100000000 n) 37 "_law_one" 1
 c38:aW Pg w K mg base n (run Γ 100000000 n) 38 "_law_folded" 2
 c39:aW Pg w K mg base n (run Γ 100000000 n) 39 "law" 1
set_option maxHeartbeats 0 in
theorem KY{Pg:ek}{w:fg}{K:PySem.W.Frag}{mg:Str->Option bV}{base:Heap}(T:Txt K)(X:K.In base)(G:base.Ns eF mg):∀n,Oks Pg w K mg base (jA T) n
 |0=>{
   c0:=bR (ps:=["things"]) X G T.D0 rfl ‹yj λ_=>rfl›
   c1:=bR (ps:=["net","hour","way"]) X G T.D1 rfl ‹rK λ_ _ _=>rfl›
   c2:=bR (ps:=["triples"]) X G T.D2 rfl ‹yj λ_=>rfl›
   c3:=bR (ps:=["net","last","triple"]) X G T.D3 rfl ‹rK λ_ _ _=>rfl›
   c4:=bR (ps:=["net","plan","place"]) X G T.D4 rfl ‹rK λ_ _ _=>rfl›
   c5:=bR (ps:=["net","plan","place"]) X G T.D5 rfl ‹rK λ_ _ _=>rfl›
   c6:=bR (ps:=["net","last","plan"]) X G T.D6 rfl ‹rK λ_ _ _=>rfl›
   c7:=bR (ps:=["net","number"]) X G T.D7 rfl ‹mL λ_ _=>rfl›
   c8:=bR (ps:=["net","last","plan"]) X G T.D8 rfl ‹rK λ_ _ _=>rfl›
   c9:=bR (ps:=["net","plan","place","hour"]) X G T.D9 rfl ‹JW λ_ _ _ _=>rfl›
   c10:=bR (ps:=["net","plan","hour"]) X G T.D10 rfl ‹rK λ_ _ _=>rfl›
   c11:=bR (ps:=["net","plan","hour"]) X G T.D11 rfl ‹rK λ_ _ _=>rfl›
   c12:=bR (ps:=["calendar"]) X G T.D12 rfl ‹yj λ_=>rfl›
   c13:=bR (ps:=["calendar","plan"]) X G T.D13 rfl ‹mL λ_ _=>rfl›
   c14:=bR (ps:=["calendar","plan","place"]) X G T.D14 rfl ‹rK λ_ _ _=>rfl›
   c15:=bR (ps:=["calendar","plan"]) X G T.D15 rfl ‹mL λ_ _=>rfl›
   c16:=bR (ps:=["calendar","plan"]) X G T.D16 rfl ‹mL λ_ _=>rfl›
   c17:=bR (ps:=["calendar","plan"]) X G T.D17 rfl ‹mL λ_ _=>rfl›
   c18:=bR (ps:=["calendar","plan","place","hour"]) X G T.D18 rfl ‹JW λ_ _ _ _=>rfl›
   c19:=bR (ps:=["calendar","plan"]) X G T.D19 rfl ‹mL λ_ _=>rfl›
   c20:=bR (ps:=["calendar","plan"]) X G T.D20 rfl ‹mL λ_ _=>rfl›
   c21:=bR (ps:=["net","last"]) X G T.D21 rfl ‹mL λ_ _=>rfl›
   c22:=bR (ps:=["calendar","hour"]) X G T.D22 rfl ‹mL λ_ _=>rfl›
   c23:=bR (ps:=["last","hours","row"]) X G T.D23 rfl ‹rK λ_ _ _=>rfl›
   c24:=bR (ps:=["calendar"]) X G T.D24 rfl ‹yj λ_=>rfl›
   c25:=bR (ps:=["cell"]) X G T.D25 rfl ‹yj λ_=>rfl›
   R4:=bR (ps:=["pool","base"]) X G T.D26 rfl ‹mL λ_ _=>rfl›
   c27:=bR (ps:=["pool","base"]) X G T.D27 rfl ‹mL λ_ _=>rfl›
   c28:=bR (ps:=["pool","many"]) X G T.D28 rfl ‹mL λ_ _=>rfl›
   c29:=bR (ps:=["pool","many","last","ways"]) X G T.D29 rfl ‹JW λ_ _ _ _=>rfl›
   c30:=bR (ps:=["pool","many","last","ways"]) X G T.D30 rfl ‹JW λ_ _ _ _=>rfl›
   c31:=bR (ps:=["many","last","ways","plan"]) X G T.D31 rfl ‹JW λ_ _ _ _=>rfl›
   c32:=bR (ps:=["pool"]) X G T.D32 rfl ‹yj λ_=>rfl›
   c33:=bR (ps:=["calendar","plan"]) X G T.D33 rfl ‹mL λ_ _=>rfl›
   c34:=bR (ps:=["calendar","plan"]) X G T.D34 rfl ‹mL λ_ _=>rfl›
   c35:=bR (ps:=["calendar","plan"]) X G T.D35 rfl ‹mL λ_ _=>rfl›
   c36:=bR (ps:=["net","last","plan"]) X G T.D36 rfl ‹rK λ_ _ _=>rfl›
   c37:=bR (ps:=["pool"]) X G T.D37 rfl ‹yj λ_=>rfl›
   c38:=bR (ps:=["script","most"]) X G T.D38 rfl ‹mL λ_ _=>rfl›
   c39:=bR (ps:=["script"]) X G T.D39 rfl ‹yj λ_=>rfl›}|n+1=>have a:=KY (Pg:=Pg) (w:=w) (base:=base) T X G n
   {c0:=bQ (ps:=["things"]) X G T.D0 rfl rfl ‹yj λ_=>rfl› λ_ _ F=>d0 (cl:=jA T) F (mg_none_of X G T.dF) (mg_none_of X G T.jh)
    c1:=bQ (ps:=["net","hour","way"]) X G T.D1 rfl rfl ‹rK λ_ _ _=>rfl› λ_ _ F=>d1 (cl:=jA T) F
    c2:=bQ (ps:=["triples"]) X G T.D2 rfl rfl ‹yj λ_=>rfl› λ_ _ F=>d2 (cl:=jA T) F (mg_none_of X G T.dF) a.c0
    c3:=bQ (ps:=["net","last","triple"]) X G T.D3 rfl rfl ‹rK λ_ _ _=>rfl› λ_ _ F=>d3 (cl:=jA T) F (mg_none_of X G T.fO) a.c1
    c4:=bQ (ps:=["net","plan","place"]) X G T.D4 rfl rfl ‹rK λ_ _ _=>rfl› λ_ _ F=>d4 (cl:=jA T) F a.c1
    c5:=bQ (ps:=["net","plan","place"]) X G T.D5 rfl rfl ‹rK λ_ _ _=>rfl› λ_ _ F=>d5 (cl:=jA T) F (mg_none_of X G T.dM) a.c4
    c6:=bQ (ps:=["net","last","plan"]) X G T.D6 rfl rfl ‹rK λ_ _ _=>rfl› λ_ _ F=>d6 (cl:=jA T) F (mg_none_of X G T.dF) (mg_none_of X G T.aJ) a.c2 a.c5 a.c3
    c7:=bQ (ps:=["net","number"]) X G T.D7 rfl rfl ‹mL λ_ _=>rfl› λ_ _ F=>d7 (cl:=jA T) F
    c8:=bQ (ps:=["net","last","plan"]) X G T.D8 rfl rfl ‹rK λ_ _ _=>rfl› λ_ _ F=>d8 (cl:=jA T) F (mg_none_of X G T.dF) (mg_none_of X G T.aJ) a.c7 a.c6 a.c9
    c9:=bQ (ps:=["net","plan","place","hour"]) X G T.D9 rfl rfl ‹JW λ_ _ _ _=>rfl› λ_ _ F=>d9 (cl:=jA T) F (mg_none_of X G T.vq) a.c4
    c10:=bQ (ps:=["net","plan","hour"]) X G T.D10 rfl rfl ‹rK λ_ _ _=>rfl› λ_ _ F=>d10 (cl:=jA T) F a.c9
    c11:=bQ (ps:=["net","plan","hour"]) X G T.D11 rfl rfl ‹rK λ_ _ _=>rfl› λ_ _ F=>d11 (cl:=jA T) F (mg_none_of X G T.vq) a.c4
    c12:=bQ (ps:=["calendar"]) X G T.D12 rfl rfl ‹yj λ_=>rfl› λ_ _ F=>d12 (cl:=jA T) F (mg_none_of X G T.m7) (mg_none_of X G T.bC) (mg_none_of X G T.jh)
    c13:=bQ (ps:=["calendar","plan"]) X G T.D13 rfl rfl ‹mL λ_ _=>rfl› λ_ _ F=>d13 (cl:=jA T) F (mg_none_of X G T.dF)
    c14:=bQ (ps:=["calendar","plan","place"]) X G T.D14 rfl rfl ‹rK λ_ _ _=>rfl› λ_ _ F=>d14 (cl:=jA T) F (mg_none_of X G T.dF) (mg_none_of X G T.lX) a.c18
    c15:=bQ (ps:=["calendar","plan"]) X G T.D15 rfl rfl ‹mL λ_ _=>rfl› λ_ _ F=>d15 (cl:=jA T) F (mg_none_of X G T.dF) (mg_none_of X G T.aJ) a.c13 a.c14
    c16:=bQ (ps:=["calendar","plan"]) X G T.D16 rfl rfl ‹mL λ_ _=>rfl› λ_ _ F=>d16 (cl:=jA T) F a.c15 a.c6 a.c12
    c17:=bQ (ps:=["calendar","plan"]) X G T.D17 rfl rfl ‹mL λ_ _=>rfl› λ_ _ F=>d17 (cl:=jA T) F a.c15 a.c8 a.c12
    c18:=bQ (ps:=["calendar","plan","place","hour"]) X G T.D18 rfl rfl ‹JW λ_ _ _ _=>rfl› λ_ _ F=>d18 (cl:=jA T) F a.c12 a.c9
    c19:=bQ (ps:=["calendar","plan"]) X G T.D19 rfl rfl ‹mL λ_ _=>rfl› λ_ _ F=>d19 (cl:=jA T) F (mg_none_of X G T.aJ) a.c10 a.c12
    c20:=bQ (ps:=["calendar","plan"]) X G T.D20 rfl rfl ‹mL λ_ _=>rfl› λ_ _ F=>d20 (cl:=jA T) F (mg_none_of X G T.aJ) a.c12 a.c11
    c21:=bQ (ps:=["net","last"]) X G T.D21 rfl rfl ‹mL λ_ _=>rfl› λ_ _ F=>d21 (cl:=jA T) F (mg_none_of X G T.bC)
    c22:=bQ (ps:=["calendar","hour"]) X G T.D22 rfl rfl ‹mL λ_ _=>rfl› λ_ _ F=>d22 (cl:=jA T) F (mg_none_of X G T.bC) (mg_none_of X G T.jh)
    c23:=bQ (ps:=["last","hours","row"]) X G T.D23 rfl rfl ‹rK λ_ _ _=>rfl› λ_ _ F=>d23 (cl:=jA T) F (mg_none_of X G T.aJ) (mg_none_of X G T.bC)
    c24:=bQ (ps:=["calendar"]) X G T.D24 rfl rfl ‹yj λ_=>rfl› λ_ _ F=>d24 (cl:=jA T) F (mg_none_of X G T.km) (mg_none_of X G T.bC) (mg_none_of X G T.jh) a.c23
    c25:=bQ (ps:=["cell"]) X G T.D25 rfl rfl ‹yj λ_=>rfl› λ_ _ F=>d25 (cl:=jA T) F (mg_none_of X G T.MK) (mg_none_of X G T.m7)
    R4:=bQ (ps:=["pool","base"]) X G T.D26 rfl rfl ‹mL λ_ _=>rfl› λ_ _ F=>d26 (cl:=jA T) F
    c27:=bQ (ps:=["pool","base"]) X G T.D27 rfl rfl ‹mL λ_ _=>rfl› λ_ _ F=>d27 (cl:=jA T) F a.R4
    c28:=bQ (ps:=["pool","many"]) X G T.D28 rfl rfl ‹mL λ_ _=>rfl› λ_ _ F=>d28 (cl:=jA T) F (mg_none_of X G T.fO) (mg_none_of X G T.aJ) a.R4 a.c27
    c29:=bQ (ps:=["pool","many","last","ways"]) X G T.D29 rfl rfl ‹JW λ_ _ _ _=>rfl› λ_ _ F=>d29 (cl:=jA T) F (mg_none_of X G T.fO) (mg_none_of X G T.kY) (mg_none_of X G T.aJ) a.R4
    c30:=bQ (ps:=["pool","many","last","ways"]) X G T.D30 rfl rfl ‹JW λ_ _ _ _=>rfl› λ_ _ F=>d30 (cl:=jA T) F (mg_none_of X G T.pW) (mg_none_of X G T.aJ) (mg_none_of X G T.dM) a.R4 a.c29 a.c27
    c31:=bQ (ps:=["many","last","ways","plan"]) X G T.D31 rfl rfl ‹JW λ_ _ _ _=>rfl› λ_ _ F=>d31 (cl:=jA T) F (mg_none_of X G T.aJ)
    c32:=bQ (ps:=["pool"]) X G T.D32 rfl rfl ‹yj λ_=>rfl› λ_ _ F=>d32 (cl:=jA T) F (mg_none_of X G T.vz) (mg_none_of X G T.fO) (mg_none_of X G T.kY) (mg_none_of X G T.aJ) (mg_none_of X G T.bC) (mg_none_of X G T.jh) a.c30 a.R4 a.c28 a.c31 a.c27
    c33:=bQ (ps:=["calendar","plan"]) X G T.D33 rfl rfl ‹mL λ_ _=>rfl› λ_ _ F=>d33 (cl:=jA T) F (mg_none_of X G T.dM)
    c34:=bQ (ps:=["calendar","plan"]) X G T.D34 rfl rfl ‹mL λ_ _=>rfl› λ_ _ F=>d34 (cl:=jA T) F a.c33 a.c19 a.c17 a.c20 a.c24
    c35:=bQ (ps:=["calendar","plan"]) X G T.D35 rfl rfl ‹mL λ_ _=>rfl› λ_ _ F=>d35 (cl:=jA T) F (mg_none_of X G T.kY) (mg_none_of X G T.aJ) a.c17 a.c22
    c36:=bQ (ps:=["net","last","plan"]) X G T.D36 rfl rfl ‹rK λ_ _ _=>rfl› λ_ _ F=>d36 (cl:=jA T) F (mg_none_of X G T.aJ) a.c10 a.c19 a.c17 a.c16 a.c20 a.c18 a.c21 a.c8 a.c6 a.c11 a.c9
    c37:=bQ (ps:=["pool"]) X G T.D37 rfl rfl ‹yj λ_=>rfl› λ_ _ F=>d37 (cl:=jA T) F (mg_none_of X G T.dF) (mg_none_of X G T.vz) (mg_none_of X G T.fO) (mg_none_of X G T.pW) (mg_none_of X G T.m7) (mg_none_of X G T.dM) (mg_none_of X G T.bC) a.c32 a.c35 a.c36 a.c34 a.R4
    c38:=bQ (ps:=["script","most"]) X G T.D38 rfl rfl ‹mL λ_ _=>rfl› λ_ _ F=>d38 (cl:=jA T) F (mg_none_of X G T.fO) (mg_none_of X G T.kY) (mg_none_of X G T.aJ)
    c39:=bQ (ps:=["script"]) X G T.D39 rfl rfl ‹yj λ_=>rfl› λ_ _ F=>d39 (cl:=jA T) F a.c38 a.c37 a.c25}
set_option maxHeartbeats 0 in
theorem Vk{Pg:ek}{w:fg}{K:PySem.W.Frag}{mg:Str->Option bV}{h:Heap}{i:dQ}(T:Txt K)(X:K.In h)(G:h.Ns eF mg)(b:mg "law"=aD (.ref i)):∃fd:ja,(∀(s:cp)(u:bV),pY s fd ⟨[u],[]⟩ [("script",u)])/\∀base:Heap,K.In base->base.Ns eF mg->o7 Pg w K mg base JC 40 i fd ["script"] (PX K 1 (run Γ 100000000 40 39)):=by
 obtain⟨f,fd,a,F⟩:=T.D39.ex;have e:=b.symm.trans (mg_of X G a);cases e;refine⟨fd,λs u=>?_,λbase j l=>?_⟩;.obtain⟨q,r,kV,m,t,v,cdv,ct,o,rfl,lk,p⟩:=F.ex;exact .of_eq rfl
 .have g:=KY (Pg:=Pg) (w:=w) (base:=base) T j l 39;exact d39 (cl:=jA T) (k:=39) (n:=100000000) (c:=run Γ 100000000 39) F g.c38 g.c37 g.c25
end _T
open PySem W PyProof.Rows
set_option maxRecDepth 100000 in
set_option maxHeartbeats 0 in
theorem PySem.Challenge.cw_hourhaul_k62_whole_plans_turned_and_stea_holds : PySem.Challenge.rw_hourhaul_k62_whole_plans_turned_and_stea.Holds := by
 w_on;o_law;k_head;(case hw=>w_witness2);k_fill;refine _L.K3 (l:=PySem.Challenge.rw_hourhaul_k62_whole_plans_turned_and_stea) (n:=63) (k:=40) (x:="script") (CX:=_L.JC) (sp:=λK=>_H.PX K 1 (_H.run _T.Γ 100000000 40 39)) rfl (by decide) rfl ⟨rfl,by decide,by decide⟩ (λw h Y=>PySem.W.kIn_of Y) ?F ?S ?C;case F=>
  intro w mg j h f G b;refine _T.Vk ?T f G b;constructor;iterate 40(· refine' _H.U6 ?a ?l ?c ?k;case a|l|c|k=>k_is)
  iterate 14(· k_is)
 case S=>intro K H a ns g m i;obtain⟨as,e⟩:=_T.Qs ns g;exact _H.FZ i e
 case C=>exact λH s e o z=>z
