import PyProof.Rows.All
import Wide.All
import OpenK.AllK
import Wide.FinOn
import Lean
import PyProof.EqAt
import PyProof.EqKinds
import PyProof.TupleCall
import PySem.Str
import PySem.Builtin.Int.W1All
import PyProof.NeKinds
import PyProof.ZipIter
import PyProof.SumWalkG
import PyProof.MinMaxWalk
import PyProof.WalksMore
import PyProof.SeqI3
import PyProof.WalkInts
import PyProof.Rows.CallKwBuiltin
import PyProof.Rows.Tup
import PyProof.CollectIter
import PyProof.EnumMake
import PyProof.TupleOfSeq
import PyProof.ListNew
import PyProof.ReprLoop
import PyProof.StationsW
import PyProof.ExcClass3
import PyProof.Rows.CatchBare
import OpenK.KOwn
import KE.KIsAll
import PyProof.NsDelKeeps
import PyProof.RulesAs
import PyProof.ExcArgsOwn
import PyProof.ListRange
import KE.RegKIsAll
import KE.KRevIter
import PyProof.Rows.SortRuns
import KE.KSortTup
import PyProof.DictWalks
import KE.KDictList
import KE.KItemsList
import PyProof.SetScanFacts
import PyProof.SetKind
import PyProof.Rows.SetFrom
import PyProof.ExcBaseAll.ValueError
import PySem.Challenge.RW_hourhaul_k84_whole_starts_beside_starts
set_option Elab.async false
set_option linter.all false
set_option maxRecDepth 100000
set_option genInjectivity false
set_option genSizeOf false
set_option compiler.extract_closed false
set_option bootstrap.genMatcherCode false
open Option renaming some→aU,none→cr,map_eq_some_iff→f_,map_some→kx,isSome_iff_exists→pc
open Bool renaming false→a_,true→cq,false_ne_true→dr,and_eq_true→eR,false_eq_true→i7,or_eq_true→k_,and_eq_false_iff→l7,or_eq_false_iff→mi,not_eq_true'→mn,false_and→pz,and_false→pE,and_true→qc
open PySem renaming wpAny_bind→bx,Value→b_,Shared→cv,wpAny_pure→cw,Addr→cx,wpAny→cK,starEach→cL,model→c_,Program→dF,Expr→dO,compareOp→ec,mainGlobals→ef,wpAny_newObj_type→ei,World→eJ,wpAny_mono→eK,Around→eM,Heap→eN,sizeLine_eq→fh,eval→fi,Stmt→ft,wpAny_call_entry→fv,wpAny_callSpecial?_slot→fx,wpAny_holding→fT,codeAny_builtin→ga,foldedSetIterable→gl,bootBuiltins→gn,binaryOp→gx,rawInt→gy,Builtin→gI,wpAny_loadPart'→gL,cLine→gS,behindInMarks→gT,swapsWith→h_,wpAny_truthy_bool→ib,plainId_quiet→im,wpAny_setField→iq,SetTable→iC,wpAny_pyIter_tuple→iN,sysModules→iO,wpAny_passesOwn→iX,FuncData→i1,builtinLookup_eq_fast→i8,intKind→i9,wpAny_askSetting→jI,attributeBase→kc,tupleKind_room_in1→ke,backTo→kf,wpAny_typeOf→kn,isSubtype_type→ko,codeAny_mono→kq,codeAny→ku,wpAny_rule→ky,pickOrder→kB,relabel→kG,wpAny_field→kH,sliceBounds→kK,wpAny_ite_split→kP,typeLookup_type→kQ,Scope→kU,holding→kX,getItem→k3,cellsFrom→k5,wpAny_runValue→k8,pyNext→k9,assignEach→lh,NameKind→lj,wpAny_pyIter_list→ln,unsupported→lp,Keyword→lI,wpAny_attempt→lP,wpAny_isInstance→l8,scanBound→l9,typeLookup→ml,call_meets→ms,assign→mu,wpAny_updateSeq→mv,wpAny_specialOf→mw,letOwnedTupleGo→mx,pyIter→mI,keywordEach→mN,firstArgMember→mS,Operator→m4,IsPart→m9,tupleKind→nh,callerA→nk,PassesOwn→nv,wpAny_standAt→nK,swapsWithSole→nL,swappedStores→nN,CmpOp→nV,wpAny_Call_Name_kw→nX,typeIs_int→n3,intKind_is→n5,wpAny_pyIter_enum→om,valueAt→oo,setNext→oq,setField→ox,seqIndex_neg→oy,relayAll→oB,concat_meets→oQ,wpAny_eqBool_int→pS,noFill_tuple_add→pT,subscripted→p5,seqIndex_of→p_,wpAny_execs_nil→qf,codeAny_of_tree→qh,setItem→qq,notedBy→qr,collect→qv,BindsTo→qS,wpAny_seqItems→qV,wpAny_load→q_,wpAny_letOwnedTupleGo_enum→rb,setsByText→rd,newFunctionEnv→rg,backToKw→ri,atKey→rj,wpAny_binaryOp_repeat_ref→r_,wpAny_newList→sk,wpAny_comprehension_free→sn,seq_tuple_add→sw,assignInOrder→sB,wpAny_pyNext_enum_itemD→sL,updateSeq→sM,lastMarks→sN,bindL→sP,bindC→sR,Model→sT,wpAny_pyNext_enum_endD→tq,wpAny_getItem_list_neg→tw,setNextDrawn→tI,newList→tJ,newExc→tN,call_meetsIn→t9,Result→t_,wpAny_nextOf_list_end→ua,wpAny_isTrue_Compare1→ub,weight_type_call_type→ui,wpAny_of_eq→uj,wpAny_loadName_local→uk,codeAny_extend_loopS→u7,codeAny_call_builtin→u8,bindName→u_,bindArgs→va,Meets→ve,GenState→vk,wpAny_loadName_cell→vl,Walks→vn
open List renaming getElem?_set_self→cy,replicate→cE,size_toArray→cS,mem_cons→da,mem_map→de,map_cons→dl,length_map→dy,range→dE,getElem?_append_left→dL,mem_cons_of_mem→dV,mem_singleton→d_,mem_of_getElem?→eh,map_map→ej,length_append→ez,getElem?_eq_getElem→eF,length_cons→eI,getElem?_map→eL,getElem?_append_right→eW,getD_eq_getElem?_getD→e_,nodup_cons→fk,getElem?_set_ne→fo,mem_append→fE,append_assoc→fK,map_append→gc,mem_append_right→gd,all_eq_true→gi,lookup_cons→gE,append_nil→gN,map_congr_left→hB,find?_cons→hQ,mem_filter→hU,filter_cons_of_pos→ic,filter_cons_of_neg→ii,eq_nil_of_length_eq_zero→ip,replicate_succ→ix,length_range→iP,mem_range→i4,mem_cons_self→i5,filterMap_cons→je,drop_eq_getElem_cons→jk,idxOf_lt_length_iff→jv,filterMap_cons_some→jx,filterMap_cons_none→jz,length_filter_le→jS,getElem?_replicate→j1,getD→j_,getElem_mem→ki,length_singleton→kC,contains_iff_mem→kD,pairwise_cons→kN,pairwise_append→kS,foldl_cons→lf,any_cons→li,getElem?_cons_succ→ll,not_mem_nil→lr,length_take→ls,ext_getElem→lw,cons_append→lx,take_append_drop→l6,all_cons→ma,length→me,getElem?_of_mem→mf,nodup_append→mo,map_nil→mr,drop_eq_nil_iff→mA,getElem_idxOf→mC,getElem?_take→mE,getElem?_range→mP,any_eq_true→m3,ext_getElem?→ny,eraseIdx_eq_take_drop_succ→nE,filter_append→nS,length_nil→n4,take_append_of_le_length→oe,reverse_cons→oz,pairwise_map→oD,getElem?_set→oN,flatten_cons→oP,pairwise_iff_getElem→p4,length_eq_zero_iff→qk,take_of_length_le→qA,pairwise_lt_range→qB,getElem_cons_drop→qE,sum_cons→rc,nil_append→rf,min?_eq_some_iff→rq,max?_eq_some_iff→ru,length_replicate→rJ,getElem?_eq_none→rL,eq_nil_or_concat→rN,countP_mono_left→rS,concat_eq_append→rV,mem_iff_getElem→se,mem_append_left→sf,length_eraseIdx→sh,getElem?_mapIdx→sj,length_pos_iff→sF,getElem_of_mem→sK,toArray→tz,foldl_append→tT,foldl→uZ
open PySem.Heap renaming get?_push_size→dc,lt_size→dA,get?_update_other→ew,get?_update_self→g9,size_push→ia,SameBut→nm
open Or renaming inl→df,inr→dQ
open Sum renaming inl→dP,inr→nB
open Nat renaming ne_of_lt→dS,lt_of_lt_of_le→eu,le_trans→iA,lt_irrefl→i6,lt_succ_of_lt→kb,le_of_lt→l_,lt_succ_self→n9,le_of_not_lt→n_,le_succ→oI,not_lt→pV,ne_of_gt→rh,zero_add→rk,mul_comm→rl,le_mul_of_pos_left→ro,pow_le_pow_right→sC,lt_trans→uS
open PySem.PassesOwn renaming never→er
open PySem.Value renaming ref→et,none→eA,type→eP,int→gu,bool→kL,notImplemented→md
open PySem.SetTable renaming below→eH,grown→iL,has→o_
open Array renaming length_toList→eS,getElem?_eq_getElem→gk,getElem_toList→hV,getD→i3,getElem?_toList→lT,toList_inj→nI,getElem?_eq_none→qo,toList_push→ut
open Option.some renaming inj→fb
open PyProof.Rows renaming IntsAre→fe,callWith_type1→fN,Keyed→gX,wpS_bind→iS,slot_tuple_getitem→jp,SortSt→kg,SortKind→kw,seqObj→kR,pendingOf→k4,wpS_pure→k7,get?_update_seq→mz,envOfC→mT,AllBare→nz,assignInOrder_cons→n7,subscriptTail→sq,listUpdate_at→sA,IsTup→s_,wpS_get→tj,wpS_forRange→tm,subscriptTail_builtinR→tF,minRun'→tS,seqEpoch_at→uG,failedOf→u0,arrOf→vc
open PySem.NameKind renaming free→fg,cell→g_
open Int renaming le_refl→fm,toNat_of_nonneg→hY,toNat_natCast→ka,emod_lt_of_pos→m_,mul_le_mul_of_nonneg_left→oj,emod_nonneg→oT,add_zero→rX,mul_add→tP,sub_zero→uu,mul_zero→uH,mul_comm→uI,max_eq_left→uK
open PySem.Around renaming under_plainId→fw
open Pure renaming pure→fy
open Ne renaming symm→fI
open False renaming elim→fR
open PySem.Obj renaming mapSeq→fU,data_mapFields→kT,putSet→m6,isFreed_of_fields→sd
open PySem.Heap.SameBut renaming update→gw
open PySem.Str renaming ofString→hX
open PySem.SeqAt renaming EqAt→io
open Function renaming comp_def→iE
open PyProof.Rows.F renaming plain_set_update_loop→iF,entry_set_update_loop→k6
open ForInStep renaming yield→i_
open PySem.Builtin.List renaming listExtendWith→ja,listLengthHint→mM,listSameRef→qa,listTooLong→uY
open PySem.Builtin.Tuple renaming tupleExact→kA
open PyProof.Rows.IntsAre renaming length→kF
open PySem.Calls renaming spliced_cons→kM,callWith_builtin→lm,spliced_nil→ng,Name_function_global→oZ,call_function_entry→pp,evalArgs_plain→r9
open True renaming intro→ly
open PySem.SetTable.probe renaming go→lC
open PySem.Builtin.Frozenset renaming updateFrom→lS
open PyProof.Rows.IsTup renaming new→mh
open PySem.SeqAt.EqAt renaming same→mB
open List.cons renaming inj→og
open PySem.pickOrder renaming go→oC
open PySem.Shared renaming TypeIs→o6
open PySem.Builtin.Slice renaming slicePlaces→p9,sliceAdjust→uF
open PySem.CmpOp renaming NotIn→r8
open PySem.W(mg_none_of keepIn methodObj mg_of)
open List(foldl map toArray of_mem_zip mapM_cons range_succ map_set)
open Nat(le_refl)
open PySem.Builtin.Tuple(tupleItemsOf)
open Array(toList)
open Option(bind_some isSome_map getD_none getD_some)
open PySem.Builtin.SmallTypes(nextOf)
open PySem.Builtin.Slice(sliceApplied)
open PySem.SeqAt.EqAt(int_str str_int none_bool none_int none_str bool_none bool_bool bool_int bool_str int_none int_bool int_int str_none str_bool str_str)
open Int(mul_comm mul_zero max_eq_left mul_one mul_neg)
open PySem.F(slot_tuple_add entry_tuple_add args_tuple_add_2 slot_tuple_mul plainAttrs_list slot_dict_get)
open PySem.SeqAt.RcAt(lists_lengths)
open PySem.SeqAt.RcNeAt(int_list str_list list_int list_str)
theorem dz{h:PySem.Heap}{o b:PySem.Obj}{a:PySem.Addr}(e:h.get? a=aU o):(h.push b).get? a=aU o:=PySem.Heap.get?_push_of_some _ e
theorem fB{b:Type}{l:List b}{i:Nat}{a:b}(h:l[i]?=aU a):∃h:i<l.length,l[i]=a:=List.getElem?_eq_some_iff.mp h
theorem fM{b:Type}{l:List b}{i j:Nat}{a:b}(h:j≠i):(l.set i a)[j]?=l[j]?:=List.getElem?_set_ne (fI h)
theorem uL{n:Nat}:0<=n:=Nat.zero_le n
theorem cI{n:Nat}:n<=n:=Nat.le_refl n
namespace _L
open PySem Spec PyProof.Rows
variable{w:eJ}{h:eN}{t' i:Nat}{M:sT}{A:eM}{s:cv}{pos:Pos}{pins:List (cx×Obj)}{op:nV}{K:PySem.W.Frag}{tg:dO}{us:List b_}
noncomputable abbrev Key:=Sum Int Str
noncomputable def qy:Key->b_->Bool|.inl k,v=>Value.isInt k v|.inr x,v=>Value.isStrOf x v
noncomputable def aeg(w:eJ):Key->Int|.inl k=>hashInt k|.inr x=>hashStr w x
theorem bI:∀{k:Key}{v:b_},qy k v=cq->(∃i t,k=dP i/\v=gu i t)\/(∃x t,k=nB x/\v=Value.str x t)|.inl i,v,h=>by obtain⟨t,e⟩:=Value.isInt_shape (k:=i) (v:=v) h;exact .inl ⟨i,t,rfl,e⟩|.inr x,v,h=>by obtain⟨t,e⟩:=Value.isStrOf_shape (x:=x) (v:=v) h;exact .inr ⟨x,t,rfl,e⟩
theorem Hb(i:Int)(t:Tok):qy (.inl i) (.int i t)=cq:=by simp[qy,Value.isInt]
theorem Hq(x:Str)(t:Tok):qy (.inr x) (.str x t)=cq:=by simp[qy,Value.isStrOf]
theorem Tg(a b:Int):decide ((dP a:Key)=dP b)=(a==b):=by
 by_cases e:a=b;.subst e;simp
 .have h:¬(dP a:Key)=dP b:=λq=>e (Sum.inl.inj q);rw[decide_eq_false h];exact(beq_eq_false_iff_ne.mpr e).symm
theorem Vq(a b:Str):decide ((nB a:Key)=nB b)=decide (a=b):=by
 by_cases e:a=b;.subst e;simp
 .have h:¬(nB a:Key)=nB b:=λq=>e (Sum.inr.inj q);rw[decide_eq_false h,decide_eq_false e]
theorem Um(a:Int)(b:Str):decide ((dP a:Key)=nB b)=a_:=decide_eq_false (λq=>nomatch q)
theorem Vg(a:Str)(b:Int):decide ((nB a:Key)=dP b)=a_:=decide_eq_false (λq=>nomatch q)
noncomputable def bj(prog:dF)(w:eJ):PySem.KeyKind prog w Key where
 is:=qy;hash:=aeg w;inj:=λv a b g f=>by
  rcases bI g with⟨i,t,rfl,rfl⟩|⟨x,t,rfl,rfl⟩
  . rcases bI f with⟨j,u,rfl,e⟩|⟨y,u,rfl,e⟩;.injection e with e1 _;rw[e1]
    .exact nomatch e
  . rcases bI f with⟨j,u,rfl,e⟩|⟨y,u,rfl,e⟩;.exact nomatch e
    .injection e with e1 _;rw[e1]
 byValue:=λk v h=>by rcases bI h with⟨i,t,rfl,rfl⟩|⟨x,t,rfl,rfl⟩<;>rfl
 pyHash:=λc h=>by
  rcases bI c with⟨i,t,rfl,rfl⟩|⟨x,t,rfl,rfl⟩;.exact wpAny_pyHash_int h
  .exact wpAny_pyHash_str h
 eqBool:=λhu c h=>by
  rcases bI hu with⟨i,t,rfl,rfl⟩|⟨x,t,rfl,rfl⟩
  . rcases bI c with⟨j,u,rfl,rfl⟩|⟨y,u,rfl,rfl⟩;.rw[Tg]at h;exact pS h
    .rw[Um]at h;exact int_str i t y u _ _ _ _ h
  . rcases bI c with⟨j,u,rfl,rfl⟩|⟨y,u,rfl,rfl⟩;.rw[Vg]at h;exact str_int x t j u _ _ _ _ h
    .rw[Vq]at h;exact wpAny_eqBool_str h
 «strs»:=λk x t v h=>by
  rcases bI h with⟨i,u,rfl,e⟩|⟨y,u,rfl,e⟩;.exact nomatch e
  .injection e with e1 _;subst e1;cases v<;>rfl
theorem zB(prog:dF)(w:eJ)(i:Int)(t:Tok):(bj prog w).is (.inl i) (.int i t)=cq:=Hb i t
theorem yD(prog:dF)(w:eJ)(x:Str)(t:Tok):(bj prog w).is (.inr x) (.str x t)=cq:=Hq x t
inductive V where|non|bl(b:Bool)|int(i:Int)|str(x:Str)|byt(b:Array UInt8)|flt(b:UInt64)|ref(a:cx)|ty(n:String)deriving DecidableEq
noncomputable def RelV:V->b_->Prop|.non,u=>u=eA|.bl b,u=>u=kL b|.int i,u=>∃t,u=gu i t|.str x,u=>∃t,u=Value.str x t|.byt b,u=>∃t,u=Value.bytes b t|.flt b,u=>∃t,u=Value.float b t|.ref a,u=>u=et a|.ty n,u=>u=eP n
noncomputable abbrev Vals:List V->List b_->Prop:=Paired RelV
theorem Vals.length{xs:List V}{us:List b_}(r:Vals xs us):xs.length=us.length:=Paired.length r
theorem Vals.get:∀{xs:List V}{us:List b_}{i:Nat}{x:V},Vals xs us->xs[i]?=aU x->∃u,us[i]?=aU u/\RelV x u|_,_,_,_,.nil,e=>by simp at e|_,_,0,_,.cons r _,e=>by simp at e;subst e;exact⟨_,rfl,r⟩|_,_,i+1,x,.cons _ t,e=>by obtain⟨u,h1,a⟩:=Vals.get (i:=i) (x:=x) t (by simpa using e);exact⟨u,by simpa using h1,a⟩
theorem Vals.set{x:V}{u:b_}(r:RelV x u):∀{xs:List V}{us:List b_}(i:Nat),Vals xs us->Vals (xs.set i x) (us.set i u)|_,_,_,.nil=>.nil|_,_,0,.cons _ t=>.cons r t|_,_,i+1,.cons q t=>.cons q (Vals.set r i t)
theorem Vals.append:∀{xs ys:List V}{us ws:List b_},Vals xs us->Vals ys ws->Vals (xs++ys) (us++ws)|_,_,_,_,.nil,s=>s|_,_,_,_,.cons r t,s=>.cons r (Vals.append t s)
theorem Vals.take:∀{xs:List V}{us:List b_}(n:Nat),Vals xs us->Vals (xs.take n) (us.take n)|_,_,0,_=>.nil|_,_,_+1,.nil=>.nil|_,_,n+1,.cons r t=>.cons r (Vals.take n t)
theorem Vals.drop:∀{xs:List V}{us:List b_}(n:Nat),Vals xs us->Vals (xs.drop n) (us.drop n)|_,_,0,r=>r|_,_,_+1,.nil=>.nil|_,_,n+1,.cons _ t=>Vals.drop n t
noncomputable def qI:Option V->Option b_->Prop|some v,aU u=>RelV v u|none,cr=>True|_,_=>False
noncomputable def KV{κ:Type}:List (κ×V)->List (κ×b_)->Prop:=Paired λ(p:κ×V)(q:κ×b_)=>p.1=q.1/\RelV p.2 q.2
noncomputable def kV:Key->V|.inl i=>.int i|.inr x=>.str x
inductive HO where|lst(xs:List V)|tup(xs:List V)|dK(kvs:List (Key×V))|dT(kvs:List (List Key×V))|set(S:Int->Bool)(n:Nat)|ins(C dx:cx)(fs:List (Str×V))|own(x:cx)|xd(fs:List (Str×V))|met(f x:cx)|qC(lo hi:Int)|dw(o:Obj)(u:HO)|W6(ps:Array b_)|ext(φ:eN->Prop)
noncomputable abbrev Hp:=cx->Option HO
variable{H:Hp}
noncomputable def upd(H:Hp)(a:cx)(o:HO):Hp:=λb=>if b=a then aU o else H b
theorem aH{a:cx}{o:HO}:upd H a o a=aU o:=by unfold upd;rw[if_pos rfl]
theorem aC{a b:cx}{o:HO}(h:b≠a):upd H a o b=H b:=by unfold upd;rw[if_neg h]
theorem rC{a:cx}{o u:HO}:upd (upd H a o) a u=upd H a u:=by funext b;unfold upd;split<;>rfl
theorem ZC{a b:cx}{o u:HO}(h:H a=aU o)(h':H b=aU u)(d:o≠u):a≠b:=by intro e;subst e;rw[h]at h';exact d (fb h')
theorem gG{a b:cx}{o:HO}(h:H a=aU o)(h':H b=cr):a≠b:=by intro e;subst e;rw[h]at h';cases h'
section
variable(P:dF)(w:eJ)
noncomputable def bF(H:Hp)(h:eN)(a:cx):HO->Prop|.lst xs=>xs.length<=sizeLine/\∃(b:List b_)(n:Nat),Vals xs b/\h.get? a=aU {cls:=.type "list",data:=.seq b.toArray n}|.tup xs=>xs.length<=sizeLine/\∃b:List b_,Vals xs b/\s_ h a b.toArray|.dK kvs=>kvs.length<=sizeLine/\(a==iO)=a_/\∃vs,KV kvs vs/\h.DictOf (bj P w) a vs|.dT kvs=>kvs.length<=sizeLine/\(a==iO)=a_/\∃xs:List (List Key×cx×b_),Paired (λ(p:List Key×V)(q:List Key×cx×b_)=>p.1=q.1/\H q.2.1=aU (.tup (p.1.map kV))/\RelV p.2 q.2.2) kvs xs/\∃o es ep,h.get? a=aU o/\o.ExactDict/\o.data=.dict es ep/\es.toList=xs.map (entryOfKey (nh (bj P w)))/\(xs.map (·.1)).Nodup|.set S n=>h.SetOf (i9 P w) a S n|.ins C e fs=>H e=aU (.own a)/\fs.length<=1000/\e≠a/\h.get? a=aU (PySem.W.instObj C e)/\∃c,h.Ns1 e c/\(∀f,qI (fs.lookup f) (c f))/\PySem.Within c (fs.map (·.1))|.own _=>∃o,h.get? a=aU o|.xd fs=>∃c,h.Ns1 a c/\∀f,qI (fs.lookup f) (c f)|.qC lo hi=>∃t u v,h.get? a=aU {cls:=.type "range",data:=.fields #[.int lo t,.int hi u,.int 1 v]}|.dw o u=>h.get? a=aU o/\bF H h a u|.W6 ps=>h.get? a=aU {cls:=.none,data:=.fields ps}|.met f x=>h.get? a=aU (methodObj (.ref f) (.ref x))|.ext g=>g h/\(∃o,h.get? a=aU o)/\∀h1 j:eN,g h1->(∀o,h1.get? a=aU o->j.get? a=aU o)->g j
noncomputable def o7(H:Hp)(h:eN):Prop:=∀a o,H a=aU o->bF P w H h a o
end
section
variable{P:dF}{w:eJ}{H H':Hp}{h h':eN}{a:cx}{o:HO}
theorem bF.lt(x:bF P w H h a o):a<h.objs.size:=by cases o with|lst xs=>obtain⟨_,_,_,_,e⟩:=x;exact dA e|tup xs=>obtain⟨_,_,_,p⟩:=x;exact p.lt|dK kvs=>obtain⟨_,_,_,_,o,_,_,e,_⟩:=x;exact dA e|dT kvs=>obtain⟨_,_,_,_,o,_,_,e,_⟩:=x;exact dA e|set S n=>obtain⟨o,_,_,_,e,_⟩:=x;exact dA e|ins C b fs=>obtain⟨_,_,_,e,_⟩:=x;exact dA e|own y=>obtain⟨_,e⟩:=x;exact dA e|xd fs=>obtain⟨_,⟨_,_,_,e,_⟩,_⟩:=x;exact dA e|qC lo hi=>obtain⟨_,_,_,e⟩:=x;exact dA e|dw c u=>obtain⟨e,_⟩:=x;exact dA e|W6 ps=>exact dA (show h.get? a=aU _ from x)|met f y=>exact dA (show h.get? a=aU _ from x)|ext g=>obtain⟨_,⟨_,e⟩,_⟩:=x;exact dA e
theorem Paired.U0{g j:Type}{F G:g->j->Prop}:∀{c:List g}{e:List j},Paired F c e->(∀a b,F a b->G a b)->Paired G c e|_,_,.nil,_=>.nil|_,_,.cons r t,f=>.cons (f _ _ r) (Paired.U0 t f)
theorem bF.stay(x:bF P w H h a o)(k:∀b u,(b=a\/H b=aU (.own a))->h.get? b=aU u->h'.get? b=aU u)(ho:∀b,H b=aU (.own a)->H' b=aU (.own a))(ht:∀b xs,H b=aU (.tup xs)->H' b=aU (.tup xs)):bF P w H' h' a o:=by induction o with|lst xs=>obtain⟨z,j,n,r,e⟩:=x;exact⟨z,j,n,r,k _ _ (.inl rfl) e⟩|tup xs=>obtain⟨z,j,r,g,e,c⟩:=x;exact⟨z,j,r,g,k _ _ (.inl rfl) e,c⟩|dK kvs=>obtain⟨z,y,vs,r,g,es,ep,e,c⟩:=x;exact⟨z,y,vs,r,g,es,ep,k _ _ (.inl rfl) e,c⟩|dT kvs=>obtain⟨z,y,xs,r,g,es,ep,e,c⟩:=x;exact⟨z,y,xs,Paired.U0 r λp q z=>⟨z.1,ht _ _ z.2.1,z.2.2⟩,g,es,ep,k _ _ (.inl rfl) e,c⟩|set S n=>obtain⟨g,es,ep,t,e,c⟩:=x;exact⟨g,es,ep,t,k _ _ (.inl rfl) e,c⟩|ins C G fs=>obtain⟨d,z,ne,e,l,⟨m,es,ep,B,c⟩,r⟩:=x;exact⟨ho _ d,z,ne,k _ _ (.inl rfl) e,l,⟨m,es,ep,k _ _ (.inr d) B,c⟩,r⟩|own y=>obtain⟨g,e⟩:=x;exact⟨g,k _ _ (.inl rfl) e⟩|xd fs=>obtain⟨l,⟨m,es,ep,e,c⟩,r⟩:=x;exact⟨l,⟨m,es,ep,k _ _ (.inl rfl) e,c⟩,r⟩|qC lo hi=>obtain⟨t,u,v,e⟩:=x;exact⟨t,u,v,k _ _ (.inl rfl) e⟩|dw g u E=>obtain⟨e,q⟩:=x;exact⟨k _ _ (.inl rfl) e,E q⟩|W6 ps=>have e:h.get? a=aU {cls:=.none,data:=.fields ps}:=x;show h'.get? a=aU {cls:=.none,data:=.fields ps};exact k a _ (.inl rfl) e|met f y=>have e:h.get? a=aU (methodObj (.ref f) (.ref y)):=x;show h'.get? a=aU (methodObj (.ref f) (.ref y));exact k a _ (.inl rfl) e|ext I=>obtain⟨p,⟨o,e⟩,st⟩:=x;exact⟨st _ _ p λo q=>k _ _ (.inl rfl) q,⟨o,k _ _ (.inl rfl) e⟩,st⟩
theorem o7.lt(x:o7 P w H h)(e:H a=aU o):a<h.objs.size:=(x a o e).lt
theorem o7.fresh(x:o7 P w H h)(e:h.objs.size<=a):H a=cr:=by cases q:H a with|none=>rfl|some u=>exact absurd (eu (x.lt q) e) (i6 _)
theorem o7.kept(x:o7 P w H h)(k:∀b u,h.get? b=aU u->h'.get? b=aU u):o7 P w H h':=λa o e=>(x a o e).stay (λb u _ q=>k b u q) (λ_ q=>q) λ_ _ q=>q
theorem o7.laid(x:o7 P w H h)(k:∀b u,h.get? b=aU u->h'.get? b=aU u)(l:h.objs.size<=a)(f:bF P w (upd H a o) h' a o):o7 P w (upd H a o) h':=λb u e=>by
 have g:=x.fresh l;by_cases j:b=a;.subst j;rw[aH]at e;cases e;exact f
 .rw[aC j]at e;exact(x b u e).stay (λc v _ q=>k c v q) (λc q=>by rw[aC (gG q g)];exact q) λc xs q=>by rw[aC (gG q g)];exact q
end
noncomputable def Rd(H:Hp)(a:cx)(u:HO):Prop:=H a=aU u\/∃o,H a=aU (.dw o u)
theorem Rd.ok{P:dF}{a:cx}{u:HO}(r:Rd H a u)(x:o7 P w H h):bF P w H h a u:=by
 rcases r with r|⟨o,r⟩;.exact x a u r
 .obtain⟨_,q⟩:=x a _ r;exact q
noncomputable def ZG:Option HO->Prop|some (.lst _)=>True|some (.dK _)=>True|some (.dT _)=>True|some (.set _ _)=>True|some (.ins _ _ _)=>True|some (.ext _)=>True|_=>False
section
variable{P:dF}{w:eJ}{H:Hp}{h h':eN}{x e:cx}{o':HO}
theorem o7.write(ok:o7 P w H h)(g:ZG (H x))(he:e=x\/H e=aU (.own x))(k:∀b u,b≠e->h.get? b=aU u->h'.get? b=aU u)(l:∃u,h'.get? e=aU u)(m:bF P w (upd H x o') h' x o'):o7 P w (upd H x o') h':=λb u q=>by
 have f:∀c y,H c=aU (.own y)->c≠x:=λc y r z=>by subst z;rw[r]at g;exact g
 have n:∀c xs,H c=aU (.tup xs)->c≠x:=λc xs r z=>by subst z;rw[r]at g;exact g
 by_cases j:b=x;.subst j;rw[aH]at q;cases q;exact m
 . rw[aC j]at q;by_cases a:b=e
   . have o:H b=aU (.own x):=by
      rcases he with z|z;.exact absurd (a.trans z) j
      .rw[a];exact z
     rw[q]at o;cases o;obtain⟨v,p⟩:=l;exact⟨v,by rw[a];exact p⟩
   . refine(ok b u q).stay (λc v hc r=>k c v ?_ r) (λc r=>by rw[aC (f c b r)];exact r) λc xs r=>by rw[aC (n c xs r)];exact r
     rcases hc with rfl|hc;.exact a
     . rintro rfl;rcases he with z|z;.exact f c b hc z
       .rw[hc]at z;cases z;exact j rfl
end
structure Un(fs ex:List cx)(H H':Hp)(h h':eN):Prop where
 keep:∀b o,h.get? b=aU o->H b=cr->b∉fs->b∉ex->h'.get? b=aU o
 slot:∀b o,h.get? b=aU o->H b=cr->b∈fs->b∉ex->∃sl,h'.get? b=aU {o with slots:=sl}free:∀b o,h.get? b=aU o->H b=cr->b∉ex->H' b=cr
 there:∀b o,h.get? b=aU o->b∉ex->∃o',h'.get? b=aU o'
 tups:∀b xs,H b=aU (.tup xs)->H' b=aU (.tup xs)yg:∀b o u,H b=aU (.dw o u)->H' b=aU (.dw o u)Ae:∀b ps,H b=aU (.W6 ps)->∃more,H' b=aU (.W6 (ps++more))
section
variable{fs fs' ex ex':List cx}{H H1 H2:Hp}{h h1 h2 h':eN}{a x e:cx}{o:HO}
theorem Un.any(u:Un fs ex H H1 h h1){b:cx}{c:Obj}(q:h.get? b=aU c)(n:H b=cr)(f:b∉ex):∃sl,h1.get? b=aU {c with slots:=sl}:=by
 by_cases g:b∈fs;.exact u.slot b c q n g f
 .exact⟨c.slots,u.keep b c q n g f⟩
theorem Un.kept(k:∀b u,h.get? b=aU u->h'.get? b=aU u):Un fs ex H H h h':=⟨λb c q _ _ _=>k b c q,λb c q _ _ _=>⟨c.slots,k b c q⟩,λ_ _ _ n _=>n,λb c q _=>⟨c,k b c q⟩,λ_ _ q=>q,λ_ _ _ q=>q,λ_ ps q=>⟨#[],by rw[q];simp⟩⟩
theorem Un.refl:Un fs ex H H h h:=Un.kept λ_ _ q=>q
theorem Un.laid(k:∀b u,h.get? b=aU u->h'.get? b=aU u)(f:h.objs.size<=a)(c:H a=cr):Un fs ex H (upd H a o) h h' where
 keep:=λb u q _ _ _=>k b u q;slot:=λb u q _ _ _=>⟨u.slots,k b u q⟩;free:=λb u q n _=>by rw[aC (dS (eu (dA q) f))];exact n
 there:=λb u q _=>⟨u,k b u q⟩;tups:=λb xs q=>by rw[aC (gG q c)];exact q
 yg:=λb u xs q=>by rw[aC (gG q c)];exact q
 Ae:=λb ps q=>⟨#[],by rw[aC (gG q c),q];simp⟩
theorem Un.write(f:ZG (H x))(he:e=x\/H e=aU (.own x))(k:∀b u,b≠e->h.get? b=aU u->h'.get? b=aU u)(g:∃u,h'.get? e=aU u):Un fs ex H (upd H x o) h h':=by
 have l:∀b,H b=cr->b≠x:=λb n z=>by subst z;rw[n]at f;exact f
 have m:∀b,H b=cr->b≠e:=λb n z=>by
  subst z;rcases he with r|r;.exact l b n r
  .rw[n]at r;cases r
 have j:∀b u,H b=aU u->¬ ZG (aU u)->b≠x:=λb u q p z=>by subst z;rw[q]at f;exact p f
 refine⟨λb u q n _ _=>k b u (m b n) q,λb u q n _ _=>⟨u.slots,k b u (m b n) q⟩,λb u q n _=>by rw[aC (l b n)];exact n,λb u q _=>?_,λb xs q=>by rw[aC (j b _ q λz=>z)];exact q,λb u xs q=>by rw[aC (j b _ q λz=>z)];exact q,λb ps q=>⟨#[],by rw[aC (j b _ q λz=>z),q];simp⟩⟩;by_cases c:b=e;.subst c;exact g
 .exact⟨u,k b u c q⟩
end
noncomputable def trk(h:eN)(H:Hp):List cx:=(dE h.objs.size).filter λa=>(H a).isSome
noncomputable def wW(h:eN)(H:Hp):eN:=PySem.W.hideAll h (trk h H)
theorem Gk(h:eN)(H:Hp):(wW h H).objs.size=h.objs.size:=PySem.W.hideAll_size _ _
theorem K6{b:cx}{o:Obj}(e:h.get? b=aU o)(n:H b=cr):(wW h H).get? b=aU o:=PySem.W.hideAll_get _ e λa=>by have q:(H b).isSome=cq:=(hU.mp a).2;rw[n]at q;simp at q
theorem Qu{b:cx}{o:Obj}(e:(wW h H).get? b=aU o):h.get? b=aU o/\H b=cr:=by have a:h.get? b=aU o:=PySem.W.of_hideAll (trk h H) e;refine⟨a,?_⟩;cases q:H b with|none=>rfl|some x=>have c:b∈trk h H:=hU.mpr ⟨i4.mpr (dA a),by simp[q]⟩;have z:(wW h H).get? b=cr:=PySem.W.hideAll_none (trk h H) c;rw[z]at e;cases e
structure Mod(K:PySem.W.Frag)(mg:Str->Option b_)(base:eN):Prop where
 pY:K.In base
 glob:base.Ns ef mg
 blt:∃mb,base.Ns builtinsNs mb/\∀x:Str,x≠"__name__"->mb x=gn x
 nolimit:base.NoLimit
structure Cx where
 prog:dF
 w:eJ
 K:PySem.W.Frag
 mg:Str->Option b_
 base:eN
 A:eM
 N:List Str
 s₀:cv
 H₀:Hp
 env:Env
 outer:List Env
 stack:List Env
 ex:List cx
 fn:Str->Bool
 calm:Bool
 pn:List (cx×Obj)xe:b_->cv->Prop
variable{X:Cx}
noncomputable def frs(l:List Env):List cx:=l.filterMap (·.frame)
noncomputable abbrev Cx.fs(X:Cx):List cx:=frs X.outer
noncomputable def yr(a:kU)(x:Str):Prop:=a.names.lookup x=aU .local\/a.names.lookup x=aU .cell\/a.names.lookup x=aU .free
noncomputable def Loc(a:kU)(x:Str):Prop:=a.names.lookup x=aU .local\/a.names.lookup x=aU .cell
noncomputable def Look(env:Env)(h:eN)(m:Str->Option b_)(x:Str)(u:b_):Prop:=(env.kindOf x=aU .local/\m x=aU u)\/((env.kindOf x=aU .cell\/env.kindOf x=aU .free)/\∃c,env.cells.lookup x=aU c/\h.IsCell c (aU u))
structure Cx.Ok(X:Cx):Prop where
 mod:Mod X.K X.mg X.base
 kind:X.env.scope.kind=.function
 glob:X.env.globals=ef
 blt:X.env.builtins=builtinsNs
 above:X.s₀.heap.objs.size<=X.env.locals
 inj:∀x y c,X.env.cells.lookup x=aU c->X.env.cells.lookup y=aU c->x=y
 has:∀x,(X.env.kindOf x=aU .cell\/X.env.kindOf x=aU .free)->∃c,X.env.cells.lookup x=aU c
 cab:∀x c,X.fn x=cq->X.env.cells.lookup x=aU c->X.s₀.heap.objs.size<=c
 hd:X.calm=cq->X.A.handled=cr
 frames:X.A.frames=aU X.stack
 stk:X.stack=X.outer\/(X.stack=X.env::X.outer/\X.env.frame=aU X.env.locals)exf:∀b∈X.ex,b≠X.env.locals/\∀x c,X.env.cells.lookup x=aU c->c≠b
 bs:∀b o,X.base.get? b=aU o->X.s₀.heap.get? b=aU o/\X.H₀ b=cr
 R3:X.base.objs.size<=X.s₀.heap.objs.size
 Mh:∀b o,X.base.get? b=aU o->b∉X.ex
 Qz:∀b∈X.ex,b∉X.fs
 rZ:X.s₀.heap.FunFrames X.base X.outer
 YT:∀b∈X.fs,X.H₀ b=cr
structure Inv(X:Cx)(pins:List (cx×Obj))(σ:List (Option V))(H:Hp)(s:cv):Prop where
 ok:X.Ok
 os:s.os=X.s₀.os
 bare:nz s.gens
 base:Un X.fs X.ex X.H₀ H X.s₀.heap s.heap
 loc:∃m,s.heap.Ns X.env.locals m/\∀(i:Nat)(x:Str)(v:V),X.N[i]?=aU x->σ[i]?=aU (aU v)->yr X.env.scope x->∃u,RelV v u/\Look X.env s.heap m x u
 cell:∀x c,X.env.cells.lookup x=aU c->∃v,s.heap.IsCell c v
 free:H X.env.locals=cr
 lq:∀x c,X.env.cells.lookup x=aU c->H c=cr
 pin:∀p∈X.pn++pins,s.heap.get? p.1=aU p.2/\H p.1=cr/\p.1≠X.env.locals/\p.1∉X.fs/\∀v,p.2.data≠.cell v
 hok:o7 X.prog X.w H s.heap
 len:σ.length=X.N.length
section
variable{X:Cx}{pins:List (cx×Obj)}{σ:List (Option V)}{H H':Hp}{s:cv}{h':eN}
theorem Cx.Ok.afg(ok:X.Ok){b:cx}{o:Obj}(e:X.base.get? b=aU o):b∉X.fs:=λa=>by have:=(ok.rZ.mem a).1;rw[e]at this;cases this
theorem Inv.bs(I:Inv X pins σ H s):∀b o,X.base.get? b=aU o->s.heap.get? b=aU o/\H b=cr:=λb o e=>⟨I.base.keep b o (I.ok.bs b o e).1 (I.ok.bs b o e).2 (I.ok.afg e) (I.ok.Mh b o e),I.base.free b o (I.ok.bs b o e).1 (I.ok.bs b o e).2 (I.ok.Mh b o e)⟩
theorem Inv.bk(I:Inv X pins σ H s):∀b o,X.base.get? b=aU o->s.heap.get? b=aU o:=λb o e=>(I.bs b o e).1
theorem Inv.mod(I:Inv X pins σ H s):Mod X.K X.mg X.base:=I.ok.mod
theorem Inv.Xe(I:Inv X pins σ H s):X.K.In s.heap:=I.ok.mod.pY.keeps I.bk
theorem Inv.lt(I:Inv X pins σ H s):X.env.locals<s.heap.objs.size:=let⟨_,hn,_⟩:=I.loc;hn.lt
theorem Inv.sz(I:Inv X pins σ H s):X.s₀.heap.objs.size<=s.heap.objs.size:=iA I.ok.above (l_ I.lt)
theorem Inv.aem(I:Inv X pins σ H s){a:cx}(h:s.heap.objs.size<=a):a∉X.fs:=λb=>by obtain⟨_,o,ho,_⟩:=I.ok.rZ.mem b;exact absurd (eu (dA ho) (iA I.sz h)) (i6 _)
theorem Inv.Vf(I:Inv X pins σ H s):∀x c,X.env.cells.lookup x=aU c->c≠X.env.locals:=λx c e z=>by obtain⟨v,o,ho,hd⟩:=I.cell x c e;obtain⟨m,⟨f,es,ep,a,b,_⟩,_⟩:=I.loc;rw[z,a]at ho;cases ho;rw[b]at hd;cases hd
theorem Inv.rZ(I:Inv X pins σ H s):s.heap.FunFrames X.base X.outer:=by
 have all:∀(l:List Env),(∀b∈frs l,b∈X.fs)->X.s₀.heap.FunFrames X.base l->s.heap.FunFrames X.base l:=by intro l;induction l with|nil=>intro _ _;trivial|cons env r g=>intro hs j;obtain⟨k,⟨L,o,a,m,ho,hd⟩,hr⟩:=j;have c:L∈X.fs:=hs L (by unfold frs;rw[je,a];exact i5);obtain⟨sl,e⟩:=I.base.slot L o ho (I.ok.YT L c) c λz=>I.ok.Qz L z c;exact⟨k,⟨L,_,a,m,e,hd⟩,g (λb f=>hs b (by unfold frs;rw[je,a];exact dV _ f)) hr⟩
 exact all X.outer (λ_ f=>f) I.ok.rZ
theorem Inv.stack(I:Inv X pins σ H s):s.heap.FunFrames X.base X.stack:=by
 rcases I.ok.stk with e|⟨e,a⟩;.rw[e];exact I.rZ
 .rw[e];obtain⟨m,b,_⟩:=I.loc;refine .cons (by rw[I.ok.kind];decide) a b ?_ I.rZ;exact Heap.get?_none_of_le (iA I.ok.R3 I.ok.above)
theorem Inv.ye(I:Inv X pins σ H s):∀b∈frs X.stack,b∈X.env.locals::X.fs:=λb a=>by
 rcases I.ok.stk with e|⟨e,c⟩;.rw[e]at a;exact dV _ a
 .rw[e]at a;unfold frs at a;rw[je,c]at a;exact a
theorem Inv.Dp(I:Inv X pins σ H s):∀b∈frs X.stack,H b=cr:=λb hb=>by
 rcases da.mp (I.ye b hb)with e|hb;.rw[e];exact I.free
 .obtain⟨_,o,ho,_⟩:=I.ok.rZ.mem hb;exact I.base.free b o ho (I.ok.YT b hb) λz=>I.ok.Qz b z hb
theorem Inv.step{g':Array vk}{d':Drawn}{ch:List cx}(I:Inv X pins σ H s)(f:∀b∈ch,(b∈X.ex\/X.s₀.heap.objs.size<=b)/\b≠X.env.locals/\(∀x c,X.env.cells.lookup x=aU c->c≠b)/\∀p∈X.pn++pins,p.1≠b)(keep:∀b o,b≠X.env.locals->b∉X.fs->b∉ch->s.heap.get? b=aU o->H b=cr->h'.get? b=aU o)(slot:∀b o,b≠X.env.locals->b∈X.fs->b∉ch->s.heap.get? b=aU o->H b=cr->∃sl,h'.get? b=aU {o with slots:=sl})(free:∀b o,b∉ch->s.heap.get? b=aU o->H b=cr->H' b=cr)(there:∀b o,b∉ch->s.heap.get? b=aU o->∃B,h'.get? b=aU B)(tups:∀b xs,H b=aU (.tup xs)->H' b=aU (.tup xs))(yg:∀b o u,H b=aU (.dw o u)->H' b=aU (.dw o u))(Ae:∀b ps,H b=aU (.W6 ps)->∃more,H' b=aU (.W6 (ps++more)))(ns:∀m,s.heap.Ns X.env.locals m->h'.Ns X.env.locals m)(hok:o7 X.prog X.w H' h')(O:nz g'):Inv X pins σ H' {s with heap:=h',gens:=g',drawn:=d',toks:=t'}:=by
 have C:∀b o,X.s₀.heap.get? b=aU o->b≠X.env.locals:=λb o e=>dS (eu (dA e) I.ok.above);have j:∀b o,X.s₀.heap.get? b=aU o->b∉X.ex->b∉ch:=λb o e a y=>by
  rcases(f b y).1 with z|z;.exact a z
  .exact absurd (eu (dA e) z) (i6 _)
 have g:∀x c,X.env.cells.lookup x=aU c->∀v,s.heap.IsCell c v->h'.IsCell c v:=λx c e v⟨o,ho,hd⟩=>by
  have E:c∉ch:=λz=>(f c z).2.2.1 x c e rfl;by_cases hc:c∈X.fs;.obtain⟨sl,q⟩:=slot c o (I.Vf x c e) hc E ho (I.lq x c e);exact⟨_,q,hd⟩
  .exact⟨o,keep c o (I.Vf x c e) hc E ho (I.lq x c e),hd⟩
 refine⟨I.ok,I.os,O,⟨λb o e n y a=>?_,λb o e n y a=>?_,λb o e n a=>?_,λb o e a=>?_,λb xs e=>tups b xs (I.base.tups b xs e),λb o xs e=>yg b o xs (I.base.yg b o xs e),λb ps e=>?_⟩,?_,λx c e=>?_,?_,λx c e=>?_,λp L=>?_,hok,I.len⟩;.exact keep b o (C b o e) y (j b o e a) (I.base.keep b o e n y a) (I.base.free b o e n a)
 .obtain⟨sl,t⟩:=I.base.slot b o e n y a;obtain⟨J,G⟩:=slot b _ (C b o e) y (j b o e a) t (I.base.free b o e n a);exact⟨J,G⟩
 .obtain⟨B,t⟩:=I.base.there b o e a;exact free b B (j b o e a) t (I.base.free b o e n a)
 .obtain⟨B,t⟩:=I.base.there b o e a;exact there b B (j b o e a) t
 .obtain⟨m1,t⟩:=I.base.Ae b ps e;obtain⟨Q,G⟩:=Ae b _ t;exact⟨m1++Q,by rw[G,Array.append_assoc]⟩
 . obtain⟨m,U,W⟩:=I.loc;refine⟨m,ns m U,λi x v t G Y=>?_⟩;obtain⟨u,r,l⟩:=W i x v t G Y;refine⟨u,r,?_⟩;rcases l with l|⟨k,c,e,z⟩;.exact .inl l
   .exact .inr ⟨k,c,e,g x c e _ z⟩
 .obtain⟨v,z⟩:=I.cell x c e;exact⟨v,g x c e v z⟩
 .obtain⟨m,⟨o,_,_,ho,_⟩,_⟩:=I.loc;exact free _ o (λz=>(f _ z).2.1 rfl) ho I.free
 .obtain⟨v,o,ho,hd⟩:=I.cell x c e;exact free c o (λz=>(f c z).2.2.1 x c e rfl) ho (I.lq x c e)
 .obtain⟨e,n,ne,N,d⟩:=I.pin p L;have E:p.1∉ch:=λz=>(f p.1 z).2.2.2 p L rfl;exact⟨keep p.1 p.2 ne N E e n,free p.1 p.2 E e n,ne,N,d⟩
theorem Inv.un(I:Inv X pins σ H s)(u:Un X.fs [] H H' s.heap h')(hok:o7 X.prog X.w H' h'):Inv X pins σ H' {s with heap:=h',toks:=t'}:=by obtain⟨m,⟨o,es,ep,ho,r⟩,_⟩:=id I.loc;obtain⟨sl,j⟩:=u.any ho I.free (by simp);exact I.step (g':=s.gens) (d':=s.drawn) (ch:=[]) (λ_ z=>nomatch z) (λb o _ c _ e n=>u.keep b o e n c (by simp)) (λb o _ c _ e n=>u.slot b o e n c (by simp)) (λb o _ e n=>u.free b o e n (by simp)) (λb o _ e=>u.there b o e (by simp)) u.tups u.yg u.Ae (λp k=>by obtain⟨q,f,g,a,l⟩:=k;rw[ho]at a;cases a;exact⟨_,f,g,j,l⟩) hok I.bare
theorem Inv.call{g':Array vk}{d':Drawn}{ch:List cx}(I:Inv X pins σ H s)(u:Un (frs X.stack) ch H H' s.heap h')(hok:o7 X.prog X.w H' h')(l:nz g')(a:∀b∈ch,(b∈X.ex\/X.s₀.heap.objs.size<=b)/\b≠X.env.locals/\(∀x c,X.env.cells.lookup x=aU c->c≠b)/\∀p∈X.pn++pins,p.1≠b):Inv X pins σ H' {s with heap:=h',gens:=g',drawn:=d',toks:=t'}:=by obtain⟨m,⟨o,es,ep,ho,r⟩,_⟩:=id I.loc;obtain⟨sl,g⟩:=u.any ho I.free λz=>(a _ z).2.1 rfl;exact I.step (ch:=ch) a (λb o g q hc e n=>u.keep b o e n (λz=>(da.mp (I.ye b z)).elim g q) hc) (λb o _ _ hc e n=>u.any e n hc) (λb o hc e n=>u.free b o e n hc) (λb o hc e=>u.there b o e hc) u.tups u.yg u.Ae (λy t=>by obtain⟨B,j,k,f,v⟩:=t;rw[ho]at f;cases f;exact⟨_,j,k,g,v⟩) hok l
theorem Inv.turned{it:cx}(I:Inv X pins σ H s)(k:∀b o,b≠it->s.heap.get? b=aU o->h'.get? b=aU o)(g:H it=cr)(f:it≠X.env.locals)(h1:it∈X.ex\/X.s₀.heap.objs.size<=it)(j:∀x c,X.env.cells.lookup x=aU c->c≠it)(l:∀p∈X.pn++pins,p.1≠it):Inv X pins σ H {s with heap:=h',toks:=t'}:=by
 have a:∀b u,H b=aU u->b≠it:=λb u e z=>by rw[z,g]at e;cases e
 refine I.step (g':=s.gens) (d':=s.drawn) (ch:=[it]) (λb t=>?_) (λb o _ _ hc e _=>k b o (λz=>hc (by simp[z])) e) (λb o _ _ hc e _=>⟨o.slots,k b o (λz=>hc (by simp[z])) e⟩) (λ_ _ _ _ n=>n) (λb o hc e=>⟨o,k b o (λz=>hc (by simp[z])) e⟩) (λ_ _ e=>e) (λ_ _ _ e=>e) (λb ps e=>⟨#[],by rw[e];simp⟩) (λm y=>?_) (λb u e=>?_) I.bare
 . have e:b=it:=by simpa using t
   subst e;exact⟨h1,f,j,l⟩
 .obtain⟨o,es,ep,ho,r⟩:=y;exact⟨o,es,ep,k _ o (fI f) ho,r⟩
 . refine(I.hok b u e).stay (λc v hc q=>k c v ?_ q) (λ_ q=>q) λ_ _ q=>q;rcases hc with z|z;.rw[z];exact a b u e
   .exact a c _ z
theorem Inv.tok(I:Inv X pins σ H s)(t:Nat):Inv X pins σ H {s with toks:=t}:=I.un (h':=s.heap) (t':=t) Un.refl I.hok
theorem Inv.kept{t':Nat}(I:Inv X pins σ H s)(k:∀b u,s.heap.get? b=aU u->h'.get? b=aU u):Inv X pins σ H {s with heap:=h',toks:=t'}:=I.un (Un.kept k) (I.hok.kept k)
theorem Inv.laid{a:cx}{o:HO}{t':Nat}(I:Inv X pins σ H s)(k:∀b u,s.heap.get? b=aU u->h'.get? b=aU u)(c:s.heap.objs.size<=a)(e:bF X.prog X.w (upd H a o) h' a o):Inv X pins σ (upd H a o) {s with heap:=h',toks:=t'}:=I.un (Un.laid k c (I.hok.fresh c)) (I.hok.laid k c e)
theorem Inv.write{x e:cx}{o:HO}{t':Nat}(I:Inv X pins σ H s)(f:ZG (H x))(he:e=x\/H e=aU (.own x))(k:∀b u,b≠e->s.heap.get? b=aU u->h'.get? b=aU u)(a:∃u,h'.get? e=aU u)(c:bF X.prog X.w (upd H x o) h' x o):Inv X pins σ (upd H x o) {s with heap:=h',toks:=t'}:=I.un (Un.write f he k a) (I.hok.write f he k a c)
theorem Inv.Eg{a:List (cx×Obj)}(I:Inv X pins σ H s)(h:∀p∈a,s.heap.get? p.1=aU p.2/\H p.1=cr/\p.1≠X.env.locals/\p.1∉X.fs/\∀v,p.2.data≠.cell v):Inv X a σ H s:=⟨I.ok,I.os,I.bare,I.base,I.loc,I.cell,I.free,I.lq,λp b=>(fE.mp b).elim (λz=>I.pin p (sf _ z)) (h p),I.hok,I.len⟩
theorem zJ{N:List Str}(c:N.Nodup){j:Nat}{x:Str}(a:N[i]?=aU x)(b:N[j]?=aU x):i=j:=by obtain⟨h1,e⟩:=fB a;obtain⟨g,f⟩:=fB b;exact(List.getElem_inj c).mp (e.trans f.symm)
theorem v5{E:b_->cv->Prop}{x:Str}{v:V}{u:b_}{Q:Unit->cv->Prop}(I:Inv X pins σ H s)(hN:X.N.Nodup)(hi:X.N[i]?=aU x)(l:Loc X.env.scope x)(r:RelV v u)(h:∀s',Inv X pins (σ.set i (aU v)) H s'->(∃a,nm a s.heap s'.heap/\(a=X.env.locals\/X.env.cells.lookup x=aU a))->Q () s')(hf:X.fn x=cq\/X.env.scope.names.lookup x=aU .local:=by first|(left;rfl)|(right;rfl)|assumption):cK M A (storeName X.env x u) Q E s:=by
 obtain⟨m,hn,hl⟩:=id I.loc;have O:(X.env.scope.kind==.class||(X.env.scope.kind==.module&&X.env.locals !=X.env.globals))=a_:=by rw[I.ok.kind];rfl
 have C:i<σ.length:=by rw[I.len];exact(fB hi).1
 have Vf:=I.Vf;have f:∀{a:cx}{h':eN},(∃o,s.heap.get? a=aU o/\H a=cr)->nm a s.heap h'->o7 X.prog X.w H h':=λ{a h'}ha hs b ob e=>by
  obtain⟨_,_,t⟩:=ha;refine(I.hok b ob e).stay (λc Z hc q=>(hs.2 c ?_).trans q) (λ_ q=>q) λ_ _ q=>q;rintro rfl;rcases hc with rfl|hc;.rw[t]at e;cases e
  .rw[t]at hc;cases hc
 rcases l with hk|hk
 . refine wpAny_storeName_local hk hn (λh' ac hs=>?_) O;obtain⟨oL,_,_,ae,_⟩:=id hn;refine h _ ⟨I.ok,I.os,I.bare,⟨λb o e n G l=>?_,λb o e n G l=>?_,I.base.free,λb o e l=>?_,I.base.tups,I.base.yg,I.base.Ae⟩,⟨_,ac,λj y v' g B e3=>?_⟩,λy c e=>?_,I.free,I.lq,λp hp=>?_,f ⟨oL,ae,I.free⟩ hs,by simpa using I.len⟩ ⟨_,hs,.inl rfl⟩;.exact(hs.2 b (dS (eu (dA e) I.ok.above))).trans (I.base.keep b o e n G l)
   .obtain⟨sl,g⟩:=I.base.slot b o e n G l;exact⟨sl,(hs.2 b (dS (eu (dA e) I.ok.above))).trans g⟩
   .obtain⟨o',g⟩:=I.base.there b o e l;exact⟨o',(hs.2 b (dS (eu (dA e) I.ok.above))).trans g⟩
   . by_cases J:j=i;.subst J;rw[hi]at g;cases g;rw[cy C]at B;cases B;exact⟨u,r,.inl ⟨hk,by simp⟩⟩
     . rw[fM J]at B;obtain⟨u',r',q⟩:=hl j y v' g B e3;refine⟨u',r',?_⟩;rcases q with⟨k,e⟩|⟨k,c,e,z⟩;.refine .inl ⟨k,?_⟩;have:y≠x:=λe=>J (zJ hN g (e▸hi));simp[this,e]
       .exact .inr ⟨k,c,e,z.sameBut hs (Vf y c e)⟩
   .obtain⟨Z,z⟩:=I.cell y c e;exact⟨Z,z.sameBut hs (Vf y c e)⟩
   .obtain⟨e,n,ne,nf,d⟩:=I.pin p hp;exact⟨(hs.2 p.1 ne).trans e,n,ne,nf,d⟩
 . have L:X.fn x=cq:=by
    rcases hf with z|z;.exact z
    .rw[z]at hk;cases hk
   obtain⟨c,hc⟩:=I.ok.has x (.inl hk);obtain⟨Z,z⟩:=I.cell x c hc;refine wpAny_storeName_cell I.ok.kind hk hc z (λh' U hs=>?_);obtain⟨oc,W,af⟩:=id z;refine h {s with heap:=h'} ⟨I.ok,I.os,I.bare,⟨λb o e n G l=>?_,λb o e n G l=>?_,I.base.free,λb o e l=>?_,I.base.tups,I.base.yg,I.base.Ae⟩,⟨m,hn.sameBut hs (fI (Vf x c hc)),λj y v' g B e3=>?_⟩,λy c' e=>?_,I.free,I.lq,λp hp=>?_,f ⟨oc,W,I.lq x c hc⟩ hs,by simpa using I.len⟩ ⟨c,hs,.inr hc⟩;.exact(hs.2 b (dS (eu (dA e) (I.ok.cab x c L hc)))).trans (I.base.keep b o e n G l)
   .obtain⟨sl,g⟩:=I.base.slot b o e n G l;exact⟨sl,(hs.2 b (dS (eu (dA e) (I.ok.cab x c L hc)))).trans g⟩
   .obtain⟨o',g⟩:=I.base.there b o e l;exact⟨o',(hs.2 b (dS (eu (dA e) (I.ok.cab x c L hc)))).trans g⟩
   . by_cases J:j=i;.subst J;rw[hi]at g;cases g;rw[cy C]at B;cases B;exact⟨u,r,.inr ⟨.inl hk,c,hc,U⟩⟩
     . rw[fM J]at B;obtain⟨u',r',q⟩:=hl j y v' g B e3;refine⟨u',r',?_⟩;rcases q with q|⟨k,c',e,z'⟩;.exact .inl q
       .refine .inr ⟨k,c',e,z'.sameBut hs ?_⟩;rintro rfl;exact J (zJ hN g (I.ok.inj _ _ _ e hc▸hi))
   . by_cases Y:c'=c;.subst Y;exact⟨_,U⟩
     .obtain⟨w2,z2⟩:=I.cell y c' e;exact⟨w2,z2.sameBut hs Y⟩
   .obtain⟨e,n,ne,nf,d⟩:=I.pin p hp;refine⟨(hs.2 p.1 ?_).trans e,n,ne,nf,d⟩;intro q;rw[q,W]at e;have q':oc=p.2:=fb e;exact d Z (by rw[<-q'];exact af)
theorem j5{E:b_->cv->Prop}{x:Str}{v:V}{u:b_}{Q:Unit->cv->Prop}(I:Inv X pins σ H s)(b:X.N.Nodup)(hi:X.N[i]?=aU x)(c:Loc X.env.scope x)(r:RelV v u)(h:∀a,Inv X pins (σ.set i (aU v)) H a->Q () a)(e:X.fn x=cq\/X.env.scope.names.lookup x=aU .local:=by first|(left;rfl)|(right;rfl)|assumption):cK M A (storeName X.env x u) Q E s:=v5 I b hi c r (λa f _=>h a f) e
end
noncomputable abbrev XK:=b_->Option cx->Hp->Prop
noncomputable abbrev St:=List (Option V)
noncomputable abbrev VK:=V->Hp->Prop
noncomputable abbrev TE:=St->Hp->VK->Prop
variable{te:TE}
noncomputable abbrev TT:=St->Hp->(Bool->Hp->Prop)->Prop
noncomputable abbrev TA:=St->Hp->(List V->Hp->Prop)->Prop
structure Ends where
 nx:St->Hp->Prop
 rt:VK
 bk:St->Hp->Prop:=λ_ _=>False
 ct:St->Hp->Prop:=λ_ _=>False
noncomputable abbrev TS:=Ends->St->Hp->Prop
inductive EP(X:Cx)(pins:List (cx×Obj))(σ:St)(Q:VK)(u:b_)(s':cv):Prop where|mk(v:V)(H':Hp)(q0:Inv X pins σ H' s')(q1:RelV v u)(q2:Q v H')
noncomputable def TP(X:Cx)(pins:List (cx×Obj))(σ:St)(Q:Bool->Hp->Prop)(b:Bool)(c:cv):Prop:=∃a,Inv X pins σ a c/\Q b a
inductive AP(X:Cx)(pins:List (cx×Obj))(σ:St)(Q:List V->Hp->Prop)(us:List b_)(s':cv):Prop where|mk(vs:List V)(H':Hp)(q0:Inv X pins σ H' s')(q1:Vals vs us)(q2:Q vs H')
noncomputable def SP(X:Cx)(pins:List (cx×Obj))(D:Ends)(f:Flow)(c:cv):Prop:=match f with|.next=>∃a b,Inv X pins a b c/\D.nx a b|.brk=>∃a b,Inv X pins a b c/\D.bk a b|.cont=>∃a b,Inv X pins a b c/\D.ct a b|.ret u=>∃v a b,Inv X pins a b c/\RelV v u/\D.rt v b
noncomputable def PE(X:Cx)(e:dO)(t:TE):Prop:=∀(pins:List (cx×Obj))(s:cv)(σ:St)(H:Hp)(Q:VK),Inv X pins σ H s->t σ H Q->cK (c_ X.prog X.w) X.A (fi e X.env) (EP X pins σ Q) X.xe s
noncomputable def PT(X:Cx)(e:dO)(t:TT):Prop:=∀(pins:List (cx×Obj))(s:cv)(σ:St)(H:Hp)(Q:Bool->Hp->Prop),Inv X pins σ H s->t σ H Q->cK (c_ X.prog X.w) X.A (isTrue e X.env (fi e X.env)) (TP X pins σ Q) X.xe s
noncomputable def PW(X:Cx)(e:dO)(t:TT):Prop:=∀(a:Sem b_)(pins:List (cx×Obj))(s:cv)(σ:St)(H:Hp)(Q:Bool->Hp->Prop),Inv X pins σ H s->t σ H Q->cK (c_ X.prog X.w) X.A (isTrue e X.env a) (TP X pins σ Q) X.xe s
theorem PW.pt{e:dO}{t:TT}(h:PW X e t):PT X e t:=h _
noncomputable def PA(X:Cx)(es:List dO)(t:TA):Prop:=∀(pos:Pos)(pins:List (cx×Obj))(s:cv)(σ:St)(H:Hp)(Q:List V->Hp->Prop),Inv X pins σ H s->t σ H Q->cK (c_ X.prog X.w) X.A (spliced (kf pos (cL es X.env))) (AP X pins σ Q) X.xe s
noncomputable def PS(X:Cx)(st:ft)(t:TS):Prop:=∀(pins:List (cx×Obj))(s:cv)(σ:St)(H:Hp)(D:Ends),Inv X pins σ H s->t D σ H->cK (c_ X.prog X.w) X.A (exec st X.env) (SP X pins D) X.xe s
noncomputable def zM(X:Cx)(st:List ft)(t:TS):Prop:=∀(pins:List (cx×Obj))(s:cv)(σ:St)(H:Hp)(D:Ends),Inv X pins σ H s->t D σ H->cK (c_ X.prog X.w) X.A (execs st X.env) (SP X pins D) X.xe s
theorem cA{b:Type}{t:Sem b}{Q c:b->cv->Prop}{E:b_->cv->Prop}(h:cK M A t Q E s)(e:∀a s,Q a s->c a s):cK M A t c E s:=eK h e λ_ _ x=>x
section
variable{X:Cx}
noncomputable def Ua(i:Nat):TE:=λσ H Q=>∃v,σ[i]?=aU (aU v)/\Q v H
noncomputable def tC(v:V):TE:=λ_ H Q=>Q v H
theorem fO{x:Str}(f:X.N[i]?=aU x)(g:yr X.env.scope x)(hd:(x==("__debug__":Str))=a_:=by decide)(b:(x==("__classdict__":Str))=a_:=by decide):PE X (.Name x pos) (Ua i):=by
 intro pins s σ H Q I h;obtain⟨v,e,h⟩:=h;obtain⟨m,j,k⟩:=I.loc;obtain⟨u,r,l⟩:=k i x v f e g;have fin:EP X pins σ Q u s:=⟨v,H,I,r,h⟩;rcases l with⟨hk,n⟩|⟨hk,c,hc,a⟩;.exact wpAny_Name (uk I.ok.kind hk j n fin) hd
 . rcases hk with hk|hk;.exact wpAny_Name (vl I.ok.kind hk hc a fin) hd
   .exact wpAny_Name (wpAny_loadName_free I.ok.kind hk hc a fin b) hd
theorem mU{i j pos}:PE X (.Constant (.int i) j pos) (tC (.int i)):=λ_ _ _ H _ I h=>wpAny_Constant_int ⟨.int i,H,I.tok _,⟨_,rfl⟩,h⟩
theorem aae{b j pos}:PE X (.Constant (.bool b) j pos) (tC (.bl b)):=λ_ _ _ H _ I h=>Constant_bool ⟨.bl b,H,I,rfl,h⟩
theorem W0{j pos}:PE X (.Constant .none j pos) (tC .non):=λ_ _ _ H _ I h=>Constant_none ⟨.non,H,I,rfl,h⟩
noncomputable def Gl(X:Cx)(x:Str):Prop:=X.env.kindOf x=aU .globalImplicit
theorem Qp{E:b_->cv->Prop}{σ:St}{x:Str}{u:b_}{Q:b_->cv->Prop}(I:Inv X pins σ H s)(a:Gl X x)(b:X.mg x=aU u)(h:Q u s)(hd:(x==("__debug__":Str))=a_:=by decide):cK (c_ X.prog X.w) X.A (fi (.Name x pos) X.env) Q E s:=oZ I.ok.kind a (Calls.loadGlobal_global (by rw[I.ok.glob];exact I.mod.glob.keeps I.bk) b h) hd
theorem mL{E:b_->cv->Prop}{σ:St}{x:Str}{u:b_}{Q:b_->cv->Prop}(I:Inv X pins σ H s)(a:Gl X x)(b:X.mg x=cr)(c:gn x=aU u)(h:Q u s)(e:x≠"__name__":=by decide)(hd:(x==("__debug__":Str))=a_:=by decide):cK (c_ X.prog X.w) X.A (fi (.Name x pos) X.env) Q E s:=by obtain⟨g,h1,f⟩:=I.mod.blt;exact oZ I.ok.kind a (Calls.loadGlobal_builtin (by rw[I.ok.glob];exact I.mod.glob.keeps I.bk) b (by rw[I.ok.blt];exact h1.keeps I.bk) ((f x e).trans c) h) hd
variable{a b:dO}{ta tb:TE}{pos:Pos}
noncomputable def PC(X:Cx)(op:nV)(a b:dO)(t:TE):Prop:=∀(pins:List (cx × Obj))(s:cv)(σ:St)(H:Hp)(Q:VK),Inv X pins σ H s->t σ H Q->cK (c_ X.prog X.w) X.A (fi a X.env) (λv c=>cK (c_ X.prog X.w) X.A (fi b X.env) (λu e=>cK (c_ X.prog X.w) X.A (ec op v u) (EP X pins σ Q) X.xe e) X.xe c) X.xe s
noncomputable def tB(t:TE):TT:=λσ H Q=>t σ H λx e=>∃c,x=.bl c/\Q c e
theorem UG{t:TE}(h:PC X op a b t)(h1:gT op b=a_:=by first|(apply aa3<;>decide)|rfl):PT X (.Compare a [op] [b] pos) (tB t):=by intro pins s σ H Q I e;refine ub (cA (h pins s σ H _ I e) λv s1 h1=>cA h1 λu s2 f=>cA f λc s3⟨x,H1,I1,r1,q1⟩=>?_) h1;obtain⟨d,rfl,q⟩:=q1;cases r1;exact ib ⟨H1,I1,q⟩
theorem V9{e:dO}{t:TE}(h:PE X e t)(he:∀c,isTrue e X.env c=(do let v<-c;standAt e.pos;kX [v] (truthy v)):=by intro _;rfl):PT X e (tB t):=by intro pins s σ H Q I f;refine isTrue_plain (cA (h pins s σ H _ I f) λv s1⟨x,H1,I1,r1,q1⟩=>?_) (he _);obtain⟨d,rfl,q⟩:=q1;cases r1;exact ib ⟨H1,I1,q⟩
variable{tA tB':TT}{rest:List dO}
noncomputable def tOr(t u:TT):TT:=λσ H Q=>t σ H λc e=>if c=cq then Q cq e else u σ e Q
noncomputable def afV(t:TT):TT:=λσ H Q=>t σ H λc e=>Q (!c) e
theorem Wb(f:PT X a tA):PW X (.BoolOp .Or [a] pos) tA:=by intro wh pins s σ H Q I h;refine isTrue_or (cA (f pins s σ H Q I h) λc s1 e=>?_);cases c with|false=>exact isTrue_or_nil e|true=>exact e
theorem aaX(f:PT X a tA)(g:PW X (.BoolOp .Or (b::rest) pos) tB'):PW X (.BoolOp .Or (a::b::rest) pos) (tOr tA tB'):=by intro wh pins s σ H Q I h;refine isTrue_or (cA (f pins s σ H _ I h) λc s1⟨e,I1,q1⟩=>?_);cases c with|true=>exact⟨e,I1,q1⟩|false=>exact g wh pins s1 σ e Q I1 q1
theorem Ug(e:PT X a tA):PT X (.UnaryOp .Not a pos) (afV tA):=by intro pins s σ H Q I h;exact isTrue_not (e pins s σ H (λc f=>Q (!c) f) I h)
noncomputable def tIf(t:TT)(ta tb:TE):TE:=λσ H Q=>t σ H λc e=>if c=cq then ta σ e Q else tb σ e Q
theorem J5{c:dO}(hc:PT X c tA)(f:PE X a ta)(g:PE X b tb):PE X (.IfExp c a b pos) (tIf tA ta tb):=by intro pins s σ H Q I h;refine wpAny_IfExp (cA (hc pins s σ H _ I h) λd s1⟨e,I1,q1⟩=>?_);cases d with|true=>exact f pins s1 σ e Q I1 q1|false=>exact g pins s1 σ e Q I1 q1
end
noncomputable def eY(K:PySem.W.Frag)(H:Hp)(a:cx)(xs:List V):Prop:=Rd H a (.lst xs)\/∃(o:Obj)(b:Array b_)(n:Nat),K.lookup a=aU o/\o.cls=.type "list"/\o.dict=cr/\o.data=.seq b n/\b.size<=sizeLine/\Vals xs b.toList
noncomputable def iD(K:PySem.W.Frag)(H:Hp)(a:cx)(xs:List V):Prop:=Rd H a (.tup xs)\/∃(o:Obj)(b:Array b_)(n:Nat),K.lookup a=aU o/\o.cls=.type "tuple"/\o.data=.seq b n/\b.size<=sizeLine/\Vals xs b.toList
noncomputable def ad5:b_->Option V|.none=>aU .non|.bool b=>aU (.bl b)|.int i _=>aU (.int i)|.str x _=>aU (.str x)|.bytes b _=>aU (.byt b)|.float b _=>aU (.flt b)|.ref a=>aU (.ref a)|.type n=>aU (.ty n)|_=>cr
theorem RelV.abs{x:V}{u:b_}(r:RelV x u):ad5 u=aU x:=by cases x with|non=>cases r;rfl|bl _=>cases r;rfl|int _=>obtain⟨t,rfl⟩:=r;rfl|str _=>obtain⟨t,rfl⟩:=r;rfl|byt _=>obtain⟨t,rfl⟩:=r;rfl|flt _=>obtain⟨t,rfl⟩:=r;rfl|ref _=>cases r;rfl|ty _=>cases r;rfl
theorem RelV.inj{x y:V}{u:b_}(r:RelV x u)(q:RelV y u):x=y:=fb (r.abs.symm.trans q.abs)
theorem Vals.inj:∀{xs ys:List V}{us:List b_},Vals xs us->Vals ys us->xs=ys|_,_,_,.nil,.nil=>rfl|_,_,_,.cons r t,.cons a t'=>by rw[r.inj a,Vals.inj t t']
section
variable{X:Cx}{pins:List (cx×Obj)}{σ:St}{H:Hp}{s:cv}{a:cx}{xs ys:List V}
theorem eY.of(h:H a=aU (.lst xs)):eY K H a xs:=.inl (.inl h)
theorem iD.of(h:H a=aU (.tup xs)):iD K H a xs:=.inl (.inl h)
theorem Inv.list(I:Inv X pins σ H s)(h:eY X.K H a xs):∃b:List b_,Vals xs b/\PlainL s.heap a b.toArray/\xs.length<=sizeLine:=by
 rcases h with h|⟨o,b,n,c,hc,hd,hs,hz,r⟩;.obtain⟨z,b,n,r,e⟩:=h.ok I.hok;exact⟨b,r,⟨_,n,e,rfl,rfl,rfl⟩,z⟩
 .refine⟨b.toList,r,⟨o,n,I.Xe a o c,hc,hd,by simpa using hs⟩,?_⟩;have e:=r.length;simp only[eS]at e;omega
theorem Inv.tuple(I:Inv X pins σ H s)(h:iD X.K H a xs):∃b:List b_,Vals xs b/\s_ s.heap a b.toArray/\xs.length<=sizeLine:=by
 rcases h with h|⟨o,b,n,c,hc,hs,hz,r⟩;.obtain⟨z,b,r,p⟩:=h.ok I.hok;exact⟨b,r,p,z⟩
 .refine⟨b.toList,r,⟨o,I.Xe a o c,hc,n,by simpa using hs⟩,?_⟩;have e:=r.length;simp only[eS]at e;omega
theorem Inv.tL(I:Inv X pins σ H s)(h:eY X.K H a xs)(h':eY X.K H a ys):xs=ys:=by
 obtain⟨b,r,⟨o,n,e,_,_,d⟩,_⟩:=I.list h;obtain⟨its',f,⟨g,j,c,_,_,d'⟩,_⟩:=I.list h';rw[e]at c;cases c;rw[d]at d';injection d' with d1 _;have:b=its':=by simpa using congrArg toList d1
 subst this;exact r.inj f
theorem Inv.pB(I:Inv X pins σ H s)(h:iD X.K H a xs)(h':iD X.K H a ys):xs=ys:=by
 obtain⟨b,r,⟨o,e,_,n,d⟩,_⟩:=I.tuple h;obtain⟨its',f,⟨g,c,_,j,d'⟩,_⟩:=I.tuple h';rw[e]at c;cases c;rw[d]at d';injection d' with d1 _;have:b=its':=by simpa using congrArg toList d1
 subst this;exact r.inj f
end
noncomputable abbrev Cx.wish(X:Cx)(E:b_->cv->Prop):Cx:={X with xe:=E}
noncomputable abbrev Cx.nox(X:Cx):Cx:=X.wish λ_ _=>False
theorem Cx.Ok.wish{X:Cx}(ok:X.Ok)(E:b_->cv->Prop):(X.wish E).Ok:=⟨ok.mod,ok.kind,ok.glob,ok.blt,ok.above,ok.inj,ok.has,ok.cab,ok.hd,ok.frames,ok.stk,ok.exf,ok.bs,ok.R3,ok.Mh,ok.Qz,ok.rZ,ok.YT⟩
theorem Cx.Ok.j6{E:b_->cv->Prop}(ok:(X.wish E).Ok):X.Ok:=⟨ok.mod,ok.kind,ok.glob,ok.blt,ok.above,ok.inj,ok.has,ok.cab,ok.hd,ok.frames,ok.stk,ok.exf,ok.bs,ok.R3,ok.Mh,ok.Qz,ok.rZ,ok.YT⟩
section
variable{X:Cx}{pins:List (cx×Obj)}{σ:St}{H:Hp}{s:cv}{E:b_->cv->Prop}
theorem Inv.wish(I:Inv X pins σ H s)(E:b_->cv->Prop):Inv (X.wish E) pins σ H s:=⟨I.ok.wish E,I.os,I.bare,I.base,I.loc,I.cell,I.free,I.lq,I.pin,I.hok,I.len⟩
theorem Inv.j6(I:Inv (X.wish E) pins σ H s):Inv X pins σ H s:=⟨I.ok.j6,I.os,I.bare,I.base,I.loc,I.cell,I.free,I.lq,I.pin,I.hok,I.len⟩
theorem SP.j6{D:Ends}{f:Flow}{c:cv}(h:SP (X.wish E) pins D f c):SP X pins D f c:=by cases f with|next=>obtain⟨a,b,I,q⟩:=h;exact⟨a,b,I.j6,q⟩|brk=>obtain⟨a,b,I,q⟩:=h;exact⟨a,b,I.j6,q⟩|cont=>obtain⟨a,b,I,q⟩:=h;exact⟨a,b,I.j6,q⟩|ret u=>obtain⟨v,a,b,I,r,q⟩:=h;exact⟨v,a,b,I.j6,r,q⟩
theorem zM.nox{st:List ft}{t:TS}(h:zM X.nox st t):zM X st t:=λpins s σ H D I a=>eK (h pins s σ H D (I.wish _) a) (λ_ _ q=>q.j6) λ_ _ z=>fR z
end
section
variable{X:Cx}{st:ft}{rest:List ft}{t u:TS}{e:dO}{te:TE}{pos:Pos}
noncomputable def aaW:TS:=λD σ H=>D.nx σ H
noncomputable def ae4(t u:TS):TS:=λD σ H=>t {D with nx:=u D} σ H
theorem Dj:zM X [] aaW:=λ_ _ σ H _ I h=>qf ⟨σ,H,I,h⟩
theorem oH(h1:PS X st t)(b:zM X rest u):zM X (st::rest) (ae4 t u):=by intro pins s σ H D I h;refine wpAny_execs_cons (cA (h1 pins s σ H {D with nx:=u D} I h) λf s1 q=>?_);cases f with|next=>obtain⟨a,c,g,q⟩:=q;exact b pins s1 a c D g q|ret v=>exact q|brk=>exact q|cont=>exact q
theorem Inv.quiet{σ:St}(I:Inv X pins σ H s):interactive X.env=a_:=by simp[interactive,I.ok.kind]
noncomputable def ZM(te:TE):TS:=λD σ H=>te σ H λ_ a=>D.nx σ a
theorem Fj(he:PE X e te)(hs:h_ e cr pos.line X.env=fy a_:=by rfl):PS X (.Expr e pos) (ZM te):=by intro pins s σ H D I h;exact wpAny_Expr_any (cA (he pins s σ H _ I h) λv s1⟨x,H1,I1,r1,q1⟩=>⟨σ,H1,I1,q1⟩) I.quiet hs
noncomputable def afs(te:TE):TS:=λD σ H=>te σ H D.rt
theorem Jq(he:PE X e te):PS X (.Return (aU e) pos) (afs te):=by intro pins s σ H D I h;exact wpAny_Return_some (cA (he pins s σ H _ I h) λv s1⟨x,H1,I1,r1,q1⟩=>⟨x,σ,H1,I1,r1,q1⟩)
noncomputable def ae3(c:TT)(t u:TS):TS:=λD σ H=>c σ H λb a=>if b=cq then t D σ a else u D σ a
theorem RP{c:dO}{a b:List ft}{f:TT}(hc:PT X c f)(j:zM X a t)(k:zM X b u):PS X (.If c a b pos) (ae3 f t u):=by intro pins s σ H D I h;refine wpAny_If (cA (hc pins s σ H _ I h) λd s1⟨g,I1,q1⟩=>?_);cases d with|true=>exact j pins s1 σ g D I1 q1|false=>exact k pins s1 σ g D I1 q1
noncomputable def Tq:TS:=λ_ _ _=>False
theorem KD:PS X st Tq:=λ_ _ _ _ _ _ h=>h.elim
end
noncomputable abbrev TG:=V->St->Hp->(St->Hp->Prop)->Prop
noncomputable abbrev HW:=List V->St->Hp->(St->Hp->Prop)->Prop
noncomputable def PG(X:Cx)(a:dO)(t:TG):Prop:=∀(pins:List (cx × Obj))(s:cv)(σ:St)(H:Hp)(v:V)(u:b_)(Q:St->Hp->Prop),Inv X pins σ H s->RelV v u->t v σ H Q->cK (c_ X.prog X.w) X.A (mu a X.env u) (λ_ e=>∃b c,Inv X pins b c e/\Q b c) X.xe s
noncomputable def PGs(X:Cx)(c:List dO)(t:HW):Prop:=∀(pins:List (cx × Obj))(s:cv)(σ:St)(H:Hp)(vs:List V)(us:List b_)(Q:St->Hp->Prop),Inv X pins σ H s->Vals vs us->t vs σ H Q->cK (c_ X.prog X.w) X.A (sB ((lh c X.env).map (·.2)) us) (λ_ e=>∃a b,Inv X pins a b e/\Q a b) X.xe s
noncomputable abbrev Lp:=V->V->V->Hp->(Hp->Prop)->Prop
noncomputable def WX(X:Cx)(t:Lp):Prop:=∀(pins:List (cx × Obj))(s:cv)(σ:St)(H:Hp)(o i v:V)(a iv u:b_)(Q:Hp->Prop),Inv X pins σ H s->RelV o a->RelV i iv->RelV v u->t o i v H Q->cK (c_ X.prog X.w) X.A (qq a iv u) (λ_ c=>∃b,Inv X pins σ b c/\Q b) X.xe s
noncomputable abbrev XQ:=V->V->Hp->VK->Prop
noncomputable def Rr(X:Cx)(op:m4)(t:XQ):Prop:=∀(pins:List (cx × Obj))(s:cv)(σ:St)(H:Hp)(x y:V)(v u:b_)(Q:VK),Inv X pins σ H s->RelV x v->RelV y u->t x y H Q->cK (c_ X.prog X.w) X.A (inplaceOp op v u) (EP X pins σ Q) X.xe s
section
variable{X:Cx}{pos:Pos}
noncomputable def j9(i:Nat):TG:=λv σ H Q=>Q (σ.set i (aU v)) H
theorem aL{x:Str}(a:X.N.Nodup)(hi:X.N[i]?=aU x)(b:Loc X.env.scope x)(c:X.fn x=cq\/X.env.scope.names.lookup x=aU .local:=by first|(left;rfl)|(right;rfl)|assumption):PG X (.Name x pos) (j9 i):=by intro pins s σ H v u Q I r h;exact wpAny_assign_Name (j5 I a hi b r (λf e=>⟨_,H,e,h⟩) c)
noncomputable def Vh:HW:=λvs σ H Q=>vs=[]/\Q σ H
noncomputable def JC(t:TG)(u:HW):HW:=λvs σ H Q=>∃v r,vs=v::r/\t v σ H λa b=>u r a b Q
theorem jc:PGs X [] Vh:=by intro pins s σ H vs us Q I r h;obtain⟨e,h⟩:=h;subst e;cases r;exact assignInOrder_nil ⟨σ,H,I,h⟩
theorem cN{e:dO}{es:List dO}{t:TG}{u:HW}(h1:PG X e t)(b:PGs X es u)(hs:(lh (e::es) X.env).map (·.2)=mu e X.env::(lh es X.env).map (·.2):=by rfl):PGs X (e::es) (JC t u):=by intro pins s σ H vs us Q I r h;obtain⟨v,g,c,h⟩:=h;subst c;cases r with|cons r f=>rw[hs];refine n7 (cA (h1 pins s σ H _ _ _ I r h) λ_ s1⟨a,H1,I1,q1⟩=>?_);exact b pins s1 a H1 _ _ Q I1 f q1
noncomputable def Vt(K:PySem.W.Frag)(n:Nat)(t:HW):TG:=λv σ H Q=>∃a xs,v=.ref a/\iD K H a xs/\xs.length=n/\t xs σ H Q
theorem mZ{es:List dO}{k:Nat}{t:HW}{n:Nat}(hc:X.calm=cq)(h:PGs X es t)(g:(lh es X.env).length=n:=by rfl)(hst:(lh es X.env).findIdx? (·.1)=cr:=by rfl):PG X (.Tuple es k pos) (Vt X.K n t):=by intro pins s σ H v u Q I r c;obtain⟨a,xs,j,l,m,c⟩:=c;subst j;cases r;obtain⟨p,f,ht,hz⟩:=I.tuple l;refine assign_Tuple_tuple (I.ok.hd hc) ht (by simp[g,<-m,f.length]) hst λh' q=>?_;have x:Inv X pins σ H {s with heap:=h'}:=I.kept (t':=s.toks) λb o e=>q b o (dS (dA e)) e;exact h pins _ σ H xs _ Q x (by simpa using f) c
noncomputable def adW(to a:TE)(t:Lp):TG:=λv σ H Q=>to σ H λo b=>a σ b λi c=>t o i v c λe=>Q σ e
theorem S9{o i:dO}{to b:TE}{t:Lp}(ho:PE X o to)(hi:PE X i b)(hs:WX X t)(c:∀ v,mu (.Subscript o i pos) X.env v=(do
  let a<-kX [v] (fi o X.env)let iv<-kX [v,a] (fi i X.env)standAt pos
  kX [v,a,iv] (qq a iv v)release [v,a,iv] []):=by intro _;rfl):PG X (.Subscript o i pos) (adW to b t):=by intro pins s σ H v u Q I r h;rw[c];refine bx (fT (cA (ho pins s σ H _ I h) λa s1⟨x,H1,I1,r1,q1⟩=>?_));refine bx (fT (cA (hi pins s1 σ H1 _ I1 q1) λiv s2⟨y,H2,I2,r2,q2⟩=>?_));refine bx (nK (bx (fT (cA (hs pins s2 σ H2 x y v a iv u _ I2 r1 r2 r q2) λ_ s3⟨e,I3,q3⟩=>?_))));exact wpAny_release ⟨σ,e,I3,q3⟩
noncomputable def W5(te:TE)(g:TG):TS:=λD σ H=>te σ H λx a=>g x σ a D.nx
theorem VP{e:dO}{g:TG}(he:PE X e te)(a:PG X tg g)(hs:nL [tg] e pos.line X.env=fy a_:=by rfl)(b:nN [tg] e X.env=fy cr:=by rfl)(h1:(lh [tg] X.env).map (·.2)=[mu tg X.env]:=by rfl):PS X (.Assign [tg] e pos) (W5 te g):=by intro pins s σ H D I h;refine wpAny_Assign_stores (cA (he pins s σ H _ I h) λv s1⟨x,H1,I1,r1,q1⟩=>?_) hs b;rw[h1];exact cA (a pins s1 σ H1 x v _ I1 r1 q1) λ_ s2 q=>q
theorem xm{x:Str}{e:dO}{a:Pos}(b:X.N.Nodup)(hi:X.N[i]?=aU x)(c:Loc X.env.scope x)(he:PE X e te)(hs:h_ e (aU (.Name x a)) pos.line X.env=fy a_:=by rfl)(f:X.fn x=cq\/X.env.scope.names.lookup x=aU .local:=by first|(left;rfl)|(right;rfl)|assumption):PS X (.Assign [.Name x a] e pos) (W5 te (j9 i)):=by intro pins s σ H D I h;refine wpAny_Assign_Name (cA (he pins s σ H _ I h) λv s1⟨y,H1,I1,r1,q1⟩=>?_) hs;exact j5 I1 b hi c r1 (λs2 g=>⟨_,H1,g,q1⟩) f
noncomputable def ae6(i j:Nat)(a:TA):TS:=λD σ H=>a σ H λvs b=>∃v w,vs=[v,w]/\D.nx ((σ.set i (aU v)).set j (aU w)) b
theorem WN{j:Nat}{x y:Str}{a b:dO}{r:TA}{g k pt:Pos}{kt k2 W7}(hc:X.calm=cq)(t:X.N.Nodup)(hi:X.N[i]?=aU x)(C:X.N[j]?=aU y)(l:i≠j)(u:X.env.scope.names.lookup x=aU .local)(z:X.env.scope.names.lookup y=aU .local)(E:PA X [a,b] r)(G:nN [.Tuple [.Name x g,.Name y k] kt pt] (.Tuple [a,b] k2 W7) X.env=fy (aU [x,y]))(hs:nL [.Tuple [.Name x g,.Name y k] kt pt] (.Tuple [a,b] k2 W7) pos.line X.env=fy a_:=by rfl):PS X (.Assign [.Tuple [.Name x g,.Name y k] kt pt] (.Tuple [a,b] k2 W7) pos) (ae6 i j r):=by
 intro pins s σ H D I h;rw[exec_Assign_arm];refine bx (nK ?_);rw[hs];refine bx (cw ?_);rw[if_neg (by decide)];refine bx (Tuple_ (cA (E _ pins s σ H _ I h) λus s1⟨vs,H1,I1,r1,m⟩=>?_));obtain⟨v,w,J,m⟩:=m;subst J;obtain⟨c,f,rfl,L,O⟩:∃c f,us=[c,f]/\RelV v c/\RelV w f:=by cases r1 with|cons p q=>cases q with|cons Q U=>cases U;exact⟨_,_,rfl,p,Q⟩
 refine ei ?_ (by show 2<=sizeLine;decide);have W:Inv X pins σ H1 {s1 with heap:=s1.heap.push {cls:=.type "tuple",data:=.seq [c,f].toArray}}:=I1.kept (t':=s1.toks) λb o e=>dz e;rw[G];refine bx (cw ?_);show cK (c_ X.prog X.w) X.A (do rule "assign.swapped-stores";let items<-unpackItems (.ref s1.heap.objs.size) 2 cr;sB [λv=>u_ X.env y v,λv=>u_ X.env x v] items.reverse;fy Flow.next) _ _ _;refine bx (ky (bx (unpackItems_tuple (items:=#[c,f]) (I.ok.hd hc) (mh s1.heap _) λh' n=>?_)));have Y:=W.kept (h':=h') (t':=s1.toks) λb o e=>n b o (dS (dA e)) e;show cK _ _ (sB [λv=>u_ X.env y v,λv=>u_ X.env x v] [f,c]>>=λ_=>fy Flow.next) _ _ _;refine bx (n7 (wpAny_bindName (j5 Y t C (.inl z) O (λs2 Z=>?_) (.inr z))));refine n7 (wpAny_bindName (j5 Z t hi (.inl u) L (λs3 B=>assignInOrder_nil (cw ?_)) (.inr u)));rw[List.set_comm _ _ (fI l)]at B;exact⟨_,H1,B,m⟩
noncomputable def afn(i:Nat)(te:TE)(a:XQ):TS:=λD σ H=>∃x,σ[i]?=aU (aU x)/\te σ H λy b=>a x y b λz c=>D.nx (σ.set i (aU z)) c
theorem Ur{x:Str}{e:dO}{op:m4}{o:XQ}{b:Pos}(p:X.N.Nodup)(hi:X.N[i]?=aU x)(j:Loc X.env.scope x)(he:PE X e te)(ho:Rr X op o)(q:X.fn x=cq\/X.env.scope.names.lookup x=aU .local:=by first|(left;rfl)|(right;rfl)|assumption):PS X (.AugAssign (.Name x b) op e pos) (afn i te o):=by
 intro pins s σ H D I h;obtain⟨v,t,h⟩:=h;obtain⟨m,B,C⟩:=I.loc;have n:yr X.env.scope x:=by rcases j with k|k;exact .inl k;exact .inr (.inl k)
 obtain⟨u,r,l⟩:=C i x v hi t n;refine wpAny_AugAssign_Name ?_;have go:cK (c_ X.prog X.w) X.A (fi e X.env) (λw f=>cK (c_ X.prog X.w) X.A (inplaceOp op u w) (λr g=>cK (c_ X.prog X.w) X.A (storeName X.env x r) (λ_=>SP X pins D .next) X.xe g) X.xe f) X.xe s:=by refine cA (he pins s σ H _ I h) λw s1⟨y,H1,I1,r1,q1⟩=>?_;refine cA (ho pins s1 σ H1 v y u w _ I1 r r1 q1) λz s2⟨J,H2,I2,r2,q2⟩=>?_;exact j5 I2 p hi j r2 (λs3 E=>⟨_,H2,E,q2⟩) q
 rcases l with⟨hk,G⟩|⟨hk,c,hc,a⟩;.exact uk I.ok.kind hk B G go
 . rcases hk with hk|hk;.exact vl I.ok.kind hk hc a go
   . rcases j with k|k;.have:X.env.scope.names.lookup x=aU .free:=hk;rw[k]at this;cases this
     .have:X.env.scope.names.lookup x=aU .free:=hk;rw[k]at this;cases this
noncomputable def ZS(to b te:TE)(c:V->V->Hp->VK->Prop)(a:XQ)(e:Lp):TS:=λD σ H=>to σ H λo f=>b σ f λi g=>c o i g λx j=>te σ j λy k=>a x y k λz l=>e o i z l λm=>D.nx σ m
noncomputable def aah(X:Cx)(t:V->V->Hp->VK->Prop):Prop:=∀(pins:List (cx × Obj))(s:cv)(σ:St)(H:Hp)(o i:V)(a iv:b_)(Q:VK),Inv X pins σ H s->RelV o a->RelV i iv->t o i H Q->cK (c_ X.prog X.w) X.A (k3 a iv) (EP X pins σ Q) X.xe s
theorem Qc{o i e:dO}{to j:TE}{k:V->V->Hp->VK->Prop}{c:XQ}{l:Lp}{op:m4}{f:Pos}(ho:PE X o to)(hi:PE X i j)(p:aah X k)(he:PE X e te)(q:Rr X op c)(hs:WX X l)(r:∀b iv a,augStore i b iv a=(do kX [a,b,iv] (qq b iv a);release [a,b,iv] [];fy .next):=by intros;rfl):PS X (.AugAssign (.Subscript o i f) op e pos) (ZS to j te k c l):=by intro pins s σ H D I h;refine wpAny_AugAssign_SubscriptAny (cA (ho pins s σ H _ I h) λb s1⟨m,H1,I1,r1,q1⟩=>?_) r;refine cA (hi pins s1 σ H1 _ I1 q1) λiv s2⟨n,H2,I2,r2,q2⟩=>?_;refine cA (p pins s2 σ H2 m n b iv _ I2 r1 r2 q2) λg s3⟨t,H3,I3,r3,q3⟩=>?_;refine cA (he pins s3 σ H3 _ I3 q3) λv s4⟨u,H4,I4,r4,q4⟩=>?_;refine cA (q pins s4 σ H4 t u g v _ I4 r3 r4 q4) λa s5⟨x,H5,I5,r5,q5⟩=>?_;exact cA (hs pins s5 σ H5 m n x b iv a _ I5 r1 r2 r5 q5) λ_ s6⟨y,I6,q6⟩=>⟨σ,y,I6,q6⟩
noncomputable def Xw(f:Int->Int->Int):XQ:=λx y H Q=>∃i j,x=.int i/\y=.int j/\Q (.int (f i j)) H
theorem VD:Rr X .Add (Xw λi j=>i+j):=by intro pins s σ H x y v u Q I r1 a h;obtain⟨i,j,b,c,q⟩:=h;subst b;subst c;obtain⟨t,rfl⟩:=r1;obtain⟨t',rfl⟩:=a;exact iadd_int ⟨.int _,H,I.tok _,⟨_,rfl⟩,q⟩
theorem We:Rr X .Sub (Xw λi j=>i-j):=by intro pins s σ H x y v u Q I r1 a h;obtain⟨i,j,b,c,q⟩:=h;subst b;subst c;obtain⟨t,rfl⟩:=r1;obtain⟨t',rfl⟩:=a;exact isub_int ⟨.int _,H,I.tok _,⟨_,rfl⟩,q⟩
end
section
variable{X:Cx}{pos:Pos}
noncomputable def TQ(c:TT)(j:TS):TS:=λD σ H=>∃W:Nat->St->Hp->Prop,(∃m,W m σ H)/\∀m σ H,W m σ H->c σ H λb e=>if b=cq then ∃N:St->Hp->Prop,(∀a f,N a f->∃g,g<m/\W g a f)/\j {D with nx:=N,ct:=N,bk:=D.nx} σ e else D.nx σ e
theorem Lq{c:dO}{body:List ft}{u:TT}{x:TS}(y:nv (c_ X.prog X.w) X.A X.env X.xe)(hc:PT X c u)(G:zM X body x):PS X (.While c body [] pos) (TQ u x):=by intro pins s σ H D I h;obtain⟨W,⟨m0,J⟩,g⟩:=h;refine wpAny_While (codeAny_whileLoop (λn L=>∃j z,Inv X pins j z L/\W n j z) ?_ m0 ⟨σ,H,I,J⟩);rintro n s1⟨e,B,O,Q⟩;refine iX y (cA (hc pins s1 e B _ O (g n e B Q)) λb s2⟨C,I2,l⟩=>?_);cases b with
 |true=>obtain⟨N,E,l⟩:=l;rw[if_pos rfl];refine iX y (cA (G pins s2 e C _ I2 l) λf s3 m=>?_);cases f with|next=>obtain⟨a,k,o,p⟩:=m;obtain⟨q,r,t⟩:=E a k p;exact⟨q,r,a,k,o,t⟩|cont=>obtain⟨a,k,o,p⟩:=m;obtain⟨q,r,t⟩:=E a k p;exact⟨q,r,a,k,o,t⟩|brk=>exact m|ret v=>exact m
 |false=>rw[if_neg dr];exact qf ⟨e,C,I2,l⟩
end
structure It where
 go:Nat->Hp->Prop
 M7:Nat->Hp->V->Hp->Prop
 stop:Nat->Hp->Prop
noncomputable def qM(X:Cx)(pins:List (cx×Obj))(H:Hp)(b:cx):Prop:=H b=cr/\b≠X.env.locals/\b∉X.fs/\(b∈X.ex\/X.s₀.heap.objs.size<=b)/\(∀x c,X.env.cells.lookup x=aU c->c≠b)/\∀p∈X.pn++pins,p.1≠b
theorem Inv.Hm{σ:St}{f:Hp}{b:cx}(I:Inv X pins σ H s)(a:s.heap.objs.size<=b)(g:f b=cr):qM X pins f b:=by
 refine⟨g,rh (eu I.lt a),I.aem a,.inr (iA I.sz a),λx c e z=>?_,λp j z=>?_⟩;.obtain⟨v,q⟩:=I.cell x c e;exact absurd (eu q.lt (by rw[z];exact a)) (i6 _)
 .exact absurd (eu (dA (I.pin p j).1) (by rw[z];exact a)) (i6 _)
structure Turn(P:dF)(w:eJ)(K:PySem.W.Frag)(tg:dO)(J:It)(fp:List cx)(it:cx)(tn:Nat->eN->Prop):Prop where
 mem:it∈fp
 obj:∀i h,tn i h->∀b∈fp,∃o,h.get? b=aU o/\∀v,o.data≠.cell v
 keep:∀i h h',tn i h->(∀b∈fp,∀o,h.get? b=aU o->h'.get? b=aU o)->tn i h'
 item:∀(X:Cx),X.prog=P->X.w=w->X.K=K->X.calm=cq->∀(i:Nat)(pins:List (cx×Obj))(s:cv)(σ:St)(H:Hp)(E:b_->cv->Prop),Inv X pins σ H s->(∀b∈fp,qM X pins H b)->tn i s.heap->J.go i H->cK (c_ P w) X.A (k9 (.ref it)) (λr s1=>∃u,r=aU u/\cK (c_ P w) X.A (mx tg (.ref it) u) (λ_ s2=>∃x H',Inv X pins σ H' s2/\RelV x u/\J.M7 i H x H'/\tn (i+1) s2.heap/\∀b∈fp,H' b=cr) E s1) E s
 done:∀(X:Cx),X.prog=P->X.w=w->X.K=K->X.calm=cq->∀(i:Nat)(pins:List (cx×Obj))(s:cv)(σ:St)(H:Hp)(E:b_->cv->Prop),Inv X pins σ H s->(∀b∈fp,qM X pins H b)->tn i s.heap->J.stop i H->cK (c_ P w) X.A (k9 (.ref it)) (λr s1=>r=cr/\Inv X pins σ H s1) E s
 self:∀(A:eM)(i:Nat)(s:cv)(Q:b_->cv->Prop)(E:b_->cv->Prop),tn i s.heap->Q (.ref it) s->cK (c_ P w) A (mI (.ref it)) Q E s
noncomputable abbrev TI:=St->Hp->(It->Hp->Prop)->Prop
noncomputable def PIE(X:Cx)(pins:List (cx×Obj))(σ:St)(tg:dO)(R:It->Hp->Prop)(a:b_)(s2:cv):Prop:=∃(it:cx)(e:List cx)(f:Nat->eN->Prop)(J:It)(c:Hp),a=.ref it/\Inv X pins σ c s2/\Turn X.prog X.w X.K tg J e it f/\f 0 s2.heap/\(∀b∈e,qM X pins c b)/\R J c
noncomputable def PI(X:Cx)(tg iter:dO)(a:TI):Prop:=∀(pins:List (cx × Obj))(s:cv)(σ:St)(H:Hp)(R:It->Hp->Prop),Inv X pins σ H s->a σ H R->cK (c_ X.prog X.w) X.A (fi iter X.env) (λv s1=>cK (c_ X.prog X.w) X.A (mI v) (PIE X pins σ tg R) X.xe s1) X.xe s
theorem Dm{E:b_->cv->Prop}{it:cx}{u:b_}{o:Obj}{n:String}{vs:Array b_}{Q:Unit->cv->Prop}(ho:s.heap.get? it=aU o)(hc:o.cls=.type n)(hd:o.data=.fields vs)(b:["enumerate","zip","dict_itemiterator","dict_reverseitemiterator","odict_iterator","itertools.zip_longest","itertools.pairwise"].contains n=a_)(a:Q () s):cK M A (mx tg (.ref it) u) Q E s:=by unfold mx;cases tg<;>first|exact cw a|(cases u<;>first|exact cw a|(refine bx (q_ ho ?_);rw[hc,hd];show cK M A (if(["enumerate","zip","dict_itemiterator","dict_reverseitemiterator","odict_iterator","itertools.zip_longest","itertools.pairwise"].contains n&&vs[0]?==aU (gy _))=cq then _ else _) Q E s;rw[if_neg (by intro h;rw[b,pz]at h;cases h)];exact cw a))
noncomputable def Wf(K:PySem.W.Frag)(a:cx):It:=⟨λi H=>∃xs x,eY K H a xs/\xs[i]?=aU x,λi H x b=>b=H/\∀xs,eY K H a xs->xs[i]?=aU x,λi H=>∃xs,eY K H a xs/\xs.length<=i⟩
noncomputable def YH(K:PySem.W.Frag)(a:cx):It:=⟨λi H=>∃xs x,iD K H a xs/\xs[i]?=aU x,λi H x b=>b=H/\∀xs,iD K H a xs->xs[i]?=aU x,λi H=>∃xs,iD K H a xs/\xs.length<=i⟩
noncomputable def Yw(lo:Int)(n:Nat):It:=⟨λi _=>i<n,λi H x a=>a=H/\x=.int (lo+i),λi _=>n<=i⟩
theorem Hr{P:dF}(a it:cx):Turn P w K tg (Wf K a) [it] it (λi h=>h.IsListIter it a i)where
 mem:=by simp
 obj:=λi h st b f=>by
  have e:b=it:=by simpa using f
  subst e;obtain⟨o,e,c,d⟩:=st;exact⟨o,e,λv z=>by rw[d]at z;cases z⟩
 keep:=λi h h' st k=>st.at λo e=>k it (by simp) o e;item:=by intro X m n q hc i pins s σ H E I j st r;subst m n q;obtain⟨xs,x,l,t⟩:=r;obtain⟨y,B,p,hz⟩:=I.list l;obtain⟨u,hu,C⟩:=B.get t;obtain⟨f0,f1,f2,f3,f4,f5⟩:=j it (by simp);refine wpAny_pyNext_list_item st p.isList (x:=u) (by simpa using hu) λh' g G=>?_;have J:Inv X pins σ H {s with heap:=h'}:=I.turned (t':=s.toks) (λb o f e=>(G.2 b f).trans e) f0 f1 f3 f4 f5;obtain⟨o,e,c,d⟩:=id g;exact⟨u,rfl,Dm (s:={s with heap:=h'}) e c d (by decide) ⟨x,H,J,C,⟨rfl,λys L=>by rw[I.tL L l];exact t⟩,g,λb f=>(j b f).1⟩⟩
 done:=by intro X m n q hc i pins s σ H E I j st r;subst m n q;obtain⟨xs,l,t⟩:=r;obtain⟨y,B,p,hz⟩:=I.list l;obtain⟨f0,f1,f2,f3,f4,f5⟩:=j it (by simp);have O:=B.length;exact wpAny_pyNext_list_end (I.ok.hd hc) st p.isList (by simp;omega) λh' N=>⟨rfl,I.turned (t':=s.toks) (λb o f e=>N b o f e) f0 f1 f3 f4 f5⟩
 self:=λ_ _ _ _ _ st h=>wpAny_pyIter_listiter st h
theorem Bo{P:dF}(a it:cx):Turn P w K tg (YH K a) [it] it (λi h=>h.IsTupleIter it a i)where
 mem:=by simp
 obj:=λi h st b f=>by
  have e:b=it:=by simpa using f
  subst e;obtain⟨o,e,c,d⟩:=st;exact⟨o,e,λv z=>by rw[d]at z;cases z⟩
 keep:=λi h h' st k=>st.at λo e=>k it (by simp) o e;item:=by intro X n q r hc i pins s σ H E I l st t;subst n q r;obtain⟨xs,x,m,y⟩:=t;obtain⟨g,B,p,hz⟩:=I.tuple m;obtain⟨u,hu,C⟩:=B.get y;obtain⟨f0,f1,f2,f3,f4,f5⟩:=l it (by simp);refine wpAny_pyNext_tuple_item st (show s.heap.IsTuple a g.toArray from p) (x:=u) (by simpa using hu) λh' j G=>?_;have J:Inv X pins σ H {s with heap:=h'}:=I.turned (t':=s.toks) (λb o f e=>(G.2 b f).trans e) f0 f1 f3 f4 f5;obtain⟨o,e,c,d⟩:=id j;exact⟨u,rfl,Dm (s:={s with heap:=h'}) e c d (by decide) ⟨x,H,J,C,⟨rfl,λys L=>by rw[I.pB L m];exact y⟩,j,λb f=>(l b f).1⟩⟩
 done:=by intro X n q r hc i pins s σ H E I l st t;subst n q r;obtain⟨xs,m,y⟩:=t;obtain⟨g,B,p,hz⟩:=I.tuple m;obtain⟨f0,f1,f2,f3,f4,f5⟩:=l it (by simp);have O:=B.length;exact wpAny_pyNext_tuple_end (I.ok.hd hc) st (show s.heap.IsTuple a g.toArray from p) (by simp;omega) λh' N=>⟨rfl,I.turned (t':=s.toks) (λb o f e=>N b o f e) f0 f1 f3 f4 f5⟩
 self:=λ_ _ _ _ _ st h=>wpAny_pyIter_tupleiter st h
theorem Bu{P:dF}(it:cx)(lo:Int)(n:Nat):Turn P w K tg (Yw lo n) [it] it (λi h=>IsRangeIter h it (lo+(i:Nat)*1) ((n:Int)-(i:Nat)) 1)where
 mem:=by simp
 obj:=λi h st b a=>by
  have e:b=it:=by simpa using a
  subst e;exact⟨_,st,λv z=>by have q:Data.fields _=Data.cell v:=z;cases q⟩
 keep:=λi h h' st k=>k it (by simp) _ st;item:=by intro X g j l hc i pins s σ H E I f st m;subst g j l;obtain⟨f0,f1,f2,f3,f4,f5⟩:=f it (by simp);have W:=Walks.range (prog:=X.prog) (w:=X.w) (I.ok.hd hc) it lo 1 n;refine W.item i s _ _ m st λv h' p r c u=>?_;obtain⟨t,rfl⟩:=r;have x:Inv X pins σ H {s with heap:=h',toks:=p}:=I.turned (λb o a e=>u b o (by simpa using a) e) f0 f1 f3 f4 f5;refine⟨_,rfl,Dm (s:={s with heap:=h',toks:=p}) (n:="range_iterator") c rfl rfl (by decide) ⟨.int (lo+i),H,x,⟨t,?_⟩,⟨rfl,rfl⟩,c,λb a=>(f b a).1⟩⟩;rw[mul_one]
 done:=by intro X g j l hc i pins s σ H E I f st m;subst g j l;obtain⟨f0,f1,f2,f3,f4,f5⟩:=f it (by simp);exact wpAny_pyNext_range_end (I.ok.hd hc) st (by have:n<=i:=m;omega) λh' y=>⟨rfl,I.turned (t':=s.toks) (λb o a e=>y b o a e) f0 f1 f3 f4 f5⟩
 self:=λ_ _ _ _ _ st h=>wpAny_pyIter_rangeiter st h
section
variable{X:Cx}{tg:dO}
theorem yK{σ:St}{R:It->Hp->Prop}{E:b_->cv->Prop}{lo hi:Int}{t u v:Tok}{a:Nat}(I:Inv X pins σ H s)(h1:-(2^62)<=lo)(f:lo<2^62)(g:-(2^62)<=hi)(j:hi<2^62)(q:R (Yw lo (hi-lo).toNat) H):cK (c_ X.prog X.w) X.A (mI (.ref s.heap.objs.size)) (PIE X pins σ tg R) E {s with heap:=s.heap.push {cls:=.type "range",data:=.fields #[.int lo t,.int hi u,.int 1 v]},toks:=a}:=by
 refine wpAny_pyIter_range (IsRange.new ..) (small_one h1 f g j) ?_;have c:Inv X pins σ H {s with heap:=s.heap.push {cls:=.type "range",data:=.fields #[.int lo t,.int hi u,.int 1 v]},toks:=a}:=I.kept λb o e=>dz e;refine⟨(s.heap.push {cls:=.type "range",data:=.fields #[.int lo t,.int hi u,.int 1 v]}).objs.size,[(s.heap.push {cls:=.type "range",data:=.fields #[.int lo t,.int hi u,.int 1 v]}).objs.size],_,_,H,rfl,c.kept (t':=a) λb o e=>dz e,Bu _ lo (hi-lo).toNat,?_,λb k=>?_,q⟩
 . have l:lo+((0:Nat):Int)*1=lo:=by simp
   have m:(((hi-lo).toNat:Nat):Int)-((0:Nat):Int)=Builtin.Range.rangeSize lo hi 1:=by rw[rangeSize_one];split<;>omega
   show IsRangeIter _ _ (lo+((0:Nat):Int)*1) ((((hi-lo).toNat:Nat):Int)-((0:Nat):Int)) 1;rw[l,m];exact dc _ rfl
 . have e:b=(s.heap.push {cls:=.type "range",data:=.fields #[.int lo t,.int hi u,.int 1 v]}).objs.size:=by simpa using k
   subst e;exact c.Hm (cI) (c.hok.fresh (cI))
noncomputable def aaJ(a:TA):TI:=λσ H R=>a σ H λvs b=>∃j:Int,vs=[.int j]/\-(2^62)<=j/\j<2^62/\R (Yw 0 j.toNat) b
noncomputable def Z8(a:TA):TI:=λσ H R=>a σ H λvs b=>∃i j:Int,vs=[.int i,.int j]/\(-(2^62)<=i/\i<2^62/\-(2^62)<=j/\j<2^62)/\R (Yw i (j-i).toNat) b
theorem vZ{a:dO}{c:TA}{p:Pos}(f:Gl X "range")(g:X.mg "range"=cr)(k:PA X [a] c)(hs:cL [a] X.env=[(a_,fi a X.env)]:=by rfl):PI X tg (.Call (.Name "range" p) [a] [] pos) (aaJ c):=by intro pins s σ H R I h;refine Call_ (mL I f g boot_range (fN (cA (k pos pins s σ H _ I h) λus s1⟨vs,H1,I1,r1,b⟩=>?_) hs rfl));obtain⟨j,e,b,l,q⟩:=b;subst e;cases r1 with|cons r m=>cases m;obtain⟨t,rfl⟩:=r;exact call_range_1 (yK I1 (by omega) (by omega) b l (by simpa using q))
theorem GC{a b:dO}{k:TA}{p:Pos}(l:Gl X "range")(m:X.mg "range"=cr)(n:PA X [a,b] k)(hs:cL [a,b] X.env=[(a_,fi a X.env),(a_,fi b X.env)]:=by rfl)(c:cL [b] X.env=[(a_,fi b X.env)]:=by rfl):PI X tg (.Call (.Name "range" p) [a,b] [] pos) (Z8 k):=by intro pins s σ H R I h;refine Call_ (mL I l m boot_range (fN (cA (n pos pins s σ H _ I h) λus s1⟨vs,H1,I1,r1,f⟩=>?_) (by rw[hs,c]) (by rw[c];rfl)));obtain⟨i,j,e,⟨f,o,u,v⟩,q⟩:=f;subst e;cases r1 with|cons r g=>cases g with|cons x g=>cases g;obtain⟨t,rfl⟩:=r;obtain⟨t',rfl⟩:=x;exact call_range_2 (yK I1 f o u v q)
noncomputable def ad7(f:TI)(g:TG)(j:TS):TS:=λD σ H=>f σ H λJ k=>∃W:Nat->Nat->St->Hp->Prop,(∃m,W 0 m σ k)/\∀i m σ H,W i m σ H->(J.stop i H/\D.nx σ H)\/(J.go i H/\∃N:St->Hp->Prop,(∀a b,N a b->∃e,e<m/\W (i+1) e a b)/\∀x b,J.M7 i H x b->g x σ b λc l=>j {D with nx:=N,ct:=N,bk:=D.nx} c l)
noncomputable def rQ(a:List cx)(h:eN):List (cx×Obj):=a.filterMap λb=>(h.get? b).map λo=>(b,o)
theorem jf{a:List cx}{b:cx}{o:Obj}(c:b∈a)(e:h.get? b=aU o):(b,o)∈rQ a h:=List.mem_filterMap.mpr ⟨b,c,by rw[e];rfl⟩
theorem Gr{a:List cx}{p:cx×Obj}(c:p∈rQ a h):p.1∈a/\h.get? p.1=aU p.2:=by obtain⟨b,f,e⟩:=List.mem_filterMap.mp c;cases q:h.get? b with|none=>rw[q]at e;cases e|some o=>rw[q]at e;have g:(b,o)=p:=fb e;subst g;exact⟨f,q⟩
theorem Inv.pinned{σ:St}{a:List cx}(I:Inv X pins σ H s)(g:∀b∈a,qM X pins H b)(ho:∀b∈a,∃o,s.heap.get? b=aU o/\∀v,o.data≠.cell v):Inv X (pins++rQ a s.heap) σ H s:=I.Eg λp j=>(fE.mp j).elim (λz=>I.pin p (gd _ z)) λz=>by obtain⟨c,e⟩:=Gr z;obtain⟨f0,f1,f2,_⟩:=g p.1 c;obtain⟨o,f,d⟩:=ho p.1 c;rw[e]at f;cases f;exact⟨e,f0,f1,f2,d⟩
theorem Inv.nZ{a:List (cx×Obj)}{σ:St}(I:Inv X (pins++a) σ H s):Inv X pins σ H s:=I.Eg λp b=>I.pin p (gd _ (sf _ b))
theorem J9{iter:dO}{body:List ft}{Z:TI}{g:TG}{tb:TS}(z:nv (c_ X.prog X.w) X.A X.env X.xe)(hc:X.calm=cq)(hi:PI X tg iter Z)(hg:PG X tg g)(c:zM X body tb)(hs:∀x,gl iter X.env x=fy x:=by intro _;rfl):PS X (.For tg iter body [] pos) (ad7 Z g tb):=by
 intro pins s σ H D I h;refine wpAny_For (cA (hi pins s σ H _ I h) λv s1 h1=>cA h1 λac s2 h2=>?_) hs;obtain⟨it,B,tn,J,H2,e,I2,T,Q,f2,W,⟨m0,w0⟩,C⟩:=h2;subst e--what stays cq of the iterator's objects through the loop
 have j:∀{t:Hp},(∀b∈B,t b=cr)->∀b∈B,qM X pins t b:=λhn b c=>⟨hn b c,(f2 b c).2⟩;refine codeAny_forLoop_any (λn s'=>∃i k t,Inv X pins k t s'/\tn i s'.heap/\(∀b∈B,t b=cr)/\W i n k t) ?_ m0 ⟨0,σ,H2,I2,Q,λb c=>(f2 b c).1,w0⟩;rintro n s3⟨i,l,O,I3,E,G,w3⟩;rcases C i n l O w3 with⟨stop,qn⟩|⟨go,N,hN,step⟩;.refine iX z (cA (T.done X rfl rfl rfl hc i pins s3 l O X.xe I3 (j G) E stop) λr s4⟨hr,I4⟩=>?_);subst hr;exact qf ⟨l,O,I4,qn⟩
 . refine iX z (cA (T.item X rfl rfl rfl hc i pins s3 l O X.xe I3 (j G) E go) λr s4⟨u,hr,h4⟩=>?_);subst hr;refine iX z (cA h4 λ_ s5⟨x,H5,I5,r5,y5,st5,fr5⟩=>?_);have U:=I5.pinned (j fr5) (T.obj _ _ st5);refine iX z (cA (hg _ s5 l H5 x u _ U r5 (step x H5 y5)) λ_ s6⟨Y,H6,I6,q6⟩=>?_);refine iX z (cA (c _ s6 Y H6 _ I6 q6) λf s7 y=>?_);have again:∀{a:St}{p:Hp},Inv X (pins++rQ B s5.heap) a p s7->N a p->∃m,m<n/\∃i k t,Inv X pins k t s7/\tn i s7.heap/\(∀b∈B,t b=cr)/\W i m k t:=λ{a p}q L=>by obtain⟨m',hm,w7⟩:=hN a p L;refine⟨m',hm,i+1,a,p,q.nZ,T.keep _ _ _ st5 λb c o e=>(q.pin (b,o) (gd _ (gd _ (jf c e)))).1,λb c=>?_,w7⟩;obtain⟨o,e,d⟩:=T.obj _ _ st5 b c;exact(q.pin (b,o) (gd _ (gd _ (jf c e)))).2.1
   cases f with|next=>obtain⟨a,p,q,L⟩:=y;exact again q L|cont=>obtain⟨a,p,q,L⟩:=y;exact again q L|brk=>obtain⟨a,p,q,y⟩:=y;exact⟨a,p,q.nZ,y⟩|ret v=>obtain⟨x7,a,p,q,r7,y⟩:=y;exact⟨x7,a,p,q.nZ,r7,y⟩
end
noncomputable abbrev R2:=V->V->Hp->VK->Prop
noncomputable def fL(X:Cx)(f:b_->b_->Sem b_)(r:R2):Prop:=∀(pins:List (cx × Obj))(s:cv)(σ:St)(H:Hp)(x y:V)(v u:b_)(Q:VK),Inv X pins σ H s->RelV x v->RelV y u->r x y H Q->cK (c_ X.prog X.w) X.A (f v u) (EP X pins σ Q) X.xe s
noncomputable def UnR(X:Cx)(f:b_->Sem b_)(r:V->Hp->VK->Prop):Prop:=∀(pins:List (cx × Obj))(s:cv)(σ:St)(H:Hp)(x:V)(v:b_)(Q:VK),Inv X pins σ H s->RelV x v->r x H Q->cK (c_ X.prog X.w) X.A (f v) (EP X pins σ Q) X.xe s
noncomputable def dC(X:Cx)(f:b_)(r:List V->Hp->VK->Prop):Prop:=∀(pins:List (cx × Obj))(s:cv)(σ:St)(H:Hp)(xs:List V)(us:List b_)(Q:VK),Inv X pins σ H s->Vals xs us->r xs H Q->cK (c_ X.prog X.w) X.A (call f us) (EP X pins σ Q) X.xe s
noncomputable def Vm(r:R2)(a b:TE):TE:=λσ H Q=>a σ H λx c=>b σ c λy e=>r x y e Q
noncomputable def tUn(r:V->Hp->VK->Prop)(a:TE):TE:=λσ H Q=>a σ H λx b=>r x b Q
noncomputable def rI(C:Int->Int->Prop)(g:Int->Int->V):R2:=λx y H Q=>∃i j,x=.int i/\y=.int j/\C i j/\Q (g i j) H
noncomputable def Ot(g:Int->Int->V):R2:=λx y H Q=>∃i j,x=.int i/\y=.int j/\Q (g i j) H
noncomputable def rU(g:Int->V):V->Hp->VK->Prop:=λx H Q=>∃i,x=.int i/\Q (g i) H
section
variable{X:Cx}{a b c:dO}{ta tb tc:TE}{pos:Pos}
theorem Uj(l:PE X a ta)(m:PE X b tb){σ:St}{R:V->V->Hp->Prop}(I:Inv X pins σ H s)(h:ta σ H λx k=>tb σ k λy e=>R x y e){Q:b_->cv->Prop}{f:b_->b_->Sem b_}(n:∀v u s2 x y e,Inv X pins σ e s2->RelV x v->RelV y u->R x y e->cK (c_ X.prog X.w) X.A (f v u) Q X.xe s2):cK (c_ X.prog X.w) X.A (fi a X.env) (λv g=>cK (c_ X.prog X.w) X.A (fi b X.env) (λu j=>cK (c_ X.prog X.w) X.A (f v u) Q X.xe j) X.xe g) X.xe s:=by refine cA (l pins s σ H _ I h) λv s1⟨x,k,I1,r1,q1⟩=>?_;refine cA (m pins s1 σ k _ I1 q1) λu s2⟨y,e,I2,r2,q2⟩=>?_;exact n v u s2 x y e I2 r1 r2 q2
theorem ZK{op:m4}{r:R2}(ho:fL X (gx op) r)(e:PE X a ta)(f:PE X b tb):PE X (.BinOp a op b pos) (Vm r ta tb):=by intro pins s σ H Q I h;exact wpAny_BinOp (Uj e f I h λv u s2 x y g j k l q=>ho pins s2 σ g x y v u Q j k l q)
theorem aac{op:UnaryOp}{r:V->Hp->VK->Prop}(ho:UnR X (unaryOp op) r)(e:PE X a ta):PE X (.UnaryOp op a pos) (tUn r ta):=by intro pins s σ H Q I h;exact UnaryOp_ (cA (e pins s σ H _ I h) λv s1⟨x,H1,I1,r1,q1⟩=>ho pins s1 σ H1 x v Q I1 r1 q1)
theorem opI{f:b_->b_->Sem b_}{C:Int->Int->Prop}{g:Int->Int->Int}(rule:∀(i j:Int)(t u:Tok)(s:cv)(Q:b_->cv->Prop)(E:b_->cv->Prop),C i j->Q (.int (g i j) s.toks) {s with toks:=s.toks+1}->cK (c_ X.prog X.w) X.A (f (.int i t) (.int j u)) Q E s):fL X f (rI C λi j=>.int (g i j)):=by intro pins s σ H x y v u Q I e k h;obtain⟨i,j,rfl,rfl,hc,q⟩:=h;obtain⟨t,rfl⟩:=e;obtain⟨t',rfl⟩:=k;exact rule i j t t' s _ _ hc ⟨.int (g i j),H,I.tok _,⟨_,rfl⟩,q⟩
theorem aaS{f:b_->b_->Sem b_}{g:Int->Int->Int}(rule:∀(i j:Int)(t u:Tok)(s:cv)(Q:b_->cv->Prop)(E:b_->cv->Prop),Q (.int (g i j) s.toks) {s with toks:=s.toks+1}->cK (c_ X.prog X.w) X.A (f (.int i t) (.int j u)) Q E s):fL X f (Ot λi j=>.int (g i j)):=by intro pins s σ H x y v u Q I e k h;obtain⟨i,j,rfl,rfl,q⟩:=h;obtain⟨t,rfl⟩:=e;obtain⟨t',rfl⟩:=k;exact rule i j t t' s _ _ ⟨.int (g i j),H,I.tok _,⟨_,rfl⟩,q⟩
theorem T6{f:b_->b_->Sem b_}{g:Int->Int->Bool}(rule:∀(i j:Int)(t u:Tok)(s:cv)(Q:b_->cv->Prop)(E:b_->cv->Prop),Q (.bool (g i j)) s->cK (c_ X.prog X.w) X.A (f (.int i t) (.int j u)) Q E s):fL X f (Ot λi j=>.bl (g i j)):=by intro pins s σ H x y v u Q I e k h;obtain⟨i,j,rfl,rfl,q⟩:=h;obtain⟨t,rfl⟩:=e;obtain⟨t',rfl⟩:=k;exact rule i j t t' s _ _ ⟨.bl (g i j),H,I,rfl,q⟩
noncomputable def aen(i j:Int):Prop:=0<=j/\j<=1000000/\i.natAbs<2^64
noncomputable def Vc(i j:Int):Prop:=(-(2^64)<i/\i<2^64)\/(-(2^64)<j/\j<2^64)
theorem Vc.ok{i j:Int}(h:Vc i j):IntMulOk i j:=by
 rcases h with⟨h1,e⟩|⟨h1,e⟩;.exact .of_left (intBits_le_64 h1 e)
 .exact .of_right (intBits_le_64 h1 e)
theorem VG:fL X (gx .Add) (Ot λi j=>.int (i+j)):=aaS λ_ _ _ _ _ _ _ q=>add_int q
theorem VJ:fL X (gx .Sub) (Ot λi j=>.int (i-j)):=aaS λ_ _ _ _ _ _ _ q=>sub_int q
theorem Sv:fL X (gx .Mult) (rI Vc λi j=>.int (i*j)):=opI λ_ _ _ _ _ _ _ hc q=>mul_int q hc.ok
theorem Vu:fL X (gx .Mod) (rI (λ_ j=>0<j) λi j=>.int (i%j)):=opI λi j _ _ _ _ _ hc q=>by have h1:(0:Int)<j:=hc;exact mod_int' (by omega) (by rw[Int.fmod_eq_emod_of_nonneg i (by omega)];exact q)
theorem WY:fL X (gx .Pow) (rI aen λi j=>.int (i^j.toNat)):=opI λ_ _ _ _ _ _ _ hc q=>pow_int_small hc.1 hc.2.1 hc.2.2 q
theorem unI{f:b_->Sem b_}{g:Int->Int}(rule:∀(i:Int)(t:Tok)(s:cv)(Q:b_->cv->Prop)(E:b_->cv->Prop),Q (.int (g i) s.toks) {s with toks:=s.toks+1}->cK (c_ X.prog X.w) X.A (f (.int i t)) Q E s):UnR X f (rU λi=>.int (g i)):=by intro pins s σ H x v Q I e h;obtain⟨i,rfl,q⟩:=h;obtain⟨t,rfl⟩:=e;exact rule i t s _ _ ⟨.int (g i),H,I.tok _,⟨_,rfl⟩,q⟩
theorem Tt:UnR X (unaryOp .USub) (rU λi=>.int (-i)):=unI λ_ _ _ _ _ q=>neg_int q
end
section
variable{X:Cx}{a b c:dO}{ta tb tc:TE}{pos:Pos}
theorem Wr{σ:St}{Q:VK}{k f:Bool}(I:Inv X pins σ H s)(q:Q (.bl k) H)(e:k=f):EP X pins σ Q (.bool f) s:=by subst e;exact⟨.bl k,H,I,rfl,q⟩
theorem aag:fL X (ec .Lt) (Ot λi j=>.bl (decide (i<j))):=T6 λ_ _ _ _ _ _ _ q=>lt_int q
theorem Y9:fL X (ec .LtE) (Ot λi j=>.bl (decide (i<=j))):=T6 λ_ _ _ _ _ _ _ q=>le_int q
theorem ZQ:fL X (ec .Gt) (Ot λi j=>.bl (decide (j<i))):=T6 λ_ _ _ _ _ _ _ q=>gt_int q
theorem O3:fL X (ec .IsNot) (λx y H Q=>y=.non/\Q (.bl (!decide (x=.non))) H):=by intro pins s σ H x y v u Q I e f h;obtain⟨rfl,q⟩:=h;cases f;refine isnot_none_gen (Wr I q ?_);cases x<;>first|(cases e;rfl)|(obtain⟨t,rfl⟩:=e;rfl)
theorem adG{op:nV}{es:List dO}{k:Nat}{p:Pos}(e:(op==CmpOp.In)=a_)(f:(op==r8)=a_):gT op (.Set es k p)=a_:=by show(k==0&&(op==CmpOp.In||op==r8)&&_)=a_;rw[e,f];cases(k==0)<;>rfl
theorem cT(b:dO)(h:op≠.In:=by decide)(e:op≠.NotIn:=by decide):gT op b=a_:=by
 have f:(op==CmpOp.In)=a_:=by cases op<;>first|rfl|exact absurd rfl h
 have g:(op==r8)=a_:=by cases op<;>first|rfl|exact absurd rfl e
 cases b<;>first|rfl|exact adG f g
theorem PN{r:R2}(ho:fL X (ec op) r)(e:PE X a ta)(f:PE X b tb)(g:gT op b=a_):PE X (.Compare a [op] [b] pos) (Vm r ta tb):=by intro pins s σ H Q I h;exact wpAny_Compare1 (Uj e f I h λv u s2 x y j k l m q=>ho pins s2 σ j x y v u Q k l m q) g
noncomputable def Z0(t:TE):TT:=λσ H Q=>t σ H λx e=>∃k,x=.bl k/\Q k e
theorem Fy{r:R2}(ho:fL X (ec op) r)(f:PE X a ta)(g:PE X b tb)(j:gT op b=a_):PT X (.Compare a [op] [b] pos) (Z0 (Vm r ta tb)):=by intro pins s σ H Q I h;refine ub (cA (f pins s σ H _ I h) λv s1⟨x,H1,I1,r1,q1⟩=>cA (g pins s1 σ H1 _ I1 q1) λu s2⟨y,H2,I2,r2,q2⟩=>cA (ho pins s2 σ H2 x y v u _ I2 r1 r2 q2) λc s3⟨z,H3,I3,r3,k,e,q3⟩=>?_) j;subst e;cases r3;exact ib ⟨H3,I3,q3⟩
noncomputable def Wk(r f:R2)(ta tb tc:TE):TE:=λσ H Q=>ta σ H λx g=>tb σ g λy j=>r x y j λz e=>∃k,z=.bl k/\(if k=cq then tc σ e λl m=>f y l m Q else Q (.bl a_) e)
theorem Iu{f:nV}{r j:R2}(ho:fL X (ec op) r)(g:fL X (ec f) j)(l:PE X a ta)(m:PE X b tb)(hc:PE X c tc)(n:sN [op,f] [b,c]=a_:=by with_unfolding_all rfl):PE X (.Compare a [op,f] [b,c] pos) (Wk r j ta tb tc):=by intro pins s σ H Q I h;refine Compare_chain (cA (l pins s σ H _ I h) λv s1⟨x,H1,I1,r1,q1⟩=>chain_link (cA (m pins s1 σ H1 _ I1 q1) λu s2⟨y,H2,I2,r2,q2⟩=>cA (ho pins s2 σ H2 x y v u _ I2 r1 r2 q2) λd s3⟨z,H3,I3,r3,k,e,q3⟩=>?_)) n;subst e;cases r3;refine ib ?_;cases k with|false=>exact ite_ff ⟨.bl a_,H3,I3,rfl,q3⟩|true=>exact ite_tt (chain_last (cA (hc pins s3 σ H3 _ I3 q3) λo s4⟨p,H4,I4,r4,q4⟩=>g pins s4 σ H4 y p u o Q I4 r2 r4 q4))
theorem tu:(sizeLine:Nat)<2^63:=by rw[fh];decide
theorem BL:fL X (gx .Add) (λx y H Q=>∃i j,x=.str i/\y=.str j/\i.length+j.length<=sizeLine/\Q (.str (i++j)) H):=by intro pins s σ H x y v u Q I e f h;obtain⟨i,j,rfl,rfl,hz,q⟩:=h;obtain⟨t,rfl⟩:=e;obtain⟨t',rfl⟩:=f;exact add_str (λt' g=>⟨.str (i++j),H,I.tok _,⟨_,rfl⟩,q⟩) hz
theorem vals1{x:V}(r:Vals [x] us):∃u,us=[u]/\RelV x u:=by cases r with|cons r1 e=>cases e;exact⟨_,rfl,r1⟩
theorem vals2{x y:V}(r:Vals [x,y] us):∃u e,us=[u,e]/\RelV x u/\RelV y e:=by cases r with|cons r1 f=>cases f with|cons g j=>cases j;exact⟨_,_,rfl,r1,g⟩
theorem GR(hc:X.calm=cq):dC X (.builtin "max") (λxs H Q=>∃i j,xs=[.int i,.int j]/\Q (.int (if j>i then j else i)) H):=by
 intro pins s σ H xs us Q I r h;obtain⟨i,j,rfl,q⟩:=h;obtain⟨u,f,rfl,⟨t,rfl⟩,⟨t',rfl⟩⟩:=vals2 r;refine max_two_ints (I.ok.hd hc) λh' g k=>⟨_,H,I.kept k,?_,q⟩;by_cases e:j>i;.rw[if_pos e,if_pos e];exact⟨_,rfl⟩
 .rw[if_neg e,if_neg e];exact⟨_,rfl⟩
theorem Gu(hc:X.calm=cq):dC X (.builtin "min") (λxs H Q=>∃i j,xs=[.int i,.int j]/\Q (.int (if j<i then j else i)) H):=by
 intro pins s σ H xs us Q I r h;obtain⟨i,j,rfl,q⟩:=h;obtain⟨u,f,rfl,⟨t,rfl⟩,⟨t',rfl⟩⟩:=vals2 r;refine min_two_ints (I.ok.hd hc) λh' g k=>⟨_,H,I.kept k,?_,q⟩;by_cases e:j<i;.rw[if_pos e,if_pos e];exact⟨_,rfl⟩
 .rw[if_neg e,if_neg e];exact⟨_,rfl⟩
theorem vp:dC X (.type "int") (λxs H Q=>(∃i,xs=[.int i]/\Q (.int i) H)\/∃k,xs=[.bl k]/\Q (.int (if k then 1 else 0)) H):=by
 intro pins s σ H xs us Q I r h;rcases h with⟨i,rfl,q⟩|⟨k,rfl,q⟩;.obtain⟨u,rfl,t,rfl⟩:=vals1 r;exact call_int_int ⟨.int i,H,I,⟨_,rfl⟩,q⟩
 .obtain⟨u,rfl,r1⟩:=vals1 r;cases r1;exact call_int_bool ⟨.int (if k then 1 else 0),H,I.tok _,⟨_,rfl⟩,q⟩
end
theorem qI.some_of{v:V}{o:Option b_}(r:qI (aU v) o):∃u,o=aU u/\RelV v u:=by cases o with|none=>exact(show False from r).elim|some u=>exact⟨u,rfl,r⟩
structure jY(k:Nat)(A:eM):Prop where
 hd:A.handled=cr
 dp:A.depth+3*k+5<recursionLimit
 un:A.units+16*k+200<gS
theorem jY.deeper{k:Nat}{A:eM}(r:jY (k+1) A)(env:Env):jY k (A.deeper env):=⟨r.hd,by have:=r.dp;show A.depth+1+3*k+5<_;omega,by have:=r.un;show A.units+3+16*k+200<_;omega⟩
theorem jY.depth{k:Nat}{A:eM}(r:jY k A):A.depth<recursionLimit:=by have:=r.dp;omega
noncomputable def aeu:TA:=λ_ H Q=>Q [] H
noncomputable def ZR(a:TE)(b:TA):TA:=λσ H Q=>a σ H λx c=>b σ c λxs e=>Q (x::xs) e
section
variable{X:Cx}{e:dO}{es:List dO}{te:TE}{t:TA}{pos:Pos}
theorem dX:PA X [] aeu:=λ_ _ _ _ H Q I h=>ng ⟨[],H,I,.nil,h⟩
theorem cG(a:PE X e te)(hr:PA X es t)(hs:cL (e::es) X.env=(a_,fi e X.env)::cL es X.env:=by rfl):PA X (e::es) (ZR te t):=by intro pos pins s σ H Q I h;rw[hs];show cK _ _ (spliced ((a_,fi e X.env)::kf pos (cL es X.env))) _ _ s;refine kM (cA (a pins s σ H _ I h) λu s1⟨x,H1,I1,r1,q1⟩=>?_);exact cA (hr pos pins s1 σ H1 _ I1 q1) λus s2⟨xs,H2,I2,r2,q2⟩=>⟨x::xs,H2,I2,.cons r1 r2,q2⟩
noncomputable def aef(t:TA):TE:=λσ H Q=>t σ H λxs a=>xs.length<=sizeLine/\∀p,a p=cr->Q (.ref p) (upd a p (.tup xs))
noncomputable def afd(t:TA):TE:=λσ H Q=>t σ H λxs a=>xs.length<=sizeLine/\∀p,a p=cr->Q (.ref p) (upd a p (.lst xs))
theorem V0{x1}(h:PA X es t):PE X (.Tuple es x1 pos) (aef t):=by intro pins s σ H Q I a;refine wpAny_Tuple_spliced (cA (h pos pins s σ H _ I a) λus s1⟨xs,H1,I1,r,z,q⟩=>⟨by rw[<-r.length];exact z,?_⟩);have c:H1 s1.heap.objs.size=cr:=I1.hok.fresh (cI);refine⟨.ref s1.heap.objs.size,upd H1 s1.heap.objs.size (.tup xs),I1.laid (t':=s1.toks) (λb u e=>dz e) (cI) ?_,rfl,q _ c⟩;exact⟨z,us,r,⟨_,dc _ rfl,rfl,_,rfl⟩⟩
theorem Te(h:PA X es t):PE X (.List es pos) (afd t):=by intro pins s σ H Q I a;refine wpAny_List_spliced (cA (h pos pins s σ H _ I a) λus s1⟨xs,H1,I1,r,z,q⟩=>⟨by rw[<-r.length];exact z,?_⟩);have c:H1 s1.heap.objs.size=cr:=I1.hok.fresh (cI);refine⟨.ref s1.heap.objs.size,upd H1 s1.heap.objs.size (.lst xs),I1.laid (t':=s1.toks) (λb u e=>dz e) (cI) ?_,rfl,q _ c⟩;exact⟨z,us,0,r,dc _ rfl⟩
end
noncomputable abbrev Sp:=List V->Hp->VK->XK->Prop
noncomputable abbrev Ke:=List Env->Hp->cv->XK->b_->cv->Prop
structure NQ(P:dF)(w:eJ)(K:PySem.W.Frag)(mg:Str->Option b_)(base:eN)(A:eM)(outer:List Env)(s:cv)(H:Hp):Prop where
 frames:A.frames=aU outer
 mod:Mod K mg base
 bs:∀b o,base.get? b=aU o->s.heap.get? b=aU o/\H b=cr
 R3:base.objs.size<=s.heap.objs.size
 rZ:s.heap.FunFrames base outer
 YT:∀b∈frs outer,H b=cr
 hok:o7 P w H s.heap
 bare:nz s.gens
noncomputable def CE(outer:List Env)(P:dF)(w:eJ)(H:Hp)(s:cv)(Q:VK)(u:b_)(a:cv):Prop:=∃v b,a.os=s.os/\nz a.gens/\Un (frs outer) [] H b s.heap a.heap/\o7 P w b a.heap/\RelV v u/\Q v b
noncomputable def CR(CX:Ke)(outer:List Env)(P:dF)(w:eJ)(H:Hp)(s:cv)(Q:VK)(E:XK)(r:t_)(a:cv):Prop:=match r with|.ok (.ret u)=>CE outer P w H s Q u a|.ok _=>False|.error e=>CX outer H s E e a
structure pH(P:dF)(w:eJ)(K:PySem.W.Frag)(mg:Str->Option b_)(base:eN)(CX:Ke)(k:Nat)(f:cx)(fd:i1)(ps:List Str)(sp:Sp):Prop where
 len:∀vs H Q E,sp vs H Q E->vs.length=ps.length
 run:∀(A:eM)(outer:List Env)(s:cv)(H:Hp)(args:Args)(us:List b_)(vs:List V)(Q:VK)(E:XK),jY k A->NQ P w K mg base A outer s H->qS s fd args (ps.zip us)->Vals vs us->sp vs H Q E->ku (c_ P w) A (.call (.ref f) args) (CR CX outer P w H s Q E) s
section
variable{X:Cx}{pins:List (cx×Obj)}{σ:St}{H:Hp}{s s':cv}
theorem Inv.env0(I:Inv X pins σ H s):NQ X.prog X.w X.K X.mg X.base X.A X.stack s H:=⟨I.ok.frames,I.ok.mod,I.bs,iA I.ok.R3 I.sz,I.stack,I.Dp,I.hok,I.bare⟩
theorem Inv.after{Q:VK}{u:b_}(I:Inv X pins σ H s)(h:CE X.stack X.prog X.w H s Q u s'):EP X pins σ Q u s':=by obtain⟨v,c,os,bare,un,hok,r,q⟩:=h;obtain⟨e,g,d,t,a⟩:=s';obtain rfl:a=s.os:=os;exact⟨v,c,I.call (h':=e) (g':=g) (d':=d) (t':=t) (ch:=[]) un hok bare (λb z=>absurd z (by simp)),r,q⟩
end
noncomputable def Z3(sp:Sp)(a:List V)(E:XK)(t:TA):TE:=λσ H Q=>t σ H λvs b=>sp (vs++a) b Q E
noncomputable def Binds(K:PySem.W.Frag)(fd:i1)(ps:List Str)(ds:List b_):Prop:=∀(s:cv)(us:List b_),K.In s.heap->(us++ds).length=ps.length->qS s fd ⟨us,[]⟩ (ps.zip (us++ds))
theorem Binds.all{fd:i1}{ps:List Str}(h:∀us:List b_,us.length=ps.length->va fd ⟨us,[]⟩=fy (ps.zip us)):Binds K fd ps []:=λs us _ a=>by rw[gN]at a ⊢;exact .of_eq (h us a)
noncomputable def Passes(CX:Ke)(X:Cx)(E:XK):Prop:=∀(pins:List (cx×Obj))(σ:St)(H:Hp)(s:cv)(e:b_)(a:cv),Inv X pins σ H s->CX X.stack H s E e a->X.xe e a
section
variable{X:Cx}{CX:Ke}{k:Nat}{f C:cx}{fd:i1}{ps:List Str}{sp:Sp}{R6:List V}{ds:List b_}{E:XK}{x m:Str}{p pos apos:Pos}{e o:dO}{es:List dO}{ta:TE}{t:TA}
theorem WM{σ:St}{Q:VK}{vs:List V}(F:pH X.prog X.w X.K X.mg X.base CX k f fd ps sp)(hr:jY k X.A)(c:Binds X.K fd ps ds)(hd:Vals R6 ds)(g:Passes CX X E)(I:Inv X pins σ H s)(r:Vals vs us)(h:sp (vs++R6) H Q E):cK (c_ X.prog X.w) X.A (call (.ref f) us) (EP X pins σ Q) X.xe s:=by
 have b:Vals (vs++R6) (us++ds):=r.append hd;have j:(us++ds).length=ps.length:=by rw[<-b.length];exact F.len _ _ _ _ h
 refine wpAny_call (kq (F.run X.A X.stack s H ⟨us,[]⟩ (us++ds) (vs++R6) Q E hr I.env0 (c s us I.Xe j) b h) λr l a=>?_);cases r with|error e=>exact g pins σ H s e l I a|ok fl=>cases fl with|ret u=>exact I.after a|next=>exact fR a|brk=>exact fR a|cont=>exact fR a
theorem Og(F:pH X.prog X.w X.K X.mg X.base CX k f fd ps sp)(hr:jY k X.A)(b:Gl X x)(c:X.mg x=aU (.ref f))(g:keepIn X.K (.ref f)=cq)(j:Binds X.K fd ps ds)(hd:Vals R6 ds)(l:Passes CX X E)(n:PA X (e::es) t)(a:(x==("__debug__":Str))=a_:=by decide)(he:cL (e::es) X.env=(a_,fi e X.env)::cL es X.env:=by rfl)(hpl:(kf pos (cL es X.env)).any (·.1)=a_:=by rfl):PE X (.Call (.Name x p) (e::es) [] pos) (Z3 sp R6 E t):=by intro pins s σ H Q I h;refine nX (Qp I b c ?_ a);refine PySem.W.callWith_K (h₀:=X.base) I.ok.mod.pY g (cA (n pos pins s σ H _ I h) λus s1⟨vs,H1,I1,r,q⟩=>⟨I1.Xe,?_⟩) he hpl;exact WM F hr j hd l I1 r q
end
structure aJ(N P:List Str)(sc:kU):Prop where
 kind:sc.kind=.function:=by rfl
 co:sc.isCoroutine=a_:=by rfl
 gen:sc.isGenerator=a_:=by rfl
 nd:N.Nodup:=by decide+kernel
 pre:N.take P.length=P:=by rfl
 par:∀x∈P,sc.names.lookup x=aU .local\/sc.names.lookup x=aU .cell:=by decide+kernel
 W8:∀y∈sc.names,y.2≠.free:=by decide+kernel
theorem vz{kindOf:Str->Option lj}{x:Str}:∀{binds:List (Str×b_)}{m:Str->Option b_},(∀v,(x,v)∉binds)->sP kindOf binds m x=m x
 |[],_,_=>rfl|(n,v)::r,m,h=>by
   unfold sP;rw[vz λw a=>h w (dV _ a)];split
   . have:x≠n:=by rintro rfl;exact h v i5
     simp[this]
   .rfl
theorem vD{kindOf:Str->Option lj}{x:Str}:∀{binds:List (Str×b_)}{m:Str->Option b_},(∀v,(x,v)∉binds)->sR kindOf binds m x=m x
 |[],_,_=>rfl|(n,v)::r,m,h=>by
   unfold sR;rw[vD λw a=>h w (dV _ a)];split;.rfl
   . have:x≠n:=by rintro rfl;exact h v i5
     simp[this]
theorem vP{kindOf:Str->Option lj}{x:Str}{v:b_}:∀{P:List Str}{vs:List b_}{i:Nat}{m:Str->Option b_},P.Nodup->P[i]?=aU x->vs[i]?=aU v->kindOf x=aU .local->sP kindOf (P.zip vs) m x=aU v|[],_,_,_,_,h,_,_=>by simp at h|_::_,[],_,_,_,_,h,_=>by simp at h|p::P,w::vs,0,m,nd,h1,a,b=>by simp at h1 a;subst h1;subst a;show sP kindOf ((p,w)::P.zip vs) m p=_;unfold sP;rw[vz λv c=>(fk.mp nd).1 (of_mem_zip c).1,if_pos b];simp|p::P,w::vs,i+1,m,nd,h1,a,b=>by show sP kindOf ((p,w)::P.zip vs) m x=_;unfold sP;exact vP (i:=i) (fk.mp nd).2 (by simpa using h1) (by simpa using a) b
theorem vJ{kindOf:Str->Option lj}{x:Str}{v:b_}:∀{P:List Str}{vs:List b_}{i:Nat}{m:Str->Option b_},P.Nodup->P[i]?=aU x->vs[i]?=aU v->kindOf x≠aU .local->sR kindOf (P.zip vs) m x=aU v|[],_,_,_,_,h,_,_=>by simp at h|_::_,[],_,_,_,_,h,_=>by simp at h|p::P,w::vs,0,m,nd,h1,a,b=>by simp at h1 a;subst h1;subst a;show sR kindOf ((p,w)::P.zip vs) m p=_;unfold sR;rw[vD λv c=>(fk.mp nd).1 (of_mem_zip c).1,if_neg b];simp|p::P,w::vs,i+1,m,nd,h1,a,b=>by show sR kindOf ((p,w)::P.zip vs) m x=_;unfold sR;exact vJ (i:=i) (fk.mp nd).2 (by simpa using h1) (by simpa using a) b
noncomputable def start(N:List Str)(vs:List V):St:=vs.map aU++cE (N.length-vs.length) cr
noncomputable def CJ(CX:Ke)(P:dF)(w:eJ)(K:PySem.W.Frag)(mg:Str->Option b_)(base:eN)(N:List Str)(qual:Str)(scope:kU)(f:cx)(b:b_)(A:eM)(outer:List Env)(s:cv)(H:Hp)(E:XK):Cx where prog:=P;w:=w;K:=K;mg:=mg;base:=base;A:=A.deeper (mT qual scope s.heap.objs.size f b);N:=N;s₀:=s;H₀:=H;env:=mT qual scope s.heap.objs.size f b;outer:=outer;stack:=mT qual scope s.heap.objs.size f b::outer;ex:=[];calm:=cq;fn:=λ_=>cq;pn:=[];xe:=λe c=>cK (c_ P w) (A.deeper (mT qual scope s.heap.objs.size f b)) (leaving (mT qual scope s.heap.objs.size f b) e) (λ_ a=>CX outer H s E e a) (λg a=>CX outer H s E g a) c
theorem zq{a:kU}{n:Nat}{x:Str}(h:a.names.lookup x=aU .cell):∃c,(k5 n a.names []).lookup x=aU c:=by have q:=PySem.W.cellsFrom_some a.names n [] (.inl h);exact pc.mp q
theorem GP{CX:Ke}{P:dF}{mg:Str->Option b_}{base:eN}{N ps:List Str}{qual:Str}{scope:kU}{f:cx}{t:b_}{outer:List Env}{s1:cv}{E:XK}{vs:List V}(S:aJ N ps scope)(hd:A.handled=cr)(j:NQ P w K mg base A outer s H)(I:vs.length=ps.length)(r:Vals vs us)(x:InCallC s s.heap.objs.size (sP (mT qual scope s.heap.objs.size f t).kindOf (ps.zip us) λ_=>cr) (k5 (s.heap.objs.size+1) scope.names []) (sR (mT qual scope s.heap.objs.size f t).kindOf (ps.zip us) λ_=>cr) s1):Inv (CJ CX P w K mg base N qual scope f t A outer s H E) [] (start N vs) H s1:=by
 have hpl:ps.length<=N.length:=by have:=congrArg me S.pre;rw[ls]at this;omega
 obtain⟨h1,J,rfl,B⟩:=x.done;have l:∀b:cx,b∉(CJ CX P w K mg base N qual scope f t A outer s H E).ex:=λb z=>absurd (show b∈([]:List cx)from z) (by simp);refine⟨⟨j.mod,S.kind,rfl,rfl,cI,λy z c h1 g=>?_,λy hy=>?_,λy c _ h=>?_,λ_=>hd,Around.frames_deeper j.frames,.inr ⟨rfl,rfl⟩,λb z=>absurd z (l b),j.bs,j.R3,λb _ _=>l b,λb z=>absurd z (l b),j.rZ,j.YT⟩,rfl,j.bare,Un.kept B,⟨_,x.toInCall.ns,λi y v h1 g L=>?_⟩,λy c h=>⟨_,x.cell y c h⟩,j.hok.fresh (cI),λy c h=>?_,λp m=>absurd (show p∈([]:List (cx×Obj))from m) (by simp),j.hok.kept B,?_⟩;.exact name_of_addr x.apart (PySem.mem_of_lookup h1) (PySem.mem_of_lookup g)
 . have hy:scope.names.lookup y=aU .cell\/scope.names.lookup y=aU .free:=hy;rcases hy with hy|hy;.exact zq hy
   .exact absurd rfl (S.W8 _ (PySem.mem_of_lookup hy))
 .exact l_ (x.above y c (PySem.mem_of_lookup h))
 . have hi:i<vs.length:=by
    unfold start at g;by_cases hi:i<vs.length;.exact hi
    .rw[eW (by simpa using hi)]at g;rw[j1]at g;split at g<;>cases g
   have C:vs[i]?=aU v:=by unfold start at g;rw[dL (by simpa using hi),eL]at g;cases e:vs[i]?with|none=>rw[e]at g;cases g|some a=>rw[e]at g;cases g;rfl
   obtain⟨u,hu,G⟩:=r.get C;have m:ps[i]?=aU y:=by rw[<-S.pre,List.getElem?_take_of_lt (by omega)];exact h1
   have o:ps.Nodup:=by rw[<-S.pre];exact S.nd.sublist (List.take_sublist _ _)
   refine⟨u,G,?_⟩;rcases S.par y (eh m)with k|k;.exact .inl ⟨k,vP o m hu k⟩
   .obtain⟨c,e⟩:=zq (n:=s.heap.objs.size+1) k;refine .inr ⟨.inl k,c,e,?_⟩;have q:=x.cell y c e;rw[vJ o m hu (by show scope.names.lookup y≠_;rw[k];decide)]at q;exact q
 .exact j.hok.fresh (l_ (x.above y c (PySem.mem_of_lookup h)))
 .unfold start;show _=N.length;rw[ez,dy,rJ];omega
theorem Z7{CX:Ke}{P:dF}{w:eJ}{K:PySem.W.Frag}{mg:Str->Option b_}{base:eN}{k:Nat}{f:cx}{name qual:Str}{a:Arguments}{body:List ft}{scope:kU}{L kV m O cdv ct oc:b_}{U Z:Option cx}{z:Array (Option b_)}{N ps:List Str}{sp:Sp}(lk:K.lookup f=aU ⟨oc,Z,.func (PySem.W.fnOf name qual a body scope L kV m O U cdv ct),z⟩)(B:PySem.W.codeIn K cdv qual=cq)(S:aJ N ps scope)(len:∀vs H Q E,sp vs H Q E->vs.length=ps.length)(j:∀(A:eM)(outer:List Env)(s:cv)(H:Hp)(vs:List V)(Q:VK)(E:XK),jY k (A.deeper (mT qual scope s.heap.objs.size f cdv))->sp vs H Q E->∃t,zM (CJ CX P w K mg base N qual scope f cdv A outer s H E) body t/\t {nx:=λ_ g=>Q .non g,rt:=Q} (start N vs) H):pH P w K mg base CX (k+1) f (PySem.W.fnOf name qual a body scope L kV m O U cdv ct) ps sp:=by
 refine⟨len,λA outer s H args us vs Q E hr p hb r hsp=>?_⟩;have hl:=len _ _ _ _ hsp;have Y:K.In s.heap:=p.mod.pY.keeps λb o e=>(p.bs b o e).1;have lim:s.heap.NoLimit:=p.mod.nolimit.keeps λb o e=>(p.bs b o e).1;have l:∀y∈ps.zip us,scope.names.lookup y.1=aU .local\/(scope.names.lookup y.1=aU .cell/\((k5 (s.heap.objs.size+1) scope.names []).lookup y.1).isSome=cq):=λ⟨n,v⟩hy=>by
  rcases S.par n (of_mem_zip hy).1 with q|q;.exact .inl q
  .exact .inr ⟨q,PySem.W.cellsFrom_some _ _ _ (.inl q)⟩
 refine codeAny_call_function hr.depth (Y _ _ lk) rfl S.co S.gen rfl (PySem.W.codeRec_of Y B) (hb _ _ _ _ ?_);refine wpAny_newFunctionEnv_cells S.kind l λenv he s1 x=>?_;subst he;refine⟨lim.keeps x.toInCall.keep,codeAny_func ?_⟩;obtain⟨t,ht,hq⟩:=j A outer s H vs Q E (hr.deeper _) hsp;have I:Inv (CJ CX P w K mg base N qual scope f cdv A outer s H E) [] (start N vs) H s1:=GP S hr.hd p hl r x;refine eK (ht [] s1 (start N vs) H _ I hq) (λfl C hs=>?_) λe C hs=>hs;have fin:∀{c:St}{g:Hp}{v:V}{u:b_},Inv (CJ CX P w K mg base N qual scope f cdv A outer s H E) [] c g C->RelV v u->Q v g->CE outer P w H s Q u C:=λ{c g v u}J G q=>⟨v,g,J.os,J.bare,J.base,J.hok,G,q⟩;cases fl with|ret u=>obtain⟨v,c,g,J,G,q⟩:=hs;exact fin J G q|next=>obtain⟨c,g,J,q⟩:=hs;exact fin (v:=V.non) (u:=eA) J rfl q|brk=>obtain⟨_,_,_,q⟩:=hs;exact fR q|cont=>obtain⟨_,_,_,q⟩:=hs;exact fR q
section
variable{X:Cx}{x:Str}{p pos:Pos}{e:dO}{es:List dO}{t:TA}{id T:String}{r:List V->Hp->VK->Prop}
noncomputable def tCB(r:List V->Hp->VK->Prop)(t:TA):TE:=λσ H Q=>t σ H λvs a=>r vs a Q
theorem fG(hc:dC X (.builtin id) r)(b:Gl X x)(c:X.mg x=cr)(f:gn x=aU (.builtin id))(g:PA X (e::es) t)(j:x≠"__name__":=by decide)(a:(x==("__debug__":Str))=a_:=by decide)(he:cL (e::es) X.env=(a_,fi e X.env)::cL es X.env:=by rfl)(hpl:(kf pos (cL es X.env)).any (·.1)=a_:=by rfl):PE X (.Call (.Name x p) (e::es) [] pos) (tCB r t):=by intro pins s σ H Q I h;refine nX (mL I b c f ?_ j a);exact PyProof.Rows.callWith_builtin1 (cA (g pos pins s σ H _ I h) λus s1⟨vs,H1,I1,r1,q1⟩=>hc pins s1 σ H1 vs us Q I1 r1 q1) he hpl
theorem iM(hc:dC X (.type T) r)(b:Gl X x)(c:X.mg x=cr)(f:gn x=aU (.type T))(g:PA X (e::es) t)(j:x≠"__name__":=by decide)(a:(x==("__debug__":Str))=a_:=by decide)(he:cL (e::es) X.env=(a_,fi e X.env)::cL es X.env:=by rfl)(hpl:(kf pos (cL es X.env)).any (·.1)=a_:=by rfl):PE X (.Call (.Name x p) (e::es) [] pos) (tCB r t):=by intro pins s σ H Q I h;refine nX (mL I b c f ?_ j a);exact fN (cA (g pos pins s σ H _ I h) λus s1⟨vs,H1,I1,r1,q1⟩=>hc pins s1 σ H1 vs us Q I1 r1 q1) he hpl
end
end _L
namespace _U
open PySem PyProof.Rows
section
variable{prog:dF}{w:eJ}{A:eM}{E:b_->cv->Prop}{s:cv}
theorem Qa{t b:cx}{vs ws:List b_}{Q:b_->cv->Prop}(ht:s_ s.heap t vs.toArray)(o:s_ s.heap b ws.toArray)(j:vs≠[])(h1:ws=[]->Q (.ref t) s)(p:ws≠[]->Q (.ref s.heap.objs.size) {s with heap:=s.heap.push {cls:=.type "tuple",data:=.seq (vs++ws).toArray}})(hsz:vs.length+ws.length<=sizeLine):cK (c_ prog w) A (gx .Add (.ref t) (.ref b)) Q E s:=by
 obtain⟨⟨cls,k,data,sl⟩,ho,hc,n,hd⟩:=id ht;obtain⟨⟨l,c,data2,f⟩,a,g,m,h⟩:=id o;simp only at hc hd g h;subst hc hd g h;have e:vs.toArray++ws.toArray=(vs++ws).toArray:=by simp
 by_cases i:ws=[];.exact oQ ⟨_,ho,rfl⟩ ⟨_,a,rfl⟩ pT sw slot_tuple_add entry_tuple_add (args_tuple_add_2 _ _) (tuple_addW1 t b vs.toArray ws.toArray n m k c sl f (by simpa using j) (by simp[i])) ⟨ho,a,h1 i⟩
 .refine oQ ⟨_,ho,rfl⟩ ⟨_,a,rfl⟩ pT sw slot_tuple_add entry_tuple_add (args_tuple_add_2 _ _) (tuple_addW2 t b vs.toArray ws.toArray n m k c sl f (by simpa using j) (by simpa using i) (by rw[cS,cS];exact hsz)) ⟨ho,a,?_⟩;rw[e];exact p i
noncomputable def dM(n d:Nat):Option Int->Nat|none=>d|some v=>if v<0 then(v+(n:Int)).toNat else min v.toNat n
theorem Wl(n d:Nat)(hd:d<=n)(o:Option Int):dM n d o<=n:=by cases o with|none=>exact hd|some v=>
   show(if v<0 then(v+(n:Int)).toNat else min v.toNat n)<=n;by_cases a:v<0;.rw[if_pos a];omega
   .rw[if_neg a];exact Nat.min_le_right _ _
theorem FP(v:Int)(n d:Nat):(if v<0 then max (v+(n:Int)) 0 else min v (n:Int))=((dM n d (aU v):Nat):Int):=by
 show(if v<0 then max (v+(n:Int)) 0 else min v (n:Int))=(((if v<0 then(v+(n:Int)).toNat else min v.toNat n):Nat):Int);by_cases a:v<0;.simp only[if_pos a];omega
 .simp only[if_neg a];omega
theorem Bt(lo hi:Option Int)(n:Nat):uF lo hi 1 (n:Int)=(((dM n 0 lo:Nat):Int),((dM n n hi:Nat):Int)):=by
 have h1:¬((1:Int)<0):=by omega
 unfold uF;simp only[h1,if_false];refine Prod.ext ?_ ?_;.cases lo with|none=>rfl|some v=>exact FP v n 0
 .cases hi with|none=>rfl|some v=>exact FP v n n
theorem Bm(i j:Nat):p9 (i:Int) (j:Int) 1=j-i:=by
 unfold p9;have h1:(1:Int)>0:=by omega
 simp only[h1,if_true,Int.ediv_one];split<;>omega
theorem sO{v:b_}{o:Option Int}{Q:Option Int->cv->Prop}(p:m9 v o)(h:Q o s):cK (c_ prog w) A (Builtin.Slice.slicePartIndex v) Q E s:=by cases p with|none=>exact slicePart_none h|int i t=>exact slicePart_int h
theorem iJ{sl:cx}{c e:b_}{lo hi:Option Int}{n:Nat}{Q:Int×Int×Nat->cv->Prop}(hs:s.heap.IsSliceOf sl c e .none)(f:m9 c lo)(g:m9 e hi)(h:Q (((dM n 0 lo:Nat):Int),1,dM n n hi-dM n 0 lo) s):cK (c_ prog w) A (sliceApplied (.ref sl) (fy (n:Int))) Q E s:=by obtain⟨os,a,i,b⟩:=id hs;unfold sliceApplied Builtin.Slice.sliceFields;refine bx (bx (kH a b (x:=c) rfl (bx (kH a b (x:=e) rfl (bx (kH a b (x:=.none) rfl (cw ?_)))))));refine bx (slicePart_none ?_);show cK _ _ (if((1:Int)==0)=cq then _ else _) _ _ s;rw[if_neg (by decide)];refine bx (sO f (bx (sO g (bx (cw ?_)))));show cK _ _ (match uF lo hi 1 (n:Int)with|(lo,hi)=>fy (lo,(1:Int),p9 lo hi 1)) _ _ s;rw[Bt lo hi n];show cK _ _ (fy (((dM n 0 lo:Nat):Int),(1:Int),p9 ((dM n 0 lo:Nat):Int) ((dM n n hi:Nat):Int) 1)) _ _ s;rw[Bm];exact cw h
theorem Iw(xs:Array b_)(i k:Nat):((dE k).filterMap λ(m:Nat)=>xs[((i:Int)+(m:Int)*1).toNat]?).toArray=((xs.toList.drop i).take k).toArray:=by
 have e:(λ(m:Nat)=>xs[((i:Int)+(m:Int)*1).toNat]?)=λm=>xs[i+m]?:=by
  funext m;have:((i:Int)+(m:Int)*1).toNat=i+m:=by omega
  rw[this]
 rw[e];have:=pick_run xs i k;rw[List.filterMap_map]at this;have a:((λx=>xs[x]?)∘ λx=>i+x)=λm=>xs[i+m]?:=rfl;rw[a]at this;rw[this]
theorem nH{t sl:cx}{items:Array b_}{g i:b_}{lo hi:Option Int}{Q:b_->cv->Prop}(ht:s_ s.heap t items)(hs:s.heap.IsSliceOf sl g i .none)(j:m9 g lo)(k:m9 i hi)(l:¬(dM items.size 0 lo=0/\dM items.size items.size hi=items.size))(h:Q (.ref s.heap.objs.size) {s with heap:=s.heap.push {cls:=.type "tuple",data:=.seq ((items.toList.drop (dM items.size 0 lo)).take (dM items.size items.size hi-dM items.size 0 lo)).toArray}})(hsz:items.size<=sizeLine):cK (c_ prog w) A (k3 (.ref t) (.ref sl)) Q E s:=by
 have a:sizeOk (.seq ((items.toList.drop (dM items.size 0 lo)).take (dM items.size items.size hi-dM items.size 0 lo)).toArray):=by show((items.toList.drop (dM items.size 0 lo)).take (dM items.size items.size hi-dM items.size 0 lo)).toArray.size<=sizeLine;rw[cS,ls,List.length_drop,eS];omega
 have o:dM items.size items.size hi<=items.size:=Wl _ _ (cI) hi;obtain⟨os,b,c,n⟩:=id hs;have e:s.TypeIs (.ref sl) "slice":=⟨os,b,c⟩;unfold k3;try with_reducible refine fT ?_
 first|refine bx (cw ?_)|skip
 refine bx (wpAny_sequenceKey ht.typeIs (by decide) ?_);refine bx (fx (name:=hX "__getitem__") ht.typeIs jp (fv jp ht.typeIs entry_tuple_getitem ?_ (args_tuple_getitem _ _)));show cK _ _ (tupleItemsOf (.ref t)>>=_) _ _ s;refine bx (tupleItemsOf_ ht ?_);refine bx (kn e ?_);rw[if_pos (by decide)];refine bx (iJ hs j k ?_);have f:¬((((dM items.size 0 lo:Nat):Int)==0&&(1:Int)==1&&(dM items.size items.size hi-dM items.size 0 lo)==items.size)=cq):=by intro q;rw[eR,eR]at q;have p:((dM items.size 0 lo:Nat):Int)=0:=eq_of_beq q.1.1;have r:dM items.size items.size hi-dM items.size 0 lo=items.size:=eq_of_beq q.2;exact l ⟨by omega,by omega⟩
 show cK _ _ (if(((dM items.size 0 lo:Nat):Int)==0&&(1:Int)==1&&(dM items.size items.size hi-dM items.size 0 lo)==items.size)=cq then _ else _) _ _ s;rw[if_neg f,Iw];first|exact bx (m:=kA _) (ei (cw ⟨_,rfl,cw h⟩) a)|exact bx (m:=kA _) (ei (bx (cw (cw ⟨_,rfl,cw h⟩))) a)|exact bx (bx (m:=kA _) (ei (cw (cw ⟨_,rfl,cw h⟩)) a))|exact bx (bx (m:=kA _) (ei (cw ⟨_,rfl,cw h⟩) a))
end
end _U
namespace _L
open PySem Spec PyProof.Rows
variable{n:Nat}{s:cv}{x:V}
noncomputable abbrev TO:=St->Hp->(Option Int->Hp->Prop)->Prop
noncomputable def PO(X:Cx)(e:Option dO)(t:TO):Prop:=∀(a:List (cx × Obj))(s:cv)(σ:St)(H:Hp)(Q:Option Int->Hp->Prop),Inv X a σ H s->t σ H Q->cK (c_ X.prog X.w) X.A (evalPart e X.env) (λu c=>∃o b,Inv X a σ b c/\m9 u o/\Q o b) X.xe s
noncomputable def Oz:TO:=λ_ H Q=>Q cr H
noncomputable def aan(t:TE):TO:=λσ H Q=>t σ H λx a=>∃i,x=.int i/\Q (aU i) a
section
variable{X:Cx}{e:dO}{te:TE}{lo hi:Option dO}{tl th:TO}{pos p2:Pos}
theorem Pu:PO X cr Oz:=by intro a s σ H Q I h;rw[evalPart_none];exact cw ⟨cr,H,I,.none,h⟩
theorem Qd(h:PE X e te):PO X (aU e) (aan te):=by intro a s σ H Q I b;rw[evalPart_some];refine cA (h a s σ H _ I b) λu s1⟨x,H1,I1,r1,q1⟩=>?_;obtain⟨i,rfl,q⟩:=q1;obtain⟨t,rfl⟩:=r1;exact⟨aU i,H1,I1,.int i t,q⟩
noncomputable def SlR(X:Cx)(r:V->Option Int->Option Int->Hp->VK->Prop):Prop:=∀(a:List (cx × Obj))(s:cv)(σ:St)(H:Hp)(x:V)(v b c:b_)(lo hi:Option Int)(sl:cx)(Q:VK),Inv X a σ H s->RelV x v->s.heap.IsSliceOf sl b c .none->m9 b lo->m9 c hi->r x lo hi H Q->∃T id,ml (.type T) "__getitem__"=fy (aU (.builtin id))/\s.TypeIs v T/\cK (c_ X.prog X.w) X.A (k3 v (.ref sl)) (EP X a σ Q) X.xe s
noncomputable def tSl(r:V->Option Int->Option Int->Hp->VK->Prop)(te:TE)(tl th:TO):TE:=λσ H Q=>te σ H λx a=>tl σ a λl b=>th σ b λu c=>r x l u c Q
theorem yx{r:V->Option Int->Option Int->Hp->VK->Prop}(hr:SlR X r)(he:PE X e te)(g:PO X lo tl)(hu:PO X hi th):PE X (.Subscript e (.Slice lo hi cr p2) pos) (tSl r te tl th):=by intro a s σ H Q I h;refine Subscript_ (cA (he a s σ H _ I h) λv s1⟨x,H1,I1,r1,q1⟩=>?_);refine wpAny_Slice (cA (g a s1 σ H1 _ I1 q1) λc s2⟨l,H2,I2,pl,q2⟩=>cA (hu a s2 σ H2 _ I2 q2) λf s3⟨u,H3,I3,pu,q3⟩=>?_);rw[evalPart_none];refine cw ?_;have i:Inv X a σ H3 {s3 with heap:=s3.heap.push {cls:=.type "slice",data:=.fields #[c,f,.none]}}:=I3.kept (t':=s3.toks) λb m q=>dz q;obtain⟨T,id,j,ht,k⟩:=hr a {s3 with heap:=s3.heap.push {cls:=.type "slice",data:=.fields #[c,f,.none]}} σ H3 x v c f l u s3.heap.objs.size Q i r1 (Heap.IsSliceOf.new ..) pl pu q3;show cK (c_ X.prog X.w) X.A (sq e (.Slice lo hi cr p2) v (.ref s3.heap.objs.size)) (EP X a σ Q) X.xe {s3 with heap:=s3.heap.push {cls:=.type "slice",data:=.fields #[c,f,.none]}};exact tail_any (ops:=[.ref s3.heap.objs.size,v]) ht j k (by with_unfolding_all rfl)
noncomputable def yO(xs:List V)(lo hi:Option Int):List V:=(xs.drop (_U.dM xs.length 0 lo)).take (_U.dM xs.length xs.length hi-_U.dM xs.length 0 lo)
theorem qz(xs:List V)(lo hi:Option Int):(yO xs lo hi).length<=xs.length:=by unfold yO;rw[ls,List.length_drop];omega
noncomputable def agb(K:PySem.W.Frag):V->Option Int->Option Int->Hp->VK->Prop:=λx lo hi H Q=>∃a xs,x=.ref a/\iD K H a xs/\¬(_U.dM xs.length 0 lo=0/\_U.dM xs.length xs.length hi=xs.length)/\∀p,H p=cr->Q (.ref p) (upd H p (.tup (yO xs lo hi)))
theorem Wi:SlR X (agb X.K):=by
 intro g s σ H x v p t lo hi sl Q I i hs j k h;obtain⟨a,xs,rfl,l,m,q⟩:=h;cases i;obtain⟨f,r,ht,hz⟩:=I.tuple l;have c:f.toArray.size=xs.length:=by rw[cS];exact r.length.symm
 refine⟨"tuple",_,jp.lookup,ht.typeIs,?_⟩;refine _U.nH ht hs j k (by rw[c];exact m) ?_ (by rw[c];exact hz);rw[c];refine⟨.ref s.heap.objs.size,_,I.laid (t':=s.toks) (o:=.tup (yO xs lo hi)) (λb u q=>dz q) (cI) ?_,rfl,q _ (I.hok.fresh (cI))⟩;exact⟨iA (qz xs lo hi) hz,_,(r.drop (_U.dM xs.length 0 lo)).take (_U.dM xs.length xs.length hi-_U.dM xs.length 0 lo),mh _ _⟩
noncomputable def aaq(K:PySem.W.Frag):R2:=λx y H Q=>∃a b xs ys,x=.ref a/\y=.ref b/\iD K H a xs/\iD K H b ys/\xs≠[]/\xs.length+ys.length<=sizeLine/\(ys=[]->Q (.ref a) H)/\(ys≠[]->∀p,H p=cr->Q (.ref p) (upd H p (.tup (xs++ys))))
theorem Vals.qQ{xs:List V}{a:List b_}(r:Vals xs a):a=[]↔xs=[]:=by cases r with|nil=>simp|cons _ _=>simp
theorem Oo:fL X (gx .Add) (aaq X.K):=by intro f s σ H x y v u Q I i j h;obtain⟨a,b,xs,ys,rfl,rfl,k,l,m,hz,p,r⟩:=h;cases i;cases j;obtain⟨t,r1,p1,_⟩:=I.tuple k;obtain⟨g,c,p2,_⟩:=I.tuple l;refine _U.Qa p1 p2 (λz=>m (r1.qQ.mp z)) (λz=>⟨.ref a,H,I,rfl,p (c.qQ.mp z)⟩) (λz=>?_) (by rw[<-r1.length,<-c.length];exact hz);refine⟨.ref s.heap.objs.size,_,I.laid (t':=s.toks) (o:=.tup (xs++ys)) (λb A q=>dz q) (cI) ?_,rfl,r (λw=>z (c.qQ.mpr w)) _ (I.hok.fresh (cI))⟩;exact⟨by rw[ez];exact hz,_,r1.append c,mh _ _⟩
end
noncomputable def jE(n:Nat)(i:Int):Option Nat:=if 0<=i then(if i<n then aU i.toNat else cr)else if-(n:Int)<=i then aU (i+n).toNat else cr
noncomputable def Lr{a:Type}(xs:List a)(i:Int):Option a:=(jE xs.length i).bind λj=>xs[j]?
theorem Ea{i:Int}{j:Nat}(h:jE n i=aU j):seqIndex? i n=aU j/\j<n/\-(n:Int)<=i/\i<n:=by
 unfold jE at h;by_cases h0:0<=i
 . rw[if_pos h0]at h;by_cases h1:i<n;.rw[if_pos h1]at h;have e:i.toNat=j:=fb h;exact⟨by rw[p_ h0 h1,e],by omega,by omega,h1⟩
   .rw[if_neg h1]at h;cases h
 . rw[if_neg h0]at h;by_cases h1:-(n:Int)<=i;.rw[if_pos h1]at h;have e:(i+n).toNat=j:=fb h;exact⟨by rw[oy (by omega) h1,e],by omega,h1,by omega⟩
   .rw[if_neg h1]at h;cases h
theorem xT{a:Type}{xs:List a}{i:Int}{v:a}(h:Lr xs i=aU v):∃j,seqIndex? i xs.length=aU j/\xs[j]?=aU v/\j<xs.length/\-(xs.length:Int)<=i/\i<xs.length:=by unfold Lr at h;cases e:jE xs.length i with|none=>rw[e]at h;cases h|some j=>rw[e]at h;obtain⟨h1,b,c,f⟩:=Ea e;exact⟨j,h1,h,b,c,f⟩
noncomputable def xN(b:dO):Prop:=∀o i,p5 b a_ o i=operate [o,i] (k3 o i)
noncomputable def IxR(X:Cx)(r:R2):Prop:=∀(b slice:dO)(a:List (cx × Obj))(s:cv)(σ:St)(H:Hp)(x y:V)(v u:b_)(Q:VK),Inv X a σ H s->RelV x v->RelV y u->r x y H Q->p5 slice a_ v u=operate [v,u] (k3 v u)->cK (c_ X.prog X.w) X.A (sq b slice v u) (EP X a σ Q) X.xe s
noncomputable def MtR(X:Cx)(id:String)(r:V->List V->Hp->VK->Prop):Prop:=∀(a:List (cx × Obj))(s:cv)(σ:St)(H:Hp)(x:V)(xs:List V)(v:b_)(b:List b_)(Q:VK),Inv X a σ H s->RelV x v->Vals xs b->r x xs H Q->cK (c_ X.prog X.w) X.A (call (.builtin id) (v::b)) (EP X a σ Q) X.xe s
section
variable{X:Cx}{a b:dO}{ta tb:TE}{pos:Pos}
theorem QW{r:R2}(hr:IxR X r)(e:PE X a ta)(f:PE X b tb)(hs:xN b):PE X (.Subscript a b pos) (Vm r ta tb):=by intro c s σ H Q I h;exact Subscript_ (Uj e f I h λv u s2 x y g i j k q=>hr a b c s2 σ g x y v u Q i j k q (hs _ _))
noncomputable def aao(K:PySem.W.Frag):R2:=λx y H Q=>∃p xs i v,x=.ref p/\y=.int i/\eY K H p xs/\Lr xs i=aU v/\Q v H
noncomputable def ae1(K:PySem.W.Frag):R2:=λx y H Q=>∃p xs i v,x=.ref p/\y=.int i/\iD K H p xs/\Lr xs i=aU v/\Q v H
theorem Es:IxR X (aao X.K):=by
 intro e slice c s σ H x y v u Q I m o h hs;obtain⟨p,xs,i,z,rfl,rfl,A,he,q⟩:=h;cases m;obtain⟨t,rfl⟩:=o;obtain⟨f,r,g,hz⟩:=I.list A;obtain⟨j,h1,B,M,C,E⟩:=xT he;obtain⟨w,l,G⟩:=r.get B;have J:=r.length;have N:=tu;have fin:EP X c σ Q w s:=⟨z,H,I,G,q⟩;by_cases h0:0<=i
 . have k:i.toNat=j:=by rw[p_ h0 E]at h1;exact fb h1
   exact item_listR g.isList h0 (by omega) (by rw[k];simpa using l) fin hs
 . have k:(i+(f.toArray.size:Int)).toNat=j:=by rw[oy (by omega) C]at h1;rw[cS,<-J];exact fb h1
   exact tF (x:=w) g.isList.typeIs slot_list_getitem.lookup (tw (Q:=λr L=>r=w/\EP X c σ Q r L) g.isList (by omega) (by rw[cS]<;>omega) (by omega) (by rw[k];simpa using l) ⟨rfl,fin⟩) hs
theorem Up:IxR X (ae1 X.K):=by intro e slice c s σ H x y v u Q I g k h hs;obtain⟨p,xs,i,z,rfl,rfl,l,he,q⟩:=h;cases g;obtain⟨t,rfl⟩:=k;obtain⟨m,r,f,hz⟩:=I.tuple l;obtain⟨j,h1,o,G,J,L⟩:=xT he;obtain⟨w,A,B⟩:=r.get o;have C:=r.length;have M:=tu;have fin:EP X c σ Q w s:=⟨z,H,I,B,q⟩;exact tF (x:=w) f.typeIs slot_tuple_getitem.lookup (getItem_tuple (j:=j) (Q:=λr E=>r=w/\EP X c σ Q r E) f (by omega) (by omega) (by rw[cS,<-C];exact h1) (by simpa using A) ⟨rfl,fin⟩) hs
theorem Bd(c:List b_)(n j:Nat)(u:b_):fU (·.setIfInBounds j u) {cls:=.type "list",data:=.seq c.toArray n}={cls:=.type "list",data:=.seq (c.set j u).toArray n}:=by simp[fU]
theorem Inv.lst{f:List (cx×Obj)}{σ:St}{H:Hp}{s:cv}{p:cx}{xs:List V}(I:Inv X f σ H s)(h:H p=aU (.lst xs)):∃(c:List b_)(n:Nat),Vals xs c/\s.heap.get? p=aU {cls:=.type "list",data:=.seq c.toArray n}/\xs.length<=sizeLine:=by obtain⟨z,c,n,r,e⟩:=I.hok p _ h;exact⟨c,n,r,e,z⟩
theorem Inv.V4{c:List (cx×Obj)}{σ:St}{H:Hp}{s:cv}{p:cx}{xs ys:List V}{g its':List b_}{n i:Nat}{f:Obj->Obj}(I:Inv X c σ H s)(h:H p=aU (.lst xs))(ho:s.heap.get? p=aU {cls:=.type "list",data:=.seq g.toArray n})(j:f {cls:=.type "list",data:=.seq g.toArray n}={cls:=.type "list",data:=.seq its'.toArray i})(r:Vals ys its')(hz:ys.length<=sizeLine)(t:Nat):Inv X c σ (upd H p (.lst ys)) {s with heap:=s.heap.update p f,toks:=t}:=by
 have e:(s.heap.update p f).get? p=aU {cls:=.type "list",data:=.seq its'.toArray i}:=by rw[g9 f ho (by rw[j]<;>rfl),j]
 refine I.write (x:=p) (e:=p) (by rw[h];trivial) (.inl rfl) (λb u k q=>(ew _ _ (fI k)).trans q) ⟨_,e⟩ ?_;exact⟨hz,its',i,r,e⟩
noncomputable def Zr:V->V->V->Hp->(Hp->Prop)->Prop:=λo i v H Q=>∃p xs k j,o=.ref p/\i=.int k/\H p=aU (.lst xs)/\jE xs.length k=aU j/\Q (upd H p (.lst (xs.set j v)))
theorem set_list:WX X Zr:=by
 intro c s σ H o i v E iv u Q I z A B h;obtain⟨p,xs,k,j,rfl,rfl,l,C,q⟩:=h;cases z;obtain⟨t,rfl⟩:=A;obtain⟨e,n,r,ho,hz⟩:=I.lst l;obtain⟨h1,G,m,w⟩:=Ea C;have f:=r.length;have J:=tu;have y:Inv X c σ (upd H p (.lst (xs.set j v))) {s with heap:=s.heap.update p (fU (·.setIfInBounds j u))}:=I.V4 l ho (Bd e n j u) (r.set B j) (by rw[List.length_set];exact hz) s.toks;by_cases h0:0<=k
 . have g:k.toNat=j:=by rw[p_ h0 w]at h1;exact fb h1
   exact PySem.W.ki_setAt ho h0 (by omega) (by rw[cS,<-f];exact w) (by rw[g];exact⟨_,y,q⟩)
 . have g:(k+(e.toArray.size:Int)).toNat=j:=by rw[oy (by omega) m]at h1;rw[cS,<-f];exact fb h1
   exact PySem.W.ki_setBack ho (by omega) (by rw[cS,<-f];exact m) (by omega) (by rw[g];exact⟨_,y,q⟩)
theorem xq(lo hi:Option Int)(n:Nat):(kK lo hi cr n).1=((_U.dM n 0 lo:Nat):Int)/\(kK lo hi cr n).2.1=((_U.dM n n hi:Nat):Int)/\(kK lo hi cr n).2.2=1:=by
 refine⟨?_,?_,rfl⟩;.cases lo with|none=>simp[kK,_U.dM]|some i=>
     simp only[kK,_U.dM,getD_none,show(1:Int)>0 by decide,if_true];by_cases h:i<0;.simp only[h,if_true]<;>omega
     .simp only[h,if_false]<;>omega
 .cases hi with|none=>simp[kK,_U.dM]|some i=>
     simp only[kK,_U.dM,getD_none,show(1:Int)>0 by decide,if_true];by_cases h:i<0;.simp only[h,if_true]<;>omega
     .simp only[h,if_false]<;>omega
theorem uP(c:List b_)(lo hi:Option Int):slicePick c.toArray lo hi cr=((c.drop (_U.dM c.length 0 lo)).take (_U.dM c.length c.length hi-_U.dM c.length 0 lo)).toArray:=by obtain⟨h1,e,f⟩:=xq lo hi c.toArray.size;unfold slicePick;rw[h1,e,f];simp only[sliceRange_one,pick_run,cS]<;>rfl
noncomputable def aeS(K:PySem.W.Frag):V->Option Int->Option Int->Hp->VK->Prop:=λx lo hi H Q=>∃a xs,x=.ref a/\eY K H a xs/\∀p,H p=cr->Q (.ref p) (upd H p (.lst (yO xs lo hi)))
theorem O7:SlR X (aeS X.K):=by intro e s σ H x v l m lo hi sl Q I f hs g i h;obtain⟨a,xs,rfl,j,q⟩:=h;cases f;obtain⟨k,r,ht,hz⟩:=I.list j;have c:=r.length;refine⟨"list",_,slot_list_getitem.lookup,ht.isList.typeIs,?_⟩;refine wpAny_getItem_list_slice ht.isList hs g i .none (by simp) ?_ (by rw[cS]<;>omega);rw[uP,<-c];refine⟨.ref s.heap.objs.size,_,I.laid (t':=s.toks) (o:=.lst (yO xs lo hi)) (λb p q=>dz q) (cI) ?_,rfl,q _ (I.hok.fresh (cI))⟩;exact⟨iA (qz xs lo hi) hz,_,0,(r.drop (_U.dM xs.length 0 lo)).take (_U.dM xs.length xs.length hi-_U.dM xs.length 0 lo),dc _ rfl⟩
noncomputable def mq:V->Bool|.non=>cq|.bl _=>cq|.int _=>cq|.str _=>cq|_=>a_
noncomputable def Pq:V->V->Bool|.non,.non=>cq|.bl a,.bl b=>a==b|.bl a,.int b=>(if a then 1 else 0)==b|.int a,.bl b=>a==(if b then 1 else 0)|.int a,.int b=>a==b|.str a,.str b=>a==b|_,_=>a_
theorem Wm{A:eM}{y:V}{u v:b_}(e:RelV y u)(c:RelV x v)(g:mq y=cq)(f:mq x=cq):io A s u v (Pq y x):=by cases y with
 |non=>cases e;cases x with|non=>cases c;exact mB _|bl b=>cases c;exact none_bool b|int b=>obtain⟨t,rfl⟩:=c;exact none_int b t|str b=>obtain⟨t,rfl⟩:=c;exact none_str b t|_=>exact absurd (show a_=cq from f) dr
 |bl a=>cases e;cases x with|non=>cases c;exact bool_none a|bl b=>cases c;exact bool_bool a b|int b=>obtain⟨t,rfl⟩:=c;exact bool_int a b t|str b=>obtain⟨t,rfl⟩:=c;exact bool_str a b t|_=>exact absurd (show a_=cq from f) dr
 |int a=>obtain⟨t',rfl⟩:=e;cases x with|non=>cases c;exact int_none a t'|bl b=>cases c;exact int_bool a t' b|int b=>obtain⟨t,rfl⟩:=c;exact int_int a t' b t|str b=>obtain⟨t,rfl⟩:=c;exact int_str a t' b t|_=>exact absurd (show a_=cq from f) dr
 |str a=>obtain⟨t',rfl⟩:=e;cases x with|non=>cases c;exact str_none a t'|bl b=>cases c;exact str_bool a t' b|int b=>obtain⟨t,rfl⟩:=c;exact str_int a t' b t|str b=>obtain⟨t,rfl⟩:=c;exact str_str a t' b t|_=>exact absurd (show a_=cq from f) dr
 |_=>exact absurd (show a_=cq from g) dr
noncomputable def Bl(x:V)(u:b_):Bool:=match u with|.none=>Pq .non x|.bool b=>Pq (.bl b) x|.int i _=>Pq (.int i) x|.str z _=>Pq (.str z) x|_=>a_
theorem J3{y:V}{u:b_}(r:RelV y u)(f:mq y=cq):Bl x u=Pq y x:=by cases y with|non=>cases r;rfl|bl b=>cases r;rfl|int i=>obtain⟨t,rfl⟩:=r;rfl|str z=>obtain⟨t,rfl⟩:=r;rfl|_=>exact absurd (show a_=cq from f) dr
theorem nG{x:V}:∀{xs:List V}{c:List b_},Vals xs c->xs.all mq=cq->c.any (Bl x)=xs.any λy=>Pq y x|_,_,.nil,_=>rfl|y::xs,u::c,.cons r t,f=>by rw[ma,eR]at f;rw[li,li,J3 r f.1,nG t f.2]
theorem jR{A:eM}{s:cv}{x:V}{v:b_}(e:RelV x v)(g:mq x=cq):∀{xs:List V}{c:List b_},Vals xs c->xs.all mq=cq->∀u∈c,io A s u v (Bl x u)
 |_,_,.nil,_=>λu hu=>by cases hu|y::xs,u::c,.cons r t,f=>λh hu=>by
   rw[ma,eR]at f;rcases da.mp hu with rfl|hu;.rw[J3 r f.1];exact Wm r e f.1 g
   .exact jR e g t f.2 h hu
noncomputable def inV(x:V)(xs:List V):Bool:=xs.any λy=>Pq y x
noncomputable def rIn(K:PySem.W.Frag)(neg:Bool):R2:=λx y H Q=>∃p xs,y=.ref p/\(eY K H p xs\/iD K H p xs)/\mq x=cq/\xs.all mq=cq/\Q (.bl (if neg then !inV x xs else inV x xs)) H
theorem Hs:fL X (ec .In) (rIn X.K a_):=by
 intro g s σ H x y v u Q I i k h;obtain⟨p,xs,rfl,hq,j,fs,q⟩:=h;cases k;rcases hq with hq|hq;.obtain⟨c,r,e,hz⟩:=I.list hq;refine SeqAt.in_listAt (Bl x) e.isList (λw f=>jR i j r fs w (by simpa using f)) ⟨.bl _,H,I,rfl,?_⟩;rw[show c.toArray.any (Bl x)=c.any (Bl x)by simp,nG r fs];exact q
 .obtain⟨c,r,e,hz⟩:=I.tuple hq;refine SeqAt.in_tupleAt (Bl x) e (λw f=>jR i j r fs w (by simpa using f)) ⟨.bl _,H,I,rfl,?_⟩;rw[show c.toArray.any (Bl x)=c.any (Bl x)by simp,nG r fs];exact q
theorem xW:fL X (ec .NotIn) (rIn X.K cq):=by
 intro g s σ H x y v u Q I i k h;obtain⟨p,xs,rfl,hq,j,fs,q⟩:=h;cases k;rcases hq with hq|hq;.obtain⟨c,r,e,hz⟩:=I.list hq;refine SeqAt.notIn_listAt (Bl x) e.isList (λw f=>jR i j r fs w (by simpa using f)) ⟨.bl _,H,I,rfl,?_⟩;rw[show c.toArray.any (Bl x)=c.any (Bl x)by simp,nG r fs];exact q
 .obtain⟨c,r,e,hz⟩:=I.tuple hq;refine SeqAt.notIn_tupleAt (Bl x) e (λw f=>jR i j r fs w (by simpa using f)) ⟨.bl _,H,I,rfl,?_⟩;rw[show c.toArray.any (Bl x)=c.any (Bl x)by simp,nG r fs];exact q
theorem wI:dC X (.builtin "len") (λxs H Q=>∃p ys,xs=[.ref p]/\(eY X.K H p ys\/iD X.K H p ys)/\Q (.int ys.length) H):=by
 intro i s σ H xs k Q I r h;obtain⟨p,ys,rfl,hq,q⟩:=h;obtain⟨u,rfl,j⟩:=vals1 r;cases j;have l:=tu;rcases hq with hq|hq;.obtain⟨e,f,g,hz⟩:=I.list hq;have c:=f.length;exact Calls.call_len_list g.isList (by simp only[cS]<;>omega) ⟨.int ys.length,H,I.tok _,⟨s.toks+1,by rw[cS,c]⟩,q⟩
 .obtain⟨e,f,g,hz⟩:=I.tuple hq;have c:=f.length;exact len_tuple g (by simp only[cS]<;>omega) ⟨.int ys.length,H,I.tok _,⟨s.toks+1,by rw[cS,c]⟩,q⟩
theorem xP:dC X (.type "list") (λxs H Q=>∃p ys,xs=[.ref p]/\(eY X.K H p ys\/iD X.K H p ys)/\∀l,H l=cr->Q (.ref l) (upd H l (.lst ys))):=by
 intro i s σ H xs v Q I r h;obtain⟨p,ys,rfl,hq,q⟩:=h;obtain⟨u,rfl,t⟩:=vals1 r;cases t;have fin:∀(c:List b_),Vals ys c->ys.length<=sizeLine->∀(h':eN)(f:Nat),(∀b m,s.heap.get? b=aU m->h'.get? b=aU m)->h'.get? s.heap.objs.size=aU {cls:=.type "list",dict:=cr,data:=.seq c.toArray f,slots:=#[]}->EP X i σ Q (.ref s.heap.objs.size) {s with heap:=h'}:=λc g hz h' f kp e=>⟨.ref s.heap.objs.size,_,I.laid (t':=s.toks) kp (cI) (show bF X.prog X.w _ h' _ (.lst ys)from⟨hz,c,f,g,e⟩),rfl,q _ (I.hok.fresh (cI))⟩;rcases hq with hq|hq;.obtain⟨c,g,k,hz⟩:=I.list hq;have j:=g.length;obtain⟨o,ho,hc,n,hd⟩:=k.isList;exact call_list_seq p (.inl rfl) ho hc hd (λh' f kp e=>fin c g hz h' f kp e) (by simp only[cS]<;>omega)
 .obtain⟨c,g,k,hz⟩:=I.tuple hq;have j:=g.length;obtain⟨o,ho,hc,n,hd⟩:=k;exact call_list_seq p (.inr rfl) ho hc hd (λh' f kp e=>fin c g hz h' f kp e) (by simp only[cS]<;>omega)
theorem lZ:dC X (.type "tuple") (λxs H Q=>∃p ys,xs=[.ref p]/\((eY X.K H p ys/\∀l,H l=cr->Q (.ref l) (upd H l (.tup ys)))\/(iD X.K H p ys/\Q (.ref p) H))):=by
 intro c s σ H xs y Q I r h;obtain⟨p,ys,rfl,h⟩:=h;obtain⟨u,rfl,t⟩:=vals1 r;cases t;rcases h with⟨g,q⟩|⟨g,q⟩;.obtain⟨f,i,j,hz⟩:=I.list g;have k:=i.length;refine call_tuple_list j.isList (λh' kp=>?_) (by simp only[cS]<;>omega);have m:Inv X c σ H {s with heap:=h'}:=I.kept (t':=s.toks) kp;have v:Inv X c σ (upd H h'.objs.size (.tup ys)) {s with heap:=h'.push {cls:=.type "tuple",data:=.seq f.toArray}}:=m.laid (t':=s.toks) (λb o e=>dz e) (cI) (show bF X.prog X.w _ _ _ (.tup ys)from⟨hz,f,i,mh _ _⟩);exact⟨.ref h'.objs.size,_,v,rfl,q _ (m.hok.fresh (cI))⟩
 .obtain⟨f,i,j,hz⟩:=I.tuple g;exact call_tuple_same j ⟨.ref p,H,I,rfl,q⟩
noncomputable def tyV(K:PySem.W.Frag)(T:String)(x:V)(H:Hp):Prop:=match x with|.str _=>T="str"|.int _=>T="int"|.ref p=>(T="list"/\∃xs,eY K H p xs)\/(T="tuple"/\∃o,K.lookup p=aU o/\o.cls=.type "tuple"/\o.dict=cr)\/(T="dict"/\((∃kvs,H p=aU (.dK kvs))\/∃kvs,H p=aU (.dT kvs)))\/(T="set"/\∃S n,H p=aU (.set S n))|_=>False
theorem UT{g:List (cx×Obj)}{σ:St}{H:Hp}{T:String}{v:b_}(I:Inv X g σ H s)(r:RelV x v)(ty:tyV X.K T x H):
 s.TypeIs v T/\∀a,v=.ref a->∃j,s.heap.get? a=aU j/\j.dict=cr:=by cases x with|str z=>obtain⟨t,rfl⟩:=r;cases(show T="str"from ty);exact⟨typeIs_str s z t,λ_ e=>nomatch e⟩|int i=>obtain⟨t,rfl⟩:=r;cases(show T="int"from ty);exact⟨n3 s i t,λ_ e=>nomatch e⟩|ref p=>
   cases r;rcases ty with⟨rfl,xs,l⟩|⟨rfl,o,f,hc,hd⟩|⟨rfl,f⟩|⟨rfl,S,n,f⟩;.obtain⟨m,_,k,_⟩:=I.list l;refine⟨k.isList.typeIs,λa e=>?_⟩;cases e;obtain⟨o,n,e,c,hd,_⟩:=k;exact⟨o,e,hd⟩
   .refine⟨⟨o,I.Xe p o f,hc⟩,λa e=>?_⟩;cases e;exact⟨o,I.Xe _ o f,hd⟩
   . have z:∃o,s.heap.get? p=aU o/\o.ExactDict:=by
      rcases f with⟨kvs,f⟩|⟨kvs,f⟩;.obtain⟨_,_,_,_,o,_,_,e,ex,_⟩:=I.hok p _ f;exact⟨o,e,ex⟩
      .obtain⟨_,_,_,_,o,_,_,e,ex,_⟩:=I.hok p _ f;exact⟨o,e,ex⟩
     obtain⟨o,e,ex⟩:=z;refine⟨⟨o,e,ex.1⟩,λa h=>?_⟩;cases h;exact⟨o,e,ex.2.1⟩
   .obtain⟨o,_,_,_,e,ex,_⟩:=I.hok p _ f;refine⟨⟨o,e,ex.1⟩,λa h=>?_⟩;cases h;exact⟨o,e,ex.2.1⟩|_=>exact fR ty
noncomputable def tBM(K:PySem.W.Frag)(T:String)(r:V->List V->Hp->VK->Prop)(to:TE)(t:TA):TE:=λσ H Q=>to σ H λx c=>tyV K T x c/\t σ c λxs e=>r x xs e Q
variable{o e:dO}{es:List dO}{to:TE}{t:TA}{name:Str}{apos cpos:Pos}{T id:String}{r:V->List V->Hp->VK->Prop}
theorem Ln(m:PlainAttrs T)(slot:Slot T name id)(k:typeOf (.builtin id)=fy (.type "method_descriptor"))(p:MtR X id r)(ho:PE X o to)(q:PA X (e::es) t)(g:kc o name X.env (fi o X.env)=fi o X.env:=by rfl)(j:((kf cpos (cL (e::es) X.env)).all (λx=>!x.1)&&(ri cpos (mN [] X.env)).all (λx=>x.1.isSome)&&decide ((e::es).length+([]:List lI).length+(if([]:List lI).isEmpty then 0 else 1)<30))=cq:=by rfl)(i:(apos.endLine==cpos.line)=cq:=by rfl)(hs:cL (e::es) X.env=(a_,fi e X.env)::cL es X.env:=by rfl)(f:(kf cpos (cL es X.env)).any (·.1)=a_:=by rfl):PE X (.Call (.Attribute o name apos) (e::es) [] cpos) (tBM X.K T r to t):=by intro c s σ H Q I h;refine wpAny_Call_method_late g j i rfl (cA (ho c s σ H _ I h) λv s1⟨x,H1,I1,r1,ty,q1⟩=>?_);obtain⟨h1,u⟩:=UT I1 r1 ty;refine⟨T,id,m,slot,k,h1,u,?_⟩;have l:=q cpos c s1 σ H1 _ I1 q1;rw[hs]at l ⊢;refine lm (by show(a_||(kf cpos (cL es X.env)).any (·.1))=a_;rw[f]<;>rfl) (r9 ?_);exact cA l λw s2⟨vs,H2,I2,r2,q2⟩=>p c s2 σ H2 x vs v w Q I2 r1 r2 q2
end
noncomputable def MtM(X:Cx)(id:String)(r:V->List V->Hp->VK->Prop):Prop:=∀(a:List (cx × Obj))(s:cv)(σ:St)(H:Hp)(x:V)(xs:List V)(v:b_)(b:List b_)(Q:VK),Inv X a σ H s->RelV x v->Vals xs b->r x xs H Q->cK (c_ X.prog X.w) X.A (call (.builtin id) (v::b)) (EP X a σ Q) X.xe s
theorem Vals.one:∀{x:V}{a:List b_},Vals [x] a->∃u,a=[u]/\RelV x u|x,a,h=>by cases h with|cons r t=>cases t;exact⟨_,rfl,r⟩
theorem Vals.zero:∀{a:List b_},Vals [] a->a=[]|_,.nil=>rfl
theorem Vals.reverse{xs:List V}{a:List b_}(h:Vals xs a):Vals xs.reverse a.reverse:=by induction h with|nil=>exact .nil|cons r t b=>rw[oz,oz];exact Vals.append b (.cons r .nil)
theorem Vals.rep{xs:List V}{a:List b_}(h:Vals xs a):∀k:Nat,Vals (cE k xs).flatten (cE k a).flatten|0=>.nil|k+1=>by rw[ix,ix,oP,oP];exact Vals.append h (Vals.rep h k)
theorem foldl_rep(a:List b_):∀(k:Nat)(b:List b_),uZ (λc f=>c++f) b.toArray (cE k a.toArray)=(b++(cE k a).flatten).toArray
 |0,b=>by simp|k+1,b=>by
   have e:b.toArray++a.toArray=(b++a).toArray:=by simp
   have g:(b++a)++(cE k a).flatten=b++(cE (k+1) a).flatten:=by rw[ix,oP,fK]
   rw[<-g,<-foldl_rep a k (b++a),<-e,ix,lf]
section
variable{X:Cx}{pins:List (cx×Obj)}{σ:St}{H:Hp}{s:cv}{l b:cx}{xs ys zs:List V}
theorem Inv.aee{a its':List b_}{f:Array b_->Array b_}{t':Nat}(I:Inv X pins σ H s)(c:H l=aU (.lst xs))(e:s.heap.get? l=aU {cls:=.type "list",data:=.seq a.toArray n})(g:f a.toArray=its'.toArray)(h:Vals ys its')(hz:ys.length<=sizeLine):Inv X pins σ (upd H l (.lst ys)) {s with heap:=s.heap.update l (fU f),toks:=t'}:=by have q:=PySem.IsL.update e f;rw[g]at q;refine I.write (x:=l) (e:=l) (by rw[c];exact trivial) (.inl rfl) (λj u i hu=>(ew s.heap (fU f) (fI i)).trans hu) ⟨_,q⟩ ?_;exact⟨hz,its',_,h,q⟩
theorem Inv.Vy{a:List b_}{t':Nat}(I:Inv X pins σ H s)(c:Vals ys a)(hz:ys.length<=sizeLine):Inv X pins σ (upd H s.heap.objs.size (.lst ys)) {s with heap:=s.heap.push {cls:=.type "list",data:=.seq a.toArray},toks:=t'}:=I.laid (λ_ _ q=>dz q) (cI) ⟨hz,a,0,c,dc _ rfl⟩
theorem Inv.fresh(I:Inv X pins σ H s):H s.heap.objs.size=cr:=I.hok.fresh (cI)
theorem Inv.age(I:Inv X pins σ H s)(c:H l=aU (.lst xs)):xs.length<=sizeLine/\∃(a:List b_)(n:Nat),Vals xs a/\xs.length=a.length/\s.heap.get? l=aU {cls:=.type "list",data:=.seq a.toArray n}:=by obtain⟨z,a,n,r,e⟩:=I.hok l _ c;exact⟨z,a,n,r,r.length,e⟩
theorem J7(h:n<=sizeLine):uY n=a_:=by unfold uY;exact decide_eq_false (by omega)
end
section
variable{X:Cx}
noncomputable def Ph:V->List V->Hp->VK->Prop:=λx vs H Q=>∃l xs y,x=.ref l/\vs=[y]/\H l=aU (.lst xs)/\xs.length<sizeLine/\Q .non (upd H l (.lst (xs++[y])))
theorem pC:MtM X "list.append" Ph:=by intro b s σ H x vs v j Q I f g h;obtain⟨l,xs,y,rfl,rfl,c,hz,q⟩:=h;cases f;obtain⟨u,rfl,i⟩:=g.one;obtain⟨z,a,n,r,k,e⟩:=I.age c;refine ms F.slot_list_append ⟨_,e,rfl⟩ F.entry_list_append (F.args_list_append_2 _ _) (PySem.list_append l a.toArray n u (by rw[cS];omega)) ⟨e,?_⟩;refine⟨.non,_,I.aee (its':=a++[u]) c e (by simp) (r.append (.cons i .nil)) ?_,rfl,q⟩;rw[ez,kC];omega
theorem len_rep{a:Type}(xs:List a)(k:Nat):(cE k xs).flatten.length=k*xs.length:=by induction k with|zero=>simp|succ k b=>rw[ix,oP,ez,b,Nat.succ_mul,Nat.add_comm]
end
end _L
namespace _A
open PySem W Calls PyProof.Rows
theorem qH{P:Params}{h:eN}:∀(ns:List Int)(vs:List b_),WellAll P h vs (ns.map WData.int)->fe vs ns:=by intro ns;induction ns with|nil=>intro vs w;rw[mr]at w;cases w;exact .nil|cons n ns c=>intro vs w;rw[dl]at w;cases w with|cons a b=>cases a;exact .cons _ _ (c _ b)
theorem Gp{l:OpenLaw}{n:Nat}(m:l.most=aU n){P:Params}{h:eN}{args:List WData}{b:List b_}(c:l.row.toRowW.claim.pre args=cq)(j:WellAll P h b args):∃a vs ns,b=[et a]/\args=[WData.list (ns.map WData.int)]/\h.get? a=aU {cls:=.type "list",data:=.seq vs.toArray}/\fe vs ns/\ns.length<=n:=by
 have k:WShape.hasAll [] args [.list .int]=cq:=(pre_splitW c).1;have hc:l.pre.holds [] {args:=args}=cq:=(pre_splitW c).2;obtain⟨d,r,rfl,h1,o⟩:=hasAllW_cons k;obtain rfl:=hasAllW_nil o;obtain⟨xs,rfl,p⟩:=hasW_list h1;obtain⟨ns,rfl⟩:=items_int p;have e:ns.length<=n:=by
  unfold OpenLaw.pre at hc;have g:(WTm.not (.lt (.lit (.int (n:Int))) (.len (.arg 0)))).holds [] {args:=[.list (ns.map .int)]}=cq:=by have g:=(holds_andW hc).1;rw[m]at g;exact g
  have i:=condW_of g (w_not (w_lt w_lit (w_len_list (w_arg rfl))));rw[dy]at i;refine n_ λq=>?_;have s:(n:Int)<((ns.length:Nat):Int):=by omega
  first|(rw[decide_eq_true s]at i;exact absurd i (by decide))|(simp at i;omega)
 cases j with|cons t u=>cases u;cases t with|list ho f=>exact⟨_,_,ns,rfl,rfl,ho,qH ns _ f,e⟩
theorem Gh(l:OpenLaw)(args:List WData):l.row.toRowW.claim.post args (.bool cq) args=cq:=postW_of (r:=l.row.toRowW) (X:=(cq==cq)) (show WShape.has [] (.bool cq) .bool=cq by first|rfl|decide|simp[WShape.has,WShape.arms,WShape.armsAll]) (show(WTm.eq .res (.lit (.bool cq))).value [] {args:=args,res:=aU (.bool cq),after:=args}=aU (.bool (cq==cq))from w_eq_bool (w_res rfl) w_lit) rfl
theorem yI{l:OpenLaw}{n:Nat}{q:dF}{c:List Str}{z:(Str->Option b_)->eN->Prop}{A:eJ->eN->Prop}{d:DefRec}(H:l.most=aU n)(s:d.params.defaults=[])(call:∀(w:eJ)(s₀ b:cv)(mg t:Str->Option b_)(h:cx)(o:Obj)(u m e:b_)(a:cx)(vs:List b_)(ns:List Int),Ground q c [] z w s₀ mg t b.heap->A w b.heap->b.heap.get? h=aU o->o.data=.func (docDef d.name d.params d.body d.scope u m e)->b.heap.CodeRec m d.name->mg d.name=aU (.ref h)->b.heap.get? a=aU {cls:=.type "list",data:=.seq vs.toArray}->fe vs ns->ns.length<=n->b.gens=#[]->ku (c_ l.prog w) nk (.call (.ref h) ⟨[.ref a],[]⟩) (λr p=>r=.ok (.ret (.bool cq))/\OldK b.heap p.heap/\p.os=b.os/\nz p.gens) b):WalkO q c z A l.row.toRowW d [] (λf vs=>PySem.call f vs):=by intro w s₀ b mg t G Y h o u m e I kV ho hd v B x J args C as i E L y M;obtain rfl:I=.none:=Dflts.none B s;obtain rfl:kV=.none:=Dflts.noKw B;obtain⟨a,vs,ns,rfl,rfl,j,g,k⟩:=Gp H i y;refine enter_call (kq (call w s₀ b mg t h o u m e a vs ns G Y ho (fd_plain hd) v x j g k J) λr p N=>?_);obtain⟨rfl,O,Q,U⟩:=N;exact⟨.inl ⟨.bool cq,.bool cq,[],rfl,λ_=>rfl,.bool cq,Gh l _,λ_=>⟨List.Pairwise.nil,λ_ W=>(nomatch W)⟩⟩,O,Q,U⟩
end _A
namespace _L
open PySem Spec PyProof.Rows
theorem vH:∀{vs:List b_}{ns:List Int},fe vs ns->Vals (ns.map V.int) vs|_,_,.nil=>.nil|_,_,.cons n t h=>.cons ⟨t,rfl⟩ (vH h)
noncomputable def Only(H:Hp):Prop:=∀b,H b=cr\/∃o xs,H b=aU (.dw o (.lst xs))
theorem KJ{P:dF}{w:eJ}{K:PySem.W.Frag}{mg G:Str->Option b_}{CX:Ke}{k:Nat}{I a:cx}{fd:i1}{x:Str}{sp:Sp}{c:cv}{vs:List b_}{ns:List Int}(O:K.In c.heap)(p:c.heap.Ns ef mg)(f:c.heap.Ns builtinsNs G)(J:∀x:Str,x≠"__name__"->G x=gn x)(t:c.heap.NoLimit)(hg:c.gens=#[])(E:c.heap.get? a=aU {cls:=.type "list",data:=.seq vs.toArray})(hi:fe vs ns)(Q:ns.length<=sizeLine)(hr:jY k nk)(F:∀base:eN,K.In base->base.Ns ef mg->pH P w K mg base CX k I fd [x] sp)(l:∀(s:cv)(u:b_),qS s fd ⟨[u],[]⟩ [(x,u)])(hsp:∀H:Hp,Only H->eY K H a (ns.map V.int)->sp [.ref a] H (λv _=>v=.bl cq) λ_ _ _=>False)(L:∀H e g,CX [] H c (λ_ _ _=>False) e g->False):ku (c_ P w) nk (.call (.ref I) ⟨[.ref a],[]⟩) (λr g=>r=.ok (.ret (.bool cq))/\OldK c.heap g.heap/\g.os=c.os/\nz g.gens) c:=by
 have U:=vH hi;have y:=hi.length--from an abstract heap in which nothing but the script may be tracked
 have j:∀H:Hp,Only H->eY K H a (ns.map V.int)->o7 P w H c.heap->(∀b,H b≠cr->b=a)->(H a≠cr->K.lookup a=cr)->ku (c_ P w) nk (.call (.ref I) ⟨[.ref a],[]⟩) (λr g=>r=.ok (.ret (.bool cq))/\OldK c.heap g.heap/\g.os=c.os/\nz g.gens) c:=by
  intro H X hS hok Y hK;have Z:∀{b:cx}{o:Obj},c.heap.get? b=aU o->H b=cr->(wW c.heap H).get? b=aU o:=λe n=>K6 e n;have M:∀{b:cx}{o:Obj}{es:Array DictEntry}{ep:Nat},c.heap.get? b=aU o->o.data=.dict es ep->H b=cr:=λ{b o es ep}e d=>by cases q:H b with|none=>rfl|some u=>have N:b=a:=Y b (by rw[q];simp);subst N;rw[E]at e;cases e;have d':Data.seq vs.toArray _=Data.dict es ep:=d;cases d'
  have i:∀{b:cx}{m:Str->Option b_},c.heap.Ns b m->(wW c.heap H).Ns b m:=λ{b m}⟨o,es,ep,e,d,r⟩=>⟨o,es,ep,Z e (M e d),d,r⟩;have A:K.In (wW c.heap H):=λb o e=>Z (O b o e) (by cases q:H b with|none=>rfl|some u=>have N:b=a:=Y b (by rw[q];simp);subst N;rw[hK (by rw[q];simp)]at e;cases e);have hM:Mod K mg (wW c.heap H):=⟨A,i p,⟨G,i f,J⟩,let⟨mc,h1,h2⟩:=t;⟨mc,i h1,h2⟩⟩;have e0:NQ P w K mg (wW c.heap H) nk [] c H:=⟨rfl,hM,λb o e=>Qu e,Nat.le_of_eq (Gk _ _),trivial,λb f=>absurd (show b∈([]:List cx)from f) (by simp),hok,.of_eq hg⟩;refine kq ((F _ A (i p)).run nk [] c H ⟨[.ref a],[]⟩ [.ref a] [.ref a] _ _ hr e0 (l c (.ref a)) (.cons rfl .nil) (hsp H X hS)) λr g h=>?_;cases r with|error e=>exact(L H e g h).elim|ok fl=>cases fl with|next=>exact fR h|brk=>exact fR h|cont=>exact fR h|ret u=>obtain⟨v,H',os,bare,un,B,r',q⟩:=h;have q':v=.bl cq:=q;subst q';obtain rfl:u=kL cq:=r';refine⟨rfl,OldK.of_keep λb o e=>?_,os,bare⟩;cases q:H b with|none=>exact un.keep b o e q (by intro z;exact absurd (show b∈([]:List cx)from z) (by simp)) (by simp)|some u=>
        rcases X b with z|⟨ob,xs,z⟩;.rw[q]at z;cases z
        .have z2:=un.yg b ob _ z;obtain⟨e1,_⟩:=hok b _ z;obtain⟨e2,_⟩:=B b _ z2;rw[e]at e1;cases e1;exact e2
 cases hk:K.lookup a with|some o=>--the script is one of the module's own objects
   have e:=O a o hk;rw[E]at e;cases e;refine j (λ_=>cr) (λ_=>.inl rfl) (.inr ⟨_,vs.toArray,_,hk,rfl,rfl,rfl,by rw[cS,y];exact Q,by simpa using U⟩) (λb u z=>by have C:(cr:Option HO)=aU u:=z;cases C) (λb z=>absurd rfl z) λz=>absurd rfl z|none=>
   refine j (λb=>if b=a then aU (.dw {cls:=.type "list",data:=.seq vs.toArray} (.lst (ns.map V.int)))else cr) (λb=>?_) (.inl (.inr ⟨{cls:=.type "list",data:=.seq vs.toArray},if_pos rfl⟩)) (λb u z=>?_) (λb z=>?_) λ_=>hk
   . by_cases f:b=a;.exact .inr ⟨_,_,if_pos f⟩
     .exact .inl (if_neg f)
   . by_cases f:b=a;.have C:=(if_pos f).symm.trans z;cases C;subst f;exact⟨E,by rw[dy];exact Q,vs,_,U,E⟩
     .have C:=(if_neg f).symm.trans z;cases C
   . by_cases f:b=a;.exact f
     .exact absurd (if_neg f) z
theorem Ol{l:PySem.W.OpenLaw}{n k:Nat}{q:dF}{i:List Str}{I:(Str->Option b_)->eN->Prop}{C:eJ->eN->Prop}{d:DefRec}{K:Params->PySem.W.Frag}{CX:eJ->Ke}{sp:eJ->Sp}{x:Str}(J:l.most=aU n)(t:n<=sizeLine)(y:d.params.defaults=[])(hr:jY k nk)(L:∀(w:eJ)(h:eN),C w h->(K w.params).In h)(F:∀(w:eJ)(mg:Str->Option b_)(r:cx)(h:eN),(K w.params).In h->h.Ns ef mg->mg d.name=aU (.ref r)->∃ fd:i1,(∀(s:cv)(u:b_),qS s fd ⟨[u],[]⟩ [(x,u)])/\∀base:eN,(K w.params).In base->base.Ns ef mg->pH l.prog w (K w.params) mg base (CX w) k r fd [x] (sp w))(hsp:∀(w:eJ)(H:Hp)(a:cx)(ns:List Int),ns.length<=n->Only H->eY (K w.params) H a (ns.map V.int)->sp w [.ref a] H (λv _=>v=.bl cq) λ_ _ _=>False)(z:∀(w:eJ)(H:Hp)(s:cv)(e:b_)(A:cv),CX w [] H s (λ_ _ _=>False) e A->False):PySem.W.WalkO q i I C l.row.toRowW d [] (λf vs=>PySem.call f vs):=by refine _A.yI J y λw s₀ m mg mb r o pm cd M a vs ns G Y ho hd N B p j c O=>?_;have E:=L w _ Y;obtain⟨fd,Q,U⟩:=F w mg r _ E G.T.g B;exact KJ E G.T.g G.T.b G.T.builtins G.T.nolimit O p j (iA c t) hr U Q (λH X Z=>hsp w H a ns c X Z) λH e A=>z w H m e A
theorem K5{l:PySem.W.OpenLaw}{n k:Nat}{q:dF}{b:List Str}{p:(Str->Option b_)->eN->Prop}{m:eJ->eN->Prop}{d:DefRec}{K:Params->PySem.W.Frag}{CX:Ke}{sp:PySem.W.Frag->Sp}{x:Str}(r:l.most=aU n)(c:n<=sizeLine)(g:d.params.defaults=[])(hr:jY k nk)(t:∀(w:eJ)(h:eN),m w h->(K w.params).In h)(F:∀(w:eJ)(mg:Str->Option b_)(o:cx)(h:eN),(K w.params).In h->h.Ns ef mg->mg d.name=aU (.ref o)->∃ fd:i1,(∀(s:cv)(u:b_),qS s fd ⟨[u],[]⟩ [(x,u)])/\∀base:eN,(K w.params).In base->base.Ns ef mg->pH l.prog w (K w.params) mg base CX k o fd [x] (sp (K w.params)))(hsp:∀(K:PySem.W.Frag)(H:Hp)(a:cx)(ns:List Int),ns.length<=n->Only H->eY K H a (ns.map V.int)->sp K [.ref a] H (λv _=>v=.bl cq) λ_ _ _=>False)(i:∀(H:Hp)(s:cv)(e:b_)(j:cv),CX [] H s (λ_ _ _=>False) e j->False):PySem.W.WalkO q b p m l.row.toRowW d [] (λf vs=>PySem.call f vs):=Ol (K:=K) (CX:=λ_=>CX) (sp:=λw=>sp (K w.params)) r c g hr t F (λw H a ns h1 y z=>hsp (K w.params) H a ns h1 y z) λ_ H s e j=>i H s e j
end _L
namespace _L
open PySem Spec PyProof.Rows
noncomputable def jr(s:ft):Arguments:=match s with|.FunctionDef _ a _ _ _ _ _ _ _ _=>a|_=>{posonlyargs:=[],args:=[],vararg:=cr,kwonlyargs:=[],kw_defaults:=[],kwarg:=cr,defaults:=[]}
noncomputable def gC(s:ft):List ft:=match s with|.FunctionDef _ _ b _ _ _ _ _ _ _=>b|_=>[]
noncomputable def az(s:ft):kU:=match s with|.FunctionDef _ _ _ _ _ _ a _ _ _=>a|_=>{kind:=.function,names:=[],isGenerator:=a_,isCoroutine:=a_}
noncomputable abbrev Jk:Ke:=λ_ _ _ _ _ _=>False
noncomputable abbrev E0:XK:=λ_ _ _=>False
theorem Zm{X:Cx}:Passes Jk X E0:=λ_ _ _ _ _ _ _ h=>h.elim
structure gY(K:PySem.W.Frag)(x qual:Str)(st:ft)(f:cx)(fd:i1):Prop where
 ex:∃(oc:b_)(od:Option cx)(kV doc pm:b_)(an:Option cx)(cdv ct:b_)(osl:Array (Option b_)),fd=PySem.W.fnOf x qual (jr st) (gC st) (az st) .none kV doc pm an cdv ct/\K.lookup f=aU ⟨oc,od,.func fd,osl⟩/\PySem.W.codeIn K cdv qual=cq
 kp:keepIn K (.ref f)=cq
section
variable{P:dF}{w:eJ}{K:PySem.W.Frag}{mg:Str->Option b_}{base:eN}
theorem gY.ok{x qual:Str}{st:ft}{f:cx}{fd:i1}{N ps:List Str}{k:Nat}{sp:Sp}(F:gY K x qual st f fd)(S:aJ N ps (az st))(len:∀vs H Q E,sp vs H Q E->vs.length=ps.length)(a:∀(cdv:b_)(A:eM)(outer:List Env)(s:cv)(H:Hp)(vs:List V)(Q:VK)(E:XK),jY k (A.deeper (mT qual (az st) s.heap.objs.size f cdv))->sp vs H Q E->∃t,zM (CJ Jk P w K mg base N qual (az st) f cdv A outer s H E).nox (gC st) t/\t {nx:=λ_ c=>Q .non c,rt:=Q} (start N vs) H):pH P w K mg base Jk (k+1) f fd ps sp:=by obtain⟨oc,i,kV,e,j,l,cdv,ct,g,rfl,lk,b⟩:=F.ex;refine Z7 lk b S len λA outer s H vs Q E hr hsp=>?_;obtain⟨t,h,q⟩:=a cdv A outer s H vs Q E hr hsp;exact⟨t,h.nox,q⟩
theorem gY.binds{x qual:Str}{st:ft}{f:cx}{fd:i1}{ps:List Str}(F:gY K x qual st f fd)(h:∀(kV a b:b_)(c:Option cx)(cdv ct:b_)(e:List b_),e.length=ps.length->va (PySem.W.fnOf x qual (jr st) (gC st) (az st) .none kV a b c cdv ct) ⟨e,[]⟩=fy (ps.zip e)):Binds K fd ps []:=by obtain⟨oc,j,kV,a,b,c,cdv,ct,g,rfl,lk,i⟩:=F.ex;exact .all (h kV a b c cdv ct)
theorem V3{x qual:Str}{st:ft}{f:cx}{oc:b_}{h e:Option cx}{b:Array (Option b_)}{kV a g cdv ct:b_}(l:K.lookup f=aU ⟨oc,h,.func (PySem.W.fnOf x qual (jr st) (gC st) (az st) .none kV a g e cdv ct),b⟩)(c:PySem.W.codeIn K cdv qual=cq)(k:keepIn K (.ref f)=cq):gY K x qual st f (PySem.W.fnOf x qual (jr st) (gC st) (az st) .none kV a g e cdv ct):=⟨⟨oc,h,kV,a,g,e,cdv,ct,b,rfl,l,c⟩,k⟩
end
noncomputable def aK(H a:Hp):Prop:=∀b o,H b=aU o->a b=aU o
theorem aK.refl(H:Hp):aK H H:=λ_ _ h=>h
theorem aK.trans{H e f:Hp}(a:aK H e)(b:aK e f):aK H f:=λc o h=>b c o (a c o h)
theorem aK.seq{K:PySem.W.Frag}{H b:Hp}{a:cx}{xs:List V}(e:aK H b)(h:eY K H a xs):eY K b a xs:=by
 rcases h with(h|⟨o,h⟩)|h;.exact .inl (.inl (e _ _ h))
 .exact .inl (.inr ⟨o,e _ _ h⟩)
 .exact .inr h
end _L
namespace _H
open PySem
inductive Dc where|k(kvs:List (Int×Int))|t(kvs:List (List Int×Int))deriving DecidableEq
set_option genInjectivity true in inductive D where|non|bl(b:Bool)|int(i:Int)|str(s:Str)|tup(ds:List D)|lst(ds:List D)|dN(m:Dc)|dv(ks:List Int)(ds:List D)deriving Inhabited
mutual
noncomputable def jO:D->D->Bool|.non,.non=>cq|.bl a,.bl b=>a==b|.bl a,.int i=>(if a then(1:Int)else 0)==i|.int i,.bl a=>i==(if a then(1:Int)else 0)|.int i,.int j=>i==j|.str a,.str b=>a==b|.tup xs,.tup ys=>lV xs ys|.lst xs,.lst ys=>lV xs ys|.dN a,.dN b=>decide (a=b)|.dv a xs,.dv b ys=>decide (a=b)&&lV xs ys|_,_=>a_
noncomputable def lV:List D->List D->Bool|[],[]=>cq|x::xs,y::ys=>jO x y&&lV xs ys|_,_=>a_
end
theorem mF:lV [] []=cq:=rfl
theorem jj{x y:D}{xs ys:List D}:lV (x::xs) (y::ys)=(jO x y&&lV xs ys):=rfl
theorem tU{y:D}{ys:List D}:lV [] (y::ys)=a_:=rfl
theorem uo{x:D}{xs:List D}:lV (x::xs) []=a_:=rfl
theorem pqi{i j}:jO (.int i) (.int j)=(i==j):=(rfl)
theorem pqt{x y}:jO (.tup x) (.tup y)=lV x y:=(rfl)
theorem pql{x y}:jO (.lst x) (.lst y)=lV x y:=(rfl)
noncomputable def jG:Nat->D->Bool|_,.non=>cq|_,.bl _=>cq|_,.int _=>cq|_,.str _=>cq|0,.tup _=>a_|0,.lst _=>a_|_,.dN _=>a_|_,.dv _ _=>a_|n+1,.tup ds=>ds.all (jG n)|n+1,.lst ds=>ds.all (jG n)
theorem bR{n:Nat}{ds:List D}:jG (n+1) (.tup ds)=ds.all (jG n):=rfl
theorem bJ{n:Nat}{ds:List D}:jG (n+1) (.lst ds)=ds.all (jG n):=rfl
theorem bL{n:Nat}{m:Dc}:jG n (.dN m)=a_:=by cases n<;>rfl
theorem bQ{n:Nat}{k:List Int}{ds:List D}:jG n (.dv k ds)=a_:=by cases n<;>rfl
theorem bN{ds:List D}:jG 0 (.tup ds)=a_:=rfl
theorem bM{ds:List D}:jG 0 (.lst ds)=a_:=rfl
set_option genInjectivity true in inductive Sl where|aX|val(b:Bool)(d:D)|own(b:Bool)(ds:List D)|lent(ds:List D)|ie(m:Dc)|hold(rows:List (List D))|cU(kvs:List (Int×D))deriving Inhabited
inductive R where|val(d:D)|own(ds:List D)deriving Inhabited
noncomputable def R.d:R->D|.val d=>d|.own ds=>.lst ds
inductive Res(α:Type)where|ok(a:α)(ρ:List Sl)|exc(k:Nat)(ρ:List Sl)|stuck deriving Inhabited
noncomputable def Res.bind{b c:Type}(f:b->List Sl->Res c):Res b->Res c|.ok a ρ=>f a ρ|.exc _ _=>.stuck|.stuck=>.stuck
noncomputable def lift{b:Type}(o:Option b)(ρ:List Sl):Res b:=match o with|some a=>.ok a ρ|none=>.stuck
inductive Op where|add|sub|mul|fdiv|mod|pow|shl|shr|band|Af|din|agm
inductive Cm where|eq|ne|lt|le|gt|ge|isN|QD|inn|wg|isT|aa7|leT
inductive Ty where|int|bool|str|tuple|list|none
inductive Blt where|len|list|tuple|min2|max2|Mi|Mj|sum|all|int|keys|sset|YW|rvT|Ml
inductive P where|var(i:Nat)|con(d:D)|bin(o:Op)(a b:P)|neg(a:P)|not(a:P)|and(a b:P)|or(a b:P)|cmp(o:Cm)(a b:P)|chain(o o':Cm)(a b c:P)|p6(o o' o2:Cm)(a b c d:P)|M8(c a b:P)|tup(as:List P)|lst(as:List P)|idx(a i:P)|slice(a lo hi:P)|call(f:Nat)(as:List P)|blt(b:Blt)(as:List P)|comp(src:P)(n:Nat)(is:List Nat)(one:Bool)(test:Option P)(elt:P)|qC(a b:P)|enm(a:P)|zip(a b:P)|YX(x:Nat)(k d:P)|vw(x:Nat)|R7(x:Nat)(k:P)|R8(x:Nat)(k:P)(neg:Bool)|CV(k e:Int)|wj(k e:Int)(p q:P)|YZ(x:Nat)(e:P)deriving Inhabited
noncomputable abbrev lim:Nat:=16777216
noncomputable def tV:D->D->Option R|.int i,.int j=>aU (.val (.int (i+j)))|.lst xs,.lst ys=>if xs.length+ys.length<=lim then aU (.own (xs++ys))else cr|.tup xs,.tup ys=>if xs.length+ys.length<=lim then aU (.val (.tup (xs++ys)))else cr|.str x,.str y=>if x.length+y.length<=lim then aU (.val (.str (x++y)))else cr|_,_=>cr
noncomputable def p7:D->D->Option R|.int i,.int j=>if((-18446744073709551616<i/\i<18446744073709551616)\/(-18446744073709551616<j/\j<18446744073709551616))then aU (.val (.int (i*j)))else cr|.lst xs,.int k=>if 0<=k/\0<xs.length/\xs.length*k.toNat<=lim then aU (.own (cE k.toNat xs).flatten)else cr|.tup xs,.int k=>if 0<=k/\0<xs.length/\xs.length*k.toNat<=lim then aU (.val (.tup (cE k.toNat xs).flatten))else cr|_,_=>cr
noncomputable def yU:D->D->Option R|.int i,.int j=>aU (.val (.int (i-j)))|_,_=>cr
noncomputable def rW:D->D->Option R|.int i,.int j=>if 0<j/\j<1606938044258990275541962092341162602522202993782792835301376 then aU (.val (.int (i/j)))else cr|_,_=>cr
noncomputable def Ad:D->D->Option R|.int i,.int j=>if 0<j then aU (.val (.int (i%j)))else cr|_,_=>cr
noncomputable def zR:D->D->Option R|.int i,.int j=>if 0<=j/\j<=1000/\i.natAbs<18446744073709551616 then aU (.val (.int (i^j.toNat)))else cr|_,_=>cr
noncomputable def Ld:D->D->Option R|.int i,.int j=>if 0<=j/\j<=1000/\i.natAbs<18446744073709551616 then aU (.val (.int (i*2^j.toNat)))else cr|_,_=>cr
noncomputable def Li:D->D->Option R|.int i,.int j=>if 0<=j then aU (.val (.int (i/2^j.toNat)))else cr|_,_=>cr
noncomputable def Aw:D->D->Option R|.int i,.int j=>aU (.val (.int (Builtin.bitAnd i j)))|_,_=>cr
noncomputable def flat:D->Bool|.tup _=>a_|.lst _=>a_|.dN _=>a_|.dv _ _=>a_|_=>cq
noncomputable def items:D->Option (List D)|.lst ds=>aU ds|.tup ds=>aU ds|_=>cr
noncomputable def T5:D->Option (List D)|.tup ds=>aU ds|_=>cr
noncomputable def Ka(x y:D):Option Bool:=if jG 8 x&&jG 8 y then aU (jO x y)else cr
noncomputable def Ik(x y:D):Option Bool:=if jG 8 x&&jG 8 y then aU (!jO x y)else cr
noncomputable def MT(f:Int->Int->Bool):D->D->Option Bool|.int i,.int j=>aU (f i j)|_,_=>cr
noncomputable def jU:D->Bool|.non=>cq|_=>a_
noncomputable def cmN(neg:Bool)(x:D):D->Option Bool|.non=>aU (if neg then !jU x else jU x)|_=>cr
noncomputable def uX(neg:Bool)(x y:D):Option Bool:=(items y).bind λys=>if(flat x&&ys.all flat)=cq then aU (if neg then !(ys.any λy=>jO y x)else ys.any λy=>jO y x)else cr
noncomputable def cmT(neg:Bool):D->D->Option Bool|.bl b,.bl cq=>aU (if neg then !b else b)|_,_=>cr
noncomputable def bz:List Int->List Int->Bool|[],_::_=>cq|i::is,j::js=>decide (i<j)||(decide (i=j)&&bz is js)|_,[]=>a_
noncomputable def cz:D->Int|.int i=>i|_=>0
noncomputable def cZ:D->List Int|.int i=>[i]|.tup ds=>ds.map cz|_=>[]
noncomputable def gj:D->Bool|.int _=>cq|_=>a_
noncomputable def Dc.get:Dc->D->Option (Option Int)|.k kvs,.int i=>aU ((kvs.find? λa=>decide (a.1=i)).map (·.2))|_,_=>cr
noncomputable def putD{κ:Type}[DecidableEq κ](kvs:List (κ×Int))(k:κ)(v:Int):List (κ×Int):=if(kvs.any λa=>decide (a.1=k))=cq then kvs.map (λa=>if a.1=k then(a.1,v)else a)else kvs++[(k,v)]
noncomputable def Dc.put:Dc->D->Int->Option Dc|.k kvs,.int i,v=>if kvs.length<lim then aU (.k (putD kvs i v))else cr|_,_,_=>cr
noncomputable def mD(kvs:List (Int×D))(k:Int):Option D:=(kvs.find? λp=>decide (p.1=k)).map (·.2)
noncomputable def gA(kvs:List (Int×D))(k:Int)(d:D):List (Int×D):=if(kvs.any λp=>decide (p.1=k))=cq then kvs.map (λp=>if p.1=k then(p.1,d)else p)else kvs++[(k,d)]
noncomputable def zF(neg:Bool):D->D->Option R|.int k,.dv ks _=>aU (.val (.bl (if neg then !ks.contains k else ks.contains k)))|_,_=>cr
noncomputable def Ez:D->D->Option R|.dN m,k=>(m.get k).bind λo=>o.map λv=>.val (.int v)|.dv ks ds,.int k=>(mD (ks.zip ds) k).map .val|_,_=>cr
noncomputable def nT:Op->D->D->Option R|.add=>tV|.mul=>p7|.sub=>yU|.fdiv=>rW|.mod=>Ad|.pow=>zR|.shl=>Ld|.shr=>Li|.band=>Aw|.Af=>Ez|.din=>zF a_|.agm=>zF cq
noncomputable def aav:D->D->Option Bool|.int i,.int j=>aU (decide (i<j))|.tup xs,.tup ys=>if(xs.all gj&&ys.all gj)=cq then aU (bz (xs.map cz) (ys.map cz))else cr|_,_=>cr
noncomputable def ae9:D->D->Option Bool|.int i,.int j=>aU (decide (i<=j))|.tup xs,.tup ys=>if(xs.all gj&&ys.all gj)=cq then aU (!bz (ys.map cz) (xs.map cz))else cr|_,_=>cr
noncomputable def cm:Cm->D->D->Option Bool|.eq=>Ka|.ne=>Ik|.lt=>aav|.le=>MT λi j=>decide (i<=j)|.leT=>ae9|.gt=>MT λi j=>decide (j<i)|.ge=>MT λi j=>decide (j<=i)|.isN=>cmN a_|.QD=>cmN cq|.inn=>uX a_|.wg=>uX cq|.isT=>cmT a_|.aa7=>cmT cq
noncomputable def mH(o:Cm)(x y:D):Option R:=(cm o x y).map λk=>.val (.bl k)
noncomputable def yq(ks:List Int)(k:Int):List Int:=if ks.contains k=cq then ks else ks++[k]
noncomputable def fj(ns:List Int):List Int:=ns.foldl yq []
noncomputable def jE(n:Nat)(i:Int):Option Nat:=if 0<=i then(if i<n then aU i.toNat else cr)else if-(n:Int)<=i then aU (i+n).toNat else cr
noncomputable def at'{a:Type}(xs:List a)(i:Int):Option a:=(jE xs.length i).bind λj=>xs[j]?
noncomputable def dM(n d:Nat):Option Int->Nat|none=>d|some i=>if 0<=i then min i.toNat n else(i+n).toNat
noncomputable def cut{a:Type}(xs:List a)(lo hi:Option Int):List a:=(xs.drop (dM xs.length 0 lo)).take (dM xs.length xs.length hi-dM xs.length 0 lo)
noncomputable def gB:D->Option Int|.int i=>aU i|_=>cr
noncomputable def Bs:D->Option Bool|.bl b=>aU b|_=>cr
noncomputable def dl2(k e:Int)(x y:D):Option R:=(gB x).bind λi=>(gB y).bind λj=>if i=k then cr else aU (.val (.dv [k,i] [.int e,.int j]))
noncomputable def NZ:D->D->Option R|.lst ds,.int i=>(ds.mapM gB).bind λns=>if i∈ns/\ns.length<=1000 then aU (.val (.int (ns.idxOf i)))else cr|_,_=>cr
noncomputable def M4(x y:D):Option R:=(items x).bind λds=>(gB y).bind λi=>(at' ds i).map .val
noncomputable def J2(x:D):Option R:=(gB x).map λi=>.val (.int (-i))
noncomputable def Za:P->Bool|.con .non=>cq|_=>a_
noncomputable def part(p:P)(d:D):Option (Option Int):=if Za p then aU cr else(gB d).map aU
noncomputable def QS:D->Option (Option Int)->Option (Option Int)->Option R|.lst xs,aU lo,aU hi=>aU (.own (cut xs lo hi))|.tup xs,aU lo,aU hi=>aU (.val (.tup (cut xs lo hi)))|_,_,_=>cr
noncomputable def du:Ty->D->Bool|.int,.int _=>cq|.int,.bl _=>cq|.bool,.bl _=>cq|.str,.str _=>cq|.tuple,.tup _=>cq|.list,.lst _=>cq|.none,.non=>cq|_,_=>a_
noncomputable def zc:D->Bool|.tup (x::xs)=>(x::xs).all gj|_=>a_
noncomputable def sortable(ds:List D):Bool:=decide (ds.length<=16777216)&&(ds.all gj||ds.all zc)
noncomputable def qP(ds:List D):List D:=ds.mergeSort λa b=>!bz (cZ b) (cZ a)
noncomputable def Cj:D->Option (List D)|.lst ds=>aU ds|_=>cr
noncomputable def kO(p:Int×Int):D:=.tup [.int p.1,.int p.2]
noncomputable def blt:Blt->List D->Option R|.len,[x]=>(items x).map λds=>.val (.int ds.length)|.list,[x]=>(items x).map λds=>.own ds|.tuple,[x]=>(items x).map λds=>.val (.tup ds)|.min2,[.int i,.int j]=>aU (.val (.int (if j<i then j else i)))|.max2,[.int i,.int j]=>aU (.val (.int (if i<j then j else i)))|.Mi,[x]=>((items x).bind λds=>ds.mapM gB).bind λns=>ns.min?.map λi=>.val (.int i)|.Mj,[x]=>((items x).bind λds=>ds.mapM gB).bind λns=>ns.max?.map λi=>.val (.int i)|.sum,[x]=>((items x).bind λds=>ds.mapM gB).map λns=>.val (.int ns.sum)|.all,[x]=>((Cj x).bind λds=>ds.mapM Bs).map λbs=>.val (.bl (bs.all id))|.int,[.int i]=>aU (.val (.int i))|.int,[.bl b]=>aU (.val (.int (if b then 1 else 0)))|.keys,[.dN (.k kvs)]=>aU (.val (.tup (kvs.map λp=>.int p.1)))|.keys,[.dv ks _]=>aU (.val (.tup (ks.map D.int)))|.sset,[.lst ds]=>if ds.length<64/\ds.all gj=cq then aU (.own (qP ((fj (ds.map cz)).map D.int)))else cr|.sset,[.tup ds]=>if ds.length<64/\ds.all gj=cq then aU (.own (qP ((fj (ds.map cz)).map D.int)))else cr|.YW,[.dv ks _]=>if ks.length<=16777216 then aU (.own (ks.map D.int))else cr|.rvT,[.lst ds]=>aU (.val (.tup ds.reverse))|.Ml,[.dN (.k kvs)]=>if kvs.length<=16777216/\kvs.Pairwise (λa b=>a.1<b.1)then aU (.own (kvs.map kO))else cr|_,_=>cr
noncomputable def pk(ρ:List Sl)(i:Nat):Option D:=match ρ[i]?with|some (.val _ d)=>aU d|some (.own _ ds)=>aU (.lst ds)|some (.lent ds)=>aU (.lst ds)|_=>cr
noncomputable def HQ(ρ:List Sl)(i:Nat):Option (List D):=match pk ρ i with|some (.lst ds)=>aU ds|_=>cr
noncomputable abbrev Ev:=List Sl->Res R
noncomputable def isVar:P->Option Nat|.var i=>aU i|_=>cr
noncomputable def bW(i:Option Nat)(e:Ev)(ρ:List Sl):Res D:=match i with|some i=>lift (pk ρ i) ρ|none=>(e ρ).bind λr ρ=>.ok r.d ρ
noncomputable def gq(i:Option Nat)(e:Ev)(j:Option Nat)(f:Ev)(ρ:List Sl):Res (D×D):=match i with|some i=>(lift (pk ρ i) ρ).bind λ_ ρ=>(bW j f ρ).bind λy ρ=>(lift (pk ρ i) ρ).bind λx ρ=>.ok (x,y) ρ|none=>(bW cr e ρ).bind λx ρ=>(bW j f ρ).bind λy ρ=>.ok (x,y) ρ
noncomputable def lO(e:Ev)(ρ:List Sl):Res Bool:=(e ρ).bind λr ρ=>lift (Bs r.d) ρ
set_option genInjectivity true in inductive Arg where|dat(d:D)|tmp(ds:List D)|fX(i:Nat)
noncomputable def vy:R->Arg|.val d=>.dat d|.own ds=>.tmp ds
noncomputable def cj(ρ:List Sl):List Arg->List Nat->Option (List Sl)|[],_=>aU []|.dat d::r,a=>(cj ρ r a).map λs=>.val a_ d::s|.tmp ds::r,a=>(cj ρ r a).map λs=>.own a_ ds::s|.fX i::r,a=>match ρ[i]?with|some (.val _ d)=>(cj ρ r a).map λs=>.val a_ d::s|some (.own _ ds)=>if a.contains i then cr else(cj ρ r (i::a)).map λs=>.own cq ds::s|some (.lent ds)=>if a.contains i then cr else(cj ρ r (i::a)).map λs=>.lent ds::s|_=>cr
theorem Ar{ρ:List Sl}{u:List Nat}:cj ρ [] u=aU []:=rfl
theorem CP{ρ:List Sl}{d:D}{r:List Arg}{u:List Nat}:cj ρ (.dat d::r) u=(cj ρ r u).map λs=>.val a_ d::s:=rfl
theorem CK{ρ:List Sl}{d:List D}{r:List Arg}{u:List Nat}:cj ρ (.tmp d::r) u=(cj ρ r u).map λs=>.own a_ d::s:=rfl
theorem uf{ρ:List Sl}{i:Nat}{r:List Arg}{u:List Nat}:cj ρ (.fX i::r) u=match ρ[i]?with|some (.val _ d)=>(cj ρ r u).map λs=>.val a_ d::s|some (.own _ ds)=>if u.contains i then cr else(cj ρ r (i::u)).map λs=>.own cq ds::s|some (.lent ds)=>if u.contains i then cr else(cj ρ r (i::u)).map λs=>.lent ds::s|_=>cr:=rfl
noncomputable def aY(i:Nat):List Arg->List Sl->Option Sl|.fX k::as,s::ss=>if k=i then aU s else aY i as ss|.dat _::as,_::ss=>aY i as ss|.tmp _::as,_::ss=>aY i as ss|_,_=>cr
noncomputable def eG:Sl->Option Sl->Sl|.own b _,aU (.own _ ds)=>.own b ds|.own b _,aU (.val _ d)=>.val b d|s,_=>s
noncomputable def fu(as:List Arg)(ss:List Sl):Nat->List Sl->List Sl|_,[]=>[]|i,s::ρ=>eG s (aY i as ss)::fu as ss (i+1) ρ
theorem sH{as:List Arg}{ss:List Sl}{i:Nat}:fu as ss i []=[]:=rfl
theorem mW{as:List Arg}{ss:List Sl}{i:Nat}{s:Sl}{ρ:List Sl}:fu as ss i (s::ρ)=eG s (aY i as ss)::fu as ss (i+1) ρ:=rfl
noncomputable abbrev Call:=Nat->List Sl->Res R
noncomputable def sZ(c:Call)(f:Nat)(as:List Arg)(ρ:List Sl):Res R:=match cj ρ as []with|none=>.stuck|some args=>match c f args with|.ok r a=>.ok r (fu as a 0 ρ)|.exc _ _=>.stuck|.stuck=>.stuck
noncomputable def put(ρ:List Sl)(i:Nat)(s:Sl):Option (List Sl):=match ρ[i]?with|some .aX=>aU (ρ.set i s)|some (.val a_ _)=>aU (ρ.set i s)|some (.own a_ _)=>aU (ρ.set i s)|_=>cr
noncomputable def putAll(ρ:List Sl):List Nat->List D->Option (List Sl)|[],[]=>aU ρ|i::is,d::ds=>(put ρ i (.val a_ d)).bind λρ=>putAll ρ is ds|_,_=>cr
theorem lg{ρ:List Sl}:putAll ρ [] []=aU ρ:=rfl
theorem jg{ρ:List Sl}{i:Nat}{is:List Nat}{d:D}{ds:List D}:putAll ρ (i::is) (d::ds)=(put ρ i (.val a_ d)).bind λρ=>putAll ρ is ds:=rfl
theorem pL{ρ:List Sl}{i:Nat}{is:List Nat}:putAll ρ (i::is) []=cr:=rfl
theorem pQ{ρ:List Sl}{d:D}{ds:List D}:putAll ρ [] (d::ds)=cr:=rfl
noncomputable def cP(ρ:List Sl)(is:List Nat)(one:Bool)(d:D):Option (List Sl):=match one,is,d with|true,[i],d=>put ρ i (.val a_ d)|false,is,.tup ds=>putAll ρ is ds|_,_,_=>cr
noncomputable def srcOf(i:Option Nat)(e:Ev)(ρ:List Sl):Res (List D):=match i with
 |some i=>match ρ[i]?with|some (.val _ d)=>lift (items d) ρ|some (.own _ ds)=>.ok ds (ρ.set i (.lent ds))|some (.lent ds)=>.ok ds ρ|_=>.stuck
 |none=>(e ρ).bind λr ρ=>lift (items r.d) ρ
noncomputable def bA(a:List Sl)(i:Option Nat)(ρ:List Sl):List Sl:=match i with
 |some i=>match a[i]?with|some (.own b ds)=>ρ.set i (.own b ds)|_=>ρ
 |none=>ρ
noncomputable def turns(is:List Nat)(one:Bool)(a:List Sl->Res Bool)(e:Ev):List D->List D->List Sl->Res (List D)|[],c,ρ=>.ok c ρ|d::r,c,ρ=>match cP ρ is one d with|none=>.stuck|some ρ=>(a ρ).bind λb ρ=>if b then(e ρ).bind λx ρ=>turns is one a e r (c++[x.d]) ρ else turns is one a e r c ρ
theorem xY{is:List Nat}{o:Bool}{f:List Sl->Res Bool}{e:Ev}{a:List D}{ρ:List Sl}:turns is o f e [] a ρ=.ok a ρ:=rfl
theorem xr{is:List Nat}{o:Bool}{f:List Sl->Res Bool}{e:Ev}{d:D}{r a:List D}{ρ:List Sl}:turns is o f e (d::r) a ρ=match cP ρ is o d with|none=>.stuck|some ρ=>(f ρ).bind λb ρ=>if b then(e ρ).bind λx ρ=>turns is o f e r (a++[x.d]) ρ else turns is o f e r a ρ:=rfl
mutual
noncomputable def ev(c:Call):P->List Sl->Res R
 |.var i,ρ=>match ρ[i]?with|some (.val _ d)=>.ok (.val d) ρ|some (.own b ds)=>.ok (.val (.lst ds)) (ρ.set i (.val b (.lst ds)))|some (.ie (.k kvs))=>.ok (.val (.dN (.k kvs))) (ρ.set i (.val a_ (.dN (.k kvs))))|some (.cU kvs)=>.ok (.val (.dv (kvs.map (·.1)) (kvs.map (·.2)))) (ρ.set i (.val a_ (.dv (kvs.map (·.1)) (kvs.map (·.2)))))|_=>.stuck
 |.con d,ρ=>.ok (.val d) ρ|.bin o a b,ρ=>(gq (isVar a) (ev c a) (isVar b) (ev c b) ρ).bind λg ρ=>lift (nT o g.1 g.2) ρ|.neg a,ρ=>(bW (isVar a) (ev c a) ρ).bind λx ρ=>lift (J2 x) ρ|.not a,ρ=>(lO (ev c a) ρ).bind λb ρ=>.ok (.val (.bl (!b))) ρ|.and a b,ρ=>(lO (ev c a) ρ).bind λx ρ=>if x then(lO (ev c b) ρ).bind λy ρ=>.ok (.val (.bl y)) ρ else .ok (.val (.bl a_)) ρ|.or a b,ρ=>(lO (ev c a) ρ).bind λx ρ=>if x then .ok (.val (.bl cq)) ρ else(lO (ev c b) ρ).bind λy ρ=>.ok (.val (.bl y)) ρ|.cmp o a b,ρ=>(gq (isVar a) (ev c a) (isVar b) (ev c b) ρ).bind λg ρ=>lift (mH o g.1 g.2) ρ|.chain o C a b d,ρ=>(gq (isVar a) (ev c a) (isVar b) (ev c b) ρ).bind λg ρ=>(lift (if flat g.2=cq then cm o g.1 g.2 else cr) ρ).bind λk ρ=>if k then(bW (isVar d) (ev c d) ρ).bind λz ρ=>lift (mH C g.2 z) ρ else .ok (.val (.bl a_)) ρ|.p6 o C G a b d e,ρ=>(gq (isVar a) (ev c a) (isVar b) (ev c b) ρ).bind λg ρ=>(lift (if flat g.2=cq then cm o g.1 g.2 else cr) ρ).bind λk ρ=>if k then(bW (isVar d) (ev c d) ρ).bind λz ρ=>(lift (if flat z=cq then cm C g.2 z else cr) ρ).bind λH ρ=>if H then(bW (isVar e) (ev c e) ρ).bind λu ρ=>lift (mH G z u) ρ else .ok (.val (.bl a_)) ρ else .ok (.val (.bl a_)) ρ|.M8 t a b,ρ=>(lO (ev c t) ρ).bind λk ρ=>if k then(ev c a ρ).bind λr ρ=>.ok (.val r.d) ρ else(ev c b ρ).bind λr ρ=>.ok (.val r.d) ρ|.tup as,ρ=>(evs c as ρ).bind λds ρ=>.ok (.val (.tup ds)) ρ|.lst as,ρ=>(evs c as ρ).bind λds ρ=>.ok (.own ds) ρ|.idx a i,ρ=>(gq (isVar a) (ev c a) (isVar i) (ev c i) ρ).bind λg ρ=>lift (M4 g.1 g.2) ρ|.slice a l h,ρ=>match isVar a with|some i=>(lift (pk ρ i) ρ).bind λ_ ρ=>(bW (isVar l) (ev c l) ρ).bind λy ρ=>(bW (isVar h) (ev c h) ρ).bind λz ρ=>(lift (pk ρ i) ρ).bind λx ρ=>lift (QS x (part l y) (part h z)) ρ|none=>(bW cr (ev c a) ρ).bind λx ρ=>(bW (isVar l) (ev c l) ρ).bind λy ρ=>(bW (isVar h) (ev c h) ρ).bind λz ρ=>lift (QS x (part l y) (part h z)) ρ
 |.call f as,ρ=>(Bp c as ρ).bind λxs ρ=>sZ c f xs ρ|.blt b [a],ρ=>(bW (isVar a) (ev c a) ρ).bind λx ρ=>lift (blt b [x]) ρ|.blt b as,ρ=>(evs c as ρ).bind λds ρ=>lift (blt b ds) ρ|.comp src n is one A E,ρ=>(srcOf (isVar src) (ev c src) ρ).bind λds s=>if ds.length<=lim then(turns is one (qg c A) (ev c E) ds [] (s++cE n .aX)).bind λxs w=>.ok (.own xs) (bA ρ (isVar src) (w.take s.length))else .stuck|.qC a b,ρ=>(gq (isVar a) (ev c a) (isVar b) (ev c b) ρ).bind λg ρ=>lift ((gB g.1).bind λi=>(gB g.2).bind λj=>if-1000000<=i/\i<=1000000000/\j<=1000000000/\-1000000000<=j then aU (.val (.lst ((dE (j-i).toNat).map λ(k:Nat)=>D.int (i+(k:Int)))))else cr) ρ|.enm a,ρ=>(ev c a ρ).bind λr ρ=>lift ((items r.d).map λds=>.val (.lst (ds.mapIdx λi d=>D.tup [.int (i:Int),d]))) ρ|.zip a b,ρ=>(ev c a ρ).bind λx ρ=>(ev c b ρ).bind λy ρ=>lift ((items x.d).bind λds=>(items y.d).map λes=>.val (.lst ((ds.zip es).map λp=>D.tup [p.1,p.2]))) ρ|.YX x k d,ρ=>match ρ[x]?with
   |some (.ie _)=>(bW (isVar k) (ev c k) ρ).bind λB ρ=>(bW (isVar d) (ev c d) ρ).bind λI ρ=>match ρ[x]?with|some (.ie m)=>lift ((m.get B).bind λo=>(gB I).map λv=>.val (.int (o.getD v))) ρ|_=>.stuck
   |_=>.stuck
 |.vw x,ρ=>match ρ[x]?with|some (.ie m)=>.ok (.val (.dN m)) (ρ.set x (.val a_ (.dN m)))|some (.cU kvs)=>.ok (.val (.dv (kvs.map (·.1)) (kvs.map (·.2)))) (ρ.set x (.val a_ (.dv (kvs.map (·.1)) (kvs.map (·.2)))))|some (.own b ds)=>.ok (.val (.lst ds)) (ρ.set x (.val b (.lst ds)))|some (.val _ d)=>.ok (.val d) ρ|_=>.stuck
 |.R7 x k,ρ=>match ρ[x]?with
   |some (.cU _)=>(bW (isVar k) (ev c k) ρ).bind λB ρ=>match ρ[x]?with|some (.cU kvs)=>lift ((gB B).bind λk=>(mD kvs k).map .val) ρ|_=>.stuck
   |_=>.stuck
 |.R8 x k neg,ρ=>(bW (isVar k) (ev c k) ρ).bind λB ρ=>match ρ[x]?with|some (.cU kvs)=>lift ((gB B).map λk=>.val (.bl (if neg then !(kvs.map (·.1)).contains k else(kvs.map (·.1)).contains k))) ρ|_=>.stuck
 |.CV k e,ρ=>.ok (.val (.dv [k] [.int e])) ρ|.wj k e p q,ρ=>(bW (isVar p) (ev c p) ρ).bind λx ρ=>(bW (isVar q) (ev c q) ρ).bind λy ρ=>lift (dl2 k e x y) ρ|.YZ x e,ρ=>(lift (pk ρ x) ρ).bind λ_ ρ=>(bW (isVar e) (ev c e) ρ).bind λk ρ=>(lift (pk ρ x) ρ).bind λd ρ=>lift (NZ d k) ρ
noncomputable def evs(c:Call):List P->List Sl->Res (List D)|[],ρ=>.ok [] ρ|a::r,ρ=>(ev c a ρ).bind λx ρ=>(evs c r ρ).bind λxs ρ=>.ok (x.d::xs) ρ
noncomputable def Bp(c:Call):List P->List Sl->Res (List Arg)|[],ρ=>.ok [] ρ|a::r,ρ=>match isVar a with|some i=>(lift (pk ρ i) ρ).bind λ_ ρ=>(Bp c r ρ).bind λxs ρ=>.ok (.fX i::xs) ρ|none=>(ev c a ρ).bind λx ρ=>(Bp c r ρ).bind λxs ρ=>.ok (vy x::xs) ρ
noncomputable def qg(c:Call):Option P->List Sl->Res Bool|none,ρ=>.ok cq ρ|some t,ρ=>lO (ev c t) ρ
end
theorem Jf{c:Call}{ρ:List Sl}:evs c [] ρ=.ok [] ρ:=rfl
theorem KH{c:Call}{a:P}{r:List P}{ρ:List Sl}:evs c (a::r) ρ=(_H.ev c a ρ).bind λx ρ=>(evs c r ρ).bind λxs ρ=>.ok (x.d::xs) ρ:=rfl
theorem Il{c:Call}{ρ:List Sl}:Bp c [] ρ=.ok [] ρ:=rfl
theorem Ay{c:Call}{a:P}{r:List P}{ρ:List Sl}:Bp c (a::r) ρ=match isVar a with|some i=>(lift (pk ρ i) ρ).bind λ_ ρ=>(Bp c r ρ).bind λxs ρ=>.ok (.fX i::xs) ρ|none=>(_H.ev c a ρ).bind λx ρ=>(Bp c r ρ).bind λxs ρ=>.ok (vy x::xs) ρ:=rfl
theorem E1{c i ρ}:ev c (.var i) ρ=match ρ[i]?with|some (.val _ d)=>.ok (.val d) ρ|some (.own b ds)=>.ok (.val (.lst ds)) (ρ.set i (.val b (.lst ds)))|some (.ie (.k kvs))=>.ok (.val (.dN (.k kvs))) (ρ.set i (.val a_ (.dN (.k kvs))))|some (.cU kvs)=>.ok (.val (.dv (kvs.map (·.1)) (kvs.map (·.2)))) (ρ.set i (.val a_ (.dv (kvs.map (·.1)) (kvs.map (·.2)))))|_=>.stuck:=(rfl)
theorem E2{c d ρ}:ev c (.con d) ρ=.ok (.val d) ρ:=(rfl)
theorem E3{c o a b ρ}:ev c (.bin o a b) ρ=(gq (isVar a) (ev c a) (isVar b) (ev c b) ρ).bind λe ρ=>lift (nT o e.1 e.2) ρ:=(rfl)
theorem E4{c a ρ}:ev c (.neg a) ρ=(bW (isVar a) (ev c a) ρ).bind λx ρ=>lift (J2 x) ρ:=(rfl)
theorem E5{c a ρ}:ev c (.not a) ρ=(lO (ev c a) ρ).bind λb ρ=>.ok (.val (.bl (!b))) ρ:=(rfl)
theorem E6{c a b ρ}:ev c (.and a b) ρ=(lO (ev c a) ρ).bind λx ρ=>if x then(lO (ev c b) ρ).bind λy ρ=>.ok (.val (.bl y)) ρ else .ok (.val (.bl a_)) ρ:=(rfl)
theorem E7{c a b ρ}:ev c (.or a b) ρ=(lO (ev c a) ρ).bind λx ρ=>if x then .ok (.val (.bl cq)) ρ else(lO (ev c b) ρ).bind λy ρ=>.ok (.val (.bl y)) ρ:=(rfl)
theorem E8{c o a b ρ}:ev c (.cmp o a b) ρ=(gq (isVar a) (ev c a) (isVar b) (ev c b) ρ).bind λe ρ=>lift (mH o e.1 e.2) ρ:=(rfl)
theorem E9{c o o' a b d ρ}:ev c (.chain o o' a b d) ρ=(gq (isVar a) (ev c a) (isVar b) (ev c b) ρ).bind λe ρ=>(lift (if flat e.2=cq then cm o e.1 e.2 else cr) ρ).bind λk ρ=>if k then(bW (isVar d) (ev c d) ρ).bind λz ρ=>lift (mH o' e.2 z) ρ else .ok (.val (.bl a_)) ρ:=(rfl)
theorem E10{c o o' o2 a b d e ρ}:ev c (.p6 o o' o2 a b d e) ρ=(gq (isVar a) (ev c a) (isVar b) (ev c b) ρ).bind λf ρ=>(lift (if flat f.2=cq then cm o f.1 f.2 else cr) ρ).bind λk ρ=>if k then(bW (isVar d) (ev c d) ρ).bind λz ρ=>(lift (if flat z=cq then cm o' f.2 z else cr) ρ).bind λg ρ=>if g then(bW (isVar e) (ev c e) ρ).bind λu ρ=>lift (mH o2 z u) ρ else .ok (.val (.bl a_)) ρ else .ok (.val (.bl a_)) ρ:=(rfl)
theorem E11{c t a b ρ}:ev c (.M8 t a b) ρ=(lO (ev c t) ρ).bind λk ρ=>if k then(ev c a ρ).bind λr ρ=>.ok (.val r.d) ρ else(ev c b ρ).bind λr ρ=>.ok (.val r.d) ρ:=(rfl)
theorem E12{c as ρ}:ev c (.tup as) ρ=(evs c as ρ).bind λds ρ=>.ok (.val (.tup ds)) ρ:=(rfl)
theorem E13{c as ρ}:ev c (.lst as) ρ=(evs c as ρ).bind λds ρ=>.ok (.own ds) ρ:=(rfl)
theorem E14{c a i ρ}:ev c (.idx a i) ρ=(gq (isVar a) (ev c a) (isVar i) (ev c i) ρ).bind λb ρ=>lift (M4 b.1 b.2) ρ:=(rfl)
theorem E15{c a l h ρ}:ev c (.slice a l h) ρ=match isVar a with|some i=>(lift (pk ρ i) ρ).bind λ_ ρ=>(bW (isVar l) (ev c l) ρ).bind λy ρ=>(bW (isVar h) (ev c h) ρ).bind λz ρ=>(lift (pk ρ i) ρ).bind λx ρ=>lift (QS x (part l y) (part h z)) ρ|none=>(bW cr (ev c a) ρ).bind λx ρ=>(bW (isVar l) (ev c l) ρ).bind λy ρ=>(bW (isVar h) (ev c h) ρ).bind λz ρ=>lift (QS x (part l y) (part h z)) ρ:=(rfl)
theorem E16{c f as ρ}:ev c (.call f as) ρ=(Bp c as ρ).bind λxs ρ=>sZ c f xs ρ:=(rfl)
theorem E17{c b a ρ}:ev c (.blt b [a]) ρ=(bW (isVar a) (ev c a) ρ).bind λx ρ=>lift (blt b [x]) ρ:=(rfl)
theorem E18{c b x y r ρ}:ev c (.blt b (x::y::r)) ρ=(evs c (x::y::r) ρ).bind λds ρ=>lift (blt b ds) ρ:=(rfl)
theorem ZW{c b ρ}:ev c (.blt b []) ρ=(evs c [] ρ).bind λds ρ=>lift (blt b ds) ρ:=(rfl)
theorem E19{c src n is one test elt ρ}:ev c (.comp src n is one test elt) ρ=(srcOf (isVar src) (ev c src) ρ).bind λds a=>if ds.length<=lim then(turns is one (qg c test) (ev c elt) ds [] (a++cE n .aX)).bind λxs b=>.ok (.own xs) (bA ρ (isVar src) (b.take a.length))else .stuck:=(rfl)
theorem E20{c a b ρ}:ev c (.qC a b) ρ=(gq (isVar a) (ev c a) (isVar b) (ev c b) ρ).bind λe ρ=>lift ((gB e.1).bind λi=>(gB e.2).bind λj=>if-1000000<=i/\i<=1000000000/\j<=1000000000/\-1000000000<=j then aU (.val (.lst ((dE (j-i).toNat).map λ(k:Nat)=>D.int (i+(k:Int)))))else cr) ρ:=(rfl)
theorem E21{c a ρ}:ev c (.enm a) ρ=(ev c a ρ).bind λr ρ=>lift ((items r.d).map λds=>.val (.lst (ds.mapIdx λi d=>D.tup [.int (i:Int),d]))) ρ:=(rfl)
theorem E22{c a b ρ}:ev c (.zip a b) ρ=(ev c a ρ).bind λx ρ=>(ev c b ρ).bind λy ρ=>lift ((items x.d).bind λds=>(items y.d).map λes=>.val (.lst ((ds.zip es).map λp=>D.tup [p.1,p.2]))) ρ:=(rfl)
theorem E23{c x k d ρ}:ev c (.YX x k d) ρ=match ρ[x]?with
 |some (.ie _)=>(bW (isVar k) (ev c k) ρ).bind λa ρ=>(bW (isVar d) (ev c d) ρ).bind λb ρ=>match ρ[x]?with|some (.ie m)=>lift ((m.get a).bind λo=>(gB b).map λv=>.val (.int (o.getD v))) ρ|_=>.stuck
 |_=>.stuck:=(rfl)
theorem E24{c x ρ}:ev c (.vw x) ρ=match ρ[x]?with|some (.ie m)=>.ok (.val (.dN m)) (ρ.set x (.val a_ (.dN m)))|some (.cU kvs)=>.ok (.val (.dv (kvs.map (·.1)) (kvs.map (·.2)))) (ρ.set x (.val a_ (.dv (kvs.map (·.1)) (kvs.map (·.2)))))|some (.own b ds)=>.ok (.val (.lst ds)) (ρ.set x (.val b (.lst ds)))|some (.val _ d)=>.ok (.val d) ρ|_=>.stuck:=(rfl)
theorem E25{c x k ρ}:ev c (.R7 x k) ρ=match ρ[x]?with
 |some (.cU _)=>(bW (isVar k) (ev c k) ρ).bind λa ρ=>match ρ[x]?with|some (.cU kvs)=>lift ((gB a).bind λk=>(mD kvs k).map .val) ρ|_=>.stuck
 |_=>.stuck:=(rfl)
theorem E26{c x k neg ρ}:ev c (.R8 x k neg) ρ=(bW (isVar k) (ev c k) ρ).bind λa ρ=>match ρ[x]?with|some (.cU kvs)=>lift ((gB a).map λk=>.val (.bl (if neg then !(kvs.map (·.1)).contains k else(kvs.map (·.1)).contains k))) ρ|_=>.stuck:=(rfl)
theorem E27{c k e ρ}:ev c (.CV k e) ρ=.ok (.val (.dv [k] [.int e])) ρ:=(rfl)
theorem E28{c k e p q ρ}:ev c (.wj k e p q) ρ=(bW (isVar p) (ev c p) ρ).bind λx ρ=>(bW (isVar q) (ev c q) ρ).bind λy ρ=>lift (dl2 k e x y) ρ:=(rfl)
theorem E29{c x e ρ}:ev c (.YZ x e) ρ=(lift (pk ρ x) ρ).bind λ_ ρ=>(bW (isVar e) (ev c e) ρ).bind λk ρ=>(lift (pk ρ x) ρ).bind λd ρ=>lift (NZ d k) ρ:=(rfl)
inductive S where|pass|brk|cont|bad|expr(e:P)|asg(i:Nat)(e:P)|par(i j:Nat)(a b:P)|Hx(x:Nat)(i e:P)|app(x:Nat)(e:P)|ret(e:P)|aa9|ifs(c:P)(a b:List S)|jJ(src:P)(i:List Nat)(one:Bool)(body:List S)|whl(c:P)(body:List S)|aug(x:Nat)(sub:Bool)(e:P)|Mm(x:Nat)(i:P)(sub:Bool)(e:P)|Mp(x:Nat)(t:Bool)|dput(x:Nat)(k e:P)|Mq(x:Nat)(src:P)(k:Nat)(is:List Nat)(one:Bool)(elt:P)|Mr(x:Nat)(i e:P)|Hy(src:P)(is:List Nat)(one:Bool)(body:List S)|dw(x:Nat)|Hz(x:Nat)|Ms(x:Nat)(k e:Int)|gA(x:Nat)(k e:P)deriving Inhabited
inductive Fl where|next|brk|cont|ret(r:R)deriving Inhabited
noncomputable def Ax:R->Sl|.val d=>.val a_ d|.own ds=>.own a_ ds
noncomputable def jl(is:List Nat)(one:Bool)(body:List Sl->Res Fl):List D->List Sl->Res Fl|[],ρ=>.ok .next ρ|d::r,ρ=>match cP ρ is one d with|none=>.stuck|some ρ=>(body ρ).bind λfl ρ=>match fl with|.next=>jl is one body r ρ|.cont=>jl is one body r ρ|.brk=>.ok .next ρ|.ret r=>.ok (.ret r) ρ
theorem Ja{is:List Nat}{o:Bool}{b:List Sl->Res Fl}{ρ:List Sl}:jl is o b [] ρ=.ok .next ρ:=rfl
theorem CG{is:List Nat}{o:Bool}{b:List Sl->Res Fl}{d:D}{r:List D}{ρ:List Sl}:jl is o b (d::r) ρ=match cP ρ is o d with|none=>.stuck|some ρ=>(b ρ).bind λfl ρ=>match fl with|.next=>jl is o b r ρ|.cont=>jl is o b r ρ|.brk=>.ok .next ρ|.ret r=>.ok (.ret r) ρ:=rfl
noncomputable def ug(a:List Sl->Res Bool)(body:List Sl->Res Fl):Nat->List Sl->Res Fl|0,_=>.stuck|n+1,ρ=>(a ρ).bind λb ρ=>if b then(body ρ).bind λfl ρ=>match fl with|.next=>ug a body n ρ|.cont=>ug a body n ρ|.brk=>.ok .next ρ|.ret r=>.ok (.ret r) ρ else .ok .next ρ
theorem Uo{f:List Sl->Res Bool}{b:List Sl->Res Fl}{ρ:List Sl}:ug f b 0 ρ=.stuck:=rfl
theorem JV{f:List Sl->Res Bool}{b:List Sl->Res Fl}{n:Nat}{ρ:List Sl}:ug f b (n+1) ρ=(f ρ).bind λx ρ=>if x then(b ρ).bind λfl ρ=>match fl with|.next=>ug f b n ρ|.cont=>ug f b n ρ|.brk=>.ok .next ρ|.ret r=>.ok (.ret r) ρ else .ok .next ρ:=rfl
noncomputable def gR(is:List Nat)(one:Bool)(b:Ev):List D->List (List D)->List Sl->Res (List (List D))|[],a,ρ=>.ok a ρ|d::r,a,ρ=>match cP ρ is one d with|none=>.stuck|some ρ=>(b ρ).bind λx ρ=>match x with|.own ds=>gR is one b r (a++[ds]) ρ|.val _=>.stuck
theorem Iz{is:List Nat}{o:Bool}{e:Ev}{a:List (List D)}{ρ:List Sl}:gR is o e [] a ρ=.ok a ρ:=rfl
theorem Ks{is:List Nat}{o:Bool}{e:Ev}{d:D}{r:List D}{a:List (List D)}{ρ:List Sl}:gR is o e (d::r) a ρ=match cP ρ is o d with|none=>.stuck|some ρ=>(e ρ).bind λx ρ=>match x with|.own ds=>gR is o e r (a++[ds]) ρ|.val _=>.stuck:=rfl
noncomputable def rowAt(a:List (List D))(k:Int):Option (List D):=(jE a.length k).bind λr=>a[r]?
noncomputable def kJ(a:List (List D))(k:Int)(f:List D->Option (List D)):Option (List (List D)):=(jE a.length k).bind λr=>(a[r]?).bind λrow=>(f row).map λb=>a.set r b
noncomputable def jA(ρ:List Sl)(x:Nat):Option (List (List D)):=match ρ[x]?with|some (.hold a)=>aU a|_=>cr
noncomputable def wH(ρ:List Sl)(x:Nat)(k:D):Option (List D):=(jA ρ x).bind λa=>(gB k).bind λk=>rowAt a k
noncomputable def Gs(ρ:List Sl)(x:Nat)(o:Option (List (List D))):Res Fl:=match o with|some a=>.ok .next (ρ.set x (.hold a))|none=>.stuck
noncomputable def Tz(is:List Nat)(one:Bool)(body:List Sl->Res Fl)(b:List Sl->Option (Nat×List Sl)):List D->List Sl->Option (Nat×List Sl)|[],_=>cr|d::r,ρ=>match cP ρ is one d with|none=>cr|some ρ=>match b ρ with|some x=>aU x|none=>match body ρ with|.ok .next a=>Tz is one body b r a|.ok .cont a=>Tz is one body b r a|_=>cr
noncomputable def Uw:P->P|.idx a _=>a|e=>e
noncomputable def RD(c:Call)(e:P)(ρ:List Sl):Option (Nat×List Sl):=match Uw e with
 |.call f as=>match Bp c as ρ with
   |.ok xs b=>match cj b xs []with
     |some args=>match c f args with|.exc k a=>aU (k,fu xs a 0 b)|_=>cr
     |none=>cr
   |_=>cr
 |_=>cr
mutual
noncomputable def ex(c:Call)(n:Nat):S->List Sl->Res Fl
 |.pass,ρ=>.ok .next ρ|.brk,ρ=>.ok .brk ρ|.cont,ρ=>.ok .cont ρ|.bad,_=>.stuck|.expr e,ρ=>(ev c e ρ).bind λ_ ρ=>.ok .next ρ|.asg i e,ρ=>(ev c e ρ).bind λr ρ=>(lift (put ρ i (Ax r)) ρ).bind λh _=>.ok .next h|.par i j a b,ρ=>(ev c a ρ).bind λx ρ=>(ev c b ρ).bind λy ρ=>(lift ((put ρ i (.val a_ x.d)).bind λρ=>put ρ j (.val a_ y.d)) ρ).bind λh _=>.ok .next h|.Hx x i e,ρ=>(ev c e ρ).bind λr ρ=>(lift (pk ρ x) ρ).bind λ_ ρ=>(bW (isVar i) (ev c i) ρ).bind λk ρ=>match ρ[x]?,k with
   |some (.own b ds),.int k=>match jE ds.length k with|some j=>.ok .next (ρ.set x (.own b (ds.set j r.d)))|none=>.stuck
   |_,_=>.stuck
 |.app x e,ρ=>(lift (HQ ρ x) ρ).bind λ_ ρ=>(ev c e ρ).bind λr ρ=>match ρ[x]?with|some (.own b ds)=>if ds.length<lim then .ok .next (ρ.set x (.own b (ds++[r.d])))else .stuck|_=>.stuck
 |.ret e,ρ=>match isVar e with
   |some i=>match ρ[i]?with|some (.own a_ ds)=>.ok (.ret (.own ds)) (ρ.set i .aX)|_=>(ev c e ρ).bind λr ρ=>.ok (.ret r) ρ
   |none=>(ev c e ρ).bind λr ρ=>.ok (.ret r) ρ
 |.aa9,ρ=>.ok (.ret (.val .non)) ρ|.ifs t a b,ρ=>(lO (ev c t) ρ).bind λk ρ=>if k then iG c n a ρ else iG c n b ρ|.jJ src is one body,ρ=>(srcOf (isVar src) (ev c src) ρ).bind λds f=>(jl is one (iG c n body) ds f).bind λfl o=>.ok fl (bA ρ (isVar src) o)|.whl t body,ρ=>ug (lO (ev c t)) (iG c n body) n ρ|.aug x sub e,ρ=>(lift (pk ρ x) ρ).bind λa ρ=>(bW (isVar e) (ev c e) ρ).bind λb ρ=>match a,b with|.int i,.int j=>(lift (put ρ x (.val a_ (.int (if sub then i-j else i+j)))) ρ).bind λh _=>.ok .next h|_,_=>.stuck
 |.Mm x i sub e,ρ=>(lift (HQ ρ x) ρ).bind λ_ ρ=>(bW (isVar i) (ev c i) ρ).bind λk ρ=>(lift (HQ ρ x) ρ).bind λl ρ=>(lift ((gB k).bind λi=>at' l i) ρ).bind λa ρ=>(bW (isVar e) (ev c e) ρ).bind λb ρ=>match a,b,ρ[x]?,k with
   |.int u,.int v,aU (.own s ds),.int k=>match jE ds.length k with|some j=>.ok .next (ρ.set x (.own s (ds.set j (.int (if sub then u-v else u+v)))))|none=>.stuck
   |_,_,_,_=>.stuck
 |.Mp x t,ρ=>match ρ[x]?with|some .aX=>.ok .next (ρ.set x (.ie (if t then .t []else .k [])))|_=>.stuck
 |.dput x k e,ρ=>(ev c e ρ).bind λr ρ=>match ρ[x]?with
   |some (.ie _)=>(bW (isVar k) (ev c k) ρ).bind λp ρ=>match ρ[x]?,r with
     |some (.ie m),.val (.int v)=>match m.put p v with|some w=>.ok .next (ρ.set x (.ie w))|none=>.stuck
     |_,_=>.stuck
   |_=>.stuck
 |.Mq x src k is one q,ρ=>(srcOf (isVar src) (ev c src) ρ).bind λds f=>if ds.length<=lim then(gR is one (ev c q) ds [] (f++cE k .aX)).bind λg o=>(lift (put (bA ρ (isVar src) (o.take f.length)) x (.hold g)) ρ).bind λh _=>.ok .next h else .stuck|.Mr x i e,ρ=>(bW (isVar i) (ev c i) ρ).bind λk ρ=>(lift (wH ρ x k) ρ).bind λ_ ρ=>(ev c e ρ).bind λr ρ=>Gs ρ x ((jA ρ x).bind λg=>(gB k).bind λk=>kJ g k λrow=>if row.length<lim then aU (row++[r.d])else cr)|.Hy src is one body,ρ=>(ev c src ρ).bind λr f=>(lift (items r.d) f).bind λds f=>jl is one (iG c n body) ds f|.dw x,ρ=>match ρ[x]?with|some (.hold g)=>.ok .next (ρ.set x (.val a_ (.lst (g.map D.lst))))|_=>.stuck
 |.Hz x,ρ=>match ρ[x]?with|some .aX=>.ok .next (ρ.set x (.cU []))|some (.cU _)=>.ok .next (ρ.set x (.cU []))|some (.val a_ _)=>.ok .next (ρ.set x (.cU []))|_=>.stuck
 |.Ms x k e,ρ=>match ρ[x]?with|some .aX=>.ok .next (ρ.set x (.cU [(k,.int e)]))|some (.cU _)=>.ok .next (ρ.set x (.cU [(k,.int e)]))|some (.val a_ _)=>.ok .next (ρ.set x (.cU [(k,.int e)]))|_=>.stuck
 |.gA x k e,ρ=>(ev c e ρ).bind λr ρ=>match ρ[x]?with
   |some (.cU _)=>(bW (isVar k) (ev c k) ρ).bind λp ρ=>match ρ[x]?,p with|some (.cU kvs),.int k=>if kvs.length<lim then .ok .next (ρ.set x (.cU (gA kvs k r.d)))else .stuck|_,_=>.stuck
   |_=>.stuck
noncomputable def iG(c:Call)(n:Nat):List S->List Sl->Res Fl|[],ρ=>.ok .next ρ|s::r,ρ=>(ex c n s ρ).bind λfl ρ=>match fl with|.next=>iG c n r ρ|fl=>.ok fl ρ
noncomputable def exX(c:Call)(n:Nat):S->List Sl->Option (Nat×List Sl)
 |.ifs t a b,ρ=>match lO (ev c t) ρ with|.ok x f=>if x then LQ c n a f else LQ c n b f|_=>cr
 |.jJ src is one body,ρ=>match srcOf (isVar src) (ev c src) ρ with|.ok ds f=>(Tz is one (iG c n body) (LQ c n body) ds f).map λx=>(x.1,bA ρ (isVar src) x.2)|_=>cr
 |.asg _ e,ρ=>RD c e ρ|.expr e,ρ=>RD c e ρ|_,_=>cr
noncomputable def LQ(c:Call)(n:Nat):List S->List Sl->Option (Nat×List Sl)|[],_=>cr|s::r,ρ=>match exX c n s ρ with|some x=>aU x|none=>match ex c n s ρ with|.ok .next a=>LQ c n r a|_=>cr
end
theorem X1{c n ρ}:ex c n (.pass) ρ=.ok .next ρ:=(rfl)
theorem X2{c n ρ}:ex c n (.brk) ρ=.ok .brk ρ:=(rfl)
theorem X3{c n ρ}:ex c n (.cont) ρ=.ok .cont ρ:=(rfl)
theorem X4{c n ρ}:ex c n (.bad) ρ=.stuck:=(rfl)
theorem X5{c n e ρ}:ex c n (.expr e) ρ=(ev c e ρ).bind λ_ ρ=>.ok .next ρ:=(rfl)
theorem X6{c n i e ρ}:ex c n (.asg i e) ρ=(ev c e ρ).bind λr ρ=>(lift (put ρ i (Ax r)) ρ).bind λa _=>.ok .next a:=(rfl)
theorem X7{c n i j a b ρ}:ex c n (.par i j a b) ρ=(ev c a ρ).bind λx ρ=>(ev c b ρ).bind λy ρ=>(lift ((put ρ i (.val a_ x.d)).bind λρ=>put ρ j (.val a_ y.d)) ρ).bind λe _=>.ok .next e:=(rfl)
theorem X8{c n x i e ρ}:ex c n (.Hx x i e) ρ=(ev c e ρ).bind λr ρ=>(lift (pk ρ x) ρ).bind λ_ ρ=>(bW (isVar i) (ev c i) ρ).bind λk ρ=>match ρ[x]?,k with
 |some (.own b ds),.int k=>match jE ds.length k with|some j=>.ok .next (ρ.set x (.own b (ds.set j r.d)))|none=>.stuck
 |_,_=>.stuck:=(rfl)
theorem X9{c n x e ρ}:ex c n (.app x e) ρ=(lift (HQ ρ x) ρ).bind λ_ ρ=>(ev c e ρ).bind λr ρ=>match ρ[x]?with|some (.own b ds)=>if ds.length<lim then .ok .next (ρ.set x (.own b (ds++[r.d])))else .stuck|_=>.stuck:=(rfl)
theorem X10{c n e ρ}:ex c n (.ret e) ρ=match isVar e with
 |some i=>match ρ[i]?with|some (.own a_ ds)=>.ok (.ret (.own ds)) (ρ.set i .aX)|_=>(ev c e ρ).bind λr ρ=>.ok (.ret r) ρ
 |none=>(ev c e ρ).bind λr ρ=>.ok (.ret r) ρ:=(rfl)
theorem X11{c n ρ}:ex c n (.aa9) ρ=.ok (.ret (.val .non)) ρ:=(rfl)
theorem X12{c n t a b ρ}:ex c n (.ifs t a b) ρ=(lO (ev c t) ρ).bind λk ρ=>if k then iG c n a ρ else iG c n b ρ:=(rfl)
theorem X13{c n src is one body ρ}:ex c n (.jJ src is one body) ρ=(srcOf (isVar src) (ev c src) ρ).bind λds a=>(jl is one (iG c n body) ds a).bind λfl b=>.ok fl (bA ρ (isVar src) b):=(rfl)
theorem X14{c n t body ρ}:ex c n (.whl t body) ρ=ug (lO (ev c t)) (iG c n body) n ρ:=(rfl)
theorem X15{c n x sub e ρ}:ex c n (.aug x sub e) ρ=(lift (pk ρ x) ρ).bind λa ρ=>(bW (isVar e) (ev c e) ρ).bind λb ρ=>match a,b with|.int i,.int j=>(lift (put ρ x (.val a_ (.int (if sub then i-j else i+j)))) ρ).bind λf _=>.ok .next f|_,_=>.stuck:=(rfl)
theorem X16{c n x i sub e ρ}:ex c n (.Mm x i sub e) ρ=(lift (HQ ρ x) ρ).bind λ_ ρ=>(bW (isVar i) (ev c i) ρ).bind λk ρ=>(lift (HQ ρ x) ρ).bind λl ρ=>(lift ((gB k).bind λi=>at' l i) ρ).bind λa ρ=>(bW (isVar e) (ev c e) ρ).bind λb ρ=>match a,b,ρ[x]?,k with
 |.int u,.int v,aU (.own f ds),.int k=>match jE ds.length k with|some j=>.ok .next (ρ.set x (.own f (ds.set j (.int (if sub then u-v else u+v)))))|none=>.stuck
 |_,_,_,_=>.stuck:=(rfl)
theorem X17{c n x t ρ}:ex c n (.Mp x t) ρ=match ρ[x]?with|some .aX=>.ok .next (ρ.set x (.ie (if t then .t []else .k [])))|_=>.stuck:=(rfl)
theorem X18{c n x k e ρ}:ex c n (.dput x k e) ρ=(ev c e ρ).bind λr ρ=>match ρ[x]?with
 |some (.ie _)=>(bW (isVar k) (ev c k) ρ).bind λa ρ=>match ρ[x]?,r with
   |some (.ie m),.val (.int v)=>match m.put a v with|some b=>.ok .next (ρ.set x (.ie b))|none=>.stuck
   |_,_=>.stuck
 |_=>.stuck:=(rfl)
theorem X19{c n x src k is one elt ρ}:ex c n (.Mq x src k is one elt) ρ=(srcOf (isVar src) (ev c src) ρ).bind λds a=>if ds.length<=lim then(gR is one (ev c elt) ds [] (a++cE k .aX)).bind λe b=>(lift (put (bA ρ (isVar src) (b.take a.length)) x (.hold e)) ρ).bind λf _=>.ok .next f else .stuck:=(rfl)
theorem X20{c n x i e ρ}:ex c n (.Mr x i e) ρ=(bW (isVar i) (ev c i) ρ).bind λk ρ=>(lift (wH ρ x k) ρ).bind λ_ ρ=>(ev c e ρ).bind λr ρ=>Gs ρ x ((jA ρ x).bind λa=>(gB k).bind λk=>kJ a k λrow=>if row.length<lim then aU (row++[r.d])else cr):=(rfl)
theorem X21{c n src is one body ρ}:ex c n (.Hy src is one body) ρ=(ev c src ρ).bind λr a=>(lift (items r.d) a).bind λds a=>jl is one (iG c n body) ds a:=(rfl)
theorem X22{c n x ρ}:ex c n (.dw x) ρ=match ρ[x]?with|some (.hold a)=>.ok .next (ρ.set x (.val a_ (.lst (a.map D.lst))))|_=>.stuck:=(rfl)
theorem X23{c n x ρ}:ex c n (.Hz x) ρ=match ρ[x]?with|some .aX=>.ok .next (ρ.set x (.cU []))|some (.cU _)=>.ok .next (ρ.set x (.cU []))|some (.val a_ _)=>.ok .next (ρ.set x (.cU []))|_=>.stuck:=(rfl)
theorem X24{c n x k e ρ}:ex c n (.Ms x k e) ρ=match ρ[x]?with|some .aX=>.ok .next (ρ.set x (.cU [(k,.int e)]))|some (.cU _)=>.ok .next (ρ.set x (.cU [(k,.int e)]))|some (.val a_ _)=>.ok .next (ρ.set x (.cU [(k,.int e)]))|_=>.stuck:=(rfl)
theorem X25{c n x k e ρ}:ex c n (.gA x k e) ρ=(ev c e ρ).bind λr ρ=>match ρ[x]?with
 |some (.cU _)=>(bW (isVar k) (ev c k) ρ).bind λa ρ=>match ρ[x]?,a with|some (.cU kvs),.int k=>if kvs.length<lim then .ok .next (ρ.set x (.cU (gA kvs k r.d)))else .stuck|_,_=>.stuck
 |_=>.stuck:=(rfl)
structure Fd where
 np:Nat
 nn:Nat
 body:List S deriving Inhabited
noncomputable abbrev Tab:=Nat->Option Fd
noncomputable def enter(c:Call)(n:Nat)(d:Fd)(args:List Sl):Res R:=if args.length=d.np/\d.np<=d.nn then match iG c n d.body (args++cE (d.nn-d.np) .aX)with|.ok .next ρ=>.ok (.val .non) (ρ.take d.np)|.ok (.ret r) ρ=>.ok r (ρ.take d.np)|_=>match LQ c n d.body (args++cE (d.nn-d.np) .aX)with|some (k,ρ)=>.exc k (ρ.take d.np)|none=>.stuck else .stuck
noncomputable def run(Γ:Tab)(w:Nat):Nat->Call|0,_,_=>.stuck|n+1,f,args=>match Γ f with|some d=>enter (run Γ w n) w d args|none=>.stuck
end _H
section
namespace _H
open PySem _L
variable{ρ:List Sl}{σ:St}{v:V}
noncomputable def Dc.ho:Dc->HO|.k kvs=>.dK (kvs.map λp=>(dP p.1,V.int p.2))|.t kvs=>.dT (kvs.map λp=>(p.1.map dP,V.int p.2))
noncomputable def Am(ks:List Int)(vs:List V):HO:=.dK ((ks.zip vs).map λp=>(dP p.1,p.2))
section
variable(K:PySem.W.Frag)
mutual
noncomputable def Rep(F:Hp):V->D->Prop|v,.non=>v=.non|v,.bl b=>v=.bl b|v,.int i=>v=.int i|v,.str x=>v=.str x|v,.tup ds=>∃a xs,v=.ref a/\iD K F a xs/\aF F xs ds|v,.lst ds=>∃a xs,v=.ref a/\eY K F a xs/\aF F xs ds|v,.dN m=>∃a o,v=.ref a/\F a=aU (.dw o m.ho)|v,.dv ks ds=>∃a o vs,v=.ref a/\F a=aU (.dw o (Am ks vs))/\aF F vs ds/\ks.length=ds.length
noncomputable def aF(F:Hp):List V->List D->Prop|vs,[]=>vs=[]|vs,d::ds=>∃v r,vs=v::r/\Rep F v d/\aF F r ds
end
end
section
variable{K:PySem.W.Frag}{F F' H H':Hp}
theorem aK.gZ{a:cx}{xs:List V}(e:aK H H')(h:iD K H a xs):iD K H' a xs:=by
 rcases h with(h|⟨o,h⟩)|h;.exact .inl (.inl (e _ _ h))
 .exact .inl (.inr ⟨o,e _ _ h⟩)
 .exact .inr h
mutual
theorem Rep.mono(e:aK F F'):∀{d:D}{v:V},Rep K F v d->Rep K F' v d|.non,_,h=>by rw[Rep]at h ⊢;exact h|.bl _,_,h=>by rw[Rep]at h ⊢;exact h|.int _,_,h=>by rw[Rep]at h ⊢;exact h|.str _,_,h=>by rw[Rep]at h ⊢;exact h|.tup ds,_,h=>by rw[Rep]at h ⊢;obtain⟨a,xs,rfl,hs,r⟩:=h;exact⟨a,xs,rfl,aK.gZ e hs,aF.mono e r⟩|.lst ds,_,h=>by rw[Rep]at h ⊢;obtain⟨a,xs,rfl,hs,r⟩:=h;exact⟨a,xs,rfl,e.seq hs,aF.mono e r⟩|.dN m,_,h=>by rw[Rep]at h ⊢;obtain⟨a,o,rfl,hs⟩:=h;exact⟨a,o,rfl,e _ _ hs⟩|.dv ks ds,_,h=>by rw[Rep]at h ⊢;obtain⟨a,o,vs,rfl,hs,r,b⟩:=h;exact⟨a,o,vs,rfl,e _ _ hs,aF.mono e r,b⟩theorem aF.mono(e:aK F F'):∀{ds:List D}{vs:List V},aF K F vs ds->aF K F' vs ds|[],_,h=>by rw[aF]at h ⊢;exact h|d::ds,_,h=>by rw[aF]at h ⊢;obtain⟨v,r,rfl,h1,a⟩:=h;exact⟨v,r,rfl,Rep.mono e h1,aF.mono e a⟩end
theorem aF.nil:aF K F [] []:=by rw[aF]
theorem aF.cons{v:V}{d:D}{vs:List V}{ds:List D}(h:Rep K F v d)(t:aF K F vs ds):aF K F (v::vs) (d::ds):=by rw[aF];exact⟨v,vs,rfl,h,t⟩
theorem aF.cR{vs:List V}{d:D}{ds:List D}(h:aF K F vs (d::ds)):∃v r,vs=v::r/\Rep K F v d/\aF K F r ds:=by rw[aF]at h;exact h
theorem aF.fZ{vs:List V}(h:aF K F vs []):vs=[]:=by rw[aF]at h;exact h
theorem aF.length:∀{ds:List D}{vs:List V},aF K F vs ds->vs.length=ds.length|[],_,h=>by rw[h.fZ];rfl|d::ds,_,h=>by obtain⟨v,r,rfl,_,t⟩:=h.cR;simp[aF.length t]
theorem aF.get:∀{ds:List D}{vs:List V}{i:Nat}{d:D},aF K F vs ds->ds[i]?=aU d->∃v,vs[i]?=aU v/\Rep K F v d|[],_,_,_,h,e=>by simp at e|d::ds,_,0,_,h,e=>by obtain⟨v,r,rfl,h1,t⟩:=h.cR;simp at e;subst e;exact⟨v,rfl,h1⟩|d::ds,_,i+1,_,h,e=>by obtain⟨v,r,rfl,_,t⟩:=h.cR;simp at e;obtain⟨w,a,b⟩:=t.get e;exact⟨w,by simpa using a,b⟩
theorem aF.append:∀{ds es:List D}{vs a:List V},aF K F vs ds->aF K F a es->aF K F (vs++a) (ds++es)|[],_,_,_,h,h'=>by rw[h.fZ];exact h'|d::ds,_,_,_,h,h'=>by obtain⟨v,r,rfl,h1,t⟩:=h.cR;exact .cons h1 (t.append h')
theorem aF.set{v:V}{d:D}(hr:Rep K F v d):∀{ds:List D}{vs:List V}(i:Nat),aF K F vs ds->aF K F (vs.set i v) (ds.set i d)|[],_,_,h=>by rw[h.fZ];exact .nil|_::_,_,0,h=>by obtain⟨w,r,rfl,h1,t⟩:=h.cR;exact .cons hr t|_::_,_,i+1,h=>by obtain⟨w,r,rfl,h1,t⟩:=h.cR;exact .cons h1 (aF.set hr i t)
theorem aF.take:∀{ds:List D}{vs:List V}(n:Nat),aF K F vs ds->aF K F (vs.take n) (ds.take n)|[],_,n,h=>by rw[h.fZ];simpa using aF.nil|_::_,_,0,h=>.nil|_::_,_,n+1,h=>by obtain⟨w,r,rfl,h1,t⟩:=h.cR;exact .cons h1 (t.take n)
theorem aF.drop:∀{ds:List D}{vs:List V}(n:Nat),aF K F vs ds->aF K F (vs.drop n) (ds.drop n)|[],_,n,h=>by rw[h.fZ];simpa using aF.nil|_::_,_,0,h=>h|_::_,_,n+1,h=>by obtain⟨w,r,rfl,h1,t⟩:=h.cR;exact t.drop n
theorem aF.rep{ds:List D}{vs:List V}(h:aF K F vs ds):∀n,aF K F (cE n vs).flatten (cE n ds).flatten|0=>by simpa using aF.nil|n+1=>by simpa[ix]using h.append (aF.rep h n)
inductive Oc where|l(ds:List D)|d(m:Dc)|v(kvs:List (Int×D))
noncomputable def lst?:Sl->Option Oc|.own _ ds=>aU (.l ds)|.lent ds=>aU (.l ds)|.ie m=>aU (.d m)|.cU kvs=>aU (.v kvs)|_=>cr
noncomputable def mj(K:PySem.W.Frag)(F:Hp)(o:HO):Oc->Prop|.l ds=>∃xs,o=.lst xs/\aF K F xs ds|.d m=>o=m.ho|.v kvs=>∃vs,o=Am (kvs.map (·.1)) vs/\aF K F vs (kvs.map (·.2))
theorem mj.mono{o:HO}{x:Oc}(e:aK F F')(h:mj K F o x):mj K F' o x:=by cases x with|l ds=>obtain⟨xs,a,h⟩:=h;exact⟨xs,a,h.mono e⟩|d m=>exact h|v kvs=>obtain⟨xs,a,h⟩:=h;exact⟨xs,a,h.mono e⟩
noncomputable def aZ(ρ:List Sl)(σ:St)(i:Nat)(a:cx):Prop:=(∃s ds,ρ[i]?=aU s/\lst? s=aU ds)/\σ[i]?=aU (aU (V.ref a))
noncomputable def Own(ρ:List Sl)(σ:St)(a:cx):Prop:=∃i,aZ ρ σ i a
structure GS(K:PySem.W.Frag)(F:Hp)(ρ:List Sl)(σ:St)(H:Hp):Prop where
 sub:aK F H
 len:ρ.length=σ.length
 val:∀(i:Nat)(b:Bool)(d:D),ρ[i]?=aU (Sl.val b d)->∃v:V,σ[i]?=aU (aU v)/\Rep K F v d
 own:∀(i:Nat)(s:Sl)(ds:Oc),ρ[i]?=aU s->lst? s=aU ds->∃(a:cx)(xs:HO),σ[i]?=aU (aU (V.ref a))/\H a=aU xs/\F a=cr/\mj K F xs ds
 dis:∀(i j:Nat)(a:cx),aZ ρ σ i a->aZ ρ σ j a->i=j
theorem GS.uU(g:GS K F ρ σ H)(i:Nat)(s:Sl)(ds:List D)(e:ρ[i]?=aU s)(b:lst? s=aU (.l ds)):∃(a:cx)(xs:List V),σ[i]?=aU (aU (V.ref a))/\H a=aU (.lst xs)/\F a=cr/\aF K F xs ds:=by obtain⟨a,o,h1,c,f,xs,rfl,h⟩:=g.own i s (.l ds) e b;exact⟨a,xs,h1,c,f,h⟩
noncomputable def vW:Sl->Bool|.val b _=>b|.own b _=>b|.lent _=>cq|.aX=>a_|.ie _=>a_|.cU _=>a_|.hold _=>cq
noncomputable def oK:Sl->Sl->Prop|.val cq d,s=>s=.val cq d|.own cq _,s=>(∃ds,s=.own cq ds)\/∃d,s=.val cq d|.lent ds,s=>s=.lent ds|.hold ds,s=>s=.hold ds|_,_=>True
theorem oK.refl(s:Sl):oK s s:=by unfold oK;split<;>first|rfl|exact .inl ⟨_,rfl⟩|trivial
theorem oK.vW{s a:Sl}(h:oK s a)(l:vW s=cq):_H.vW a=cq:=by cases s with
 |aX=>cases l|ie _=>cases l|cU _=>cases l|val b d=>cases b with|true=>cases h;rfl|false=>cases l
 |own b d=>cases b with|true=>rcases h with⟨_,rfl⟩|⟨_,rfl⟩<;>rfl|false=>cases l
 |lent d=>cases h;rfl|hold d=>cases h;rfl
theorem oK.trans{s c a:Sl}(l:_H.vW s=cq)(h:oK s c)(h':oK c a):oK s a:=by cases s with
 |aX=>cases l|ie _=>cases l|cU _=>cases l|val b d=>cases b with|true=>cases h;exact h'|false=>cases l
 |own b d=>cases b with
   | true => rcases h with⟨_,rfl⟩|⟨d,rfl⟩;.exact h'
             .exact .inr ⟨d,h'⟩|false=>cases l
 |lent d=>cases h;exact h'|hold d=>cases h;exact h'
noncomputable def nt:Option HO->Option HO|some (.tup _)=>cr|o=>o
theorem jd{o:Option HO}(h:o=cr):nt o=cr:=by rw[h];rfl
theorem Ju{H:Hp}{b:cx}{xs:List V}(h:H b=aU (.lst xs))(z:nt (H b)=cr):False:=by rw[h]at z;cases z
theorem Lz{o:HO}{x:Oc}(h:mj K F o x)(z:nt (aU o)=cr):False:=by cases x with|l ds=>obtain⟨xs,rfl,_⟩:=h;cases z|d m=>cases m<;>(cases(show o=_ from h);cases z)|v kvs=>obtain⟨xs,rfl,_⟩:=h;cases z
structure aB(K:PySem.W.Frag)(F:Hp)(ρ:List Sl)(σ:St)(H:Hp)(F':Hp)(ρ':List Sl)(σ':St)(H':Hp):Prop where
 gs:GS K F' ρ' σ' H'
 cQ:aK F F'
 yj:∀b,F b=cr->F' b≠cr->Own ρ σ b\/nt (H b)=cr
 keep:∀b o,H b=aU o->¬ Own ρ σ b->H' b=aU o
 wu:∀b,Own ρ' σ' b->Own ρ σ b\/H b=cr
 len:ρ'.length=ρ.length
 lk:∀(i:Nat)(s:Sl),ρ[i]?=aU s->vW s=cq->σ'[i]?=σ[i]?/\∃s',ρ'[i]?=aU s'/\oK s s'
theorem aB.refl{ρ:List Sl}{σ:St}(g:GS K F ρ σ H):aB K F ρ σ H F ρ σ H:=⟨g,aK.refl _,λb h h'=>absurd h h',λ_ _ h _=>h,λ_ h=>.inl h,rfl,λi s h _=>⟨rfl,s,h,.refl s⟩⟩
theorem aB.trans{F1 p m r:Hp}{ρ f j:List Sl}{σ g k:St}(a:aB K F ρ σ H F1 f g m)(b:aB K F1 f g m p j k r):aB K F ρ σ H p j k r:=by
 have back:∀c,Own f g c\/m c=cr->Own ρ σ c\/H c=cr:=λc h=>by
  rcases h with h|h;.exact a.wu c h
  . by_cases ho:Own ρ σ c;.exact .inl ho
    .right;cases e:H c with|none=>rfl|some o=>rw[a.keep c o e ho]at h;cases h
 refine⟨b.gs,a.cQ.trans b.cQ,λc h h'=>?_,λc o h n=>?_,λc h=>back c (b.wu c h),b.len.trans a.len,λi s h l=>?_⟩
 . by_cases e:F1 c=cr
   . by_cases ho:Own ρ σ c;.exact .inl ho
     . rcases b.yj c e h' with z|z;.exact(back c (.inl z)).imp id jd
       .right;cases q:H c with|none=>rfl|some o=>rw[a.keep c o q ho]at z;exact z
   .exact a.yj c h e
 . refine b.keep c o (a.keep c o h n) λh'=>?_;rcases a.wu c h' with h'|h';.exact n h'
   .rw[h]at h';cases h'
 .obtain⟨u,s1,h1,t⟩:=a.lk i s h l;obtain⟨w,s2,x,y⟩:=b.lk i s1 h1 (t.vW l);exact⟨w.trans u,s2,x,.trans l t y⟩
noncomputable def dB(K:PySem.W.Frag)(F H:Hp)(v:V)(d:D):Prop:=Rep K F v d\/∃a xs ds,v=.ref a/\H a=aU (.lst xs)/\aF K F xs ds/\d=.lst ds
noncomputable def dg(K:PySem.W.Frag)(F':Hp)(b:List Sl)(c:St)(H':Hp)(ρ:List Sl)(σ:St)(H:Hp)(v:V):R->Prop|.val d=>Rep K F' v d|.own ds=>∃a xs,v=.ref a/\H' a=aU (.lst xs)/\F' a=cr/\aF K F' xs ds/\¬ Own b c a/\(Own ρ σ a\/H a=cr)
theorem aK.cu{F:Hp}{a:cx}{o:HO}(h:F a=cr):aK F (upd F a o):=λb u e=>by
 have:b≠a:=by rintro rfl;rw[h]at e;cases e
 rw[aC this];exact e
theorem aB.dw{c:List Sl}{f:St}{r:R}(s:aB K F ρ σ H F' c f H')(h:dg K F' c f H' ρ σ H v r):∃g,aB K F ρ σ H g c f H'/\aK F' g/\Rep K g v r.d:=by cases r with|val d=>exact⟨F',s,.refl _,h⟩|own ds=>
   obtain⟨a,xs,rfl,h1,t,u,w,x⟩:=h;have sm:aK F' (upd F' a (.lst xs)):=aK.cu t;refine⟨upd F' a (.lst xs),⟨⟨λb o e=>?_,s.gs.len,λi b d e=>?_,λi sl k e p=>?_,s.gs.dis⟩,s.cQ.trans sm,λb n q=>?_,s.keep,s.wu,s.len,s.lk⟩,sm,?_⟩
   . by_cases j:b=a;.subst j;rw[aH]at e;cases e;exact h1
     .rw[aC j]at e;exact s.gs.sub b o e
   .obtain⟨v,l,m⟩:=s.gs.val i b d e;exact⟨v,l,m.mono sm⟩
   . obtain⟨b,ys,l,m,y,z⟩:=s.gs.own i sl k e p;have j:b≠a:=by rintro rfl;exact w ⟨i,⟨sl,k,e,p⟩,l⟩
     exact⟨b,ys,l,m,by rw[aC j];exact y,z.mono sm⟩
   . by_cases j:b=a;.subst j;exact x.imp id jd
     .rw[aC j]at q;exact s.yj b n q
   .show Rep K _ _ (.lst ds);rw[Rep];exact⟨a,xs,rfl,eY.of aH,u.mono sm⟩
theorem GS.pk{ρ:List Sl}{σ:St}{i:Nat}{d:D}(g:GS K F ρ σ H)(e:_H.pk ρ i=aU d):∃v:V,σ[i]?=aU (aU v)/\dB K F H v d:=by
 unfold _H.pk at e;split at e;.rename_i b d' h;cases e;obtain⟨v,h1,c⟩:=g.val i b d h;exact⟨v,h1,.inl c⟩
 .rename_i b ds h;cases e;obtain⟨a,xs,h1,c,j,f⟩:=g.uU i _ ds h rfl;exact⟨.ref a,h1,.inr ⟨a,xs,ds,rfl,c,f,rfl⟩⟩
 .rename_i ds h;cases e;obtain⟨a,xs,h1,c,j,f⟩:=g.uU i _ ds h rfl;exact⟨.ref a,h1,.inr ⟨a,xs,ds,rfl,c,f,rfl⟩⟩
 .cases e
structure Ext(F H F' H':Hp):Prop where
 hs:aK H H'
 fs:aK F F'
 sub:aK F' H'
 gr:∀b,F b=cr->F' b≠cr->nt (H b)=cr
theorem Ext.refl(h:aK F H):Ext F H F H:=⟨.refl _,.refl _,h,λ_ a b=>absurd a b⟩
theorem Ext.stp(g:GS K F ρ σ H)(e:Ext F H F' H'):aB K F ρ σ H F' ρ σ H':=by
 refine⟨⟨e.sub,g.len,λi b d h=>?_,λi s ds h h'=>?_,g.dis⟩,e.fs,λb n j=>.inr (e.gr b n j),λb o h _=>e.hs b o h,λ_ h=>.inl h,rfl,λi s h _=>⟨rfl,s,h,.refl s⟩⟩;.obtain⟨v,h1,c⟩:=g.val i b d h;exact⟨v,h1,c.mono e.fs⟩
 .obtain⟨a,xs,h1,c,k,f⟩:=g.own i s ds h h';refine⟨a,xs,h1,e.hs _ _ c,?_,f.mono e.fs⟩;cases q:F' a with|none=>rfl|some o=>have:=e.gr a k (by rw[q];simp);rw[c]at this;exact(Lz f this).elim
noncomputable def cF(K:PySem.W.Frag)(F' H' H:Hp)(v:V):R->Prop|.val d=>Rep K F' v d|.own ds=>∃a xs,v=.ref a/\H' a=aU (.lst xs)/\F' a=cr/\aF K F' xs ds/\H a=cr
theorem cF.nC{r:R}(g:GS K F ρ σ H)(h:cF K F' H' H v r):dg K F' ρ σ H' ρ σ H v r:=by cases r with|val d=>exact h|own ds=>obtain⟨a,xs,rfl,h1,l,m,f⟩:=h;refine⟨a,xs,rfl,h1,l,m,?_,.inr f⟩;rintro⟨i,⟨s,c,e,n⟩,o⟩;obtain⟨b,ys,j,k,_⟩:=g.own i s c e n;rw[o]at j;cases j;rw[f]at k;cases k
theorem dg.later{F1 j k l:Hp}{c f:List Sl}{g i:St}{r:R}(a:aB K F ρ σ H F1 c g j)(h:dg K k f i l c g j v r):dg K k f i l ρ σ H v r:=by cases r with|val d=>exact h|own ds=>
   obtain⟨b,xs,rfl,h1,m,n,p,h5⟩:=h;refine⟨b,xs,rfl,h1,m,n,p,?_⟩;rcases h5 with h5|h5;.exact a.wu b h5
   . by_cases ho:Own ρ σ b;.exact .inl ho
     .right;cases e:H b with|none=>rfl|some o=>rw[a.keep b o e ho]at h5;cases h5
end
end _H
end
namespace _H
open PySem _L Spec PyProof.Rows
variable{ρ' ρ ρ₀:List Sl}{es:List dO}{K:PySem.W.Frag}{F H H₀:Hp}{σ:_L.St}{i n:Nat}{ds:List D}{x:Str}{v:V}{vs:List V}{op:nV}{p':Pos}{as:List Arg}
theorem aj{c e:Type}{x:Res c}{f:c->List Sl->Res e}{b:e}(h:x.bind f=.ok b ρ'):∃a ρ,x=.ok a ρ/\f a ρ=.ok b ρ':=by cases x with|ok a ρ=>exact⟨a,ρ,rfl,h⟩|exc _ _=>cases h|stuck=>cases h
theorem aD{c:Type}{o:Option c}{a:c}(h:lift o ρ=.ok a ρ'):o=aU a/\ρ=ρ':=by cases o with|none=>cases h|some b=>cases h;exact⟨rfl,rfl⟩
theorem map_some{c e:Type}{o:Option c}{f:c->e}{b:e}(h:o.map f=aU b):∃a,o=aU a/\f a=b:=by cases o with|none=>cases h|some a=>cases h;exact⟨a,rfl,rfl⟩
theorem cg{c e:Type}{o:Option c}{f:c->Option e}{b:e}(h:o.bind f=aU b):∃a,o=aU a/\f a=aU b:=by cases o with|none=>cases h|some a=>exact⟨a,rfl,h⟩
theorem bf{e:Type}{c:Prop}[Decidable c]{a b:e}(h:(if c then aU a else cr)=aU b):c/\a=b:=by
 split at h;.rename_i hc;cases h;exact⟨hc,rfl⟩
 .cases h
section
variable{X:Cx}{c:Call}{e a b:dO}{p pa pb:P}{pos:Pos}
theorem eV{t t':TE}(h:PE X e t)(i:∀σ H Q,t' σ H Q->t σ H Q):PE X e t':=λf s σ H Q I q=>h f s σ H Q I (i σ H Q q)
theorem zP{t t':TT}(h:PT X e t)(i:∀σ H Q,t' σ H Q->t σ H Q):PT X e t':=λf s σ H Q I q=>h f s σ H Q I (i σ H Q q)
theorem Zv{t t':TT}(h:PW X e t)(i:∀σ H Q,t' σ H Q->t σ H Q):PW X e t':=λwh f s σ H Q I q=>h wh f s σ H Q I (i σ H Q q)
theorem yF{t t':TA}(h:PA X es t)(i:∀σ H Q,t' σ H Q->t σ H Q):PA X es t':=λpos f s σ H Q I q=>h pos f s σ H Q I (i σ H Q q)
inductive Fv(K:PySem.W.Frag)(f:Ev)(σ:_L.St)(H:Hp)(Q:VK):Prop where|mk(F:Hp)(ρ:List Sl)(r:R)(ρ':List Sl)(g:GS K F ρ σ H)(e:f ρ=.ok r ρ')(k:∀v F' H',aB K F ρ σ H F' ρ' σ H'->dg K F' ρ' σ H' ρ σ H v r->Q v H')
inductive K4(K:PySem.W.Frag)(f:List Sl->Res Bool)(σ:_L.St)(H:Hp)(Q:Bool->Hp->Prop):Prop where|mk(F:Hp)(ρ:List Sl)(b:Bool)(ρ':List Sl)(g:GS K F ρ σ H)(e:f ρ=.ok b ρ')(k:∀F' H',aB K F ρ σ H F' ρ' σ H'->Q b H')
inductive aeM(K:PySem.W.Frag)(f:List Sl->Res (List D))(σ:_L.St)(H:Hp)(Q:List V->Hp->Prop):Prop where|mk(F:Hp)(ρ:List Sl)(ds:List D)(ρ':List Sl)(g:GS K F ρ σ H)(e:f ρ=.ok ds ρ')(k:∀vs F' H',aB K F ρ σ H F' ρ' σ H'->aF K F' vs ds->Q vs H')
structure SX(X:Cx)(c:Call)(e:dO)(p:P):Prop where ev:PE X e (Fv X.K (_H.ev c p))var:∀i,isVar p=aU i->PE X e (Ua i)
noncomputable def SA(X:Cx)(c:Call)(es:List dO)(ps:List P):Prop:=PA X es (aeM X.K (evs c ps))/\ps.length=es.length
theorem SX.bW(h:SX X c e p):∃t,PE X e t/\∀{σ:_L.St}{H F:Hp}{ρ ρ':List Sl}{d:D}{Q:VK},GS X.K F ρ σ H->bW (isVar p) (_H.ev c p) ρ=.ok d ρ'->(∀v j f,aB X.K F ρ σ H j ρ' σ f->dB X.K j f v d->Q v f)->t σ H Q:=by cases hv:isVar p with|none=>refine⟨_,h.ev,λ{σ H F ρ ρ' d Q}g e k=>?_⟩;obtain⟨r,q,l,m⟩:=aj e;cases m;refine⟨F,ρ,r,_,g,l,λv j f s u=>?_⟩;obtain⟨o,w,_,y⟩:=s.dw u;exact k v o f w (.inl y)|some i=>refine⟨_,h.var i hv,λ{σ H F ρ ρ' d Q}g e k=>?_⟩;obtain⟨l,m⟩:=aD e;subst m;obtain⟨v,h1,z⟩:=g.pk l;exact⟨v,h1,k v F H (.refl g) z⟩
theorem SX.gq(J:SX X c a pa)(N:SX X c b pb):∃L h,PE X a L/\PE X b h/\∀{σ:_L.St}{H F:Hp}{ρ ρ':List Sl}{j:D×D}{R:V->V->Hp->Prop},GS X.K F ρ σ H->gq (isVar pa) (_H.ev c pa) (isVar pb) (_H.ev c pb) ρ=.ok j ρ'->(∀v u w l,aB X.K F ρ σ H w ρ' σ l->dB X.K w l v j.1->dB X.K w l u j.2->R v u l)->L σ H λx z=>h σ z λy A=>R x y A:=by obtain⟨h,m,o⟩:=N.bW;cases hv:isVar pa with|none=>refine⟨_,h,J.ev,m,λ{σ H F ρ ρ' j R}g e k=>?_⟩;obtain⟨x,B,q,e⟩:=aj e;obtain⟨y,C,f,e⟩:=aj e;cases e;obtain⟨r,M,q,E⟩:=aj q;cases E;refine⟨F,ρ,r,_,g,q,λv w l s O=>?_⟩;obtain⟨F1,s1,_,Q⟩:=s.dw O;refine o s1.gs f λu U A s2 G=>?_;exact k v u U A (s1.trans s2) (.inl (Q.mono s2.cQ)) G|some i=>refine⟨_,h,J.var i hv,m,λ{σ H F ρ ρ' j R}g e k=>?_⟩;obtain⟨x0,W,E,e⟩:=aj e;obtain⟨I,Y⟩:=aD E;subst Y;obtain⟨y,B,q,e⟩:=aj e;obtain⟨x,C,f,e⟩:=aj e;cases e;have Z:=aD f;clear f;obtain⟨f,e3⟩:=Z;subst e3;obtain⟨v,h1,_⟩:=g.pk I;refine⟨v,h1,o g q λu F1 z s1 G=>?_⟩;obtain⟨v',t,pv⟩:=s1.gs.pk f;rw[h1]at t;cases t;exact k v u F1 z s1 pv G
inductive rD(K:PySem.W.Frag)(f:D->D->Option R)(x y:V)(H:Hp)(Q:VK):Prop where|mk(F:Hp)(d e:D)(r:R)(sm:aK F H)(px:dB K F H x d)(py:dB K F H y e)(he:f d e=aU r)(k:∀v F' H',Ext F H F' H'->cF K F' H' H v r->Q v H')
inductive rD1(K:PySem.W.Frag)(f:D->Option R)(x:V)(H:Hp)(Q:VK):Prop where|mk(F:Hp)(d:D)(r:R)(sm:aK F H)(px:dB K F H x d)(he:f d=aU r)(k:∀v F' H',Ext F H F' H'->cF K F' H' H v r->Q v H')
theorem wZ{E:dO}{f:D->D->Option R}{q:P}(t:∀{m o},PE X a m->PE X b o->PE X E (Vm (rD X.K f) m o))(y:SX X c a pa)(z:SX X c b pb)(A:∀ρ,_H.ev c q ρ=(_H.gq (isVar pa) (_H.ev c pa) (isVar pb) (_H.ev c pb) ρ).bind λj ρ=>lift (f j.1 j.2) ρ)(B:isVar q=cr):SX X c E q:=by obtain⟨m,o,h1,C,G⟩:=y.gq z;refine⟨eV (t h1 C) ?_,λi h=>by rw[B]at h;cases h⟩;rintro σ H Q⟨F,ρ,r,ρ',g,e,k⟩;rw[A]at e;obtain⟨j,I,J,l⟩:=aj e;have L:=aD l;clear l;obtain⟨l,M⟩:=L;subst M;refine G g J λv u N H' s O U=>⟨N,j.1,j.2,r,s.gs.sub,O,U,l,λw W Y x Z=>?_⟩;exact k w W Y (s.trans (x.stp s.gs)) (.later s (Z.nC s.gs))
theorem Ws{E:dO}{f:D->Option R}{q:P}(m:∀{l},PE X a l->PE X E (tUn (rD1 X.K f) l))(o:SX X c a pa)(t:∀ρ,_H.ev c q ρ=(_H.bW (isVar pa) (_H.ev c pa) ρ).bind λx ρ=>lift (f x) ρ)(u:isVar q=cr):SX X c E q:=by obtain⟨l,h1,y⟩:=o.bW;refine⟨eV (m h1) ?_,λi h=>by rw[u]at h;cases h⟩;rintro σ H Q⟨F,ρ,r,ρ',g,e,k⟩;rw[t]at e;obtain⟨x,z,A,j⟩:=aj e;have B:=aD j;clear j;obtain⟨j,C⟩:=B;subst C;refine y g A λv G N s I=>⟨G,x,r,s.gs.sub,I,j,λw J L x M=>?_⟩;exact k w J L (s.trans (x.stp s.gs)) (.later s (M.nC s.gs))
theorem GS.freeze{b:Bool}(g:GS K F ρ σ H)(e:ρ[i]?=aU (.own b ds)):∃v z,σ[i]?=aU (aU v)/\aB K F ρ σ H z (ρ.set i (.val b (.lst ds))) σ H/\Rep K z v (.lst ds):=by
 obtain⟨a,xs,h1,C,E,G⟩:=g.uU i _ ds e rfl;have hi:i<ρ.length:=(fB e).1;have sm:aK F (upd F a (.lst xs)):=aK.cu E;have A:Rep K (upd F a (.lst xs)) (.ref a) (.lst ds):=by rw[Rep];exact⟨a,xs,rfl,eY.of aH,G.mono sm⟩
 have I:Own ρ σ a:=⟨i,⟨_,_,e,rfl⟩,h1⟩;have r:∀j x,aZ (ρ.set i (.val b (.lst ds))) σ j x->aZ ρ σ j x/\j≠i:=λj x⟨⟨s,h,m,u⟩,y⟩=>by
  by_cases f:j=i;.subst f;rw[cy hi]at m;cases m;cases u
  .rw[fM f]at m;exact⟨⟨⟨s,h,m,u⟩,y⟩,f⟩
 refine⟨.ref a,upd F a (.lst xs),h1,⟨⟨λx o q=>?_,by simpa using g.len,λj J d q=>?_,λj s h q w=>?_,λj k x q w=>g.dis j k x (r j x q).1 (r k x w).1⟩,sm,λx n B=>?_,λ_ _ q _=>q,λx⟨j,q⟩=>.inl ⟨j,(r j x q).1⟩,by simp,λj s q l=>⟨rfl,?_⟩⟩,A⟩
 . by_cases t:x=a;.subst t;rw[aH]at q;cases q;exact C
   .rw[aC t]at q;exact g.sub x o q
 . by_cases f:j=i;.subst f;rw[cy hi]at q;cases q;exact⟨_,h1,A⟩
   .rw[fM f]at q;obtain⟨v,m,u⟩:=g.val j J d q;exact⟨v,m,u.mono sm⟩
 . by_cases f:j=i;.subst f;rw[cy hi]at q;cases q;cases w
   . rw[fM f]at q;obtain⟨x,ys,m,u,y,L⟩:=g.own j s h q w;have t:x≠a:=by rintro rfl;exact f (g.dis j i x ⟨⟨s,h,q,w⟩,m⟩ ⟨⟨_,_,e,rfl⟩,h1⟩)
     exact⟨x,ys,m,u,by rw[aC t];exact y,L.mono sm⟩
 . by_cases t:x=a;.subst t;exact .inl I
   .rw[aC t]at B;exact absurd n B
 . by_cases f:j=i;.subst f;rw[e]at q;cases q;refine⟨_,cy hi,?_⟩;cases b with|true=>exact .inr ⟨_,rfl⟩|false=>cases l
   .exact⟨s,by rw[fM f];exact q,.refl s⟩
theorem GS.Dw{m:Dc}(g:GS K F ρ σ H)(e:ρ[i]?=aU (.ie m)):∃a,σ[i]?=aU (aU (.ref a))/\H a=aU m.ho/\∀u,aB K F ρ σ H (upd F a (.dw u m.ho)) (ρ.set i (.val a_ (.dN m))) σ (upd H a (.dw u m.ho))/\Rep K (upd F a (.dw u m.ho)) (.ref a) (.dN m):=by
 obtain⟨a,G,h1,I,J,L⟩:=g.own i _ _ e rfl;cases(show G=m.ho from L);have hi:i<ρ.length:=(fB e).1;refine⟨a,h1,I,λu=>?_⟩;have sm:aK F (upd F a (.dw u m.ho)):=aK.cu J;have B:Rep K (upd F a (.dw u m.ho)) (.ref a) (.dN m):=by rw[Rep];exact⟨a,u,rfl,aH⟩
 have C:Own ρ σ a:=⟨i,⟨_,_,e,rfl⟩,h1⟩;have w:∀j x,aZ (ρ.set i (.val a_ (.dN m))) σ j x->aZ ρ σ j x/\j≠i:=λj x⟨⟨s,r,t,y⟩,A⟩=>by
  by_cases f:j=i;.subst f;rw[cy hi]at t;cases t;cases y
  .rw[fM f]at t;exact⟨⟨⟨s,r,t,y⟩,A⟩,f⟩
 refine⟨⟨⟨λx o q=>?_,by simpa using g.len,λj M d q=>?_,λj s r q z=>?_,λj k x q z=>g.dis j k x (w j x q).1 (w k x z).1⟩,sm,λx n E=>?_,λx o q n=>?_,λx⟨j,q⟩=>.inl ⟨j,(w j x q).1⟩,by simp,λj s q l=>⟨rfl,?_⟩⟩,B⟩
 . by_cases h:x=a;.subst h;rw[aH]at q ⊢;exact q
   .rw[aC h]at q ⊢;exact g.sub x o q
 . by_cases f:j=i;.subst f;rw[cy hi]at q;cases q;exact⟨_,h1,B⟩
   .rw[fM f]at q;obtain⟨v,t,y⟩:=g.val j M d q;exact⟨v,t,y.mono sm⟩
 . by_cases f:j=i;.subst f;rw[cy hi]at q;cases q;cases z
   . rw[fM f]at q;obtain⟨x,ys,t,y,A,N⟩:=g.own j s r q z;have h:x≠a:=by rintro rfl;exact f (g.dis j i x ⟨⟨s,r,q,z⟩,t⟩ ⟨⟨_,_,e,rfl⟩,h1⟩)
     exact⟨x,ys,t,by rw[aC h];exact y,by rw[aC h];exact A,N.mono sm⟩
 . by_cases h:x=a;.subst h;exact .inl C
   .rw[aC h]at E;exact absurd n E
 . have h:x≠a:=by rintro rfl;exact n C
   rw[aC h];exact q
 . by_cases f:j=i;.subst f;rw[e]at q;cases q;cases l
   .exact⟨s,by rw[fM f];exact q,.refl s⟩
theorem GS.Fp{kvs:List (Int×D)}(g:GS K F ρ σ H)(e:ρ[i]?=aU (.cU kvs)):∃a vs,σ[i]?=aU (aU (.ref a))/\H a=aU (Am (kvs.map (·.1)) vs)/\∀t,aB K F ρ σ H (upd F a (.dw t (Am (kvs.map (·.1)) vs))) (ρ.set i (.val a_ (.dv (kvs.map (·.1)) (kvs.map (·.2))))) σ (upd H a (.dw t (Am (kvs.map (·.1)) vs)))/\Rep K (upd F a (.dw t (Am (kvs.map (·.1)) vs))) (.ref a) (.dv (kvs.map (·.1)) (kvs.map (·.2))):=by
 obtain⟨a,N,h1,E,G,I⟩:=g.own i _ _ e rfl;obtain⟨vs,rfl,J⟩:=I;have hi:i<ρ.length:=(fB e).1;refine⟨a,vs,h1,E,λt=>?_⟩;have sm:aK F (upd F a (.dw t (Am (kvs.map (·.1)) vs))):=aK.cu G;have A:Rep K (upd F a (.dw t (Am (kvs.map (·.1)) vs))) (.ref a) (.dv (kvs.map (·.1)) (kvs.map (·.2))):=by rw[Rep];exact⟨a,t,vs,rfl,aH,J.mono sm,by simp⟩
 have B:Own ρ σ a:=⟨i,⟨_,_,e,rfl⟩,h1⟩;have u:∀j x,aZ (ρ.set i (.val a_ (.dv (kvs.map (·.1)) (kvs.map (·.2))))) σ j x->aZ ρ σ j x/\j≠i:=λj x⟨⟨s,m,r,w⟩,z⟩=>by
  by_cases f:j=i;.subst f;rw[cy hi]at r;cases r;cases w
  .rw[fM f]at r;exact⟨⟨⟨s,m,r,w⟩,z⟩,f⟩
 refine⟨⟨⟨λx o q=>?_,by simpa using g.len,λj L d q=>?_,λj s m q y=>?_,λj k x q y=>g.dis j k x (u j x q).1 (u k x y).1⟩,sm,λx n C=>?_,λx o q n=>?_,λx⟨j,q⟩=>.inl ⟨j,(u j x q).1⟩,by simp,λj s q l=>⟨rfl,?_⟩⟩,A⟩
 . by_cases h:x=a;.subst h;rw[aH]at q ⊢;exact q
   .rw[aC h]at q ⊢;exact g.sub x o q
 . by_cases f:j=i;.subst f;rw[cy hi]at q;cases q;exact⟨_,h1,A⟩
   .rw[fM f]at q;obtain⟨v,r,w⟩:=g.val j L d q;exact⟨v,r,w.mono sm⟩
 . by_cases f:j=i;.subst f;rw[cy hi]at q;cases q;cases y
   . rw[fM f]at q;obtain⟨x,ys,r,w,z,M⟩:=g.own j s m q y;have h:x≠a:=by rintro rfl;exact f (g.dis j i x ⟨⟨s,m,q,y⟩,r⟩ ⟨⟨_,_,e,rfl⟩,h1⟩)
     exact⟨x,ys,r,by rw[aC h];exact w,by rw[aC h];exact z,M.mono sm⟩
 . by_cases h:x=a;.subst h;exact .inl B
   .rw[aC h]at C;exact absurd n C
 . have h:x≠a:=by rintro rfl;exact n B
   rw[aC h];exact q
 . by_cases f:j=i;.subst f;rw[e]at q;cases q;cases l
   .exact⟨s,by rw[fM f];exact q,.refl s⟩
theorem Inv.Hf{X:Cx}{f:List (cx×Obj)}{s:cv}{a:cx}{kvs:List (Key×V)}(I:_L.Inv X f σ H s)(h:H a=aU (.dK kvs)):∃o,_L.Inv X f σ (upd H a (.dw o (.dK kvs))) s:=by obtain⟨hz,j,vs,r,g⟩:=(show bF X.prog X.w H s.heap a (.dK kvs)from I.hok a _ h);obtain⟨o,ho,_⟩:=g.typeIs;exact⟨o,I.write (h':=s.heap) (t':=s.toks) (by rw[h];exact trivial) (.inl rfl) (λb u _ e=>e) ⟨o,ho⟩ ⟨ho,hz,j,vs,r,g⟩⟩
theorem Ux(z:X.N[i]?=aU x)(A:yr X.env.scope x)(hd:(x==("__debug__":Str))=a_:=by decide)(t:(x==("__classdict__":Str))=a_:=by decide):SX X c (.Name x pos) (.var i):=by
 have h:=fO (X:=X) (pos:=pos) z A hd t;refine⟨?_,λj B=>by cases B;exact h⟩;rintro f s σ H Q I⟨F,ρ,r,ρ',g,e,k⟩;rw[_H.E1]at e;split at e;.rename_i b d q;cases e;obtain⟨v,h1,l⟩:=g.val i b d q;exact h f s σ H Q I ⟨v,h1,k v F H (.refl g) l⟩
 .rename_i b ds q;cases e;obtain⟨v,C,h1,l,m⟩:=g.freeze q;exact h f s σ H Q I ⟨v,h1,k v C H l m⟩
 .rename_i kvs q;cases e;obtain⟨a,h1,l,m⟩:=g.Dw q;refine cA (h f s σ H (λv w=>v=.ref a/\w=H) I ⟨.ref a,h1,rfl,rfl⟩) λu s1⟨v,H1,I1,r1,e1,e2⟩=>?_;subst e1 e2;obtain⟨o,y⟩:=Inv.Hf I1 l;exact⟨.ref a,_,y,r1,k _ _ _ (m o).1 (m o).2⟩
 .rename_i kvs q;cases e;obtain⟨a,vs,h1,l,m⟩:=g.Fp q;refine cA (h f s σ H (λv w=>v=.ref a/\w=H) I ⟨.ref a,h1,rfl,rfl⟩) λu s1⟨v,H1,I1,r1,e1,e2⟩=>?_;subst e1 e2;obtain⟨o,y⟩:=Inv.Hf I1 l;exact⟨.ref a,_,y,r1,k _ _ _ (m o).1 (m o).2⟩
 .cases e
theorem Bx{d:D}(h:PE X e (tC v))(hr:∀F,Rep X.K F v d):SX X c e (.con d):=⟨eV h λσ H Q⟨F,ρ,r,ρ',g,e,k⟩=>by rw[_H.E2]at e;cases e;exact k v F H (.refl g) (hr F),λi h=>by cases h⟩
theorem aa{i j}:SX X c (.Constant (.int i) j pos) (.con (.int i)):=Bx mU λF=>by rw[Rep]
theorem lX{i j}:SX X c (.Constant (.bool i) j pos) (.con (.bl i)):=Bx aae λF=>by rw[Rep]
theorem tO{j}:SX X c (.Constant .none j pos) (.con .non):=Bx W0 λF=>by rw[Rep]
theorem dB.int{K:PySem.W.Frag}{F H:Hp}{v:V}{i:Int}(h:dB K F H v (.int i)):v=.int i:=by
 rcases h with h|⟨_,_,_,_,_,_,h⟩;.rw[Rep]at h;exact h
 .cases h
theorem dB.bl{K:PySem.W.Frag}{F H:Hp}{v:V}{i:Bool}(h:dB K F H v (.bl i)):v=.bl i:=by
 rcases h with h|⟨_,_,_,_,_,_,h⟩;.rw[Rep]at h;exact h
 .cases h
theorem dB.str{K:PySem.W.Frag}{F H:Hp}{v:V}{i:Str}(h:dB K F H v (.str i)):v=.str i:=by
 rcases h with h|⟨_,_,_,_,_,_,h⟩;.rw[Rep]at h;exact h
 .cases h
theorem dB.non{K:PySem.W.Frag}{F H:Hp}{v:V}(h:dB K F H v .non):v=.non:=by
 rcases h with h|⟨_,_,_,_,_,_,h⟩;.rw[Rep]at h;exact h
 .cases h
theorem dB.tup{K:PySem.W.Frag}{F H:Hp}{v:V}{ds:List D}(s:aK F H)(h:dB K F H v (.tup ds)):∃a xs,v=.ref a/\iD K H a xs/\aF K F xs ds/\Rep K F v (.tup ds):=by
 rcases h with h|⟨_,_,_,_,_,_,h⟩;.have h':=h;rw[Rep]at h;obtain⟨a,xs,rfl,h1,f⟩:=h;exact⟨a,xs,rfl,aK.gZ s h1,f,h'⟩
 .cases h
theorem dB.lst{K:PySem.W.Frag}{F H:Hp}{v:V}{ds:List D}(s:aK F H)(h:dB K F H v (.lst ds)):∃a xs,v=.ref a/\eY K H a xs/\aF K F xs ds:=by
 rcases h with h|⟨a,xs,es,h1,f,g,h⟩;.rw[Rep]at h;obtain⟨a,xs,rfl,h1,f⟩:=h;exact⟨a,xs,rfl,s.seq h1,f⟩
 .cases h;exact⟨a,xs,h1,eY.of f,g⟩
theorem dB.dN{m:Dc}(s:aK F H)(h:dB K F H v (.dN m)):∃a o,v=.ref a/\H a=aU (.dw o m.ho):=by
 rcases h with h|⟨_,_,_,_,_,_,h⟩;.rw[Rep]at h;obtain⟨a,o,rfl,h⟩:=h;exact⟨a,o,rfl,s _ _ h⟩
 .cases h
theorem V6{X:Cx}{f:List (cx×Obj)}{s:cv}{a:cx}{g:Obj}{m:Dc}(I:_L.Inv X f σ H s)(h:H a=aU (.dw g m.ho)):∃o,s.heap.get? a=aU o/\o.cls=.type "dict":=by have z:=(show bF X.prog X.w H s.heap a (.dw g m.ho)from I.hok a _ h).2;cases m with|k kvs=>obtain⟨_,_,vs,_,d2⟩:=(show bF X.prog X.w H s.heap a (.dK _)from z);exact d2.typeIs|t kvs=>obtain⟨_,_,xs,_,o,es,ep,h1,j,_⟩:=(show bF X.prog X.w H s.heap a (.dT _)from z);exact⟨o,h1,j.1⟩
theorem dB.dv{ks:List Int}(s:aK F H)(h:dB K F H v (.dv ks ds)):∃a o vs,v=.ref a/\H a=aU (.dw o (Am ks vs))/\aF K F vs ds/\ks.length=ds.length:=by
 rcases h with h|⟨_,_,_,_,_,_,h⟩;.rw[Rep]at h;obtain⟨a,o,vs,rfl,h,h1,f⟩:=h;exact⟨a,o,vs,rfl,s _ _ h,h1,f⟩
 .cases h
theorem Tv{X:Cx}{f:List (cx×Obj)}{s:cv}{a:cx}{g:Obj}{ks:List Int}(I:_L.Inv X f σ H s)(h:H a=aU (.dw g (Am ks vs))):∃o,s.heap.get? a=aU o/\o.cls=.type "dict":=by have z:=(show bF X.prog X.w H s.heap a (.dw g (Am ks vs))from I.hok a _ h).2;obtain⟨_,_,vs,_,d2⟩:=(show bF X.prog X.w H s.heap a (.dK _)from z);exact d2.typeIs
theorem dB.items{d:D}(s:aK F H)(h:dB K F H v d)(e:items d=aU ds):∃a xs,v=.ref a/\(eY K H a xs\/iD K H a xs)/\aF K F xs ds:=by cases d with|tup es=>cases e;obtain⟨a,xs,h1,f,g,_⟩:=h.tup s;exact⟨a,xs,h1,.inr f,g⟩|lst es=>cases e;obtain⟨a,xs,h1,f,g⟩:=h.lst s;exact⟨a,xs,h1,.inl f,g⟩|_=>cases e
theorem cF.cV{Q:VK}{d:D}(s:aK F H)(r:Rep K F v d)(k:∀v g f,Ext F H g f->cF K g f H v (.val d)->Q v f):Q v H:=k v F H (.refl s) r
theorem bw(i:Int):Rep K F (.int i) (.int i):=by rw[Rep]
theorem il(i:Bool):Rep K F (.bl i) (.bl i):=by rw[Rep]
theorem Vs(i:Str):Rep K F (.str i) (.str i):=by rw[Rep]
theorem TV:Rep K F .non .non:=by rw[Rep]
theorem zV{Q:VK}{xs:List V}{p:cx}(s:aK F H)(r:aF K F xs ds)(f:H p=cr)(k:∀v h g,Ext F H h g->cF K h g H v (.own ds)->Q v g):Q (.ref p) (upd H p (.lst xs)):=by
 have j:F p=cr:=by cases q:F p with|none=>rfl|some o=>rw[s p o q]at f;cases f
 exact k _ F _ ⟨aK.cu f,.refl _,s.trans (aK.cu f),λ_ a b=>absurd a b⟩ ⟨p,xs,rfl,aH,j,r,f⟩
theorem Cy{Q:VK}{xs:List V}{p:cx}(s:aK F H)(r:aF K F xs ds)(g:H p=cr)(k:∀v j h,Ext F H j h->cF K j h H v (.val (.tup ds))->Q v h):Q (.ref p) (upd H p (.tup xs)):=by
 have m:F p=cr:=by cases q:F p with|none=>rfl|some o=>rw[s p o q]at g;cases g
 have sm:aK F (upd F p (.tup xs)):=aK.cu m;refine k _ (upd F p (.tup xs)) _ ⟨aK.cu g,sm,λb o e=>?_,λb n l=>?_⟩ ?_
 . by_cases f:b=p;.subst f;rw[aH]at e ⊢;exact e
   .rw[aC f]at e ⊢;exact s b o e
 . by_cases f:b=p;.subst f;exact jd g
   .rw[aC f]at l;exact absurd n l
 .show Rep K _ _ (.tup ds);rw[Rep];exact⟨p,xs,rfl,iD.of aH,r.mono sm⟩
end
theorem uQ(k:Int)(t:Tok)(l:cx)(a:Array b_)(n:Nat)(b:Option cx)(sl:Array (Option b_)):ve (gI.«int.__rmul__» ⟨[.int k t,.ref l],[]⟩) (λ_ R s=>s.heap.get? l=aU ⟨.type "list",b,.seq a n,sl⟩/\R (.ok (.ret md)) s):=.of_wp λprog w A R s h=>by obtain⟨c,g,d,e,os⟩:=s;obtain⟨f,h⟩:=h;wp_walk;exact⟨_,rfl,h⟩
theorem G3(l:cx)(a:Array b_)(n:Nat)(b:Option cx)(sl:Array (Option b_))(k:Int)(t:Tok)(h0:¬(!Builtin.List.listFitsIndex k)=cq)(h1:¬a.size*k.toNat>(2^63-1)/8)(c:¬uY (a.size*k.toNat)=cq):ve (gI.«list.__mul__» ⟨[.ref l,.int k t],[]⟩) (λ_ R s=>s.heap.get? l=aU ⟨.type "list",b,.seq a n,sl⟩/\R (.ok (.ret (et s.heap.objs.size))) {s with heap:=s.heap.push {cls:=.type "list",data:=.seq (uZ (·++·) #[] (cE (if a.isEmpty=cq then 0 else k.toNat) a))}}):=.of_wp λprog w A R s h=>by obtain⟨f,g,d,j,os⟩:=s;obtain⟨e,h⟩:=h;have hz:=AutoListH.joined_fits c;wp_walk using gL e;refine wpAny_ite_false (decide_eq_false (pV.mpr hz)) ?_;wp_walk;exact⟨_,rfl,h⟩
section
variable{X:Cx}{c:Call}{e a b d:dO}{p pa pb pd:P}{pos:Pos}
theorem O8:fL X (gx .Add) (λx y H Q=>∃l b xs o,x=.ref l/\y=.ref b/\eY X.K H l xs/\eY X.K H b o/\xs.length+o.length<=sizeLine/\∀p,H p=cr->Q (.ref p) (upd H p (.lst (xs++o)))):=by
 intro A s σ H x y v u Q I E G h;obtain⟨l,b,xs,o,rfl,rfl,J,L,hz,q⟩:=h;cases E;cases G;obtain⟨g,r,M,_⟩:=I.list J;obtain⟨f,B,t,_⟩:=I.list L;obtain⟨⟨cls,N,data,sl⟩,ho,hc,n,hd⟩:=id M.isList;obtain⟨⟨C,w,data2,z⟩,j,k,O,m⟩:=id t.isList;simp only at hc hd k m;subst hc hd k m;have e:g.toArray++f.toArray=(g++f).toArray:=by simp
 refine oQ ⟨_,ho,rfl⟩ ⟨_,j,rfl⟩ noFill_list_add seq_list_add PySem.F.slot_list_add PySem.F.entry_list_add (PySem.F.args_list_add_2 _ _) (list_addW l b g.toArray f.toArray n O N w sl z (by simp only[cS];rw[<-r.length,<-B.length];exact hz)) ⟨ho,j,?_⟩;rw[e];exact⟨.ref _,_,I.Vy (t':=s.toks) (r.append B) (by rw[ez];exact hz),rfl,q _ I.fresh⟩
theorem Ko:fL X (gx .Add) (λx y H Q=>∃a b ys,x=.ref a/\y=.ref b/\iD X.K H a []/\iD X.K H b ys/\Q (.ref b) H):=by intro r s σ H x y v u Q I w z h;obtain⟨a,b,ys,rfl,rfl,A,B,q⟩:=h;cases w;cases z;obtain⟨l,r1,p1,_⟩:=I.tuple A;obtain⟨f,J,p2,_⟩:=I.tuple B;obtain⟨⟨cls,C,data,sl⟩,ho,hc,n,hd⟩:=id p1;obtain⟨⟨t,m,data2,o⟩,g,j,E,k⟩:=id p2;simp only at hc hd j k;subst hc hd j k;have G:l=[]:=r1.qQ.mpr rfl;subst G;exact oQ ⟨_,ho,rfl⟩ ⟨_,g,rfl⟩ pT sw slot_tuple_add entry_tuple_add (args_tuple_add_2 _ _) (tuple_addW0 a b _ f.toArray n E C m sl o (by simp)) ⟨ho,g,⟨.ref b,H,I,rfl,q⟩⟩
theorem aW:fL X (gx .Add) (rD X.K (nT .add)):=by
 rintro f s σ H x y v u Q I g h⟨F,d,e,r,sm,o,q,he,k⟩;replace he:tV d e=aU r:=he;unfold tV at he;split at he;.cases he;rw[o.int]at g;rw[q.int]at h;exact VG f s σ H _ _ v u Q I g h ⟨_,_,rfl,rfl,cF.cV sm (bw _) k⟩
 .rename_i xs ys;obtain⟨m,he⟩:=bf he;subst he;obtain⟨a,vs,rfl,t,j⟩:=o.lst sm;obtain⟨b,w,rfl,z,l⟩:=q.lst sm;exact O8 f s σ H _ _ v u Q I g h ⟨a,b,vs,w,rfl,rfl,t,z,by rw[j.length,l.length];exact m,λp A=>zV sm (j.append l) A k⟩
 . rename_i xs ys;obtain⟨m,he⟩:=bf he;subst he;obtain⟨a,vs,rfl,t,j,C⟩:=o.tup sm;obtain⟨b,w,rfl,z,l,E⟩:=q.tup sm;by_cases h0:vs=[]
   . subst h0;have B:xs=[]:=by have:=j.length;exact ip this.symm
     subst B;exact Ko f s σ H _ _ v u Q I g h ⟨a,b,w,rfl,rfl,t,z,cF.cV sm E k⟩
   . refine Oo f s σ H _ _ v u Q I g h ⟨a,b,vs,w,rfl,rfl,t,z,h0,by rw[j.length,l.length];exact m,λe=>?_,λ_ p A=>Cy sm (j.append l) A k⟩;subst e;have B:ys=[]:=by have:=l.length;exact ip this.symm
     subst B;rw[gN]at k;exact cF.cV sm C k
 .rename_i G J;obtain⟨m,he⟩:=bf he;subst he;rw[o.str]at g;rw[q.str]at h;exact BL f s σ H _ _ v u Q I g h ⟨_,_,rfl,rfl,m,cF.cV sm (Vs _) k⟩
 .cases he
theorem dG:fL X (gx .Sub) (rD X.K (nT .sub)):=by
 rintro f s σ H x y v u Q I g h⟨F,d,e,r,sm,j,l,he,k⟩;replace he:yU d e=aU r:=he;unfold yU at he;split at he;.cases he;rw[j.int]at g;rw[l.int]at h;exact VJ f s σ H _ _ v u Q I g h ⟨_,_,rfl,rfl,cF.cV sm (bw _) k⟩
 .cases he
theorem Pj:fL X (gx .Mult) (λx y H Q=>∃l k xs,x=.ref l/\y=.int k/\eY X.K H l xs/\-(2^63)<=k/\k<2^63/\xs.length*k.toNat<=sizeLine/\∀p,H p=cr->Q (.ref p) (upd H p (.lst (cE k.toNat xs).flatten))):=by
 intro w s σ H x y v u Q I A B h;obtain⟨l,k,xs,rfl,rfl,C,h1,E,hz,q⟩:=h;cases A;obtain⟨t,rfl⟩:=B;obtain⟨f,r,G,_⟩:=I.list C;obtain⟨⟨cls,z,data,sl⟩,ho,hc,n,hd⟩:=id G.isList;simp only at hc hd;subst hc hd;have g:f.toArray.size*k.toNat<=sizeLine:=by rw[cS,<-r.length];exact hz
 have o:¬ f.toArray.size*k.toNat>(2^63-1)/8:=by
  have:(sizeLine:Nat)<=(2^63-1)/8:=by decide
  omega
 have j:uZ (·++·) #[] (cE (if f.toArray.isEmpty=cq then 0 else k.toNat) f.toArray)=(cE k.toNat f).flatten.toArray:=by
  have f0:∀m:Nat,uZ (·++·) #[] (cE m f.toArray)=(cE m f).flatten.toArray:=λm=>by have:=foldl_rep f m [];rw[rf]at this;exact this
  rw[f0];cases f with|nil=>simp|cons a L=>rw[if_neg (by simp)]
 refine r_ (T:="list") (U:="int") (by decide) ⟨_,ho,rfl⟩ (λJ=>n3 J k t) noFill_list_mul F.fills_int_mul F.slot_int_rmul repeat_list F.slot_int_index.lookup ?_;refine ms F.slot_int_rmul (n3 s k t) F.entry_int_rmul (F.args_int_rmul_2 _ _) (uQ k t l f.toArray n z sl) ⟨ho,rfl,⟨_,ho,rfl⟩,?_⟩;refine ms F.slot_list_mul ⟨_,ho,rfl⟩ F.entry_list_mul (F.args_list_mul_2 _ _) (G3 l f.toArray n z sl k t (by rw[fitsIndex_both h1 E];exact dr) o (by rw[J7 g];exact dr)) ⟨ho,?_⟩;rw[j];exact⟨.ref _,_,I.Vy (t':=s.toks) (r.rep k.toNat) (by rw[len_rep,rl];exact hz),rfl,q _ I.fresh⟩
theorem pG:fillsNumberSlot (.type "tuple") "mul"=fy a_:=PySem.fillsNumberSlot_seq (id:="tuple.__mul__") (r:=aU (.builtin "tuple.__rmul__")) slot_tuple_mul.lookup (by decide+kernel) PySem.F.slot_tuple_rmul.lookup (by decide+kernel)
theorem xH:seqRepeat? (.type "tuple")=fy (aU (.builtin "tuple.__mul__")):=by unfold seqRepeat?;rw[PySem.seqSlot_of (T:="tuple") (name:="__mul__") (id:="tuple.__mul__") slot_tuple_mul.lookup (by decide+kernel),PySem.seqSlot_of (T:="tuple") (name:="__rmul__") (id:="tuple.__rmul__") PySem.F.slot_tuple_rmul.lookup (by decide+kernel)];rfl
theorem sY(k:Int)(t:Tok)(l:cx)(f:Array b_)(n:Nat)(j:Option cx)(sl:Array (Option b_)):ve (gI.«int.__rmul__» ⟨[.int k t,.ref l],[]⟩) (λ_ R s=>s.heap.get? l=aU ⟨.type "tuple",j,.seq f n,sl⟩/\R (.ok (.ret md)) s):=.of_wp λprog w A R s h=>by obtain⟨m,g,d,o,os⟩:=s;obtain⟨q,h⟩:=h;wp_walk;exact⟨_,rfl,h⟩
theorem Br(l:cx)(f:Array b_)(n:Nat)(r:Option cx)(sl:Array (Option b_))(k:Int)(t:Tok)(h0:0<=k)(h1:k<2^63)(hz:f.size*k.toNat<=sizeLine)(u:0<f.size):ve (gI.«tuple.__mul__» ⟨[.ref l,.int k t],[]⟩) (λ_ R s=>s.heap.get? l=aU ⟨.type "tuple",r,.seq f n,sl⟩/\(k=1->R (.ok (.ret (et l))) s)/\(k≠1->R (.ok (.ret (et s.heap.objs.size))) {s with heap:=s.heap.push {cls:=.type "tuple",data:=.seq (uZ (·++·) #[] (cE k.toNat f))}})):=.of_wp λprog w A R s h=>by
  obtain⟨y,g,d,I,os⟩:=s;obtain⟨o,z,B⟩:=h;have j:f.isEmpty=a_:=by cases e:f.isEmpty with|false=>rfl|true=>rw[Array.isEmpty_iff_size_eq_zero]at e;omega
  show cK _ _ (asIndex (.int k t)>>=_) _ _ _;wp_walk using gL o;have C:s_ y l f:=⟨_,o,rfl,n,rfl⟩;rw[if_neg (by simp;omega)];refine bx (PyProof.Rows.tupleItemsOf_ C ?_);try dsimp only
  by_cases m:k=1;.rw[if_pos (by simp[m])];wp_walk using gL o;exact⟨_,rfl,z m⟩
  . have q:=B m;rw[if_neg (by simp[j,m])];by_cases E:k=0;.subst E;rw[if_pos (by simp)];unfold kA;refine bx (ei ?_);exact cw ⟨_,rfl,q⟩
    . have J:(f.size:Int)*k<=sizeLine:=by
       have:((f.size*k.toNat:Nat):Int)<=(sizeLine:Nat):=by exact_mod_cast hz
       rw[Int.natCast_mul,show((k.toNat:Nat):Int)=k by omega]at this;exact this
      have G:(sizeLine:Int)<=(2^63-1)/8:=by decide
      rw[if_neg (by simp[j];omega),if_neg (by omega),if_neg (by simp[Builtin.Tuple.tupleTooMany];omega)];unfold kA;refine bx (ei ?_ ?_);.exact cw ⟨_,rfl,q⟩
      .have:=foldl_rep f.toList k.toNat [];rw[rf,show f.toList.toArray=f by simp]at this;show(uZ (·++·) #[] (cE k.toNat f)).size<=sizeLine;rw[show(#[]:Array b_)=([]:List b_).toArray from rfl,this,cS,len_rep,eS,rl];exact hz
theorem Qf:fL X (gx .Mult) (λx y H Q=>∃l k xs,x=.ref l/\y=.int k/\iD X.K H l xs/\0<xs.length/\0<=k/\k<2^63/\xs.length*k.toNat<=sizeLine/\(k=1->Q (.ref l) H)/\(k≠1->∀p,H p=cr->Q (.ref p) (upd H p (.tup (cE k.toNat xs).flatten)))):=by
 intro w s σ H x y v u Q I A B h;obtain⟨l,k,xs,rfl,rfl,C,m,h1,E,hz,G,J⟩:=h;cases A;obtain⟨t,rfl⟩:=B;obtain⟨f,r,L,_⟩:=I.tuple C;obtain⟨⟨cls,z,data,sl⟩,ho,hc,n,hd⟩:=id L;simp only at hc hd;subst hc hd;have g:f.toArray.size*k.toNat<=sizeLine:=by rw[cS,<-r.length];exact hz
 have j:uZ (·++·) #[] (cE k.toNat f.toArray)=(cE k.toNat f).flatten.toArray:=by have:=foldl_rep f k.toNat [];rw[rf]at this;exact this
 refine r_ (T:="tuple") (U:="int") (by decide) ⟨_,ho,rfl⟩ (λM=>n3 M k t) pG F.fills_int_mul F.slot_int_rmul xH F.slot_int_index.lookup ?_;refine ms F.slot_int_rmul (n3 s k t) F.entry_int_rmul (F.args_int_rmul_2 _ _) (sY k t l f.toArray n z sl) ⟨ho,rfl,⟨_,ho,rfl⟩,?_⟩;refine ms slot_tuple_mul ⟨_,ho,rfl⟩ PySem.F.entry_tuple_mul (PySem.F.args_tuple_mul_2 _ _) (Br l f.toArray n z sl k t h1 E g (by rw[cS,<-r.length];exact m)) ⟨ho,λe=>⟨.ref l,H,I,rfl,G e⟩,λe=>?_⟩;rw[j];refine⟨.ref s.heap.objs.size,_,I.laid (t':=s.toks) (o:=.tup (cE k.toNat xs).flatten) (λb N q=>dz q) (cI) ?_,rfl,J e _ (I.hok.fresh (cI))⟩;exact⟨by rw[len_rep,rl];exact hz,_,r.rep k.toNat,mh _ _⟩
theorem dU:fL X (gx .Mult) (rD X.K (nT .mul)):=by
 rintro f s σ H x y v u Q I l g⟨F,d,e,r,sm,o,q,he,k⟩;replace he:p7 d e=aU r:=he;unfold p7 at he;split at he;.obtain⟨hc,he⟩:=bf he;subst he;rw[o.int]at l;rw[q.int]at g;exact Sv f s σ H _ _ v u Q I l g ⟨_,_,rfl,rfl,hc,cF.cV sm (bw _) k⟩
 . rename_i xs i;obtain⟨⟨h1,m,j⟩,he⟩:=bf he;subst he;obtain⟨a,vs,rfl,t,h⟩:=o.lst sm;rw[q.int]at g;have w:i<2^63:=by have z:=ro i.toNat m;have B:i.toNat<=16777216:=iA z j;omega
   exact Pj f s σ H _ _ v u Q I l g ⟨a,i,vs,rfl,rfl,t,by omega,w,by rw[h.length];exact j,λp A=>zV sm (h.rep i.toNat) A k⟩
 . rename_i xs i;obtain⟨⟨h1,m,j⟩,he⟩:=bf he;subst he;obtain⟨a,vs,rfl,t,h,C⟩:=o.tup sm;rw[q.int]at g;have w:i<2^63:=by have z:=ro i.toNat m;have B:i.toNat<=16777216:=iA z j;omega
   refine Qf f s σ H _ _ v u Q I l g ⟨a,i,vs,rfl,rfl,t,by rw[h.length];exact m,h1,w,by rw[h.length];exact j,λe=>?_,λe p A=>Cy sm (h.rep i.toNat) A k⟩;subst e;refine cF.cV sm ?_ k;have E:(cE (1:Int).toNat xs).flatten=xs:=by simp
   rw[E];exact C
 .cases he
theorem zT:fL X (gx .FloorDiv) (rD X.K (nT .fdiv)):=by
 rintro f s σ H x y v u Q I g h⟨F,d,e,r,sm,l,m,he,k⟩;replace he:rW d e=aU r:=he;unfold rW at he;split at he
 . rename_i i j;obtain⟨⟨h1,q⟩,he⟩:=bf he;subst he;rw[l.int]at g;rw[m.int]at h;obtain⟨t,rfl⟩:=g;obtain⟨t',rfl⟩:=h;have o:j.natAbs.log2<9000:=by
    have:j.natAbs<2^200:=by
     have:(2:Nat)^200=1606938044258990275541962092341162602522202993782792835301376:=by decide
     omega
    have w:=(Nat.log2_lt (by omega)).mpr this;omega
   exact floordiv_int (by omega) (by rw[Int.fdiv_eq_ediv_of_nonneg i (by omega)];exact⟨.int _,H,I.tok _,⟨_,rfl⟩,cF.cV sm (bw _) k⟩) (.inl (PyProof.noPylong_of_log2 o))
 .cases he
theorem fW:fL X (gx .Mod) (rD X.K (nT .mod)):=by
 rintro f s σ H x y v u Q I g h⟨F,d,e,r,sm,j,l,he,k⟩;replace he:Ad d e=aU r:=he;unfold Ad at he;split at he;.obtain⟨h1,he⟩:=bf he;subst he;rw[j.int]at g;rw[l.int]at h;exact Vu f s σ H _ _ v u Q I g h ⟨_,_,rfl,rfl,h1,cF.cV sm (bw _) k⟩
 .cases he
theorem jt:fL X (gx .Pow) (rD X.K (nT .pow)):=by
 rintro f s σ H x y v u Q I g h⟨F,d,e,r,sm,j,l,he,k⟩;replace he:zR d e=aU r:=he;unfold zR at he;split at he;.obtain⟨⟨h1,o,m⟩,he⟩:=bf he;subst he;rw[j.int]at g;rw[l.int]at h;exact WY f s σ H _ _ v u Q I g h ⟨_,_,rfl,rfl,⟨h1,by omega,m⟩,cF.cV sm (bw _) k⟩
 .cases he
theorem au{o:Op}{op:m4}(ho:fL X (gx op) (rD X.K (nT o)))(f:SX X c a pa)(g:SX X c b pb):SX X c (.BinOp a op b pos) (.bin o pa pb):=wZ (λh1 h=>ZK ho h1 h) f g (λρ=>rfl) rfl
theorem BK(j:SX X c a pa):SX X c (.UnaryOp .USub a pos) (.neg pa):=by refine Ws (f:=J2) (λh1=>aac ?_ h1) j (λρ=>rfl) rfl;rintro g s σ H x v Q I h⟨F,d,r,sm,l,he,k⟩;unfold J2 at he;obtain⟨i,m,o⟩:=map_some he;subst o;cases d<;>cases m;rw[l.int]at h;exact Tt g s σ H _ v Q I h ⟨_,rfl,cF.cV sm (bw _) k⟩
theorem Et{f:Int->Int->Bool}(ho:fL X (ec op) (Ot λi j=>.bl (f i j))):fL X (ec op) (rD X.K λx y=>(MT f x y).map λk=>.val (.bl k)):=by
 rintro g s σ H x y v u Q I l m⟨F,d,e,r,sm,o,q,he,k⟩;obtain⟨t,h,w⟩:=map_some (show(MT f d e).map _=aU r from he);subst w;unfold MT at h;split at h;.cases h;rw[o.int]at l;rw[q.int]at m;exact ho g s σ H _ _ v u Q I l m ⟨_,_,rfl,rfl,cF.cV sm (il _) k⟩
 .cases h
theorem Je{f:Int->Int->Bool}(ho:fL X (ec op) (Ot λi j=>.bl (f i j))){o:Cm}(hc:cm o=MT f):fL X (ec op) (rD X.K (mH o)):=by
 have e:mH o=λx y=>(MT f x y).map λk=>.val (.bl k):=by funext x y;unfold mH;rw[hc]
 rw[e];exact Et ho
theorem W4:fL X (ec .Lt) (rD X.K λx y=>(MT (λi j=>decide (i<j)) x y).map λk=>.val (.bl k)):=Et aag
theorem iz:fL X (ec .LtE) (rD X.K (mH .le)):=Je Y9 rfl
theorem m5:fL X (ec .Gt) (rD X.K (mH .gt)):=Je ZQ rfl
theorem Hw{d:D}(h:dB K F H v d):decide (v=.non)=jU d:=by cases d with
 |non=>rw[h.non];rfl|bl _=>rw[h.bl];rfl|int _=>rw[h.int];rfl|str _=>rw[h.str];rfl|tup _=>
   rcases h with h|⟨a,_,_,rfl,_⟩;.rw[Rep]at h;obtain⟨a,_,rfl,_⟩:=h;rfl
   .rfl|lst _=>
   rcases h with h|⟨a,_,_,rfl,_⟩;.rw[Rep]at h;obtain⟨a,_,rfl,_⟩:=h;rfl
   .rfl|dN _=>
   rcases h with h|⟨a,_,_,rfl,_⟩;.rw[Rep]at h;obtain⟨a,_,rfl,_⟩:=h;rfl
   .rfl|dv _ _=>
   rcases h with h|⟨a,_,_,rfl,_⟩;.rw[Rep]at h;obtain⟨a,_,_,rfl,_⟩:=h;rfl
   .rfl
theorem PL:fL X (ec .IsNot) (rD X.K (mH .QD)):=by
 rintro f s σ H x y v u Q I h j⟨F,d,e,r,sm,l,m,he,k⟩;obtain⟨t,g,o⟩:=map_some (show(cmN cq d e).map _=aU r from he);subst o;unfold cmN at g;split at g;.cases g;exact O3 f s σ H x y v u Q I h j ⟨m.non,by rw[Hw l];exact cF.cV sm (il _) k⟩
 .cases g
theorem BV{o:Cm}(ho:fL X (ec op) (rD X.K (mH o)))(f:SX X c a pa)(g:SX X c b pb)(h:gT op b=a_):SX X c (.Compare a [op] [b] pos) (.cmp o pa pb):=wZ (λh1 j=>PN ho h1 j h) f g (λρ=>rfl) rfl
theorem Jc{o E:Cm}{l:nV}(ho:fL X (ec op) (rD X.K (mH o)))(A:fL X (ec l) (rD X.K (mH E)))(G:SX X c a pa)(I:SX X c b pb)(hd:SX X c d pd)(J:sN [op,l] [b,d]=a_:=by with_unfolding_all rfl):SX X c (.Compare a [op,l] [b,d] pos) (.chain o E pa pb pd):=by
 obtain⟨ta,tb,h1,L,M⟩:=G.gq I;obtain⟨td,N,O⟩:=hd.bW;refine⟨eV (Iu ho A h1 L N J) ?_,λi h=>by cases h⟩;rintro σ H Q⟨F,ρ,r,ρ',g,e,k⟩;rw[_H.E9]at e;obtain⟨m,U,W,e⟩:=aj e;obtain⟨t,Y,j,e⟩:=aj e;have Z:=aD j;clear j;obtain⟨j,B⟩:=Z;subst B;have f:flat m.2=cq/\cm o m.1 m.2=aU t:=by
  split at j;.rename_i hf;exact⟨hf,j⟩
  .cases j
 obtain⟨f,j⟩:=f;refine M g W λv u F' H' s pv y=>⟨F',m.1,m.2,.val (.bl t),s.gs.sub,pv,y,by unfold mH;rw[j];rfl,λw C H2 x q=>?_⟩;have s2:=s.trans (x.stp s.gs);have q:Rep X.K C w (.bl t):=q;rw[Rep]at q;subst q;refine⟨t,rfl,?_⟩;cases t with|false=>rw[if_neg dr]at e ⊢;cases e;exact k _ C H2 s2 (show Rep X.K C _ _ from il _)|true=>
   rw[if_pos rfl]at e ⊢;obtain⟨z,ac,B,e⟩:=aj e;obtain⟨e4,e5⟩:=aD e;subst e5;refine O s2.gs B λw F3 H3 s3 pw=>⟨F3,m.2,z,r,s3.gs.sub,?_,pw,e4,λw' F4 H4 x4 q=>?_⟩
   . have x1:=x.fs;have x2:=s3.cQ;rcases y with y|⟨_,_,_,_,_,_,h⟩;.exact .inl ((y.mono x1).mono x2)
     .rw[h]at f;cases f
   .have s4:=s2.trans s3;exact k w' F4 H4 (s4.trans (x4.stp s4.gs)) (.later s4 (q.nC s4.gs))
end
section
variable{X:Cx}{c:Call}{e a b d:dO}{p pa pb pd:P}{pos:Pos}{rest:List dO}
theorem zb{x:D}{k:Bool}(h:Bs x=aU k):x=.bl k:=by cases x<;>cases h;rfl
theorem di{x:D}{k:Int}(h:gB x=aU k):x=.int k:=by cases x<;>cases h;rfl
theorem dg.bool{g j:Hp}{f:_L.St}{r:R}{k:Bool}(h:dg K g ρ' f j ρ σ H v r)(e:r.d=.bl k):v=.bl k:=by cases r with|val d=>cases(show d=.bl k from e);have h:Rep K g v (.bl k):=h;rw[Rep]at h;exact h|own ds=>cases e
noncomputable def ST(X:Cx)(c:Call)(e:dO)(p:P):Prop:=PT X e (K4 X.K (lO (_H.ev c p)))
noncomputable def SW(X:Cx)(c:Call)(e:dO)(p:P):Prop:=PW X e (K4 X.K (lO (_H.ev c p)))
theorem SW.st(h:SW X c e p):ST X c e p:=PW.pt h
theorem wL{t:TE}{Q:Bool->Hp->Prop}(hi:∀Q,Fv X.K (_H.ev c p) σ H Q->t σ H Q)(h:K4 X.K (lO (_H.ev c p)) σ H Q):t σ H λx l=>∃k,x=.bl k/\Q k l:=by obtain⟨F,ρ,k,ρ',g,e,q⟩:=h;obtain⟨r,j,m,f⟩:=aj e;have o:=aD f;clear f;obtain⟨f,u⟩:=o;subst u;exact hi _ ⟨F,ρ,r,j,g,m,λv w y s z=>⟨k,z.bool (zb f),q w y s⟩⟩
theorem jW(h:SX X c e p)(he:∀f,isTrue e X.env f=(do let v<-f;standAt e.pos;kX [v] (truthy v)):=by intro _;rfl):ST X c e p:=zP (V9 h.ev he) λσ H Q q=>wL (λ_ z=>z) q
theorem bY{o:Cm}(ho:fL X (ec op) (rD X.K (mH o)))(j:SX X c a pa)(l:SX X c b pb)(m:gT op b=a_):ST X c (.Compare a [op] [b] pos) (.cmp o pa pb):=by obtain⟨y,A,h1,B,C⟩:=j.gq l;refine zP (Fy ho h1 B m) λσ H Q q=>wL (t:=Vm (rD X.K (mH o)) y A) (λQ z=>?_) q;obtain⟨F,ρ,r,ρ',g,e,k⟩:=z;rw[_H.E8]at e;obtain⟨h,E,G,f⟩:=aj e;have I:=aD f;clear f;obtain⟨f,J⟩:=I;subst J;refine C g G λv u L Y s M N=>⟨L,h.1,h.2,r,s.gs.sub,M,N,f,λw O U x W=>?_⟩;exact k w O U (s.trans (x.stp s.gs)) (.later s (W.nC s.gs))
theorem pX(l:ST X c a pa):ST X c (.UnaryOp .Not a pos) (.not pa):=by
 refine zP (Ug l) ?_;rintro σ H Q⟨F,ρ,k,ρ',g,e,q⟩;unfold lO at e;rw[_H.E5]at e;obtain⟨r,m,o,f⟩:=aj e;obtain⟨h,t,u,w⟩:=aj o;cases w;have y:=aD f;clear f;obtain⟨f,z⟩:=y;subst z;have f:(!h)=k:=by cases f;rfl
 exact⟨F,ρ,h,_,g,u,λA j s=>by show Q (!h) j;rw[f];exact q A j s⟩
theorem Ww(ρ:List Sl):lO (_H.ev c (.or pa pb)) ρ=(lO (_H.ev c pa) ρ).bind λx ρ=>if x then .ok cq ρ else lO (_H.ev c pb) ρ:=by unfold lO;rw[_H.E7];unfold lO;cases _H.ev c pa ρ with|exc _ _=>rfl|stuck=>rfl|ok r f=>simp only[Res.bind];cases h:Bs r.d with|none=>rfl|some k=>cases k with|true=>rfl|false=>simp only[lift,i7,if_false];cases _H.ev c pb f with|exc _ _=>rfl|stuck=>rfl|ok g j=>simp only[Res.bind];cases h2:Bs g.d with|none=>rfl|some l=>rfl
theorem sS(f:ST X c a pa):SW X c (.BoolOp .Or [a] pos) pa:=Wb f
theorem vh(h:ST X c a pa)(j:SW X c (.BoolOp .Or (b::rest) pos) pb):SW X c (.BoolOp .Or (a::b::rest) pos) (.or pa pb):=by refine Zv (aaX h j) ?_;rintro σ H Q⟨F,ρ,k,ρ',g,e,q⟩;rw[Ww]at e;obtain⟨x,f,l,e⟩:=aj e;refine⟨F,ρ,x,f,g,l,λF1 m s1=>?_⟩;cases x with|true=>rw[if_pos rfl]at e ⊢;cases e;exact q F1 m s1|false=>rw[if_neg dr]at e ⊢;exact⟨F1,f,k,ρ',s1.gs,e,λo r s2=>q o r (s1.trans s2)⟩
theorem pW(hc:ST X c e p)(w:SX X c a pa)(y:SX X c b pb):SX X c (.IfExp e a b pos) (.M8 p pa pb):=by refine⟨eV (J5 hc w.ev y.ev) ?_,λi h=>by cases h⟩;rintro σ H Q⟨F,ρ,r,ρ',g,e,k⟩;rw[_H.E11]at e;obtain⟨x,f,z,e⟩:=aj e;refine⟨F,ρ,x,f,g,z,λF1 B s1=>?_⟩;cases x with|true=>rw[if_pos rfl]at e ⊢;obtain⟨j,l,m,o⟩:=aj e;cases o;refine⟨F1,f,j,_,s1.gs,m,λv A q s2 s=>?_⟩;obtain⟨t,s3,_,u⟩:=s2.dw s;exact k v t q (s1.trans s3) u|false=>rw[if_neg dr]at e ⊢;obtain⟨j,l,m,o⟩:=aj e;cases o;refine⟨F1,f,j,_,s1.gs,m,λv A q s2 s=>?_⟩;obtain⟨t,s3,_,u⟩:=s2.dw s;exact k v t q (s1.trans s3) u
theorem wV:∀{ps:List P}{ρ ρ':List Sl}{ds:List D},evs c ps ρ=.ok ds ρ'->ds.length=ps.length|[],_,_,_,h=>by rw[Jf]at h;cases h;rfl|p::ps,_,_,_,h=>by rw[KH]at h;obtain⟨r,f,_,h⟩:=aj h;obtain⟨xs,g,j,h⟩:=aj h;cases h;simp[wV j]
theorem aP:SA X c [] []:=⟨yF dX λσ H Q⟨F,ρ,ds,ρ',g,e,k⟩=>by rw[Jf]at e;cases e;exact k [] F H (.refl g) .nil,rfl⟩
theorem Ga{ps:List P}(h:SX X c a pa)(hr:SA X c es ps)(hs:cL (a::es) X.env=(a_,fi a X.env)::cL es X.env:=by rfl):SA X c (a::es) (pa::ps):=by refine⟨yF (cG h.ev hr.1 hs) ?_,by simp[hr.2]⟩;rintro σ H Q⟨F,ρ,ds,ρ',g,e,k⟩;rw[KH]at e;obtain⟨r,f,j,e⟩:=aj e;obtain⟨xs,l,m,e⟩:=aj e;cases e;refine⟨F,ρ,r,f,g,j,λv y z s o=>?_⟩;obtain⟨F1,s1,_,q⟩:=s.dw o;refine⟨F1,f,xs,_,s1.gs,m,λvs t u s2 w=>?_⟩;exact k _ t u (s1.trans s2) (.cons (q.mono s2.cQ) w)
theorem Ext.Nh{h j:Hp}{Q:VK}{xs:List V}(s:aB K j ρ σ h F ρ' σ H)(r:aF K F xs ds)(k:∀v g f,aB K j ρ σ h g ρ' σ f->dg K g ρ' σ f ρ σ h v (.val (.tup ds))->Q v f)(p:cx)(l:H p=cr):Q (.ref p) (upd H p (.tup xs)):=Cy s.gs.sub r l λv g f x m=>k v g f (s.trans (x.stp s.gs)) m
theorem dY{ps:List P}{x1}(h:SA X c es ps)(hz:ps.length<=sizeLine:=by decide):SX X c (.Tuple es x1 pos) (.tup ps):=by refine⟨eV (V0 h.1) ?_,λi h=>by cases h⟩;rintro σ H Q⟨F,ρ,r,ρ',g,e,k⟩;rw[_H.E12]at e;obtain⟨ds,l,f,e⟩:=aj e;cases e;exact⟨F,ρ,ds,_,g,f,λvs o q s j=>⟨by rw[j.length,wV f];exact hz,λp m=>Ext.Nh s j k p m⟩⟩
theorem dh{ps:List P}(h:SA X c es ps)(hz:ps.length<=sizeLine:=by decide):SX X c (.List es pos) (.lst ps):=by refine⟨eV (Te h.1) ?_,λi h=>by cases h⟩;rintro σ H Q⟨F,ρ,r,ρ',g,e,k⟩;rw[_H.E13]at e;obtain⟨ds,l,f,e⟩:=aj e;cases e;exact⟨F,ρ,ds,_,g,f,λvs u w s j=>⟨by rw[j.length,wV f];exact hz,λp m=>zV s.gs.sub j m λv o q x t=>k v o q (s.trans (x.stp s.gs)) (.later s (t.nC s.gs))⟩⟩
theorem JD{i:Int}{d:D}(h:at' ds i=aU d):∃j,_L.jE ds.length i=aU j/\ds[j]?=aU d:=cg h
theorem afD:IxR X (rD X.K M4):=by
 rintro f slice g s σ H x y v u Q I m l⟨F,d,e,r,sm,t,A,he,k⟩hs;unfold M4 at he;obtain⟨ds,B,he⟩:=cg he;obtain⟨i,C,he⟩:=cg he;obtain⟨z,E,he⟩:=map_some he;subst he;cases di C;rw[A.int]at l;obtain⟨p,xs,rfl,hq,o⟩:=t.items sm B;obtain⟨j,h1,G⟩:=JD E;obtain⟨w,J,q⟩:=o.get G;have h:Lr xs i=aU w:=by unfold Lr;rw[o.length,h1];exact J
 rcases hq with hq|hq;.exact Es f slice g s σ H _ _ v u Q I m l ⟨p,xs,i,w,rfl,rfl,hq,h,cF.cV sm q k⟩ hs
 .exact Up f slice g s σ H _ _ v u Q I m l ⟨p,xs,i,w,rfl,rfl,hq,h,cF.cV sm q k⟩ hs
theorem ao(g:SX X c a pa)(h:SX X c b pb)(hs:xN b:=by intro _ _;rfl):SX X c (.Subscript a b pos) (.idx pa pb):=wZ (f:=M4) (λh1 j=>QW afD h1 j hs) g h (λρ=>rfl) rfl
noncomputable def MP(K:PySem.W.Frag)(f:D->Option R):List V->Hp->VK->Prop:=λxs H Q=>∃x,xs=[x]/\rD1 K f x H Q
theorem oF{E:dO}{f:D->Option R}{q:P}(l:∀{t},PA X [a] t->PE X E (tCB (MP X.K f) t))(m:SX X c a pa)(o:∀ρ,_H.ev c q ρ=(_H.bW (isVar pa) (_H.ev c pa) ρ).bind λx ρ=>lift (f x) ρ)(u:isVar q=cr)(hs:cL [a] X.env=(a_,fi a X.env)::cL [] X.env:=by rfl):SX X c E q:=by obtain⟨N,h1,y⟩:=m.bW;refine⟨eV (l (cG h1 dX hs)) ?_,λi h=>by rw[u]at h;cases h⟩;rintro σ H Q⟨F,ρ,r,ρ',g,e,k⟩;rw[o]at e;obtain⟨x,z,A,j⟩:=aj e;have B:=aD j;clear j;obtain⟨j,C⟩:=B;subst C;refine y g A λv G O s I=>⟨v,rfl,G,x,r,s.gs.sub,I,j,λw J L x M=>?_⟩;exact k w J L (s.trans (x.stp s.gs)) (.later s (M.nC s.gs))
theorem ZZ:dC X (.builtin "len") (MP X.K λx=>blt .len [x]):=by rintro f s σ H xs g Q I r⟨x,h,F,d,j,sm,l,he,k⟩;obtain⟨ds,m,he⟩:=map_some (show(items d).map _=aU j from he);subst he;obtain⟨p,ys,rfl,o,q⟩:=l.items sm m;exact wI f s σ H xs g Q I r ⟨p,ys,h,o,by rw[q.length];exact cF.cV sm (bw _) k⟩
theorem VL:dC X (.type "list") (MP X.K λx=>blt .list [x]):=by rintro f s σ H xs g Q I r⟨x,h,F,d,j,sm,m,he,k⟩;obtain⟨ds,o,he⟩:=map_some (show(items d).map _=aU j from he);subst he;obtain⟨p,ys,rfl,q,t⟩:=m.items sm o;exact xP f s σ H xs g Q I r ⟨p,ys,h,q,λl u=>zV sm t u k⟩
theorem Py:dC X (.type "tuple") (MP X.K λx=>blt .tuple [x]):=by rintro f s σ H xs j Q I r⟨x,m,F,d,t,sm,o,he,k⟩;obtain⟨ds,g,he⟩:=map_some (show(items d).map _=aU t from he);subst he;cases d with|tup es=>cases g;obtain⟨a,ys,rfl,h,q,rt⟩:=o.tup sm;exact lZ f s σ H xs j Q I r ⟨a,ys,m,.inr ⟨h,cF.cV sm rt k⟩⟩|lst es=>cases g;obtain⟨a,ys,rfl,h,q⟩:=o.lst sm;exact lZ f s σ H xs j Q I r ⟨a,ys,m,.inl ⟨h,λl u=>Cy sm q u k⟩⟩|_=>cases g
theorem j7(f:x="len")(g:Gl X x)(j:X.mg x=cr)(k:SX X c a pa)(hs:cL [a] X.env=(a_,fi a X.env)::cL [] X.env:=by rfl):SX X c (.Call (.Name x p') [a] [] pos) (.blt .len [pa]):=by subst f;exact oF (λh=>fG ZZ g j PySem.boot_len h (he:=hs)) k (λρ=>rfl) rfl hs
theorem Qi(f:x="list")(g:Gl X x)(j:X.mg x=cr)(k:SX X c a pa)(hs:cL [a] X.env=(a_,fi a X.env)::cL [] X.env:=by rfl):SX X c (.Call (.Name x p') [a] [] pos) (.blt .list [pa]):=by subst f;exact oF (λh=>iM VL g j (by decide+kernel) h (he:=hs)) k (λρ=>rfl) rfl hs
theorem gQ(f:x="tuple")(g:Gl X x)(j:X.mg x=cr)(k:SX X c a pa)(hs:cL [a] X.env=(a_,fi a X.env)::cL [] X.env:=by rfl):SX X c (.Call (.Name x p') [a] [] pos) (.blt .tuple [pa]):=by subst f;exact oF (λh=>iM Py g j (by decide+kernel) h (he:=hs)) k (λρ=>rfl) rfl hs
end
noncomputable def Nq(K:PySem.W.Frag)(np:Nat)(f:List Sl->Res R):Sp:=λvs H Q _=>vs.length=np/\∃F args r a,GS K F args (vs.map aU) H/\f args=.ok r a/\∀v e b c,aB K F args (vs.map aU) H e a b c->dg K e a b c args (vs.map aU) H v r->Q v c
section
variable{K:PySem.W.Frag}
noncomputable def Bv(K:PySem.W.Frag)(F:Hp)(ρ:List Sl)(σ:_L.St)(H:Hp)(ρ₀:List Sl)(H₀:Hp)(v:V):Arg->Prop|.dat d=>Rep K F v d|.tmp ds=>∃x xs,v=.ref x/\H x=aU (.lst xs)/\F x=cr/\aF K F xs ds/\¬ Own ρ σ x/\(Own ρ₀ σ x\/H₀ x=cr)|.fX i=>σ[i]?=aU (aU v)
structure yQ(K:PySem.W.Frag)(F:Hp)(ρ:List Sl)(σ:_L.St)(H:Hp)(ρ₀:List Sl)(H₀:Hp)(as:List Arg)(vs:List V):Prop where
 len:as.length=vs.length
 one:∀(j:Nat)(a:Arg)(v:V),as[j]?=aU a->vs[j]?=aU v->Bv K F ρ σ H ρ₀ H₀ v a
 dis:∀(j k:Nat)(ds es:List D)(x:cx),as[j]?=aU (.tmp ds)->as[k]?=aU (.tmp es)->vs[j]?=aU (.ref x)->vs[k]?=aU (.ref x)->j=k
theorem Bv.later{b f:Hp}{a:Arg}(s:aB K F ρ σ H b ρ' σ f)(h:Bv K F ρ σ H ρ₀ H₀ v a):Bv K b ρ' σ f ρ₀ H₀ v a:=by cases a with|dat d=>exact Rep.mono s.cQ h|fX i=>exact h|tmp ds=>
   obtain⟨x,xs,h1,c,g,j,e,k⟩:=h;refine⟨x,xs,h1,s.keep x _ c e,?_,j.mono s.cQ,λo=>?_,k⟩;.cases q:b x with|none=>rfl|some o=>
       rcases s.yj x g (by rw[q];simp)with z|z;.exact absurd z e
       .exact(Ju c z).elim
   . rcases s.wu x o with z|z;.exact e z
     .rw[c]at z;cases z
theorem yQ.nil:yQ K F ρ σ H ρ₀ H₀ [] []:=⟨rfl,λj a v h=>by simp at h,λj k ds es x h=>by simp at h⟩
theorem yQ.cons{F H H₀:Hp}{ρ ρ₀:List Sl}{σ:_L.St}{a:Arg}{v:V}{as:List Arg}{vs:List V}(h:Bv K F ρ σ H ρ₀ H₀ v a)(t:yQ K F ρ σ H ρ₀ H₀ as vs)(hd:∀ds x,a=.tmp ds->v=.ref x->∀(k:Nat)es,as[k]?=aU (.tmp es)->vs[k]?≠aU (.ref x)):yQ K F ρ σ H ρ₀ H₀ (a::as) (v::vs):=by
 refine⟨by simp[t.len],λj b u h1 c=>?_,λj k ds es x h1 c e f=>?_⟩;.cases j with|zero=>simp at h1 c;subst h1;subst c;exact h|succ j=>exact t.one j b u (by simpa using h1) (by simpa using c)
 .cases j with
   |zero=>cases k with|zero=>rfl|succ k=>simp at h1 e;exact absurd (by simpa using f) (hd ds x h1 e k es (by simpa using c))
   |succ j=>cases k with|zero=>simp at c f;exact absurd (by simpa using e) (hd es x c f j ds (by simpa using h1))|succ k=>rw[t.dis j k ds es x (by simpa using h1) (by simpa using c) (by simpa using e) (by simpa using f)]
noncomputable def K8(ρ:List Sl):Arg->Sl->Prop|.dat d,s=>s=.val a_ d|.tmp ds,s=>s=.own a_ ds|.fX i,s=>(∃b d,ρ[i]?=aU (.val b d)/\s=.val a_ d)\/(∃b ds,ρ[i]?=aU (.own b ds)/\s=.own cq ds)\/∃ds,ρ[i]?=aU (.lent ds)/\s=.lent ds
theorem sy{ρ:List Sl}:∀{as:List Arg}{c:List Nat}{args:List Sl},cj ρ as c=aU args->args.length=as.length/\(∀(j:Nat)(a:Arg)(s:Sl),as[j]?=aU a->args[j]?=aU s->K8 ρ a s)/\(∀(j:Nat)(i:Nat)(s:Sl)ds,as[j]?=aU (.fX i)->args[j]?=aU s->lst? s=aU ds->i∉c)/\(∀(j k:Nat)(i:Nat)(s t:Sl)ds es,as[j]?=aU (.fX i)->as[k]?=aU (.fX i)->args[j]?=aU s->args[k]?=aU t->lst? s=aU ds->lst? t=aU es->j=k)
 |[],c,args,h=>by rw[Ar]at h;cases h;exact⟨rfl,λj a s h=>by simp at h,λj i s ds h=>by simp at h,λj k i s t ds es h=>by simp at h⟩|a::as,c,args,h=>by--the agp slot,the agq
   have key:∃s0 r p,args=s0::r/\cj ρ as p=aU r/\K8 ρ a s0/\((∃i ds,a=.fX i/\lst? s0=aU ds/\p=i::c/\i∉c)\/((∀i ds,a=.fX i->lst? s0≠aU ds)/\p=c)):=by cases a with|dat d=>rw[CP]at h;obtain⟨r,g,l⟩:=map_some h;exact⟨_,r,c,l.symm,g,rfl,.inr ⟨λi ds z=>(by cases z),rfl⟩⟩|tmp d=>rw[CK]at h;obtain⟨r,g,l⟩:=map_some h;exact⟨_,r,c,l.symm,g,rfl,.inr ⟨λi ds z=>(by cases z),rfl⟩⟩|fX i=>
      rw[uf]at h;split at h;.rename_i b d q;obtain⟨r,g,l⟩:=map_some h;exact⟨_,r,c,l.symm,g,.inl ⟨b,d,q,rfl⟩,.inr ⟨λ_ _ _ z=>(by cases z),rfl⟩⟩
      . rename_i b ds q;split at h;.cases h
        .rename_i hu;obtain⟨r,g,l⟩:=map_some h;exact⟨_,r,_,l.symm,g,.inr (.inl ⟨b,ds,q,rfl⟩),.inl ⟨i,_,rfl,rfl,rfl,by simpa using hu⟩⟩
      . rename_i ds q;split at h;.cases h
        .rename_i hu;obtain⟨r,g,l⟩:=map_some h;exact⟨_,r,_,l.symm,g,.inr (.inr ⟨ds,q,rfl⟩),.inl ⟨i,_,rfl,rfl,rfl,by simpa using hu⟩⟩
      .cases h
   obtain⟨s0,r,p,rfl,hr,y,hu⟩:=key;obtain⟨L,l2,A,M⟩:=sy hr;have sub:∀i,i∉p->i∉c:=λi hi I=>by
    rcases hu with⟨_,_,_,_,rfl,_⟩|⟨_,rfl⟩;.exact hi (dV _ I)
    .exact hi I
   refine⟨by simp[L],λj b s h1 f=>?_,λj i s ds h1 f o=>?_,λj k i s t ds es h1 f o w B C=>?_⟩;.cases j with|zero=>simp at h1 f;subst h1;subst f;exact y|succ j=>exact l2 j b s (by simpa using h1) (by simpa using f)
   .cases j with|zero=>
       simp at h1 f;subst h1;subst f;rcases hu with⟨J,_,e,_,_,m⟩|⟨m,_⟩;.cases e;exact m
       .exact absurd o (m i ds rfl)|succ j=>exact sub i (A j i s ds (by simpa using h1) (by simpa using f) o)
   . have N:∀(k:Nat)(t:Sl)es,a=.fX i->lst? s0=aU ds->(as[k]?=aU (.fX i))->r[k]?=aU t->lst? t=aU es->False:=λk t es u E G ht he=>by
      rcases hu with⟨J,_,e,_,rfl,m⟩|⟨m,_⟩;.rw[u]at e;cases e;exact A k i t es G ht he i5
      .exact m i ds u E
     have O:∀(k:Nat)(t:Sl)es,a=.fX i->lst? s0=aU es->(as[k]?=aU (.fX i))->r[k]?=aU t->lst? t=aU ds->False:=λk t es u E G ht he=>by
      rcases hu with⟨J,_,e,_,rfl,m⟩|⟨m,_⟩;.rw[u]at e;cases e;exact A k i t ds G ht he i5
      .exact m i es u E
     cases j with
     |zero=>cases k with|zero=>rfl|succ k=>simp at h1 o;subst o;exact(N k t es h1 B (by simpa using f) (by simpa using w) C).elim
     |succ j=>cases k with|zero=>simp at f w;subst w;exact(O j s es f C (by simpa using h1) (by simpa using o) B).elim|succ k=>rw[M j k i s t ds es (by simpa using h1) (by simpa using f) (by simpa using o) (by simpa using w) B C]
theorem yQ.get(A:yQ K F ρ σ H ρ₀ H₀ as vs){args:List Sl}{j:Nat}{s:Sl}(c:args.length=as.length)(h:args[j]?=aU s):∃a v,as[j]?=aU a/\vs[j]?=aU v/\Bv K F ρ σ H ρ₀ H₀ v a:=by
 have e:j<args.length:=(fB h).1;have h1:j<as.length:=by omega
 have b:j<vs.length:=by rw[<-A.len];exact h1
 exact⟨as[j],vs[j],by simp[h1],by simp[b],A.one j _ _ (by simp[h1]) (by simp[b])⟩
theorem args_gs{args:List Sl}(g:GS K F ρ σ H)(A:yQ K F ρ σ H ρ₀ H₀ as vs)(h:cj ρ as []=aU args):GS K F args (vs.map aU) H:=by
 obtain⟨I,l2,l3,Z⟩:=sy h;have M:∀{j:Nat}{v:V},vs[j]?=aU v->(vs.map aU)[j]?=aU (aU v):=λe=>by rw[eL,e];rfl
 have dn:∀{j:Nat}{v:V},(vs.map aU)[j]?=aU (aU v)->vs[j]?=aU v:=λ{j v}e=>by rw[eL]at e;cases q:vs[j]?with|none=>rw[q]at e;cases e|some w=>rw[q]at e;cases e;rfl
 refine⟨g.sub,by rw[I,A.len,dy],λj b d e=>?_,λj s ds e J=>?_,λj k x⟨⟨s,ds,e1,e2⟩,N⟩⟨⟨t,es,f1,f2⟩,f3⟩=>?_⟩;.obtain⟨a,v,h1,u,m⟩:=A.get I e;have B:=l2 j a _ h1 e;refine⟨v,M u,?_⟩;cases a with|dat d'=>cases B;exact m|tmp ds=>cases B|fX i=>
     rcases B with⟨O,d',r,c⟩|⟨_,_,_,c⟩|⟨_,_,c⟩;.cases c;obtain⟨w,f,p⟩:=g.val i O d r;have m:σ[i]?=aU (aU v):=m;rw[m]at f;cases f;exact p
     .cases c
     .cases c
 .obtain⟨a,v,h1,u,m⟩:=A.get I e;have B:=l2 j a _ h1 e;cases a with|dat d'=>cases B;cases J|tmp es=>cases B;cases J;obtain⟨x,xs,rfl,c,f,p,_⟩:=m;exact⟨x,_,M u,c,f,xs,rfl,p⟩|fX i=>
     have m:σ[i]?=aU (aU v):=m;rcases B with⟨O,d',r,c⟩|⟨O,es,r,c⟩|⟨es,r,c⟩;.cases c;cases J
     .cases c;cases J;obtain⟨x,xs,f,p⟩:=g.own i _ _ r rfl;rw[m]at f;cases f;exact⟨x,xs,M u,p⟩
     .cases c;cases J;obtain⟨x,xs,f,p⟩:=g.own i _ _ r rfl;rw[m]at f;cases f;exact⟨x,xs,M u,p⟩
 . obtain⟨a,v,h1,u,m⟩:=A.get I e1;obtain⟨Q,v',C,L,E⟩:=A.get I f1;have N:=dn N;have f3:=dn f3;rw[u]at N;cases N;rw[L]at f3;cases f3;have s1:=l2 j a _ h1 e1;have s2:=l2 k Q _ C f1;have U:∀{i:Nat}{s:Sl}{ds:Oc},lst? s=aU ds->K8 ρ (.fX i) s->∃G o,ρ[i]?=aU G/\lst? G=aU o:=λ{i s ds}l z=>by
    rcases z with⟨_,_,_,z⟩|⟨b,es,q,_⟩|⟨es,q,_⟩;.subst z;cases l
    .exact⟨_,_,q,rfl⟩
    .exact⟨_,_,q,rfl⟩
   cases a with
   |dat d=>cases s1;cases e2|tmp W9=>cases Q with|dat d=>cases s2;cases f2|tmp Y=>exact A.dis j k W9 Y x h1 C u L|fX i=>obtain⟨y,_,r,_,_,_,c,_⟩:=m;cases r;obtain⟨G,o,f,p⟩:=U f2 s2;exact absurd ⟨i,⟨G,o,f,p⟩,E⟩ c
   |fX i=>obtain⟨G,o,f,p⟩:=U e2 s1;cases Q with|dat d=>cases s2;cases f2|tmp Y=>obtain⟨y,_,r,_,_,_,c,_⟩:=E;cases r;exact absurd ⟨i,⟨G,o,f,p⟩,m⟩ c|fX i'=>obtain⟨W,X,q5,q6⟩:=U f2 s2;have:=g.dis i i' x ⟨⟨G,o,f,p⟩,m⟩ ⟨⟨W,X,q5,q6⟩,E⟩;subst this;exact Z j k i s t ds es h1 C e1 f1 e2 f2
theorem pg{as:List Arg}{ss:List Sl}:∀(ρ:List Sl)(n i:Nat),(fu as ss n ρ)[i]?=(ρ[i]?).map λs=>eG s (aY (n+i) as ss)
 |[],n,i=>by simp[sH,mW]|s::ρ,n,0=>by simp[sH,mW]|s::ρ,n,i+1=>by
   rw[mW];simp only[ll];rw[pg ρ (n+1) i];have:n+1+i=n+(i+1):=by omega
   rw[this]
theorem pA{as:List Arg}{ss:List Sl}:∀(ρ:List Sl)(n:Nat),(fu as ss n ρ).length=ρ.length|[],n=>rfl|s::ρ,n=>by rw[mW];simp[pA ρ]
theorem jq{i:Nat}:∀{as:List Arg}{ss:List Sl}{t:Sl},aY i as ss=aU t->∃j:Nat,as[j]?=aU (.fX i)/\ss[j]?=aU t
 |[],_,_,h=>by simp[aY]at h|a::as,[],_,h=>by cases a<;>simp[aY]at h|a::as,s::ss,t,h=>by
   have b:aY i as ss=aU t->∃j:Nat,(a::as)[j]?=aU (.fX i)/\(s::ss)[j]?=aU t:=λh=>by obtain⟨j,h1,c⟩:=jq h;exact⟨j+1,by simpa using h1,by simpa using c⟩
   cases a with|dat d=>exact b (by simpa[aY]using h)|tmp d=>exact b (by simpa[aY]using h)|fX k=>
     rw[aY]at h;split at h;.rename_i e;cases h;subst e;exact⟨0,rfl,rfl⟩
     .exact b h
theorem mG{i:Nat}:∀{as:List Arg}{ss:List Sl},as.length=ss.length->aY i as ss=cr->∀j:Nat,as[j]?≠aU (.fX i)
 |[],_,_,_=>λj h=>by simp at h|a::as,[],b,_=>by simp at b|a::as,s::ss,b,h=>λj c=>by
   have f:as.length=ss.length:=by simpa using b
   have g:aY i as ss=cr/\a≠.fX i:=by cases a with|dat d=>exact⟨by simpa[aY]using h,by simp⟩|tmp d=>exact⟨by simpa[aY]using h,by simp⟩|fX k=>
      rw[aY]at h;split at h;.cases h
      .rename_i l;exact⟨h,λe=>l (by cases e;rfl)⟩
   cases j with|zero=>simp at c;exact g.2 c|succ j=>exact mG f g.1 j (by simpa using c)
theorem Jj{Q X H':Hp}{args c:List Sl}{Y:_L.St}(s0:aB K Q ρ₀ σ H₀ F ρ σ H)(A:yQ K F ρ σ H ρ₀ H₀ as vs)(hb:cj ρ as []=aU args)(s:aB K F args (vs.map aU) H X c Y H'):aB K Q ρ₀ σ H₀ X (fu as c 0 ρ) σ H'/\∀v r,dg K X c Y H' args (vs.map aU) H v r->dg K X (fu as c 0 ρ) σ H' ρ₀ σ H₀ v r:=by
 have g:=s0.gs;obtain⟨M,l2,l3,l4⟩:=sy hb;have up:∀{j:Nat}{v:V},vs[j]?=aU v->(vs.map aU)[j]?=aU (aU v):=λe=>by rw[eL,e];rfl
 have dn:∀{j:Nat}{v:V},(vs.map aU)[j]?=aU (aU v)->vs[j]?=aU v:=λ{j v}e=>by rw[eL]at e;cases q:vs[j]?with|none=>rw[q]at e;cases e|some w=>rw[q]at e;cases e;rfl
 have la:as.length=c.length:=by rw[s.len,M]--whose are the lists that the callee holds
 have own:∀b,Own args (vs.map aU) b->(∃(j:Nat)(ds:List D),as[j]?=aU (Arg.tmp ds)/\vs[j]?=aU (V.ref b)/\¬ Own ρ σ b/\(Own ρ₀ σ b\/H₀ b=cr))\/Own ρ σ b:=λb⟨j,⟨sl,ds,E,U⟩,e3⟩=>by obtain⟨a,v,h1,C,J⟩:=A.get M E;have s1:=l2 j a _ h1 E;have e3:=dn e3;rw[C]at e3;cases e3;cases a with|dat d=>cases s1;cases U|tmp es=>obtain⟨x,_,k,_,_,_,f,N⟩:=J;cases k;exact .inl ⟨j,es,h1,C,f,N⟩|fX i=>
    right;rcases s1 with⟨_,_,_,z⟩|⟨b',es,q,_⟩|⟨es,q,_⟩;.subst z;cases U
    .exact⟨i,⟨_,_,q,rfl⟩,J⟩
    .exact⟨i,⟨_,_,q,rfl⟩,J⟩
 have back:∀b,Own ρ σ b\/H b=cr->Own ρ₀ σ b\/H₀ b=cr:=λb h=>by
  rcases h with h|h;.exact s0.wu b h
  . by_cases ho:Own ρ₀ σ b;.exact .inl ho
    .right;cases e:H₀ b with|none=>rfl|some o=>rw[s0.keep b o e ho]at h;cases h
 have L:∀b,Own args (vs.map aU) b->Own ρ₀ σ b\/H₀ b=cr:=λb h=>by
  rcases own b h with⟨_,_,_,_,_,z⟩|z;.exact z
  .exact back b (.inl z)--a name's slot behind the call
 have slot:∀{i:Nat}{t:Sl},(fu as c 0 ρ)[i]?=aU t->∃s1,ρ[i]?=aU s1/\t=eG s1 (aY i as c):=λ{i t}h=>by rw[pg]at h;obtain⟨s1,E,U⟩:=map_some h;exact⟨s1,E,by rw[<-U,rk]⟩
 have ae:∀{i:Nat}{s1:Sl},ρ[i]?=aU s1->(fu as c 0 ρ)[i]?=aU (eG s1 (aY i as c)):=λ{i s1}h=>by rw[pg,h,rk];rfl--what the callee left of a list that was lent to it
 have lent:∀{i j:Nat}{s1 t:Sl}{ds:List D},ρ[i]?=aU s1->lst? s1=aU (.l ds)->as[j]?=aU (.fX i)->c[j]?=aU t->∃v s2,σ[i]?=aU (aU v)/\Y[j]?=aU (aU v)/\args[j]?=aU s2/\oK s2 t/\((∃b,s1=.own b ds/\s2=.own cq ds)\/(s1=.lent ds/\s2=.lent ds)):=λ{i j s1 t ds}h1 C J h4=>by
  have Z:j<args.length:=by rw[M];exact(fB J).1
  have E:args[j]?=aU args[j]:=by simp[Z]
  obtain⟨a,v,k,f,N⟩:=A.get M E;rw[J]at k;cases k;have q4:=l2 j _ _ J E;have kind:(∃b,s1=.own b ds/\args[j]=.own cq ds)\/(s1=.lent ds/\args[j]=.lent ds):=by
   rcases q4 with⟨_,_,z,_⟩|⟨b,es,z,z'⟩|⟨es,z,z'⟩;.rw[h1]at z;cases z;cases C
   .rw[h1]at z;cases z;cases C;exact .inl ⟨b,rfl,z'⟩
   .rw[h1]at z;cases z;cases C;exact .inr ⟨rfl,z'⟩
  have lk:vW args[j]=cq:=by rcases kind with⟨_,_,z⟩|⟨_,z⟩<;>rw[z]<;>rfl
  obtain⟨u,s',y,z3⟩:=s.lk j _ E lk;rw[h4]at y;cases y;exact⟨v,_,N,by rw[u];exact up f,E,z3,kind⟩
 have QG:∀{i:Nat}{x:cx},aZ (fu as c 0 ρ) σ i x->aZ ρ σ i x:=λ{i x}⟨⟨t,ds,E,U⟩,e3⟩=>by obtain⟨s1,k,f⟩:=slot E;refine⟨?_,e3⟩;cases s1 with|aX=>subst f;cases U|val b d=>subst f;cases U|own b es=>exact⟨_,_,k,rfl⟩|lent es=>exact⟨_,_,k,rfl⟩|ie m=>exact⟨_,_,k,rfl⟩|cU m=>exact⟨_,_,k,rfl⟩|hold _=>subst f;cases U
 refine⟨?_,λv r h=>?_⟩;rotate_left;.cases r with|val d=>exact h|own ds=>
     obtain⟨x,xs,h1,C,J,h4,h5,h6⟩:=h;refine⟨x,xs,h1,C,J,h4,λ⟨i,h⟩=>?_,?_⟩
     . have hO:=QG h;obtain⟨⟨s1,W9,k,f⟩,N⟩:=hO;obtain⟨x',ai,w1,w2,_⟩:=g.own i s1 W9 k f;rw[N]at w1;cases w1;rcases h6 with h6|h6
       . rcases own x h6 with⟨_,_,_,_,z,_⟩|_;.exact z ⟨i,⟨s1,W9,k,f⟩,N⟩
         .--a name was lent
           obtain⟨j,⟨sl,es,w3,w4⟩,w5⟩:=h6;obtain⟨a',v',G,O,y3⟩:=A.get M w3;have sa:=l2 j a' _ G w3;have w5:=dn w5;rw[O]at w5;cases w5;cases a' with|dat d=>cases sa;cases w4|tmp al=>obtain⟨_,_,u1,_,_,_,u2,_⟩:=y3;cases u1;exact u2 ⟨i,⟨s1,W9,k,f⟩,N⟩|fX i'=>
             have ex:∃s' ac,ρ[i']?=aU s'/\lst? s'=aU ac:=by
              rcases sa with⟨_,_,_,z⟩|⟨b,es,q,_⟩|⟨es,q,_⟩;.subst z;cases w4
              .exact⟨_,_,q,rfl⟩
              .exact⟨_,_,q,rfl⟩
             have:=g.dis i i' x ⟨⟨s1,W9,k,f⟩,N⟩ ⟨ex,y3⟩;subst this;have hk:∃QF,W9=.l QF:=by
              rcases sa with⟨_,_,_,z⟩|⟨b,es,q,_⟩|⟨es,q,_⟩;.subst z;cases w4
              .rw[k]at q;cases q;cases f;exact⟨_,rfl⟩
              .rw[k]at q;cases q;cases f;exact⟨_,rfl⟩
             obtain⟨QF,rfl⟩:=hk;have Z:j<c.length:=by rw[<-la];exact(fB G).1
             have B:c[j]?=aU c[j]:=by simp[Z]
             obtain⟨v2,s2,u1,u2,u3,u4,u5⟩:=lent k f G B;rw[N]at u1;cases u1--the slot behind the call is a list's
             obtain⟨⟨t,dt,t1,t2⟩,_⟩:=h;obtain⟨s3,t3,t4⟩:=slot t1;rw[k]at t3;cases t3;have lo:∃t5,aY i as c=aU t5:=by cases I:aY i as c with|none=>exact absurd G (mG la I j)|some t5=>exact⟨t5,rfl⟩
             obtain⟨t5,I⟩:=lo;obtain⟨j2,t6,t7⟩:=jq I;have am:j2<args.length:=by rw[M];exact(fB t6).1
             obtain⟨_,s6,_,ap,af,ar,ag⟩:=lent k f t6 t7;have ah:j2=j:=by
              have a1:lst? s6=aU (.l QF):=by rcases ag with⟨_,_,z⟩|⟨_,z⟩<;>rw[z]<;>rfl
              have a2:lst? s2=aU (.l QF):=by rcases u5 with⟨_,_,z⟩|⟨_,z⟩<;>rw[z]<;>rfl
              exact l4 j2 j i s6 s2 _ _ t6 G af u3 a1 a2
             subst ah;rw[B]at t7;cases t7;rw[I]at t4;refine h5 ⟨j2,?_,u2⟩;rcases u5 with⟨b,u,y⟩|⟨u,y⟩
             . subst u;subst y;rcases u4 with⟨d2,z⟩|⟨d2,z⟩;.exact⟨_,.l d2,B,by rw[z];rfl⟩
               .rw[z]at t4;subst t4;cases t2
             .subst u;subst y;exact⟨_,.l QF,B,by rw[show c[j2]=.lent QF from u4];rfl⟩
       .rw[w2]at h6;cases h6
     . rcases h6 with h6|h6;.exact L x h6
       .exact back x (.inr h6)
 refine⟨⟨s.gs.sub,by rw[pA];exact g.len,λi b d e=>?_,λi t ds e B=>?_,λi j x h1 C=>g.dis i j x (QG h1) (QG C)⟩,s0.cQ.trans s.cQ,λb n n'=>?_,λb o h n=>?_,λb⟨i,h⟩=>back b (.inl ⟨i,QG h⟩),by rw[pA];exact s0.len,λi s1 h l=>?_⟩;.--data
   obtain⟨s1,k,f⟩:=slot e;cases s1 with|aX=>cases f|lent es=>cases f|ie _=>cases f|cU _=>cases f|hold _=>cases f|val b' d'=>cases f;obtain⟨v,u,y⟩:=g.val i b d k;exact⟨v,u,y.mono s.cQ⟩|own b' es=>cases I:aY i as c with|none=>rw[I]at f;cases f|some t=>rw[I]at f;obtain⟨j,u,y⟩:=jq I;obtain⟨v,s2,G,O,y3,y4,p⟩:=lent k rfl u y;cases t with|aX=>cases f|own _ _=>cases f|lent _=>cases f|ie _=>cases f|cU _=>cases f|hold _=>cases f|val b2 d2=>cases f;obtain⟨w,W,x2⟩:=s.gs.val j b2 d y;rw[O]at W;cases W;exact⟨v,G,x2⟩
 .--lists
   obtain⟨s1,k,f⟩:=slot e--a list that was not lent
   have stay:∀es,lst? s1=aU es->(∀j:Nat,as[j]?≠aU (.fX i))->t=s1->∃(a:cx)(xs:HO),σ[i]?=aU (aU (V.ref a))/\H' a=aU xs/\X a=cr/\mj K X xs ds:=λes he hn ht=>by
    subst ht;rw[he]at B;cases B;obtain⟨a,xs,u,y,z3,z4⟩:=g.own i _ ds k he;have no:¬ Own args (vs.map aU) a:=λh=>by obtain⟨j,⟨sl,es,w1,w2⟩,w3⟩:=h;obtain⟨a',v,h1,C,J⟩:=A.get M w1;have sa:=l2 j a' _ h1 w1;have w3:=dn w3;rw[C]at w3;cases w3;cases a' with|dat d=>cases sa;cases w2|tmp es=>obtain⟨x,_,G,_,_,_,O,_⟩:=J;cases G;exact O ⟨i,⟨_,ds,k,he⟩,u⟩|fX i'=>
       have:∃s' ac,ρ[i']?=aU s'/\lst? s'=aU ac:=by
        rcases sa with⟨_,_,_,z⟩|⟨b,es,q,_⟩|⟨es,q,_⟩;.subst z;cases w2
        .exact⟨_,_,q,rfl⟩
        .exact⟨_,_,q,rfl⟩
       have:=g.dis i i' a ⟨⟨_,ds,k,he⟩,u⟩ ⟨this,J⟩;subst this;exact hn j h1
    refine⟨a,xs,u,s.keep a _ y no,?_,z4.mono s.cQ⟩;cases q:X a with|none=>rfl|some o=>
      rcases s.yj a z3 (by rw[q];simp)with z|z;.exact absurd z no
      .rw[y]at z;exact(Lz z4 z).elim
   cases I:aY i as c with
   |none=>have hn:=mG la I;rw[I]at f;cases s1 with|aX=>subst f;cases B|val b' d'=>subst f;cases B|own b' es=>exact stay _ rfl hn f|lent es=>exact stay _ rfl hn f|ie m=>exact stay _ rfl hn f|cU m=>exact stay _ rfl hn f|hold _=>subst f;cases B
   |some t2=>rw[I]at f;obtain⟨j,u,y⟩:=jq I;cases s1 with
     |aX=>subst f;cases B|val b' d'=>subst f;cases B|hold _=>subst f;cases B|ie m=>
       have Z:j<args.length:=by rw[M];exact(fB u).1
       rcases l2 j _ _ u (show args[j]?=aU args[j]by simp[Z])with⟨_,_,z,_⟩|⟨_,_,z,_⟩|⟨_,z,_⟩<;>(rw[k]at z;cases z)|cU m=>
       have Z:j<args.length:=by rw[M];exact(fB u).1
       rcases l2 j _ _ u (show args[j]?=aU args[j]by simp[Z])with⟨_,_,z,_⟩|⟨_,_,z,_⟩|⟨_,z,_⟩<;>(rw[k]at z;cases z)|own b' es=>
       obtain⟨v,s2,G,O,y3,y4,p⟩:=lent k rfl u y;have:t2≠.aX/\∀x,t2≠.lent x:=by
        rcases p with⟨_,_,p⟩|⟨p,_⟩;.subst p;rcases y4 with⟨_,rfl⟩|⟨_,rfl⟩<;>simp
        .cases p
       cases t2 with
       |aX=>exact absurd rfl this.1|hold x=>
         rcases p with⟨_,_,p⟩|⟨p,_⟩;.subst p;rcases y4 with⟨_,h⟩|⟨_,h⟩<;>cases h
         .cases p|ie x=>
         rcases p with⟨_,_,p⟩|⟨p,_⟩;.subst p;rcases y4 with⟨_,h⟩|⟨_,h⟩<;>cases h
         .cases p|cU x=>
         rcases p with⟨_,_,p⟩|⟨p,_⟩;.subst p;rcases y4 with⟨_,h⟩|⟨_,h⟩<;>cases h
         .cases p|lent x=>exact absurd rfl (this.2 x)|val b2 d2=>subst f;cases B|own b2 av=>subst f;cases B;obtain⟨a,xs,W,x2⟩:=s.gs.own j _ _ y rfl;rw[O]at W;cases W;exact⟨a,xs,G,x2⟩
     |lent es=>
       obtain⟨v,s2,G,O,y3,y4,p⟩:=lent k rfl u y;have ht:t=.lent es:=by rw[f];cases t2<;>rfl
       subst ht;cases B;rcases p with⟨_,p,_⟩|⟨_,p⟩;.cases p
       .subst p;cases(show t2=.lent es from y4);obtain⟨a,xs,W,x2⟩:=s.gs.own j _ _ y rfl;rw[O]at W;cases W;exact⟨a,xs,G,x2⟩
 . by_cases q:F b=cr
   . rcases s.yj b q n' with z|z;.exact(L b z).imp id jd
     . by_cases ho:Own ρ₀ σ b;.exact .inl ho
       .right;cases f:H₀ b with|none=>rfl|some o=>rw[s0.keep b o f ho]at z;exact z
   .exact s0.yj b n q
 . refine s.keep b o (s0.keep b o h n) λz=>?_;rcases L b z with z|z;.exact n z
   .rw[h]at z;cases z
 .obtain⟨E,s2,C,k2⟩:=s0.lk i s1 h l;refine⟨E,_,ae C,?_⟩;have Y0:=k2.vW l;refine oK.trans l k2 ?_;cases s2 with
   |aX=>cases Y0|ie _=>cases Y0|cU _=>cases Y0|hold _=>exact oK.refl _|val b d=>exact oK.refl _|lent es=>cases aY i as c with|none=>rfl|some t=>cases t<;>rfl
   |own b es=>cases b with|false=>cases Y0|true=>cases aY i as c with|none=>exact .inl ⟨_,rfl⟩|some t=>cases t with|aX=>exact .inl ⟨_,rfl⟩|lent _=>exact .inl ⟨_,rfl⟩|ie _=>exact .inl ⟨_,rfl⟩|cU _=>exact .inl ⟨_,rfl⟩|hold _=>exact .inl ⟨_,rfl⟩|own _ ds=>exact .inl ⟨_,rfl⟩|val _ d=>exact .inr ⟨_,rfl⟩
theorem yQ.rebase{F1 g k l:Hp}{c f:List Sl}(a:aB K F ρ σ H F1 c σ g)(A:yQ K k f σ l c g as vs):yQ K k f σ l ρ H as vs:=by refine⟨A.len,λj b v h1 m=>?_,A.dis⟩;have h:=A.one j b v h1 m;cases b with|dat d=>exact h|fX i=>exact h|tmp ds=>
   obtain⟨x,xs,p,q,r,s,t,q6⟩:=h;refine⟨x,xs,p,q,r,s,t,?_⟩;rcases q6 with q6|q6;.exact a.wu x q6
   . by_cases ho:Own ρ σ x;.exact .inl ho
     .right;cases e:H x with|none=>rfl|some o=>rw[a.keep x o e ho]at q6;cases q6
theorem yQ.aaE{F1 c e f:Hp}{a b:List Sl}{r:R}(s1:aB K F ρ σ H F1 a σ c)(g:dg K F1 a σ c ρ σ H v r)(s2:aB K F1 a σ c e b σ f)(A:yQ K e b σ f a c as vs):yQ K e b σ f ρ H (vy r::as) (v::vs):=by
 have h1:Bv K F1 a σ c ρ H v (vy r):=by cases r with|val d=>exact g|own ds=>exact g
 refine .cons (h1.later s2) (A.rebase s1) λds x m ev k es o j=>?_;cases r with|val d=>cases m|own p=>
   obtain⟨y,xs,l,q,u,w,s,B⟩:=g;rw[ev]at l;cases l;have h:=A.one k _ _ o j;obtain⟨z,C,t,_,_,_,_,w6⟩:=h;cases t;rcases w6 with w6|w6;.exact s w6
   .rw[q]at w6;cases w6
end
section
variable{K:PySem.W.Frag}{F F1 H H1:Hp}{ρ ρ1 ρ2:List Sl}{σ σ1:_L.St}
theorem xf{s:Sl}(h:put ρ i s=aU ρ1):∃s0,ρ[i]?=aU s0/\vW s0=a_/\ρ1=ρ.set i s:=by
 unfold put at h;split at h;.rename_i q;cases h;exact⟨_,q,rfl,rfl⟩
 .rename_i q;cases h;exact⟨_,q,rfl,rfl⟩
 .rename_i q;cases h;exact⟨_,q,rfl,rfl⟩
 .cases h
theorem aB.put{r:R}(s:aB K F ρ σ H F1 ρ1 σ1 H1)(y:dg K F1 ρ1 σ1 H1 ρ σ H v r)(h:_H.put ρ1 i (Ax r)=aU ρ2):aB K F ρ σ H F1 ρ2 (σ1.set i (aU v)) H1:=by
 obtain⟨s0,h0,B,rfl⟩:=xf h;have hi:i<ρ1.length:=(fB h0).1;have m:i<σ1.length:=by rw[<-s.gs.len];exact hi
 have f:∀{j:Nat}{a:cx},j≠i->aZ (ρ1.set i (Ax r)) (σ1.set i (aU v)) j a->aZ ρ1 σ1 j a:=λ{j a}c⟨⟨t,ds,o,p⟩,g⟩=>by rw[fM c]at o g;exact⟨⟨t,ds,o,p⟩,g⟩
 have q:∀{a:cx},aZ (ρ1.set i (Ax r)) (σ1.set i (aU v)) i a->¬ Own ρ1 σ1 a/\(Own ρ σ a\/H a=cr):=λ{a}⟨⟨t,ds,o,p⟩,g⟩=>by rw[cy hi]at o;rw[cy m]at g;cases o;cases g;cases r with|val d=>cases p|own es=>obtain⟨x,xs,I,C,E,G,J,L⟩:=y;cases I;exact⟨J,L⟩
 refine⟨⟨s.gs.sub,by simp[s.gs.len],λj b d e=>?_,λj t ds e z=>?_,λj k a h1 A=>?_⟩,s.cQ,s.yj,s.keep,λa⟨j,c⟩=>?_,by simp[s.len],λj t e l=>?_⟩
 . by_cases c:j=i;.subst c;rw[cy hi]at e;cases r with|own es=>cases e|val d'=>cases e;exact⟨v,cy m,y⟩
   .rw[fM c]at e ⊢;exact s.gs.val j b d e
 . by_cases c:j=i;.subst c;rw[cy hi]at e;cases r with|val d'=>cases e;cases z|own es=>cases e;cases z;obtain⟨x,xs,rfl,C,E,G,_⟩:=y;exact⟨x,_,cy m,C,E,xs,rfl,G⟩
   .rw[fM c]at e ⊢;exact s.gs.own j t ds e z
 . by_cases c:j=i
   . by_cases u:k=i;.rw[c,u]
     .subst c;exact absurd ⟨k,f u A⟩ (q h1).1
   . by_cases u:k=i;.subst u;exact absurd ⟨j,f c h1⟩ (q A).1
     .exact s.gs.dis j k a (f c h1) (f u A)
 . by_cases w:j=i;.subst w;exact(q c).2
   .exact s.wu a ⟨j,f w c⟩
 . obtain⟨o,t1,p,g⟩:=s.lk j t e l;have c:j≠i:=by rintro rfl;rw[h0]at p;cases p;rw[g.vW l]at B;cases B
   exact⟨by rw[fM c];exact o,t1,by rw[fM c];exact p,g⟩
theorem GS.mut{x:Nat}{b:Bool}{es:List D}{a:cx}{ys:List V}(g:GS K F ρ σ H)(e:ρ[x]?=aU (.own b ds))(p:σ[x]?=aU (aU (.ref a)))(r:aF K F ys es):aB K F ρ σ H F (ρ.set x (.own b es)) σ (upd H a (.lst ys)):=by
 have hi:x<ρ.length:=(fB e).1;have w:aZ ρ σ x a:=⟨⟨_,_,e,rfl⟩,p⟩;obtain⟨J,xs,h1,L,y,M⟩:=g.uU x _ ds e rfl;rw[p]at h1;cases h1;have h:∀{j:Nat}{c:cx},aZ (ρ.set x (.own b es)) σ j c->aZ ρ σ j c:=λ{j c}⟨⟨t,dt,m,s⟩,q3⟩=>by
  by_cases f:j=x;.subst f;exact⟨⟨_,_,e,rfl⟩,q3⟩
  .rw[fM f]at m;exact⟨⟨t,dt,m,s⟩,q3⟩
 refine⟨⟨λc o q=>?_,by simp[g.len],λj A d q=>?_,λj t dt q u=>?_,λj k c m s=>g.dis j k c (h m) (h s)⟩,.refl _,λc n B=>absurd n B,λc o q n=>?_,λc⟨j,q⟩=>.inl ⟨j,h q⟩,by simp,λj t q l=>⟨rfl,?_⟩⟩
 . have:c≠a:=by rintro rfl;rw[y]at q;cases q
   rw[aC this];exact g.sub c o q
 . by_cases f:j=x;.subst f;rw[cy hi]at q;cases q
   .rw[fM f]at q;exact g.val j A d q
 . by_cases f:j=x;.subst f;rw[cy hi]at q;cases q;cases u;exact⟨a,_,p,aH,y,ys,rfl,r⟩
   . rw[fM f]at q;obtain⟨c,C,z,E,G,I⟩:=g.own j t dt q u;have:c≠a:=by rintro rfl;exact f (g.dis j x c ⟨⟨t,dt,q,u⟩,z⟩ w)
     exact⟨c,C,z,by rw[aC this];exact E,G,I⟩
 . have:c≠a:=by rintro rfl;exact n ⟨x,w⟩
   rw[aC this];exact q
 . by_cases f:j=x;.subst f;rw[e]at q;cases q;refine⟨_,cy hi,?_⟩;cases b with|true=>exact .inl ⟨_,rfl⟩|false=>cases l
   .exact⟨t,by rw[fM f];exact q,.refl t⟩
theorem GS.lend{b:Bool}(g:GS K F ρ σ H)(e:ρ[i]?=aU (.own b ds)):GS K F (ρ.set i (.lent ds)) σ H:=by
 have hi:i<ρ.length:=(fB e).1;have f:∀{j:Nat}{c:cx},aZ (ρ.set i (.lent ds)) σ j c->aZ ρ σ j c:=λ{j c}⟨⟨t,dt,h,l⟩,q3⟩=>by
  by_cases a:j=i;.subst a;exact⟨⟨_,_,e,rfl⟩,q3⟩
  .rw[fM a]at h;exact⟨⟨t,dt,h,l⟩,q3⟩
 refine⟨g.sub,by simp[g.len],λj o d q=>?_,λj t dt q m=>?_,λj k c h l=>g.dis j k c (f h) (f l)⟩
 . by_cases a:j=i;.subst a;rw[cy hi]at q;cases q
   .rw[fM a]at q;exact g.val j o d q
 . by_cases a:j=i;.subst a;rw[cy hi]at q;cases q;cases m;exact g.own j _ _ e rfl
   .rw[fM a]at q;exact g.own j t dt q m
theorem aB.bA{b:Bool}(g:GS K F ρ σ H)(e:ρ[i]?=aU (.own b ds))(s:aB K F (ρ.set i (.lent ds)) σ H F1 ρ1 σ1 H1):aB K F ρ σ H F1 (ρ1.set i (.own b ds)) σ1 H1/\∀v r,dg K F1 ρ1 σ1 H1 (ρ.set i (.lent ds)) σ H v r->dg K F1 (ρ1.set i (.own b ds)) σ1 H1 ρ σ H v r:=by
 have hi:i<ρ.length:=(fB e).1;have h1:(ρ.set i (.lent ds))[i]?=aU (.lent ds):=cy hi;obtain⟨C,E,z,G⟩:=s.lk i _ h1 rfl;cases(show E=.lent ds from G);have u:i<ρ1.length:=(fB z).1;have A:∀{j:Nat}{c:cx},aZ (ρ.set i (.lent ds)) σ j c->aZ ρ σ j c:=λ{j c}⟨⟨t,dt,f,p⟩,m⟩=>by
  by_cases a:j=i;.subst a;exact⟨⟨_,_,e,rfl⟩,m⟩
  .rw[fM a]at f;exact⟨⟨t,dt,f,p⟩,m⟩
 have I:∀{c:cx},Own ρ σ c->Own (ρ.set i (.lent ds)) σ c:=λ{c}⟨j,⟨t,dt,f,p⟩,m⟩=>by
  by_cases a:j=i;.subst a;exact⟨j,⟨_,_,h1,rfl⟩,m⟩
  .exact⟨j,⟨t,dt,by rw[fM a];exact f,p⟩,m⟩
 have y:∀{j:Nat}{c:cx},aZ (ρ1.set i (.own b ds)) σ1 j c->aZ ρ1 σ1 j c:=λ{j c}⟨⟨t,dt,f,p⟩,m⟩=>by
  by_cases a:j=i;.subst a;exact⟨⟨_,_,z,rfl⟩,m⟩
  .rw[fM a]at f;exact⟨⟨t,dt,f,p⟩,m⟩
 have w:∀{c:cx}{h:Hp},Own (ρ.set i (.lent ds)) σ c\/h c=cr->Own ρ σ c\/h c=cr:=λ{c h}q=>q.imp (λ⟨j,q⟩=>⟨j,A q⟩) id;have J:∀{c:cx}{h:Hp},Own (ρ.set i (.lent ds)) σ c\/nt (h c)=cr->Own ρ σ c\/nt (h c)=cr:=λ{c h}q=>q.imp (λ⟨j,q⟩=>⟨j,A q⟩) id;refine⟨⟨⟨s.gs.sub,by simp[s.gs.len],λj L d q=>?_,λj t dt q B=>?_,λj k c f p=>s.gs.dis j k c (y f) (y p)⟩,s.cQ,λc n M=>J (s.yj c n M),λc o q n=>s.keep c o q λ⟨j,x⟩=>n ⟨j,A x⟩,λc⟨j,q⟩=>w (s.wu c ⟨j,y q⟩),by simpa using s.len,λj t q l=>?_⟩,λv r h=>?_⟩
 . by_cases a:j=i;.subst a;rw[cy u]at q;cases q
   .rw[fM a]at q;exact s.gs.val j L d q
 . by_cases a:j=i;.subst a;rw[cy u]at q;cases q;cases B;exact s.gs.own j _ _ z rfl
   .rw[fM a]at q;exact s.gs.own j t dt q B
 . by_cases a:j=i;.subst a;rw[e]at q;cases q;refine⟨C,_,cy u,?_⟩;cases b with|true=>exact .inl ⟨_,rfl⟩|false=>cases l
   .obtain⟨N,t',O,Q⟩:=s.lk j t (by rw[fM a];exact q) l;exact⟨N,t',by rw[fM a];exact O,Q⟩
 .cases r with|val d=>exact h|own es=>obtain⟨x,xs,f,p,m,U,W,X⟩:=h;exact⟨x,xs,f,p,m,U,λ⟨j,q⟩=>W ⟨j,y q⟩,w X⟩
theorem GS.give(g:GS K F ρ σ H)(e:ρ[i]?=aU (.own a_ ds)):∃v,σ[i]?=aU (aU v)/\aB K F ρ σ H F (ρ.set i .aX) σ H/\dg K F (ρ.set i .aX) σ H ρ σ H v (.own ds):=by
 have hi:i<ρ.length:=(fB e).1;obtain⟨a,xs,h1,r,s,u⟩:=g.uU i _ ds e rfl;have f:∀{j:Nat}{c:cx},aZ (ρ.set i .aX) σ j c->aZ ρ σ j c/\j≠i:=λ{j c}⟨⟨t,dt,h,m⟩,q3⟩=>by
  by_cases b:j=i;.subst b;rw[cy hi]at h;cases h;cases m
  .rw[fM b]at h;exact⟨⟨⟨t,dt,h,m⟩,q3⟩,b⟩
 have o:aZ ρ σ i a:=⟨⟨_,_,e,rfl⟩,h1⟩;refine⟨.ref a,h1,⟨⟨g.sub,by simp[g.len],λj w d q=>?_,λj t dt q p=>?_,λj k c h m=>g.dis j k c (f h).1 (f m).1⟩,.refl _,λc n y=>absurd n y,λ_ _ q _=>q,λc⟨j,q⟩=>.inl ⟨j,(f q).1⟩,by simp,λj t q l=>⟨rfl,?_⟩⟩,a,xs,rfl,r,s,u,λ⟨j,q⟩=>?_,.inl ⟨i,o⟩⟩
 . by_cases b:j=i;.subst b;rw[cy hi]at q;cases q
   .rw[fM b]at q;exact g.val j w d q
 . by_cases b:j=i;.subst b;rw[cy hi]at q;cases q;cases p
   .rw[fM b]at q;exact g.own j t dt q p
 . by_cases b:j=i;.subst b;rw[e]at q;cases q;cases l
   .exact⟨t,by rw[fM b];exact q,.refl t⟩
 .exact(f q).2 (g.dis j i a (f q).1 o)
theorem GS.more{τ:List (Option V)}(g:GS K F ρ σ H)(u:τ.length=n):GS K F (ρ++cE n .aX) (σ++τ) H:=by
 have get:∀{j:Nat}{t:Sl},(ρ++cE n Sl.aX)[j]?=aU t->t≠.aX->ρ[j]?=aU t/\j<ρ.length:=λ{j t}q ne=>by
  by_cases h:j<ρ.length;.rw[dL h]at q;exact⟨q,h⟩
  . rw[eW (by omega),j1]at q;split at q;.cases q;exact absurd rfl ne
    .cases q
 have m:∀{j:Nat}{v:Option V},j<ρ.length->(σ[j]?=aU v↔(σ++τ)[j]?=aU v):=λ{j v}h=>by rw[dL (by rw[<-g.len];exact h)]
 have e:∀{j:Nat}{c:cx},aZ (ρ++cE n .aX) (σ++τ) j c->aZ ρ σ j c:=λ{j c}⟨⟨t,dt,o,l⟩,q3⟩=>by obtain⟨h1,f⟩:=get o (by rintro rfl;cases l);exact⟨⟨t,dt,h1,l⟩,(m f).mpr q3⟩
 refine⟨g.sub,by simp[g.len,u],λj b d q=>?_,λj t dt q s=>?_,λj k c o l=>g.dis j k c (e o) (e l)⟩;.obtain⟨h1,f⟩:=get q (by simp);obtain⟨v,p,r⟩:=g.val j b d h1;exact⟨v,(m f).mp p,r⟩
 .obtain⟨h1,f⟩:=get q (by rintro rfl;cases s);obtain⟨a,xs,p,r⟩:=g.own j t dt h1 s;exact⟨a,xs,(m f).mp p,r⟩
theorem aB.less{τ:List (Option V)}{m:Nat}(L:m=ρ.length)(g:GS K F ρ σ H)(hn:τ.length=n)(s:aB K F (ρ++cE n .aX) (σ++τ) H F1 ρ1 σ1 H1):aB K F ρ σ H F1 (ρ1.take m) (σ1.take m) H1/\∀v r,dg K F1 ρ1 σ1 H1 (ρ++cE n .aX) (σ++τ) H v r->dg K F1 (ρ1.take m) (σ1.take m) H1 ρ σ H v r:=by
 subst L;have M:ρ.length<=ρ1.length:=by rw[s.len];simp
 have l2:ρ.length<=σ1.length:=by rw[<-s.gs.len];exact M
 have z:∀{y:Type}{l:List y}{j:Nat}{x:y},(l.take ρ.length)[j]?=aU x->l[j]?=aU x/\j<ρ.length:=λ{y l j x}q=>by
  rw[mE]at q;split at q;.exact⟨q,by assumption⟩
  .cases q
 have B:∀{y:Type}{l:List y}{j:Nat}{x:y},j<ρ.length->l[j]?=aU x->(l.take ρ.length)[j]?=aU x:=λ{y l j x}f q=>by rw[mE,if_pos f];exact q
 have C:∀{c:cx},Own (ρ++cE n .aX) (σ++τ) c->Own ρ σ c:=λ{c}⟨j,⟨t,dt,e,p⟩,u⟩=>by
  by_cases f:j<ρ.length;.rw[dL f]at e;rw[dL (by rw[<-g.len];exact f)]at u;exact⟨j,⟨t,dt,e,p⟩,u⟩
  . rw[eW (by omega),j1]at e;split at e;.cases e;cases p
    .cases e
 have N:∀{c:cx},Own ρ σ c->Own (ρ++cE n .aX) (σ++τ) c:=λ{c}⟨j,⟨t,dt,e,p⟩,u⟩=>by have f:j<ρ.length:=(fB e).1;exact⟨j,⟨t,dt,by rw[dL f];exact e,p⟩,by rw[dL (by rw[<-g.len];exact f)];exact u⟩
 have A:∀{j:Nat}{c:cx},aZ (ρ1.take ρ.length) (σ1.take ρ.length) j c->aZ ρ1 σ1 j c:=λ{j c}⟨⟨t,dt,e,p⟩,u⟩=>⟨⟨t,dt,(z e).1,p⟩,(z u).1⟩;have w:∀{c:cx}{h:Hp},Own (ρ++cE n .aX) (σ++τ) c\/h c=cr->Own ρ σ c\/h c=cr:=λ{c h}q=>q.imp C id;have O:∀{c:cx}{h:Hp},Own (ρ++cE n .aX) (σ++τ) c\/nt (h c)=cr->Own ρ σ c\/nt (h c)=cr:=λ{c h}q=>q.imp C id;refine⟨⟨⟨s.gs.sub,by simp only[ls];omega,λj b d q=>?_,λj t dt q Q=>?_,λj k c e p=>s.gs.dis j k c (A e) (A p)⟩,s.cQ,λc a b=>O (s.yj c a b),λc o q n=>s.keep c o q λx=>n (C x),λc⟨j,q⟩=>w (s.wu c ⟨j,A q⟩),by simp only[ls];omega,λj t q l=>?_⟩,λv r h=>?_⟩;.obtain⟨h1,E⟩:=z q;obtain⟨v,G,I⟩:=s.gs.val j b d h1;exact⟨v,B E G,I⟩
 .obtain⟨h1,E⟩:=z q;obtain⟨a,xs,G,I⟩:=s.gs.own j t dt h1 Q;exact⟨a,xs,B E G,I⟩
 .have f:j<ρ.length:=(fB q).1;obtain⟨J,t',U,W⟩:=s.lk j t (by rw[dL f];exact q) l;rw[dL (by rw[<-g.len];exact f)]at J;refine⟨?_,t',B f U,W⟩;rw[mE,if_pos f];exact J
 .cases r with|val d=>exact h|own es=>obtain⟨x,xs,e,p,u,X,Y,Z⟩:=h;exact⟨x,xs,e,p,u,X,λ⟨j,q⟩=>Y ⟨j,A q⟩,w Z⟩
end
section
variable{X:Cx}{c:Call}{n:Nat}{e a b d:dO}{p pa pb pd:P}{pos:Pos}{es:List dO}{ps:List P}
inductive aei(K:PySem.W.Frag)(f:List Sl->Res (List Arg))(σ:_L.St)(H:Hp)(Q:List V->Hp->Prop):Prop where|mk(F:Hp)(ρ:List Sl)(as:List Arg)(ρ':List Sl)(g:GS K F ρ σ H)(e:f ρ=.ok as ρ')(k:∀vs F' H',aB K F ρ σ H F' ρ' σ H'->yQ K F' ρ' σ H' ρ H as vs->Q vs H')
noncomputable def SG(X:Cx)(c:Call)(es:List dO)(ps:List P):Prop:=PA X es (aei X.K (Bp c ps))
theorem aA:SG X c [] []:=yF dX λσ H Q⟨F,ρ,as,ρ',g,e,k⟩=>by rw[Il]at e;cases e;exact k [] F H (.refl g) .nil
theorem Ob(q:SX X c a pa)(hr:SG X c es ps)(hs:cL (a::es) X.env=(a_,fi a X.env)::cL es X.env:=by rfl):SG X c (a::es) (pa::ps):=by cases hv:isVar pa with|none=>refine yF (cG q.ev hr hs) ?_;rintro σ H Q⟨F,ρ,as,ρ',g,e,k⟩;rw[Ay,hv]at e;obtain⟨r,f,s,e⟩:=aj e;obtain⟨xs,h,j,e⟩:=aj e;cases e;refine⟨F,ρ,r,f,g,s,λv F1 B s1 t=>⟨F1,f,xs,_,s1.gs,j,λvs l m s2 A=>k _ l m (s1.trans s2) (yQ.aaE s1 t s2 A)⟩⟩|some i=>refine yF (cG (q.var i hv) hr hs) ?_;rintro σ H Q⟨F,ρ,as,ρ',g,e,k⟩;rw[Ay,hv]at e;obtain⟨x0,u,w,e⟩:=aj e;obtain⟨o,y⟩:=aD w;subst y;obtain⟨xs,h,j,e⟩:=aj e;cases e;obtain⟨v,h1,_⟩:=g.pk o;exact⟨v,h1,F,ρ,xs,_,g,j,λvs l m s2 A=>k _ l m s2 (.cons h1 A λds x z=>by cases z)⟩
theorem Oi{k f:Nat}{t:cx}{fd:i1}{j:List Str}(J:pH X.prog X.w X.K X.mg X.base Jk k t fd j (Nq X.K j.length (c f)))(hr:jY k X.A)(L:Gl X x)(M:X.mg x=aU (.ref t))(N:keepIn X.K (.ref t)=cq)(O:Binds X.K fd j [])(U:SG X c (e::es) ps)(W:(e::es).length=j.length)(u:(x==("__debug__":Str))=a_:=by decide)(he:cL (e::es) X.env=(a_,fi e X.env)::cL es X.env:=by rfl)(hpl:(kf pos (cL es X.env)).any (·.1)=a_:=by rfl)(y:ps.length=(e::es).length:=by rfl):SX X c (.Call (.Name x p') (e::es) [] pos) (.call f ps):=by
 refine⟨eV (Og (E:=E0) J hr L M N O .nil Zm U u he hpl) ?_,λi h=>by cases h⟩;rintro σ H Q⟨F,ρ,r,ρ',g,e,k⟩;rw[_H.E16]at e;obtain⟨as,z,G,e⟩:=aj e;unfold sZ at e;split at e;.cases e
 . rename_i args m;split at e
   . rename_i r' l hc;cases e;refine⟨F,ρ,as,z,g,G,λvs F1 Y s1 A=>?_⟩;have o:vs.length=j.length:=by
      have:∀{ps:List P}{ρ ρ':List Sl}{as:List Arg},Bp c ps ρ=.ok as ρ'->as.length=ps.length:=by intro ps;induction ps with|nil=>intro ρ ρ' as h;rw[Il]at h;cases h;rfl|cons q j I=>
         intro ρ ρ' as h;rw[Ay]at h;split at h;.obtain⟨_,_,_,h⟩:=aj h;obtain⟨xs,B,C,h⟩:=aj h;cases h;simp[I C]
         .obtain⟨_,_,_,h⟩:=aj h;obtain⟨xs,B,C,h⟩:=aj h;cases h;simp[I C]
      rw[<-A.len,this G,y,W]
     show Nq X.K j.length (c f) (vs++[]) Y Q E0;rw[gN];refine⟨o,F1,args,r,l,args_gs s1.gs A m,hc,λv Z ac H' s rr=>?_⟩;obtain⟨z1,z2⟩:=Jj s1 A m s;exact k v Z H' z1 (z2 v r rr)
   .cases e
   .cases e
noncomputable def IK(K:PySem.W.Frag)(D:Ends)(h:Hp)(ρ':List Sl)(f:_L.St)(g:Hp)(ρ:List Sl)(σ:_L.St)(H:Hp)(fl:Fl):Prop:=match fl with|.next=>D.nx f g|.brk=>D.bk f g|.cont=>D.ct f g|.ret r=>∀v,dg K h ρ' f g ρ σ H v r->D.rt v g
inductive tEx(K:PySem.W.Frag)(f:List Sl->Res Fl)(D:Ends)(σ:_L.St)(H:Hp):Prop where|mk(F:Hp)(ρ:List Sl)(fl:Fl)(ρ':List Sl)(g:GS K F ρ σ H)(e:f ρ=.ok fl ρ')(k:∀F' σ' H',aB K F ρ σ H F' ρ' σ' H'->IK K D F' ρ' σ' H' ρ σ H fl)
noncomputable def SS(X:Cx)(c:Call)(n:Nat)(st:ft)(s:S):Prop:=PS X st (tEx X.K (ex c n s))
noncomputable def SB(X:Cx)(c:Call)(n:Nat)(st:List ft)(s:List S):Prop:=zM X st (tEx X.K (iG c n s))
theorem eO{st:ft}{t t':TS}(h:PS X st t)(i:∀D σ H,t' D σ H->t D σ H):PS X st t':=λf s σ H D I q=>h f s σ H D I (i D σ H q)
theorem o9{st:List ft}{t t':TS}(h:zM X st t)(i:∀D σ H,t' D σ H->t D σ H):zM X st t':=λf s σ H D I q=>h f s σ H D I (i D σ H q)
theorem xs0{c:Call}:iG c n [] ρ=.ok .next ρ:=rfl
theorem T7{c:Call}{s:S}{r:List S}:iG c n (s::r) ρ=(ex c n s ρ).bind λfl ρ=>match fl with|.next=>iG c n r ρ|fl=>.ok fl ρ:=rfl
theorem aq:SB X c n [] []:=o9 Dj λD σ H⟨F,ρ,fl,ρ',g,e,k⟩=>by rw[xs0]at e;cases e;exact k F σ H (.refl g)
theorem aO{st:ft}{s:S}{f:List ft}{ss:List S}(h1:SS X c n st s)(m:SB X c n f ss):SB X c n (st::f) (s::ss):=by refine o9 (oH h1 m) ?_;rintro D σ H⟨F,ρ,fl,ρ',g,e,k⟩;rw[T7]at e;obtain⟨f1,h,j,e⟩:=aj e;cases f1 with
 |next=>refine⟨F,ρ,.next,h,g,j,λF1 o y s1=>⟨F1,h,fl,ρ',s1.gs,e,λt l u s2=>?_⟩⟩;have q:=k t l u (s1.trans s2);cases fl with|next=>exact q|brk=>exact q|cont=>exact q|ret r=>exact λv w=>q v (w.later s1)
 |brk=>cases e;exact⟨F,ρ,.brk,_,g,j,k⟩|cont=>cases e;exact⟨F,ρ,.cont,_,g,j,k⟩|ret r=>cases e;exact⟨F,ρ,.ret r,_,g,j,k⟩
theorem Wg{st:ft}:SS X c n st .bad:=eO KD λD σ H⟨F,ρ,fl,ρ',g,e,k⟩=>by rw[_H.X4]at e;cases e
theorem aaM{t1 t2:TE}(h1:PE X e t1)(g:PE X e t2):PE X e (λσ H Q=>t1 σ H Q\/t2 σ H Q):=λf s σ H Q I h=>h.elim (h1 f s σ H Q I) (g f s σ H Q I)
theorem U3(he:SX X c e p):SS X c n (.Return (aU e) pos) (.ret p):=by
 have plain:∀(D:Ends)(σ:_L.St)(H:Hp),(∃F ρ fl ρ',GS X.K F ρ σ H/\((_H.ev c p ρ).bind λr ρ=>.ok (Fl.ret r) ρ)=.ok fl ρ'/\∀j f h,aB X.K F ρ σ H j ρ' f h->(match fl with|.next=>D.nx f h|.brk=>D.bk f h|.cont=>D.ct f h|.ret r=>∀v,dg X.K j ρ' f h ρ σ H v r->D.rt v h))->Fv X.K (_H.ev c p) σ H D.rt:=λD σ H⟨F,ρ,fl,ρ',g,e,k⟩=>by obtain⟨r,l,m,e⟩:=aj e;cases e;exact⟨F,ρ,r,_,g,m,λv F1 o s1 s=>k F1 σ o s1 v s⟩
 cases hv:isVar p with|none=>refine eO (Jq he.ev) λD σ H⟨F,ρ,fl,ρ',g,e,k⟩=>plain D σ H ⟨F,ρ,fl,ρ',g,?_,k⟩;rw[_H.X10,hv]at e;exact e|some i=>--by the name itself:its own list is handed back,else its data
   have t:p=.var i:=by cases p<;>cases hv;rfl
   subst t;refine eO (Jq (aaM (he.var i hv) he.ev)) ?_;rintro D σ H⟨F,ρ,fl,ρ',g,e,k⟩;rw[_H.X10,hv]at e;dsimp only at e;split at e;.rename_i ds q;cases e;obtain⟨v,h1,u,w⟩:=g.give q;exact .inl ⟨v,h1,k F σ H u v w⟩
   .exact .inr (plain D σ H ⟨F,ρ,fl,ρ',g,e,k⟩)
theorem jC{m o:List ft}{s t:List S}(hc:ST X c e p)(u:SB X c n m s)(w:SB X c n o t):SS X c n (.If e m o pos) (.ifs p s t):=by refine eO (RP hc u w) ?_;rintro D σ H⟨F,ρ,fl,ρ',g,e,k⟩;rw[_H.X12]at e;obtain⟨x,j,y,e⟩:=aj e;refine⟨F,ρ,x,j,g,y,λF1 z s1=>?_⟩;have go:∀{f:List Sl->Res Fl},f j=.ok fl ρ'->tEx X.K f D σ z:=λ{f}h=>⟨F1,j,fl,ρ',s1.gs,h,λA l B s2=>by have q:=k A l B (s1.trans s2);cases fl with|next=>exact q|brk=>exact q|cont=>exact q|ret r=>exact λv C=>q v (C.later s1)⟩;cases x with|true=>rw[if_pos rfl]at e;exact go e|false=>rw[if_neg dr]at e;exact go e
theorem dZ{f:Pos}(l:X.N.Nodup)(hi:X.N[i]?=aU x)(m:Loc X.env.scope x)(he:SX X c e p)(hs:h_ e (aU (.Name x f)) pos.line X.env=fy a_:=by rfl)(o:X.fn x=cq\/X.env.scope.names.lookup x=aU .local:=by first|(left;rfl)|(right;rfl)|assumption):SS X c n (.Assign [.Name x f] e pos) (.asg i p):=by refine eO (xm l hi m he.ev hs o) ?_;rintro D σ H⟨F,ρ,fl,ρ',g,e,k⟩;rw[_H.X6]at e;obtain⟨r,j,q,e⟩:=aj e;obtain⟨s,t,h,e⟩:=aj e;cases e;have u:=aD h;clear h;obtain⟨h,z⟩:=u;exact⟨F,ρ,r,j,g,q,λv F1 w s1 y=>k F1 _ w (s1.put y h)⟩
end
end _H
namespace _L
open PySem Spec PyProof.Rows
variable{env:Env}{scope:kU}{X:Cx}
noncomputable def v8(X:Cx)(scope:kU)(N':List Str)(cl:List (Str×cx))(C:cx)(s₀:cv)(H₀:Hp)(ex:List cx):Cx:={X with N:=N',s₀:=s₀,H₀:=H₀,env:=compEnvC scope cl C X.env,outer:=X.stack,stack:=X.stack,ex:=ex,fn:=λx=>scope.names.lookup x==aU .cell,pn:=[],xe:=λ_ _=>False}
theorem Cq(l:List (Str×lj)):∀(cs:List (Str×cx)),(∀n,(n,fg)∈l->∃c,env.cells.lookup n=aU c)->(∀n c,cs.lookup n=aU c->env.cells.lookup n=aU c)->∃ cl,(forIn l cs (λ(x:Str × lj)(r:List (Str × cx))=>(if(x.2==fg)=cq then(do let a<-cellOf env x.1;fy (i_ ((x.1,a)::r)))else fy (i_ r):Sem (ForInStep (List (Str × cx))))):Sem (List (Str × cx)))=fy cl/\(∀n c,cl.lookup n=aU c->env.cells.lookup n=aU c)/\(∀n,((n,fg)∈l\/(cs.lookup n).isSome)->(cl.lookup n).isSome):=by induction l with|nil=>intro cs _ h;exact⟨cs,rfl,h,λn hn=>by rcases hn with hn|hn;cases hn;exact hn⟩|cons y l i=>
   obtain⟨n,k⟩:=y;intro cs b hc;rw[List.forIn_cons];by_cases f:k=.free
   . subst f;obtain⟨a,j⟩:=b n i5;obtain⟨cl,e,h1,g⟩:=i ((n,a)::cs) (λm hm=>b m (dV _ hm)) λm c hm=>by
      rw[gE]at hm;split at hm;.rename_i q;have q:=eq_of_beq q;subst q;cases hm;exact j
      .exact hc m c hm
     refine⟨cl,?_,h1,λm hm=>g m ?_⟩
     . rw[<-e];have:cellOf env n=fy a:=by unfold cellOf;rw[j]
       simp only[beq_self_eq_true,if_true,this];rfl
     . rcases hm with hm|hm
       . rcases da.mp hm with hm|hm;.cases hm;right;simp[gE]
         .exact .inl hm
       . right;rw[gE];split;.rfl
         .exact hm
   . obtain⟨cl,e,h1,g⟩:=i cs (λm hm=>b m (dV _ hm)) hc;refine⟨cl,?_,h1,λm hm=>g m ?_⟩
     . rw[<-e];have:(k==fg)=a_:=by simpa using f
       simp only[this,i7,if_false];rfl
     . rcases hm with hm|hm
       . rcases da.mp hm with hm|hm;.cases hm;exact absurd rfl f
         .exact .inl hm
       .exact .inr hm
theorem BR(a:∀n,(n,fg)∈scope.names->∃c,env.cells.lookup n=aU c):∃cl,closureFor scope env=fy cl/\(∀n c,cl.lookup n=aU c->env.cells.lookup n=aU c)/\∀n,(n,fg)∈scope.names->(cl.lookup n).isSome:=by obtain⟨cl,e,h1,b⟩:=Cq (env:=env) scope.names [] a (by simp);refine⟨cl,?_,h1,λn f=>b n (.inl f)⟩;unfold closureFor;exact(congrArg (λt=>t>>=λr=>fy r) e).trans rfl
theorem fc{env:Env}:∀(names:List (Str×lj))(x:Str),(names.map λ(n,k)=>if(k==fg&&env.scope.kind==.function&&env.kindOf n==aU .cell)then(n,g_)else(n,k)).lookup x=(names.lookup x).map λk=>if(k==fg&&env.scope.kind==.function&&env.kindOf x==aU .cell)=cq then g_ else k
 |[],x=>rfl|(n,k)::r,x=>by
   have a:=fc (env:=env) r x;show List.lookup x ((if(k==fg&&env.scope.kind==.function&&env.kindOf n==aU .cell)=cq then(n,g_)else(n,k))::_)=_;by_cases hc:(k==fg&&env.scope.kind==.function&&env.kindOf n==aU .cell)=cq;.rw[if_pos hc,gE,gE];cases hx:x==n with|true=>have:=eq_of_beq hx;subst this;show aU g_=aU (if _ then _ else _);rw[if_pos hc]|false=>exact a
   .rw[if_neg hc,gE,gE];cases hx:x==n with|true=>have:=eq_of_beq hx;subst this;show aU k=aU (if _ then _ else _);rw[if_neg hc]|false=>exact a
noncomputable def Zq(N N':List Str)(a:kU):Bool:=(N.zip N').all λp=>(p.1==p.2&&a.names.lookup p.2==aU .free)||(a.names.lookup p.2!=aU .local&&a.names.lookup p.2!=aU .cell&&a.names.lookup p.2!=aU .free)
structure gh(X:Cx)(scope:kU)(N':List Str)(n:Nat):Prop where
 kind:scope.kind=.function
 cons:∀y∈scope.names,scope.names.lookup y.1=aU y.2
 names:∀y∈scope.names,y.2=.local->scope.names.lookup y.1=aU .local
 cap:∀y∈scope.names,y.2=.free->X.env.scope.names.lookup y.1=aU .cell\/X.env.scope.names.lookup y.1=aU .free
 len:N'.length=X.N.length+n
 same:Zq X.N N' scope=cq
theorem gh.get{N':List Str}{n:Nat}(c:gh X scope N' n){i:Nat}{x:Str}(hi:i<X.N.length)(h:N'[i]?=aU x)(a:yr (kG scope X.env) x):X.N[i]?=aU x/\scope.names.lookup x=aU .free:=by
 have hz:(X.N.zip N')[i]?=aU (X.N[i],x):=by rw[List.getElem?_zip_eq_some];exact⟨by simp[hi],h⟩
 have:=(gi.mp c.same) _ (eh hz);simp only[k_,eR]at this;rcases this with⟨h1,b⟩|⟨⟨h1,b⟩,f⟩;.have h1:=eq_of_beq h1;have b:=eq_of_beq b;exact⟨by simp[hi,h1],b⟩
 . exfalso;have h1:scope.names.lookup x≠aU .local:=by simpa using h1
   have b:scope.names.lookup x≠aU .cell:=by simpa using b
   have f:scope.names.lookup x≠aU .free:=by simpa using f
   have e:=fc (env:=X.env) scope.names x;have a:(kG scope X.env).names.lookup x=aU .local\/(kG scope X.env).names.lookup x=aU .cell\/(kG scope X.env).names.lookup x=aU .free:=a;rw[show(kG scope X.env).names.lookup x=_ from e]at a;cases q:scope.names.lookup x with|none=>rw[q]at a;simp at a|some k=>
     rw[q]at a h1 b f;have g:(k==fg)=a_:=by cases k<;>first|rfl|exact absurd rfl f
     simp only[kx,g,pz,i7,if_false,Option.some.injEq]at a;rcases a with rfl|rfl|rfl;.exact h1 rfl
     .exact b rfl
     .exact f rfl
structure CI(cl:List (Str×cx))(z:Nat)(h:eN)(acc:List (Str×cx)):Prop where from':∀n c,acc.lookup n=aU c->cl.lookup n=aU c\/(z<=c/\h.IsCell c cr)inj:∀n n' c,acc.lookup n=aU c->acc.lookup n'=aU c->n=n'
theorem Jh{cl:List (Str×cx)}{z:Nat}(i:∀n c,cl.lookup n=aU c->c<z):∀(names:List (Str×lj))(h:eN)(f:List (Str×cx)),z<=h.objs.size->CI cl z h f->CI cl z (pushCells h names) (k5 h.objs.size names f)/\(∀n,(f.lookup n).isSome->((k5 h.objs.size names f).lookup n).isSome)/\(∀n,((∃c,f.lookup n=aU c/\z<=c)\/(n,g_)∈names)->∃c,(k5 h.objs.size names f).lookup n=aU c/\z<=c)/\(∀n c,(n,g_)∉names->(k5 h.objs.size names f).lookup n=aU c->f.lookup n=aU c)
 |[],h,f,hz,x=>by
   refine⟨x,λ_ q=>q,λn q=>?_,λ_ _ _ q=>q⟩;rcases q with q|q;.exact q
   .cases q|(name,kind)::r,h,f,hz,x=>by
   unfold pushCells k5;by_cases l:kind=.cell
   . subst l;rw[if_pos (by rfl),if_pos (by rfl)];have p:CI cl z (h.push {cls:=.type "cell",data:=.cell cr}) ((name,h.objs.size)::f):=by
      have lt:∀n c,f.lookup n=aU c->c<h.objs.size:=λn c e=>by
       rcases x.from' n c e with q|q;.exact eu (i n c q) hz
       .exact q.2.lt
      refine⟨λn c e=>?_,λn m c e j=>?_⟩
      . rw[gE]at e;split at e;.cases e;exact .inr ⟨hz,_,dc _ rfl,rfl⟩
        . rcases x.from' n c e with q|q;.exact .inl q
          .exact .inr ⟨q.1,q.2.keeps λb o e=>dz e⟩
      . rw[gE]at e j;split at e<;>split at j;.rename_i _ a _ b;rw[eq_of_beq a,eq_of_beq b]
        .cases e;exact absurd (lt m _ j) (i6 _)
        .cases j;exact absurd (lt n _ e) (i6 _)
        .exact x.inj n m c e j
     have g:=Jh i r (h.push {cls:=.type "cell",data:=.cell cr}) ((name,h.objs.size)::f) (by rw[ia];omega) p;rw[ia]at g;refine⟨g.1,λn q=>g.2.1 n ?_,λn q=>g.2.2.1 n ?_,λn c q e=>?_⟩
     . rw[gE];split;.rfl
       .exact q
     . rcases q with⟨c,e,hc⟩|q
       . left;rw[gE];split;.exact⟨_,rfl,hz⟩
         .exact⟨c,e,hc⟩
       . rcases da.mp q with q|q;.cases q;left;exact⟨_,by simp[gE],hz⟩
         .exact .inr q
     . have:=g.2.2.2 n c (λz=>q (dV _ z)) e;rw[gE]at this;split at this;.rename_i a;exact absurd (by rw[eq_of_beq a];exact i5) q
       .exact this
   . have k:(kind==g_)=a_:=by simpa using l
     rw[if_neg (by rw[k];decide),if_neg (by rw[k];decide)];have g:=Jh i r h f hz x;refine⟨g.1,g.2.1,λn q=>g.2.2.1 n ?_,λn c q e=>g.2.2.2 n c (λz=>q (dV _ z)) e⟩;rcases q with q|q;.exact .inl q
     . rcases da.mp q with q|q;.cases q;exact absurd rfl l
       .exact .inr q
structure Ie(X:Cx)(scope:kU)(z:Nat)(h:eN)(cs:List (Str×cx)):Prop where
 from':∀n c,cs.lookup n=aU c->X.env.cells.lookup n=aU c\/(z<c/\h.IsCell c cr)inj:∀n n' c,cs.lookup n=aU c->cs.lookup n'=aU c->n=n'
 has:∀n,(scope.names.lookup n=aU .free\/scope.names.lookup n=aU .cell)->∃c,cs.lookup n=aU c
 fre:∀n c,scope.names.lookup n=aU .free->cs.lookup n=aU c->X.env.cells.lookup n=aU c
 own:∀n c,scope.names.lookup n=aU .cell->cs.lookup n=aU c->z<c
theorem Hc{M:sT}{A:eM}{E:b_->cv->Prop}{s:cv}{N':List Str}{n:Nat}{cl:List (Str×cx)}{Q:Env->cv->Prop}(ok:gh X scope N' n)(h:∀n c,X.env.cells.lookup n=aU c->c<s.heap.objs.size)(f:∀x y c,X.env.cells.lookup x=aU c->X.env.cells.lookup y=aU c->x=y)(a:∀n c,cl.lookup n=aU c->X.env.cells.lookup n=aU c)(l:∀n,(n,fg)∈scope.names->(cl.lookup n).isSome)(m:∀ cs h',h'.Ns s.heap.objs.size (λ_=>cr)->(∀ b o,s.heap.get? b=aU o->h'.get? b=aU o)->Ie X scope s.heap.objs.size h' cs->Q {scope:=scope,locals:=s.heap.objs.size,globals:=X.env.globals,cells:=cs,qual:=X.env.qual,func:=cr,code:=X.env.code,frame:=X.env.frame,builtins:=X.env.builtins} {s with heap:=h'}):cK M A (rg scope X.env.globals cl [] X.env.qual cr .none (aU X.env)) Q E s:=by
 simp only[rg,Option.isSome_some,if_true];refine bx (wpAny_alloc ?_);refine bx (wpAny_layCells _ (λname kind cells=>by cases i:kind==g_<;>simp[i]) _ _ _ _ ?_);have ck:=Jh (cl:=cl) (z:=s.heap.objs.size+1) (λn c e=>kb (h n c (a n c e))) scope.names (s.heap.push {cls:=.type "dict",data:=.dict #[]}) cl (by rw[ia];exact cI) ⟨λn c e=>.inl e,λn k c e g=>f n k c (a n c e) (a k c g)⟩;obtain⟨c1,c2,c3,c4⟩:=ck;rw[show({s with heap:=s.heap.push {cls:=.type "dict",data:=.dict #[]}}:cv).heap.objs.size=(s.heap.push {cls:=.type "dict",data:=.dict #[]}).objs.size from rfl];refine bx ?_;rw[List.forIn_nil];refine cw (cw (m _ _ ((Heap.Ns.new s.heap (.type "dict")).keeps (pushCells_keeps _ _)) (λb o e=>pushCells_keeps _ _ b o (dz e)) ⟨λn c e=>?_,c1.inj,λn q=>?_,λn c q e=>?_,λn c q e=>?_⟩))
 . rcases c1.from' n c e with z|z;.exact .inl (a n c z)
   .exact .inr ⟨z.1,z.2⟩
 . rcases q with q|q;.exact pc.mp (c2 n (l n (PySem.mem_of_lookup q)))
   .obtain⟨c,e,_⟩:=c3 n (.inr (PySem.mem_of_lookup q));exact⟨c,e⟩
 .refine a n c (c4 n c (λz=>?_) e);have:=ok.cons _ z;rw[q]at this;cases this
 .obtain⟨p,g,j⟩:=c3 n (.inr (PySem.mem_of_lookup q));rw[e]at g;cases g;exact j
section
variable{X:Cx}{pins:List (cx×Obj)}{σ:_L.St}{H:Hp}{s:cv}{scope:kU}{N':List Str}{n:Nat}{fp:List cx}{cl:List (Str×cx)}
theorem Ky{h1:eN}{m:Str->Option b_}{t:Nat}{cs:List (Str×cx)}(ok:gh X scope N' n)(I:Inv X pins σ H s)(G:∀b∈fp,qM X pins H b/\b<s.heap.objs.size)(w:Ie X scope s.heap.objs.size h1 cs)(U:h1.Ns s.heap.objs.size m)(j:∀b u,s.heap.get? b=aU u->h1.get? b=aU u):Inv (v8 X scope N' cs s.heap.objs.size s H fp) [] (σ++cE n cr) H {s with heap:=h1,toks:=t}:=by
 have J:∀x,scope.names.lookup x=aU .free->(kG scope X.env).names.lookup x=aU .cell\/(kG scope X.env).names.lookup x=aU .free:=λx h=>by
  have e:=fc (env:=X.env) scope.names x;rw[h]at e;have L:(kG scope X.env).names.lookup x=_:=e;rw[L];simp only[kx];split;.exact .inl rfl
  .exact .inr rfl
 refine⟨⟨I.ok.mod,ok.kind,I.ok.glob,I.ok.blt,cI,λx y c h1 W=>w.inj x y c h1 W,λx z=>?_,λx c h e=>l_ (w.own x c (eq_of_beq (show(scope.names.lookup x==aU g_)=cq from h)) e),I.ok.hd,I.ok.frames,.inl rfl,λb B=>?_,I.bs,iA I.ok.R3 I.sz,λb u e B=>?_,λb B M=>?_,I.stack,I.Dp⟩,rfl,I.bare,Un.kept j,⟨m,U,λi x v Y C Z=>?_⟩,λx c e=>?_,I.hok.fresh (cI),λx c e=>?_,λp hp=>(by cases hp),I.hok.kept j,?_⟩;.--a abd name has its cell
   have z:(kG scope X.env).names.lookup x=aU .cell\/(kG scope X.env).names.lookup x=aU .free:=z;have e:=fc (env:=X.env) scope.names x;have L:(kG scope X.env).names.lookup x=_:=e;rw[L]at z;refine w.has x ?_;cases q:scope.names.lookup x with|none=>rw[q]at z;simp at z|some k=>
     rw[q]at z;by_cases hk:k=.free;.rw[hk];exact .inl rfl
     . have g:(k==fg)=a_:=by simpa using hk
       simp only[kx,g,pz,i7,if_false,Option.some.injEq]at z;rcases z with rfl|rfl;.exact .inr rfl
       .exact absurd rfl hk
 . obtain⟨f,lt⟩:=G b B;refine⟨dS lt,λx c e=>?_⟩;rcases w.from' x c e with e|e;.exact f.2.2.2.2.1 x c e
   .rintro rfl;exact absurd (uS e.1 lt) (i6 _)
 . obtain⟨f,lt⟩:=G b B;rcases f.2.2.2.1 with h|h;.exact I.ok.Mh b u e h
   .have this:b<X.base.objs.size:=dA e;exact absurd (eu this (iA I.ok.R3 h)) (i6 _)
 . obtain⟨f,lt⟩:=G b B;rcases da.mp (I.ye b M)with h|h;.exact f.2.1 h
   .exact f.2.2.1 h
 .--the names
   have hi:i<σ.length:=by
    by_cases hi:i<σ.length;.exact hi
    .rw[eW (by omega),j1]at C;split at C<;>cases C
   rw[dL hi]at C;obtain⟨N,o⟩:=ok.get (by rw[<-I.len];exact hi) Y Z;have hk:=ok.cap (x,.free) (PySem.mem_of_lookup o) rfl;obtain⟨m0,ac,hl⟩:=I.loc;obtain⟨u,r,l⟩:=hl i x v N C (.inr hk);refine⟨u,r,.inr ⟨J x o,?_⟩⟩;rcases l with⟨g,_⟩|⟨_,c,hc,A⟩;.have g:X.env.scope.names.lookup x=aU .local:=g;rcases hk with hk|hk<;>(rw[g]at hk;cases hk)
   .obtain⟨c',E⟩:=w.has x (.inl o);have:=w.fre x c' o E;rw[hc]at this;cases this;refine⟨c,E,?_⟩;obtain⟨oc,O,Q⟩:=A;exact⟨oc,j c oc O,Q⟩
 . rcases w.from' x c e with e|e;.obtain⟨v,oc,O,Q⟩:=I.cell x c e;exact⟨v,oc,j c oc O,Q⟩
   .exact⟨_,e.2⟩
 . rcases w.from' x c e with e|e;.exact I.lq x c e
   .exact I.hok.fresh (l_ e.1)
 .show(σ++cE n cr).length=N'.length;rw[ez,rJ,I.len,ok.len]
theorem xx{prog:dF}{w:eJ}{A:eM}{R:t_->cv->Prop}{p a iter:dO}{ifs:List dO}{pos:Pos}{it q:b_}(I:Nat->cv->Prop)(t:∀ n s,I n s->cK (c_ prog w) A (k9 it) (λr b=>match r with|none=>R (.ok .next) b|some v=>cK (c_ prog w) A (mx a it v) (λ_ b=>cK (c_ prog w) A (mu a env v) (λ_ j=>cK (c_ prog w) A (forIn ifs cq λc r=>if r=cq then do let ok<-isTrue c env (fi c env);fy (i_ ok)else fy (i_ r)) (λok g=>if ok=cq then cK (c_ prog w) A (fi p env) (λx k=>cK (c_ prog w) A (call (.builtin "list.append") [q,x]) (λ_ l=>∃m,m<n/\I m l) (qr (c_ prog w) A env λe i=>R (.error e) i) k) (qr (c_ prog w) A env λe i=>R (.error e) i) g else ∃m,m<n/\I m g) (qr (c_ prog w) A env λe i=>R (.error e) i) j) (qr (c_ prog w) A env λe i=>R (.error e) i) b) (qr (c_ prog w) A env λe i=>R (.error e) i) b) (qr (c_ prog w) A env λe i=>R (.error e) i) s)(n:Nat){s:cv}(h:I n s):ku (c_ prog w) A (.compLoop (.ListComp p [⟨a,iter,ifs,0⟩] scope pos) 0 it q env) R s:=by refine codeAny_loop rfl I (λn s B=>?_) n h;show cK _ A ((compTurn (.ListComp p [⟨a,iter,ifs,0⟩] scope pos) 0 it q env).onRaise (λx=>do noteFrame x env;theTreesLotGoes x)) _ _ s;refine wpAny_noted ?_;rw[compTurn_list];refine bx (nK (bx (eK (t n s B) (λr b f=>?_) λ_ _ h'=>h')));cases r with|none=>exact cw f|some v=>refine bx (eK f (λ_ b f=>?_) λ_ _ h'=>h');refine bx (eK f (λ_ j u=>bx (eK u (λok g o=>?_) λ_ _ h'=>h')) λ_ _ h'=>h');cases ok with|false=>exact cw ⟨rfl,o⟩|true=>exact bx (bx (eK o (λx k y=>bx (eK y (λ_ l z=>cw (cw ⟨rfl,z⟩)) λ_ _ h'=>h')) λ_ _ h'=>h'))
noncomputable def Us(X:Cx)(ifs:List dO)(t:TT):Prop:=∀(pins:List (cx × Obj))(s:cv)(σ:_L.St)(H:Hp)(Q:Bool->Hp->Prop),Inv X pins σ H s->t σ H Q->cK (c_ X.prog X.w) X.A (forIn ifs cq λc r=>if r=cq then do let ok<-isTrue c X.env (fi c X.env);fy (i_ ok)else fy (i_ r)) (TP X pins σ Q) X.xe s
theorem Nr:Us X [] (λ_ H Q=>Q cq H):=λpins s σ H Q I h=>wpAny_tests_nil ⟨H,I,h⟩
theorem Pz{c:dO}{t:TT}(h:PT X c t):Us X [c] t:=λpins s σ H Q I q=>wpAny_tests_one (h pins s σ H Q I q)
noncomputable def Ru(J:It)(g:TG)(tt:TT)(te:TE)(D:cx)(Q:Hp->Prop)(W:Nat->Nat->List V->_L.St->Hp->Prop):Prop:=∀ i m ys σ H,W i m ys σ H->H D=aU (.lst ys)/\((J.stop i H/\Q H)\/(J.go i H/\∀ x e,J.M7 i H x e->g x σ e λa j=>tt a j λb f=>if b=cq then te a f λy h=>h D=aU (.lst ys)/\ys.length<sizeLine/\∃c,c<m/\W (i+1) c (ys++[y]) a (upd h D (.lst (ys++[y])))else ∃c,c<m/\W (i+1) c ys a f))
theorem vO{E:b_->cv->Prop}{af a iter:dO}{ifs:List dO}{pos:Pos}{it:cx}{tn:Nat->eN->Prop}{J:It}{g:TG}{tt:TT}{te:TE}{Q:cx->Hp->Prop}{RR:b_->cx->t_->cv->Prop}(hc:X.calm=cq)(ok:gh X scope N' n)(I:Inv X pins σ H s)(bo:∀n c,cl.lookup n=aU c->X.env.cells.lookup n=aU c)(CZ:∀n,(n,fg)∈scope.names->(cl.lookup n).isSome)(T:Turn X.prog X.w X.K a J fp it tn)(h0:tn 0 s.heap)(hf:∀b∈fp,qM X pins H b)(hg:∀cl C s₀ H₀ ex,PG (v8 X scope N' cl C s₀ H₀ ex) a g)(ht:∀cl C s₀ H₀ ex,Us (v8 X scope N' cl C s₀ H₀ ex) ifs tt)(he:∀cl C s₀ H₀ ex,PE (v8 X scope N' cl C s₀ H₀ ex) af te)(hw:∀D,H D=cr->∃W,(∃m,W 0 m [] (σ++cE n cr) (upd H D (.lst [])))/\Ru J g tt te D (Q D) W)(bp:∀D C B l,Q D l->(∃m,B.heap.Ns C m)->qM X pins l C->Inv X pins σ l B->RR (.ref D) C (.ok .next) B):cK (c_ X.prog X.w) X.A (tJ []) (λav aw=>cK (c_ X.prog X.w) X.A (rg scope X.env.globals cl [] X.env.qual cr .none (aU X.env)) (λal ax=>ku (c_ X.prog X.w) X.A (.compStart (.ListComp af [⟨a,iter,ifs,0⟩] scope pos) 0 (.ref it) av {al with scope:=kG scope X.env}) (RR av al.locals) ax) E aw) E s:=by
 refine ei (Hc ok (λx c e=>?lt) I.ok.inj bo CZ (λcs M am hold bc=>?_));case lt=>obtain⟨v,z⟩:=I.cell x c e;exact eu z.lt (by show _<=(s.heap.push _).objs.size;rw[ia];exact oI _)
 dsimp only at am hold bc ⊢--the new list,tracked
 have I3:Inv X pins σ (upd H s.heap.objs.size (.lst [])) {s with heap:=s.heap.push {cls:=.type "list",data:=.seq ([]:List b_).toArray}}:=I.Vy (t':=s.toks) .nil (uL);generalize ap:({s with heap:=s.heap.push {cls:=.type "list",data:=.seq ([]:List b_).toArray}}:cv)=s3 at I3;have hsz:s3.heap.objs.size=s.heap.objs.size+1:=by rw[<-ap];exact ia _ _
 have R9:s3.heap=s.heap.push {cls:=.type "list",data:=.seq ([]:List b_).toArray}:=by rw[<-ap]
 obtain⟨W,⟨m0,w0⟩,ay⟩:=hw s.heap.objs.size I.fresh;have aE:∀{h':eN},(∀b o,s.heap.get? b=aU o->h'.get? b=aU o)->tn 0 h':=λk=>T.keep _ _ _ h0 λb j o e=>k b o e;have ag:∀b∈fp,qM X pins (upd H s.heap.objs.size (.lst [])) b/\b<s3.heap.objs.size:=λb j=>by obtain⟨o,e,_⟩:=T.obj 0 _ h0 b j;have lt:=dA e;obtain⟨f1,f2⟩:=hf b j;exact⟨⟨by rw[aC (dS lt)];exact f1,f2⟩,by rw[hsz];exact kb lt⟩
 rw[<-R9]at am hold bc ⊢;have I4:=Ky (t:=s3.toks) ok I3 ag bc am hold;have aI:∀b o,s.heap.get? b=aU o->M.get? b=aU o:=λb o e=>hold b o (by rw[R9];exact dz e);generalize U:v8 X scope N' cs s3.heap.objs.size s3 (upd H s.heap.objs.size (.lst [])) fp=G at I4;have hA:G.A=X.A:=by rw[<-U];rfl
 have N:G.prog=X.prog:=by rw[<-U];rfl
 have O:G.w=X.w:=by rw[<-U];rfl
 have aS:G.K=X.K:=by rw[<-U];rfl
 have Y:G.calm=cq:=by rw[<-U];exact hc
 have bq:G.xe=λ_ _=>False:=by rw[<-U];rfl
 have aT:G.env=compEnvC scope cs s3.heap.objs.size X.env:=by rw[<-U];rfl
 have br:PG G a g:=by rw[<-U];exact hg _ _ _ _ _
 have bt:Us G ifs tt:=by rw[<-U];exact ht _ _ _ _ _
 have bv:PE G af te:=by rw[<-U];exact he _ _ _ _ _
 have ff:∀{l:Hp}{b:cx},b∈fp->l b=cr->qM G [] l b:=λ{l b}j hn=>by
  obtain⟨f,lt⟩:=ag b j;rw[<-U];refine⟨hn,dS lt,λbP=>?_,.inl j,λx c e=>?_,λp hp=>by cases hp⟩
  . rcases da.mp (I3.ye b bP)with h|h;.exact f.2.1 h
    .exact f.2.2.1 h
  . rcases bc.from' x c e with e|e;.exact f.2.2.2.2.1 x c e
    .rintro rfl;exact absurd (uS e.1 lt) (i6 _)--behind the block
 have fin:∀{L:_L.St}{l:Hp}{B:cv},Inv G [] L l B->Q s.heap.objs.size l->RR (.ref s.heap.objs.size) s3.heap.objs.size (.ok .next) B:=λ{L l B}J' q=>by
  rw[<-U]at J';have hC:l s3.heap.objs.size=cr:=J'.free;obtain⟨hh,gg,dd,bS,bX⟩:=B;have ca:bX=s3.os:=J'.os;subst ca;refine bp _ _ _ l q (let⟨m,hm,_⟩:=J'.loc;⟨m,hm⟩) ?_ (I3.call (h':=hh) (g':=gg) (d':=dd) (t':=bS) (ch:=fp) J'.base J'.hok J'.bare λb j=>?_);.exact I3.Hm (cI) hC
  .obtain⟨f,lt⟩:=ag b j;exact⟨f.2.2.2.1,f.2.1,f.2.2.2.2.1,f.2.2.2.2.2⟩
 have ac:ku (c_ X.prog X.w) X.A (.compLoop (.ListComp af [⟨a,iter,ifs,0⟩] scope pos) 0 (.ref it) (.ref s.heap.objs.size) G.env) (RR (.ref s.heap.objs.size) s3.heap.objs.size) {s3 with heap:=M,toks:=s3.toks}:=by
  refine xx (λk B=>∃i ys L l,Inv G [] L l B/\tn i B.heap/\(∀b∈fp,l b=cr)/\W i k ys L l) (λk s5 hI=>?_) m0 ⟨0,[],_,_,I4,aE aI,λb j=>(ag b j).1.1,w0⟩;obtain⟨i,ys,ah,H5,I5,t5,f5,w5⟩:=hI;obtain⟨hD,ar⟩:=ay i k ys ah H5 w5;have ai:∀{Z:b_->cv->Prop},∀(e:b_)(B:cv),G.xe e B->Z e B:=λe B z=>by rw[bq]at z;exact fR z
  rcases ar with⟨stop,q⟩|⟨go,step⟩;.have z:=T.done G N O aS Y i [] s5 ah H5 (λ_ _=>False) I5 (λb j=>ff j (f5 b j)) t5 stop;rw[hA]at z;refine eK z (?_) λ_ _ z=>fR z;rintro r s6⟨hr,I6⟩;subst hr;exact fin I6 q
  . have z:=T.item G N O aS Y i [] s5 ah H5 (λ_ _=>False) I5 (λb j=>ff j (f5 b j)) t5 go;rw[hA]at z;refine eK z (?_) λ_ _ z=>fR z;rintro r s6⟨u,hr,z6⟩;subst hr;refine eK z6 (?_) λ_ _ z=>fR z;rintro _ s7⟨x,H7,I7,r7,y7,t7,f7⟩;have cb:=I7.pinned (λb j=>ff j (f7 b j)) (T.obj _ _ t7)--what the pins keep
    have back:∀{L:_L.St}{l:Hp}{B:cv},Inv G ([]++rQ fp s7.heap) L l B->Inv G [] L l B/\tn (i+1) B.heap/\∀b∈fp,l b=cr:=λ{L l B}J'=>by refine⟨J'.nZ,T.keep _ _ _ t7 λb j o e=>(J'.pin (b,o) (gd _ (gd _ (jf j e)))).1,λb j=>?_⟩;obtain⟨o,e,_⟩:=T.obj _ _ t7 b j;exact(J'.pin (b,o) (gd _ (gd _ (jf j e)))).2.1
    have z7:=br _ s7 ah H7 x u _ cb r7 (step x H7 y7);rw[hA,N,O]at z7;refine eK z7 (?_) ai;rintro _ s8⟨ae,H8,I8,q8⟩;have z8:=bt _ s8 ae H8 _ I8 q8;rw[hA,N,O]at z8;refine eK z8 (?_) ai;rintro b s9⟨H9,I9,q9⟩;cases b with|false=>rw[if_neg dr]at q9 ⊢;obtain⟨m',hm,w'⟩:=q9;obtain⟨b1,b2,b3⟩:=back I9;exact⟨m',hm,i+1,ys,ae,H9,b1,b2,b3,w'⟩|true=>rw[if_pos rfl]at q9 ⊢;have z9:=bv _ s9 ae H9 _ I9 q9;rw[hA,N,O]at z9;refine eK z9 (?_) ai;rintro y pJ⟨yv,ba,ce,cf,ci,bi,m',hm,w'⟩;have bm:=pC _ pJ ae ba (.ref s.heap.objs.size) [yv] (.ref s.heap.objs.size) [y] (λv bn=>bn=upd ba s.heap.objs.size (.lst (ys++[yv]))) ce rfl (.cons cf .nil) ⟨_,ys,yv,rfl,rfl,ci,bi,rfl⟩;rw[hA,N,O]at bm;refine eK bm (?_) ai;rintro _ Ce⟨_,bn,cn,_,cp⟩;subst cp;obtain⟨b1,b2,b3⟩:=back cn;exact⟨m',hm,i+1,ys++[yv],ae,_,b1,b2,b3,w'⟩
 have e3:({s3 with heap:=M,toks:=s3.toks}:cv)={s with heap:=M}:=by rw[<-ap]
 rw[aT,e3]at ac;exact codeAny_compStart_list ac (T.self _ 0 _ _ _ (aE aI) ac)
end
section
variable{X:Cx}{elt target iter:dO}{ifs:List dO}{scope:kU}{pos:Pos}{N':List Str}{n:Nat}{wi:TI}{g:TG}{tt:TT}{te:TE}
noncomputable def vG(n:Nat)(wi:TI)(g:TG)(tt:TT)(te:TE):TE:=λσ H Q=>wi σ H λJ a=>∀D,a D=cr->∃W,(∃m,W 0 m [] (σ++cE n cr) (upd a D (.lst [])))/\Ru J g tt te D (λb=>Q (.ref D) b) W
theorem nW{a:List (cx×Obj)}{σ:_L.St}{H:Hp}{s:cv}(I:Inv X a σ H s)(ok:gh X scope N' n):∃cl,closureFor scope X.env=fy cl/\(∀n c,cl.lookup n=aU c->X.env.cells.lookup n=aU c)/\∀n,(n,fg)∈scope.names->(cl.lookup n).isSome:=BR λm b=>I.ok.has m (ok.cap (m,.free) b rfl)
theorem PK(hc:X.calm=cq)(ok:gh X scope N' n)(hi:PI X target iter wi)(r:∀cl C s₀ H₀ ex,PG (v8 X scope N' cl C s₀ H₀ ex) target g)(ht:∀cl C s₀ H₀ ex,Us (v8 X scope N' cl C s₀ H₀ ex) ifs tt)(he:∀cl C s₀ H₀ ex,PE (v8 X scope N' cl C s₀ H₀ ex) elt te)(hs:∀x,gl iter X.env x=fy x:=by intro _;rfl):PE X (.ListComp elt [⟨target,iter,ifs,0⟩] scope pos) (vG n wi g tt te):=by intro a s σ H Q I h;obtain⟨cl,c,i,t⟩:=nW I ok;rw[eval_ListComp];refine sn (use:=cr) rfl hs c ok.kind ok.names (cA (hi a s σ H _ I h) λv s1 h1=>cA h1 λu s2 y=>?_);obtain⟨it,M,N,J,O,rfl,z,T,t0,f2,B⟩:=y;refine vO (Q:=λD j=>Q (.ref D) j) (RR:=λk C=>compPost (c_ X.prog X.w) X.A X.xe cr (EP X a σ Q) k C) hc ok z i t T t0 f2 r ht he B λD C E j q l f G=>?_;obtain⟨m,l⟩:=l;refine⟨m,l,λh' p=>⟨.ref D,j,?_,rfl,q⟩⟩;exact G.turned (t':=E.toks) (λb o L e=>p.extBut b o L e) f.1 f.2.1 f.2.2.2.1 f.2.2.2.2.1 f.2.2.2.2.2
theorem DP{i:Nat}{x:Str}{c j:Pos}(hc:X.calm=cq)(U:X.N.Nodup)(r:X.N[i]?=aU x)(W:Loc X.env.scope x)(ok:gh X scope N' n)(hi:PI X target iter wi)(Y:∀cl C s₀ H₀ ex,PG (v8 X scope N' cl C s₀ H₀ ex) target g)(ht:∀cl C s₀ H₀ ex,Us (v8 X scope N' cl C s₀ H₀ ex) ifs tt)(he:∀cl C s₀ H₀ ex,PE (v8 X scope N' cl C s₀ H₀ ex) elt te)(t:h_ (.ListComp elt [⟨target,iter,ifs,0⟩] scope pos) (aU (.Name x c)) j.line X.env=fy cq)(hs:∀x,gl iter X.env x=fy x:=by intro _;rfl)(Z:X.fn x=cq\/X.env.scope.names.lookup x=aU .local:=by first|(left;rfl)|(right;rfl)|assumption):PS X (.Assign [.Name x c] (.ListComp elt [⟨target,iter,ifs,0⟩] scope pos) j) (W5 (vG n wi g tt te) (j9 i)):=by
 intro f s σ H D I h;obtain⟨cl,k,u,CZ⟩:=nW I ok;rw[exec_Assign_Name_used _ _ _ _ t];refine bx (nK (bx ?_));show cK _ X.A (do let _<-comprehension (.ListComp elt [⟨target,iter,ifs,0⟩] scope pos) scope X.env _ (tJ []) a_ (fi iter X.env) (aU (mu (.Name x c) X.env))) _ _ s;refine bx (eK (sn (use:=aU (mu (.Name x c) X.env)) (Q:=λ_ p=>SP X f D .next p) rfl hs k ok.kind ok.names (cA (hi f s σ H _ I h) λv s1 h1=>cA h1 λac s2 h2=>?_)) (λ_ p hq=>cw (cw hq)) λ_ _ e=>e);obtain⟨it,fp,tn,J,H2,rfl,I2,T,t0,f2,hw⟩:=h2;refine vO (Q:=λDa y=>D.nx (σ.set i (aU (.ref Da))) y) (RR:=λB C=>compPost (c_ X.prog X.w) X.A X.xe (aU (mu (.Name x c) X.env)) (λ_ p=>SP X f D .next p) B C) hc ok I2 u CZ T t0 f2 Y ht he hw λDa C p y q E l I'=>?_;obtain⟨m,E⟩:=E;show cK _ X.A (mu (.Name x c) X.env (.ref Da)) _ _ _;refine wpAny_assign_Name (v5 I' U r W (show RelV (.ref Da) (.ref Da)from rfl) (?_) Z);rintro G L⟨a,sb,ha⟩;have M:C≠a:=by
  rcases ha with rfl|ha;.exact l.2.1
  .exact λz=>l.2.2.2.2.1 x a ha z.symm
 refine⟨m,E.sameBut sb M,λh' O=>⟨_,y,?_,q⟩⟩;exact L.turned (t':=G.toks) (λb o hb e=>O.extBut b o hb e) l.1 l.2.1 l.2.2.2.1 l.2.2.2.2.1 l.2.2.2.2.2
noncomputable def aeX(K:PySem.W.Frag)(c:TE):TI:=λσ H R=>c σ H λx b=>∃a,x=.ref a/\(((∃xs,eY K b a xs)/\R (Wf K a) b)\/((∃xs,iD K b a xs)/\R (YH K a) b))
theorem Az{u l:dO}{r:TE}(w:PE X l r):PI X u l (aeX X.K r):=by
 intro f s σ H R I h;refine cA (w f s σ H _ I h) ?_;rintro v s1⟨x,t,c,r1,j⟩;obtain⟨a,e,j⟩:=j;subst e;cases r1;rcases j with⟨⟨xs,k⟩,q⟩|⟨⟨xs,k⟩,q⟩
 . obtain⟨i,y,p,hz⟩:=c.list k;refine ln p.isList ?_;refine⟨s1.heap.objs.size,[s1.heap.objs.size],_,_,t,rfl,c.kept (t':=s1.toks) λb o e=>dz e,Hr a _,⟨_,dc _ rfl,rfl,rfl⟩,λb m=>?_,q⟩;have e:b=s1.heap.objs.size:=by simpa using m
   subst e;exact c.Hm (cI) (c.hok.fresh (cI))
 . obtain⟨i,y,p,hz⟩:=c.tuple k;refine iN (show s1.heap.IsTuple a i.toArray from p) ?_;refine⟨s1.heap.objs.size,[s1.heap.objs.size],_,_,t,rfl,c.kept (t':=s1.toks) λb o e=>dz e,Bo a _,⟨_,dc _ rfl,rfl,rfl⟩,λb m=>?_,q⟩;have e:b=s1.heap.objs.size:=by simpa using m
   subst e;exact c.Hm (cI) (c.hok.fresh (cI))
end
end _L
namespace _H
open PySem _L Spec PyProof.Rows
variable{v:V}{i m:Nat}{K:PySem.W.Frag}{F H:Hp}{ρ:List Sl}{σ:_L.St}{x:Str}{p':Pos}{is:List Nat}{ds:List D}{s:cv}{A:eM}{u':b_}
structure Walk(K:PySem.W.Frag)(F:Hp)(ρ:List Sl)(σ:_L.St)(H:Hp)(ul:List Sl->List Sl)(J:It)(ds:List D)(F1:Hp)(ρ1:List Sl)(H1:Hp):Prop where
 gs:GS K F1 ρ1 σ H1
 src:∀(n k:Nat)(F':Hp)(ρ':List Sl)(σ':_L.St)(H':Hp),aB K F1 (ρ1++cE n .aX) (σ++cE n cr) H1 F' ρ' σ' H'->(∀d,ds[k]?=aU d->J.go k H'/\∀x nu,J.M7 k H' x nu->∃F'',Ext F' H' F'' nu/\Rep K F'' x d)/\(ds.length<=k->J.stop k H')fin:∀F2 ρ2 σ2 H2,aB K F1 ρ1 σ H1 F2 ρ2 σ2 H2->aB K F ρ σ H F2 (ul ρ2) σ2 H2/\∀v r,dg K F2 ρ2 σ2 H2 ρ1 σ H1 v r->dg K F2 (ul ρ2) σ2 H2 ρ σ H v r
inductive tIt(K:PySem.W.Frag)(iv:Option Nat)(f:Ev)(σ:_L.St)(H:Hp)(R:It->Hp->Prop):Prop where|mk(F:Hp)(ρ:List Sl)(ds:List D)(ρ1:List Sl)(g:GS K F ρ σ H)(e:srcOf iv f ρ=.ok ds ρ1)(k:∀J F1 H1,Walk K F ρ σ H (bA ρ iv) J ds F1 ρ1 H1->R J H1)
section
variable{K:PySem.W.Frag}{F F1 H H1:Hp}{ρ ρ1:List Sl}{σ:_L.St}{ds:List D}{a:cx}
theorem Ep{xs:List V}{f b:Hp}(g:iD K b a xs)(r:aF K f xs ds)(s:aK f b)(k:Nat):(∀d,ds[k]?=aU d->(YH K a).go k b/\∀x j,(YH K a).M7 k b x j->∃c,Ext f b c j/\Rep K c x d)/\(ds.length<=k->(YH K a).stop k b):=by refine⟨λd hd=>?_,λh=>⟨xs,g,by rw[r.length];exact h⟩⟩;obtain⟨w,h1,l⟩:=r.get hd;refine⟨⟨xs,w,g,h1⟩,?_⟩;rintro x j⟨e,y⟩;subst e;have:=y xs g;rw[h1]at this;cases this;exact⟨f,.refl s,l⟩
theorem uB{xs:List V}{f b:Hp}(g:eY K b a xs)(r:aF K f xs ds)(s:aK f b)(k:Nat):(∀d,ds[k]?=aU d->(Wf K a).go k b/\∀x j,(Wf K a).M7 k b x j->∃c,Ext f b c j/\Rep K c x d)/\(ds.length<=k->(Wf K a).stop k b):=by refine⟨λd hd=>?_,λh=>⟨xs,g,by rw[r.length];exact h⟩⟩;obtain⟨w,h1,l⟩:=r.get hd;refine⟨⟨xs,w,g,h1⟩,?_⟩;rintro x j⟨e,y⟩;subst e;have:=y xs g;rw[h1]at this;cases this;exact⟨f,.refl s,l⟩
theorem yM{ul:List Sl->List Sl}{d:D}(s:aB K F ρ σ H F1 ρ1 σ H1)(r:Rep K F1 v d)(hi:items d=aU ds)(fin:∀f b c g,aB K F1 ρ1 σ H1 f b c g->aB K F ρ σ H f (ul b) c g/\∀v r,dg K f b c g ρ1 σ H1 v r->dg K f (ul b) c g ρ σ H v r):∃a,v=.ref a/\(((∃xs,eY K H1 a xs)/\Walk K F ρ σ H ul (Wf K a) ds F1 ρ1 H1)\/((∃xs,iD K H1 a xs)/\Walk K F ρ σ H ul (YH K a) ds F1 ρ1 H1)):=by cases d with|tup es=>cases hi;rw[Rep]at r;obtain⟨a,xs,rfl,h1,h⟩:=r;exact⟨a,rfl,.inr ⟨⟨xs,aK.gZ s.gs.sub h1⟩,s.gs,λn k o j l p e=>Ep (aK.gZ e.gs.sub (aK.gZ e.cQ h1)) (h.mono e.cQ) e.gs.sub k,fin⟩⟩|lst es=>cases hi;rw[Rep]at r;obtain⟨a,xs,rfl,h1,h⟩:=r;exact⟨a,rfl,.inl ⟨⟨xs,s.gs.sub.seq h1⟩,s.gs,λn k o j l p e=>uB (e.gs.sub.seq (e.cQ.seq h1)) (h.mono e.cQ) e.gs.sub k,fin⟩⟩|_=>cases hi
theorem v9{ul:List Sl->List Sl}(g:GS K F ρ1 σ H)(e:ρ1[i]?=aU (.lent ds))(fin:∀f b c h,aB K F ρ1 σ H f b c h->aB K F ρ σ H f (ul b) c h/\∀v r,dg K f b c h ρ1 σ H v r->dg K f (ul b) c h ρ σ H v r):∃a,σ[i]?=aU (aU (.ref a))/\(∃xs,eY K H a xs)/\Walk K F ρ σ H ul (Wf K a) ds F ρ1 H:=by obtain⟨a,xs,h1,p,C,E⟩:=g.uU i _ ds e rfl;have hi:i<ρ1.length:=(fB e).1;refine⟨a,h1,⟨xs,eY.of p⟩,g,λn k G q u I j=>?_,fin⟩;obtain⟨l,t,w,y⟩:=j.lk i _ (by rw[dL hi];exact e) rfl;cases(show t=.lent ds from y);rw[dL (by rw[<-g.len];exact hi),h1]at l;obtain⟨J,ys,o,z,L,B⟩:=j.gs.uU i _ ds w rfl;rw[l]at o;cases o;exact uB (eY.of z) B j.gs.sub k
end
section
variable{X:Cx}{c:Call}{n:Nat}{e a b d tg:dO}{p pa pb pd:P}{pos:Pos}
theorem qd{t t':TI}(h:PI X tg e t)(i:∀σ H R,t' σ H R->t σ H R):PI X tg e t':=λf s σ H R I q=>h f s σ H R I (i σ H R q)
noncomputable def SI(X:Cx)(c:Call)(tg e:dO)(p:P):Prop:=PI X tg e (tIt X.K (isVar p) (_H.ev c p))
theorem cJ(h:SX X c e p):SI X c tg e p:=by unfold SI;cases hv:isVar p with|none=>refine qd (Az h.ev) ?_;rintro σ H R⟨F,ρ,ds,u,g,e,k⟩;obtain⟨r,f,L,t⟩:=aj e;have y:=aD t;clear t;obtain⟨t,B⟩:=y;subst B;refine⟨F,ρ,r,_,g,L,λv U W s C=>?_⟩;obtain⟨l,s2,_,M⟩:=s.dw C;obtain⟨a,E,G⟩:=yM (ul:=bA ρ cr) s2 M t λY N O Z s3=>⟨s2.trans s3,λv r C=>C.later s2⟩;exact⟨a,E,G.imp (λ⟨z,w⟩=>⟨z,k _ _ _ w⟩) (λ⟨z,w⟩=>⟨z,k _ _ _ w⟩)⟩|some i=>
   refine qd (Az (h.var i hv)) ?_;rintro σ H R⟨F,ρ,ds,u,g,e,k⟩;unfold srcOf at e;dsimp only at e;split at e
   . rename_i b d q;have y:=aD e;clear e;obtain⟨t,B⟩:=y;subst B;obtain⟨v,h1,Q⟩:=g.val i b d q;have fin:∀l f j o,aB X.K F ρ σ H l f j o->aB X.K F ρ σ H l (bA ρ (aU i) f) j o/\∀v r,dg X.K l f j o ρ σ H v r->dg X.K l (bA ρ (aU i) f) j o ρ σ H v r:=λl f j o s=>by unfold bA;dsimp only;rw[q];exact⟨s,λ_ _ z=>z⟩
     obtain⟨a,E,G⟩:=yM (ul:=bA ρ (aU i)) (.refl g) Q t fin;exact⟨v,h1,a,E,G.imp (λ⟨z,w⟩=>⟨z,k _ _ _ w⟩) (λ⟨z,w⟩=>⟨z,k _ _ _ w⟩)⟩
   . rename_i b I q;cases e;have hi:i<ρ.length:=(fB q).1;have fin:∀l f j o,aB X.K F (ρ.set i (.lent ds)) σ H l f j o->aB X.K F ρ σ H l (bA ρ (aU i) f) j o/\∀v r,dg X.K l f j o (ρ.set i (.lent ds)) σ H v r->dg X.K l (bA ρ (aU i) f) j o ρ σ H v r:=λl f j o s=>by unfold bA;dsimp only;rw[q];exact aB.bA g q s
     obtain⟨a,h1,J,w⟩:=v9 (ul:=bA ρ (aU i)) (g.lend q) (cy hi) fin;exact⟨_,h1,a,rfl,.inl ⟨J,k _ _ _ w⟩⟩
   . rename_i I q;cases e;have fin:∀l f j o,aB X.K F ρ σ H l f j o->aB X.K F ρ σ H l (bA ρ (aU i) f) j o/\∀v r,dg X.K l f j o ρ σ H v r->dg X.K l (bA ρ (aU i) f) j o ρ σ H v r:=λl f j o s=>by unfold bA;dsimp only;rw[q];exact⟨s,λ_ _ z=>z⟩
     obtain⟨a,h1,J,w⟩:=v9 (ul:=bA ρ (aU i)) g q fin;exact⟨_,h1,a,rfl,.inl ⟨J,k _ _ _ w⟩⟩
   .cases e
theorem zE{F1 g:Hp}{f:List Sl}(s:aB K F ρ σ H F1 f σ g)(i j:Int):Walk K F ρ σ H (bA ρ cr) (Yw i (j-i).toNat) ((dE (j-i).toNat).map λ(k:Nat)=>D.int (i+(k:Int))) F1 f g:=by
 refine⟨s.gs,λn k o q t I u=>⟨λd hd=>?_,λh=>?_⟩,λJ w y L s3=>⟨s.trans s3,λv r z=>z.later s⟩⟩;.rw[eL]at hd;obtain⟨m,B,C⟩:=map_some hd;obtain⟨h1,l⟩:=fB B;rw[List.getElem_range]at l;subst l;subst C;rw[iP]at h1;refine⟨h1,?_⟩;rintro x M⟨E,G⟩;subst E;subst G;exact⟨o,.refl u.gs.sub,bw _⟩
 .rw[dy,iP]at h;exact h
theorem dm(t:x="range")(u:Gl X x)(w:X.mg x=cr)(y:SX X c a pa)(hs:cL [a] X.env=[(a_,fi a X.env)]:=by rfl):SI X c tg (.Call (.Name x p') [a] [] pos) (.qC (.con (.int 0)) pa):=by
 subst t;obtain⟨U,h1,z⟩:=y.bW;refine qd (vZ u w (cG h1 dX hs) hs) ?_;rintro σ H R⟨F,ρ,ds,B,g,e,k⟩;obtain⟨r,C,q,h⟩:=aj e;have l:=aD h;clear h;obtain⟨h,E⟩:=l;subst E;rw[_H.E20]at q;obtain⟨W,G,I,f⟩:=aj q;have l:=aD f;clear f;obtain⟨f,J⟩:=l;subst J;obtain⟨Y,L,M,o⟩:=aj I;cases o;obtain⟨i,f1,f⟩:=cg f;obtain⟨j,f2,f⟩:=cg f;obtain⟨⟨b1,b2,b3,b4⟩,f⟩:=bf f;have f1:i=0:=by cases f1;rfl
 subst f1;subst f;cases h;cases di f2;refine z g M λv N O s Q=>⟨j,by rw[Q.int],by omega,by omega,?_⟩;have:=zE s 0 j;rw[uu]at this;refine k _ N O ?_;rw[uu];exact this
theorem Pk(y:x="range")(z:Gl X x)(B:X.mg x=cr)(C:SX X c a pa)(E:SX X c b pb)(hs:cL [a,b] X.env=[(a_,fi a X.env),(a_,fi b X.env)]:=by rfl)(h:cL [b] X.env=[(a_,fi b X.env)]:=by rfl):SI X c tg (.Call (.Name x p') [a,b] [] pos) (.qC pa pb):=by subst y;obtain⟨Y,Z,h1,G,I⟩:=C.gq E;refine qd (GC z B (cG h1 (cG G dX h) (by rw[hs,h])) hs h) ?_;rintro σ H R⟨F,ρ,ds,J,g,e,k⟩;obtain⟨r,L,o,l⟩:=aj e;have q:=aD l;clear l;obtain⟨l,M⟩:=q;subst M;rw[_H.E20]at o;obtain⟨xy,N,O,f⟩:=aj o;have q:=aD f;clear f;obtain⟨f,Q⟩:=q;subst Q;obtain⟨i,f1,f⟩:=cg f;obtain⟨j,f2,f⟩:=cg f;obtain⟨⟨b1,b2,b3,b4⟩,f⟩:=bf f;subst f;cases l;refine I g O λv u U W s t w=>⟨i,j,?_,by omega,k _ U W (zE s i j)⟩;have o:=di f1;have l:=di f2;rw[o]at t;rw[l]at w;rw[t.int,w.int]
end
section
variable{X:Cx}{c:Call}{n:Nat}{e a b d tg iter:dO}{p pa pb pd:P}{pos:Pos}{body:List ft}{ss:List S}
noncomputable def Pn(K:PySem.W.Frag)(bd:List Sl->D->Option (List Sl))(g:TG):Prop:=∀(x:V)(d:D)(F:Hp)(ρ f:List Sl)(σ:_L.St)(H:Hp)(Q:_L.St->Hp->Prop),GS K F ρ σ H->Rep K F x d->bd ρ d=aU f->(∀h,aB K F ρ σ H F f h H->Q h H)->g x σ H Q
theorem wF(i:Nat):Pn K (λρ d=>put ρ i (.val a_ d)) (j9 i):=λx d F ρ f σ H Q g r h k=>k _ (aB.put (r:=.val d) (.refl g) r h)
theorem iu:∀(is:List Nat)(gs:HW),(∀(xs:List V)(ds:List D)(F:Hp)(ρ f:List Sl)(σ:_L.St)(H:Hp)(Q:_L.St->Hp->Prop),GS K F ρ σ H->aF K F xs ds->putAll ρ is ds=aU f->(∀j,aB K F ρ σ H F f j H->Q j H)->gs xs σ H Q)->∀i,∀(xs:List V)(ds:List D)(F:Hp)(ρ f:List Sl)(σ:_L.St)(H:Hp)(Q:_L.St->Hp->Prop),GS K F ρ σ H->aF K F xs ds->putAll ρ (i::is) ds=aU f->(∀j,aB K F ρ σ H F f j H->Q j H)->JC (j9 i) gs xs σ H Q:=by intro is gs o i xs ds F ρ f σ H Q g r h k;cases ds with|nil=>simp[lg,jg,pL,pQ]at h|cons d ds=>obtain⟨v,vs,rfl,h1,q⟩:=r.cR;rw[jg]at h;obtain⟨l,t,u⟩:=cg h;have s1:=aB.put (r:=.val d) (.refl g) h1 t;refine⟨v,vs,rfl,o vs ds F l f _ H _ s1.gs q u λj s2=>k j (s1.trans s2)⟩
theorem qU:∀(xs:List V)(ds:List D)(F:Hp)(ρ f:List Sl)(σ:_L.St)(H:Hp)(Q:_L.St->Hp->Prop),GS K F ρ σ H->aF K F xs ds->putAll ρ [] ds=aU f->(∀j,aB K F ρ σ H F f j H->Q j H)->Vh xs σ H Q:=by intro xs ds F ρ f σ H Q g r h k;cases ds with|nil=>rw[lg]at h;cases h;exact⟨r.fZ,k σ (.refl g)⟩|cons d ds=>simp[lg,jg,pL,pQ]at h
theorem mY:∀{is:List Nat}{ds:List D}{ρ f:List Sl},putAll ρ is ds=aU f->ds.length=is.length|[],[],_,_,_=>rfl|[],_::_,_,_,h=>by simp[lg,jg,pL,pQ]at h|_::_,[],_,_,h=>by simp[lg,jg,pL,pQ]at h|i::is,d::ds,ρ,f,h=>by rw[jg]at h;obtain⟨g,k,j⟩:=cg h;simp[mY j]
theorem xg{gs:HW}(q:m=is.length)(h:∀(xs:List V)(ds:List D)(F:Hp)(ρ f:List Sl)(σ:_L.St)(H:Hp)(Q:_L.St->Hp->Prop),GS K F ρ σ H->aF K F xs ds->putAll ρ is ds=aU f->(∀l,aB K F ρ σ H F f l H->Q l H)->gs xs σ H Q):Pn K (λρ d=>cP ρ is a_ d) (Vt K m gs):=by intro x d F ρ f σ H Q g r j k;replace j:cP ρ is a_ d=aU f:=j;cases d with|tup ds=>replace j:putAll ρ is ds=aU f:=j;rw[Rep]at r;obtain⟨a,xs,rfl,h1,o⟩:=r;exact⟨a,xs,rfl,aK.gZ g.sub h1,by rw[o.length,mY j,q],h xs _ F ρ f σ H Q g o j k⟩|_=>cases j
theorem uc{g:TG}{one:Bool}(hp:nv (c_ X.prog X.w) X.A X.env X.xe)(hc:X.calm=cq)(hi:SI X c tg iter p)(hg:PG X tg g)(ac:Pn X.K (λρ d=>cP ρ is one d) g)(hb:SB X c n body ss)(hs:∀x,gl iter X.env x=fy x:=by intro _;rfl):SS X c n (.For tg iter body [] pos) (.jJ p is one ss):=by
 refine eO (J9 hp hc hi hg hb hs) ?_;rintro D σ H⟨F,ρ,fl,t,g0,e,k⟩;rw[_H.X13]at e;obtain⟨ds,o,e1,e⟩:=aj e;obtain⟨af,I,e2,e⟩:=aj e;cases e;refine⟨F,ρ,ds,o,g0,e1,λJ F1 H1 w=>?_⟩;have src:∀(i:Nat)(U:Hp)(t:List Sl)(h:_L.St)(j:Hp),aB X.K F1 o σ H1 U t h j->(∀d,ds[i]?=aU d->J.go i j/\∀x nu,J.M7 i j x nu->∃L,Ext U j L nu/\Rep X.K L x d)/\(ds.length<=i->J.stop i j):=λi U t h j s=>w.src 0 i U t h j (by simpa using s);refine⟨λi m q W=>∃G f,aB X.K F1 o σ H1 G f q W/\m=ds.length-i/\i<=ds.length/\jl is one (iG c n ss) (ds.drop i) f=.ok fl I,⟨_,F1,o,.refl w.gs,rfl,uL,e2⟩,?_⟩;rintro i m q W⟨G,f,Y,rfl,ag,l⟩;obtain⟨s1,s2⟩:=src i G f q W Y;by_cases u:i<ds.length
 . right;have hd:ds[i]?=aU ds[i]:=by simp[u]
   obtain⟨go,step⟩:=s1 _ hd;refine⟨go,λh j=>∃m',m'<ds.length-i/\∃G f,aB X.K F1 o σ H1 G f h j/\m'=ds.length-(i+1)/\i+1<=ds.length/\jl is one (iG c n ss) (ds.drop (i+1)) f=.ok fl I,λh j z=>z,λx j y=>?_⟩;obtain⟨F2,ext,rx⟩:=step x j y;have M:=Y.trans (ext.stp Y.gs);rw[jk u,CG]at l;cases hbd:cP f is one ds[i]with|none=>rw[hbd]at l;cases l|some N=>rw[hbd]at l;obtain⟨O,C,eb,l⟩:=aj l;refine ac x _ F2 f N q j _ M.gs rx hbd λah sb=>?_;have E:=M.trans sb;refine⟨F2,N,O,C,E.gs,eb,λZ Q H4 s4=>?_⟩;have B:=E.trans s4;cases O with|next=>exact⟨_,by omega,Z,C,B,rfl,u,l⟩|cont=>exact⟨_,by omega,Z,C,B,rfl,u,l⟩|brk=>cases l;exact k Z Q H4 (w.fin _ _ _ _ B).1|ret r=>cases l;intro v rr;obtain⟨z1,z2⟩:=w.fin _ _ _ _ B;exact k Z Q H4 z1 v (z2 v r (rr.later E))
 . left;have ae:ds.drop i=[]:=by rw[mA];omega
   rw[ae,Ja]at l;cases l;exact⟨s2 (by omega),k G q W (w.fin _ _ _ _ Y).1⟩
theorem pK(i:Nat):(λ(ρ:List Sl)(d:D)=>cP ρ [i] cq d)=λρ d=>put ρ i (.val a_ d):=by funext ρ d;rfl
theorem Ny{f:Pos}(h:nv (c_ X.prog X.w) X.A X.env X.xe)(hc:X.calm=cq)(j:X.N.Nodup)(g:X.N[i]?=aU x)(k:Loc X.env.scope x)(hi:SI X c (.Name x f) iter p)(l:SB X c n body ss)(hs:∀x,gl iter X.env x=fy x:=by intro _;rfl)(o:X.fn x=cq\/X.env.scope.names.lookup x=aU .local:=by first|(left;rfl)|(right;rfl)|assumption):SS X c n (.For (.Name x f) iter body [] pos) (.jJ p [i] cq ss):=uc h hc hi (aL j g k o) (by rw[pK];exact wF i) l hs
theorem Bb(M:nv (c_ X.prog X.w) X.A X.env X.xe)(ht:ST X c e p)(O:SB X c n body ss):SS X c n (.While e body [] pos) (.whl p ss):=by refine eO (Lq M ht O) ?_;rintro D σ H⟨F,ρ,fl,o,g,e,k⟩;rw[_H.X14]at e;refine⟨λm j E=>∃q f,aB X.K F ρ σ H q f j E/\ug (lO (_H.ev c p)) (iG c n ss) m f=.ok fl o,⟨n,F,ρ,.refl g,e⟩,?_⟩;rintro m j E⟨q,f,G,h⟩;cases m with|zero=>rw[Uo]at h;cases h|succ m=>rw[JV]at h;obtain⟨b,t,Q,h⟩:=aj h;refine⟨q,f,b,t,G.gs,Q,λF1 U s1=>?_⟩;have s2:=G.trans s1;cases b with|false=>rw[if_neg dr]at h;cases h;exact k F1 j U s2|true=>rw[if_pos rfl]at h;obtain⟨u,l,W,h⟩:=aj h;refine(show ∃N:_L.St->Hp->Prop,_/\_ from⟨λy I=>∃J,J<m+1/\∃q f,aB X.K F ρ σ H q f y I/\ug (lO (_H.ev c p)) (iG c n ss) J f=.ok fl o,λy I z=>z,F1,t,u,l,s2.gs,W,λC B L s4=>?_⟩);have s5:=s2.trans s4;cases u with|next=>exact⟨m,by omega,C,l,s5,h⟩|cont=>exact⟨m,by omega,C,l,s5,h⟩|brk=>cases h;exact k C B L s5|ret r=>cases h;exact λv Y=>k C B L s5 v (Y.later s2)
end
section
variable{X:Cx}{c:Call}{n:Nat}{e elt tg iter:dO}{p ps pe:P}{pos:Pos}{scope:kU}{N':List Str}{ifs:List dO}
theorem Uv{t t':TE}(h:PE X e t)(i:∀σ H Q,σ.length=X.N.length->t' σ H Q->t σ H Q):PE X e t':=λa s σ H Q I q=>h a s σ H Q I (i σ H Q I.len q)
theorem WT{st:ft}{t t':TS}(h:PS X st t)(i:∀D σ H,σ.length=X.N.length->t' D σ H->t D σ H):PS X st t':=λa s σ H D I q=>h a s σ H D I (i D σ H I.len q)
noncomputable def ql(K:PySem.W.Frag)(m:Nat)(is:List Nat)(one:Bool)(g:TG):Prop:=∀(x:V)(d:D)(F:Hp)(ρ b:List Sl)(σ:_L.St)(H:Hp)(Q:_L.St->Hp->Prop),GS K F ρ σ H->Rep K F x d->cP ρ is one d=aU b->(∀a,aB K F ρ σ H F b a H->a.take m=σ.take m->Q a H)->g x σ H Q
theorem take_set{b:Type}{l:List b}{a:b}(h:m<=i):(l.set i a).take m=l.take m:=by rw[List.take_set_of_le h]
theorem bh(h:m<=i):ql K m [i] cq (j9 i):=λx d F ρ a σ H Q g r b k=>k _ (aB.put (r:=.val d) (.refl g) r b) (take_set h)
noncomputable def O9(K:PySem.W.Frag)(m:Nat)(is:List Nat)(gs:HW):Prop:=∀(xs:List V)(ds:List D)(F:Hp)(ρ b:List Sl)(σ:_L.St)(H:Hp)(Q:_L.St->Hp->Prop),GS K F ρ σ H->aF K F xs ds->putAll ρ is ds=aU b->(∀a,aB K F ρ σ H F b a H->a.take m=σ.take m->Q a H)->gs xs σ H Q
theorem iK{gs:HW}(hi:m<=i)(j:O9 K m is gs):O9 K m (i::is) (JC (j9 i) gs):=by intro xs ds F ρ a σ H Q g r h k;cases ds with|nil=>simp[lg,jg,pL,pQ]at h|cons d ds=>obtain⟨v,vs,rfl,h1,l⟩:=r.cR;rw[jg]at h;obtain⟨b,o,q⟩:=cg h;have s1:=aB.put (r:=.val d) (.refl g) h1 o;exact⟨v,vs,rfl,j vs ds F b a _ H _ s1.gs l q λf s2 z=>k f (s1.trans s2) (z.trans (take_set hi))⟩
theorem xJ:O9 K m [] Vh:=by intro xs ds F ρ a σ H Q g r h k;cases ds with|nil=>rw[lg]at h;cases h;exact⟨r.fZ,k σ (.refl g) rfl⟩|cons d ds=>simp[lg,jg,pL,pQ]at h
theorem wD{gs:HW}{l:Nat}(o:l=is.length)(h:O9 K m is gs):ql K m is a_ (Vt K l gs):=by intro x d F ρ b σ H Q g r f k;cases d with|tup ds=>replace f:putAll ρ is ds=aU b:=f;rw[Rep]at r;obtain⟨a,xs,rfl,h1,j⟩:=r;exact⟨a,xs,rfl,aK.gZ g.sub h1,by rw[j.length,mY f,o],h xs _ F ρ b σ H Q g j f k⟩|_=>cases f
noncomputable def SQ(X:Cx)(c:Call)(ifs:List dO)(t:Option P):Prop:=Us X ifs (K4 X.K (qg c t))
theorem cH:SQ X c [] cr:=λa s σ H Q I⟨F,ρ,k,ρ',g,e,q⟩=>by rw[qg]at e;cases e;exact Nr a s σ H Q I (q F H (.refl g))
theorem ig(h:ST X c e p):SQ X c [e] (aU p):=λa s σ H Q I⟨F,ρ,k,ρ',g,e,q⟩=>by rw[qg]at e;exact Pz h a s σ H Q I ⟨F,ρ,k,ρ',g,e,q⟩
theorem aB.Ci{F1 j:Hp}{f:List Sl}{g:_L.St}{Da:cx}{o:HO}(s:aB K F ρ σ H F1 f g j)(h:H Da=cr)(q:F1 Da=cr)(ho:¬ Own f g Da):aB K F ρ σ H F1 f g (upd j Da o):=by
 refine⟨⟨λb u e=>?_,s.gs.len,s.gs.val,λi t ds e k=>?_,s.gs.dis⟩,s.cQ,s.yj,λb u e n=>?_,s.wu,s.len,s.lk⟩
 . have:b≠Da:=by rintro rfl;rw[q]at e;cases e
   rw[aC this];exact s.gs.sub b u e
 . obtain⟨a,xs,l,r,w,y⟩:=s.gs.own i t ds e k;have:a≠Da:=by rintro rfl;exact ho ⟨i,⟨t,ds,e,k⟩,l⟩
   exact⟨a,xs,l,by rw[aC this];exact r,w,y⟩
 . have:b≠Da:=by rintro rfl;rw[h]at e;cases e
   rw[aC this];exact s.keep b u e n
theorem Ii{b r:List Sl}{ul:List Sl->List Sl}{ti:TI}{one:Bool}{u:List Sl->Res Bool}{el:Ev}{g:TG}{Q:VK}{xs:List D}(hm:σ.length=m)(ah:ql K m is one g)(ai:∀R:It->Hp->Prop,(∀J F1 W,Walk K F ρ σ H ul J ds F1 b W->R J W)->ti σ H R)(ap:ds.length<=lim)(e2:turns is one u el ds [] (b++cE n .aX)=.ok xs r)(k:∀v F' H',aB K F ρ σ H F' (ul (r.take b.length)) σ H'->dg K F' (ul (r.take b.length)) σ H' ρ σ H v (.own xs)->Q v H'):vG n ti g (K4 K u) (Fv K el) σ H Q:=by
 refine ai _ λJ F1 W w Da O=>?_;have al:b.length=σ.length:=w.gs.len;have gm:=w.gs.more (n:=n) (τ:=cE n cr) (by simp);have fD:F1 Da=cr:=by cases q:F1 Da with|none=>rfl|some o=>rw[w.gs.sub Da o q]at O;cases O
 have nO:¬ Own (b++cE n .aX) (σ++cE n cr) Da:=λ⟨i,⟨t,dt,q1,q2⟩,q3⟩=>by obtain⟨a,ys,z1,z2,_⟩:=gm.own i t dt q1 q2;rw[q3]at z1;cases z1;rw[O]at z2;cases z2
 refine⟨λi mm ys f G=>∃E h l,aB K F1 (b++cE n .aX) (σ++cE n cr) W E h f G/\f.take m=σ/\G Da=aU (.lst ys)/\E Da=cr/\¬ Own h f Da/\aF K E ys l/\l.length<=i/\mm=ds.length-i/\i<=ds.length/\turns is one u el (ds.drop i) l h=.ok xs r,⟨_,F1,_,[],(aB.refl gm).Ci O fD nO,by rw[oe (by omega),qA (by omega)],aH,fD,nO,.nil,uL,rfl,uL,e2⟩,?_⟩;rintro i mm ys f G⟨E,h,l,Y,I,Z,hF,hO,rs,ar,rfl,av,j⟩;refine⟨Z,?_⟩--what stays of the new list through a step
 have stay:∀{L U:Hp}{M:List Sl}{B:_L.St},aB K E h f G L M B U->U Da=aU (.lst ys)/\L Da=cr/\¬ Own M B Da:=λ{L U M B}s=>by
  refine⟨s.keep Da _ Z hO,?_,λo=>?_⟩;.cases q:L Da with|none=>rfl|some o=>
      rcases s.yj Da hF (by rw[q];simp)with z|z;.exact absurd z hO
      .exact(Ju Z z).elim
  . rcases s.wu Da o with z|z;.exact hO z
    .rw[Z]at z;cases z
 obtain⟨s1,s2⟩:=w.src n i E h f G Y;by_cases C:i<ds.length
 . right;have hd:ds[i]?=aU ds[i]:=by simp[C]
   obtain⟨go,step⟩:=s1 _ hd;refine⟨go,λx U y=>?_⟩;obtain⟨L,ext,rx⟩:=step x U y;have t2:=ext.stp Y.gs;rw[jk C,xr]at j;cases hbd:cP h is one ds[i]with|none=>rw[hbd]at j;cases j|some ac=>rw[hbd]at j;obtain⟨bb,N,eb,j⟩:=aj j;refine ah x _ L h ac f U _ t2.gs rx hbd λB sb ae=>?_;have t3:=t2.trans sb;refine⟨L,ac,bb,N,t3.gs,eb,λF4 H4 s4=>?_⟩;have t4:=t3.trans s4;cases bb with|false=>rw[if_neg dr]at j;obtain⟨y1,y2,y3⟩:=stay t4;exact⟨_,by omega,F4,N,l,Y.trans t4,ae.trans I,y1,y2,y3,rs.mono t4.cQ,by omega,rfl,C,j⟩|true=>
       rw[if_pos rfl]at j;obtain⟨re,af,ee,j⟩:=aj j;refine(show Fv K el B H4 _ from⟨F4,N,re,af,t4.gs,ee,λv F5 H5 s5 rr=>?_⟩);obtain⟨F6,s6,_,rp⟩:=s5.dw rr;have t6:=t4.trans s6;obtain⟨y1,y2,y3⟩:=stay t6;have ag:ys.length<sizeLine:=by have h1:=rs.length;have h2:lim=sizeLine:=rfl;omega
       exact⟨y1,ag,_,by omega,F6,af,l++[re.d],(Y.trans t6).Ci O y2 y3,ae.trans I,aH,y2,y3,(rs.mono t6.cQ).append (.cons rp .nil),by simp;omega,rfl,C,j⟩
 . left;have am:ds.drop i=[]:=by rw[mA];omega
   rw[am,xY]at j;cases j;refine⟨s2 (by omega),?_⟩;obtain⟨l1,l2⟩:=aB.less (m:=b.length) rfl w.gs (by simp) Y;have hst:f.take b.length=σ:=by rw[al,hm];exact I
   rw[hst]at l1;have rr:dg K E r f G (b++cE n .aX) (σ++cE n cr) W (.ref Da) (.own xs):=⟨Da,ys,rfl,Z,hF,rs,hO,.inr O⟩;have Sd:=l2 _ _ rr;rw[hst]at Sd;obtain⟨z1,z2⟩:=w.fin _ _ _ _ l1;exact k _ E G z1 (z2 _ _ Sd)
theorem Eh{iv:Option Nat}{f:Ev}{one:Bool}{b:List Sl->Res Bool}{w:Ev}{g:TG}{Q:VK}{r:R}{j:List Sl}(z:σ.length=m)(q:ql K m is one g)(B:GS K F ρ σ H)(e:((srcOf iv f ρ).bind λds a=>if ds.length<=lim then(turns is one b w ds [] (a++cE n .aX)).bind λxs l=>Res.ok (R.own xs) (bA ρ iv (l.take a.length))else .stuck)=.ok r j)(k:∀v y t,aB K F ρ σ H y j σ t->dg K y j σ t ρ σ H v r->Q v t):vG n (tIt K iv f) g (K4 K b) (Fv K w) σ H Q:=by
 obtain⟨ds,u,C,e⟩:=aj e;split at e;.rename_i o;obtain⟨xs,E,G,e⟩:=aj e;cases e;exact Ii z q (λR h=>⟨F,ρ,ds,u,B,C,h⟩) o G k
 .cases e
theorem cB{g:TG}{one:Bool}{t:Option P}(hc:X.calm=cq)(ok:gh X scope N' n)(hi:SI X c tg iter ps)(b:∀cl C s₀ H₀ ex,PG (v8 X scope N' cl C s₀ H₀ ex) tg g)(a:ql X.K X.N.length is one g)(ht:∀cl C s₀ H₀ ex,SQ (v8 X scope N' cl C s₀ H₀ ex) c ifs t)(he:∀cl C s₀ H₀ ex,SX (v8 X scope N' cl C s₀ H₀ ex) c elt pe)(hs:∀x,gl iter X.env x=fy x:=by intro _;rfl):SX X c (.ListComp elt [⟨tg,iter,ifs,0⟩] scope pos) (.comp ps n is one t pe):=by refine⟨Uv (PK (tt:=K4 X.K (qg c t)) (te:=Fv X.K (_H.ev c pe)) hc ok hi b ht (λcl C s₀ H₀ ex=>(he cl C s₀ H₀ ex).ev) hs) ?_,λi h=>by cases h⟩;rintro σ H Q f⟨F,ρ,r,j,l,e,k⟩;rw[_H.E19]at e;exact Eh f a l e k
theorem lM{a b:Pos}{nn:Nat}{g:TG}{one:Bool}{t:Option P}(hc:X.calm=cq)(q:X.N.Nodup)(h:X.N[i]?=aU x)(u:Loc X.env.scope x)(ok:gh X scope N' n)(hi:SI X c tg iter ps)(w:∀cl C s₀ H₀ ex,PG (v8 X scope N' cl C s₀ H₀ ex) tg g)(j:ql X.K X.N.length is one g)(ht:∀cl C s₀ H₀ ex,SQ (v8 X scope N' cl C s₀ H₀ ex) c ifs t)(he:∀cl C s₀ H₀ ex,SX (v8 X scope N' cl C s₀ H₀ ex) c elt pe)(l:h_ (.ListComp elt [⟨tg,iter,ifs,0⟩] scope pos) (aU (.Name x a)) b.line X.env=fy cq:=by rfl)(hs:∀x,gl iter X.env x=fy x:=by intro _;rfl)(y:X.fn x=cq\/X.env.scope.names.lookup x=aU .local:=by first|(left;rfl)|(right;rfl)|assumption):SS X c nn (.Assign [.Name x a] (.ListComp elt [⟨tg,iter,ifs,0⟩] scope pos) b) (.asg i (.comp ps n is one t pe)):=by refine WT (DP (tt:=K4 X.K (qg c t)) (te:=Fv X.K (_H.ev c pe)) hc q h u ok hi w ht (λcl C s₀ H₀ ex=>(he cl C s₀ H₀ ex).ev) l hs y) ?_;rintro D σ H z⟨F,ρ,fl,B,E,e,k⟩;rw[_H.X6]at e;obtain⟨r,G,o,e⟩:=aj e;obtain⟨I,J,f,e⟩:=aj e;cases e;have L:=aD f;clear f;obtain⟨f,Q⟩:=L;rw[_H.E19]at o;exact Eh z j E o λv F1 M s1 O=>k F1 _ M (s1.put O f)
end
section
variable{X:Cx}{c:Call}{n:Nat}{e a b d:dO}{p pa pb pd:P}{pos:Pos}{es:List dO}{ps:List P}
inductive rBn(K:PySem.W.Frag)(f:List D->Option R)(xs:List V)(H:Hp)(Q:VK):Prop where|mk(F:Hp)(ds:List D)(r:R)(sm:aK F H)(rs:aF K F xs ds)(he:f ds=aU r)(k:∀v F' H',Ext F H F' H'->cF K F' H' H v r->Q v H')
theorem Q9{E:dO}{f:List D->Option R}{q:P}(o:∀{t},PA X es t->PE X E (tCB (rBn X.K f) t))(u:SA X c es ps)(y:∀ρ,_H.ev c q ρ=(evs c ps ρ).bind λds ρ=>lift (f ds) ρ)(z:isVar q=cr):SX X c E q:=by refine⟨eV (o u.1) ?_,λi h=>by rw[z]at h;cases h⟩;rintro σ H Q⟨F,ρ,r,B,g,e,k⟩;rw[y]at e;obtain⟨ds,l,C,j⟩:=aj e;have G:=aD j;clear j;obtain⟨j,I⟩:=G;subst I;exact⟨F,ρ,ds,l,g,C,λvs J U s L=>⟨J,ds,r,s.gs.sub,L,j,λw M N x O=>k w M N (s.trans (x.stp s.gs)) (.later s (O.nC s.gs))⟩⟩
theorem R0{xs:List V}{i j:Int}(h:aF K F xs [.int i,.int j]):xs=[.int i,.int j]:=by obtain⟨v,r,rfl,h1,g⟩:=h.cR;obtain⟨u,l,rfl,f,k⟩:=g.cR;rw[Rep]at h1 f;rw[h1,f,k.fZ]
theorem inv2{f:Blt}{g:Int->Int->Int}{r:R}(h0:blt f []=cr)(h1:∀a,blt f [a]=cr)(o:∀a b c l,blt f (a::b::c::l)=cr)(q:∀a b,gj a=a_->blt f [a,b]=cr)(t:∀i b,gj b=a_->blt f [.int i,b]=cr)(hi:∀i j,blt f [.int i,.int j]=aU (.val (.int (g i j))))(he:blt f ds=aU r):∃i j,ds=[.int i,.int j]/\r=.val (.int (g i j)):=by
 rcases ds with _|⟨a,_|⟨b,_|⟨c,l⟩⟩⟩;.rw[h0]at he;cases he
 .rw[h1]at he;cases he
 . by_cases h:gj a=cq
   . obtain⟨i,rfl⟩:∃i,a=.int i:=by cases a<;>first|exact⟨_,rfl⟩|cases h
     by_cases k:gj b=cq
     . obtain⟨j,rfl⟩:∃j,b=.int j:=by cases b<;>first|exact⟨_,rfl⟩|cases k
       rw[hi]at he;cases he;exact⟨i,j,rfl,rfl⟩
     .rw[t i b (by simpa using k)]at he;cases he
   .rw[q a b (by simpa using h)]at he;cases he
 .rw[o]at he;cases he
theorem U6(hc:X.calm=cq):dC X (.builtin "min") (rBn X.K (blt .min2)):=by rintro f s σ H xs o Q I r⟨F,ds,t,sm,q,he,k⟩;obtain⟨i,j,rfl,rfl⟩:=inv2 (g:=λi j=>if j<i then j else i) rfl (λa=>by cases a<;>rfl) (λa b c l=>by cases a<;>first|rfl|(cases b<;>rfl)) (λa b h=>by cases a<;>first|rfl|cases h) (λi b h=>by cases b<;>first|rfl|cases h) (λ_ _=>rfl) he;rw[R0 q]at r;exact Gu hc f s σ H _ o Q I r ⟨_,_,rfl,cF.cV sm (bw _) k⟩
theorem Tw(hc:X.calm=cq):dC X (.builtin "max") (rBn X.K (blt .max2)):=by rintro f s σ H xs o Q I r⟨F,ds,t,sm,q,he,k⟩;obtain⟨i,j,rfl,rfl⟩:=inv2 (g:=λi j=>if i<j then j else i) rfl (λa=>by cases a<;>rfl) (λa b c l=>by cases a<;>first|rfl|(cases b<;>rfl)) (λa b h=>by cases a<;>first|rfl|cases h) (λi b h=>by cases b<;>first|rfl|cases h) (λ_ _=>rfl) he;rw[R0 q]at r;exact GR hc f s σ H _ o Q I r ⟨_,_,rfl,cF.cV sm (bw _) k⟩
theorem boot_min:gn "min"=aU (.builtin "min"):=by decide+kernel
theorem boot_max:gn "max"=aU (.builtin "max"):=by decide+kernel
theorem lR(f:x="min")(hc:X.calm=cq)(g:Gl X x)(j:X.mg x=cr)(k:SA X c [a,b] [pa,pb])(hs:cL [a,b] X.env=(a_,fi a X.env)::cL [b] X.env:=by rfl)(hpl:(kf pos (cL [b] X.env)).any (·.1)=a_:=by rfl):SX X c (.Call (.Name x p') [a,b] [] pos) (.blt .min2 [pa,pb]):=by subst f;exact Q9 (λh=>fG (U6 hc) g j boot_min h (he:=hs) (hpl:=hpl)) k (λρ=>rfl) rfl
theorem lJ(f:x="max")(hc:X.calm=cq)(g:Gl X x)(j:X.mg x=cr)(k:SA X c [a,b] [pa,pb])(hs:cL [a,b] X.env=(a_,fi a X.env)::cL [b] X.env:=by rfl)(hpl:(kf pos (cL [b] X.env)).any (·.1)=a_:=by rfl):SX X c (.Call (.Name x p') [a,b] [] pos) (.blt .max2 [pa,pb]):=by subst f;exact Q9 (λh=>fG (Tw hc) g j boot_max h (he:=hs) (hpl:=hpl)) k (λρ=>rfl) rfl
end
section
variable{X:Cx}{c:Call}{n:Nat}{e a b d:dO}{p pa pb pd:P}{pos:Pos}{es:List dO}{ps:List P}
theorem Dn(g:GS K F ρ σ H)(h:HQ ρ i=aU ds):∃a xs,σ[i]?=aU (aU (V.ref a))/\eY K H a xs:=by
 unfold HQ at h;split at h;.rename_i q;cases h;obtain⟨v,h1,f⟩:=g.pk q;obtain⟨a,xs,rfl,j,_⟩:=f.lst g.sub;exact⟨a,xs,h1,j⟩
 .cases h
theorem xM{k:Nat}{h f:Pos}(I:X.N[k]?=aU x)(J:yr X.env.scope x)(hi:SX X c b pb)(he:SX X c e p)(L:∀ v,mu (.Subscript (.Name x h) b f) X.env v=(do
  let l<-kX [v] (fi (.Name x h) X.env)let iv<-kX [v,l] (fi b X.env)standAt f
  kX [v,l,iv] (qq l iv v)release [v,l,iv] []):=by intro _;rfl)(hs:nL [.Subscript (.Name x h) b f] e pos.line X.env=fy a_:=by rfl)(M:nN [.Subscript (.Name x h) b f] e X.env=fy cr:=by rfl)(h1:(lh [.Subscript (.Name x h) b f] X.env).map (·.2)=[mu (.Subscript (.Name x h) b f) X.env]:=by rfl)(hd:(x==("__debug__":Str))=a_:=by decide)(u:(x==("__classdict__":Str))=a_:=by decide):SS X c n (.Assign [.Subscript (.Name x h) b f] e pos) (.Hx k pb p):=by
 obtain⟨ti,w,y⟩:=hi.bW;refine eO (VP he.ev (S9 (fO I J hd u) w set_list L) hs M h1) ?_;rintro D σ H⟨F,ρ,fl,O,g,e,Q⟩;rw[_H.X8]at e;obtain⟨r,z,U,e⟩:=aj e;obtain⟨x0,C,t,e⟩:=aj e;have W:=aD t;clear t;obtain⟨t,Y⟩:=W;subst Y;obtain⟨dk,Z,e2,e⟩:=aj e;refine⟨F,ρ,r,z,g,U,λv F1 H1 s1 rr=>?_⟩;obtain⟨F2,s2,_,rp⟩:=s1.dw rr;obtain⟨o,ho,_⟩:=s2.gs.pk t;refine⟨o,ho,y s2.gs e2 λvi F3 H3 s3 pi=>?_⟩;split at e
 . rename_i bb ds B q;split at e;.rename_i j hj;cases e;obtain⟨ad,xs,E,q2,q3,G⟩:=s3.gs.uU k _ ds q rfl;rw[ho]at E;cases E;refine⟨ad,xs,B,j,rfl,pi.int,q2,by rw[G.length];exact hj,?_⟩;exact Q F3 σ _ ((s2.trans s3).trans (s3.gs.mut q ho (G.set (rp.mono s3.cQ) j)))
   .cases e
 .cases e
theorem eU{k:Nat}{o h f:Pos}(G:X.N[k]?=aU x)(I:yr X.env.scope x)(he:SX X c e p)(j:(h.endLine==f.line)=cq:=by rfl)(hs:cL [e] X.env=(a_,fi e X.env)::cL [] X.env:=by rfl)(l:kc (.Name x o) "append" X.env (fi (.Name x o) X.env)=fi (.Name x o) X.env:=by rfl)(t:((kf f (cL [e] X.env)).all (λx=>!x.1)&&(ri f (mN [] X.env)).all (λx=>x.1.isSome)&&decide ([e].length+([]:List lI).length+(if([]:List lI).isEmpty then 0 else 1)<30))=cq:=by rfl)(w:h_ (.Call (.Attribute (.Name x o) "append" h) [e] [] f) cr pos.line X.env=fy a_:=by rfl)(hd:(x==("__debug__":Str))=a_:=by decide)(y:(x==("__classdict__":Str))=a_:=by decide):SS X c n (.Expr (.Call (.Attribute (.Name x o) "append" h) [e] [] f) pos) (.app k p):=by
 refine eO (Fj (Ln plainAttrs_list PySem.F.slot_list_append PySem.F.type_list_append pC (fO G I hd y) (cG he.ev dX hs) l t j hs) w) ?_;rintro D σ H⟨F,ρ,fl,J,g,e,L⟩;rw[_H.X9]at e;obtain⟨d0,M,u,e⟩:=aj e;have O:=aD u;clear u;obtain⟨u,Q⟩:=O;subst Q;obtain⟨r,z,U,e⟩:=aj e;obtain⟨a,xs,h1,W⟩:=Dn g u;refine⟨.ref a,h1,.inl ⟨rfl,xs,W⟩,F,ρ,r,z,g,U,λv F1 H1 s1 Y=>?_⟩;obtain⟨Z,s2,_,rp⟩:=s1.dw Y;split at e
 . rename_i bb ds q;split at e;.rename_i B;cases e;obtain⟨ad,ys,C,q2,q3,E⟩:=s2.gs.uU k _ ds q rfl;rw[h1]at C;cases C;exact⟨_,ys,v,rfl,rfl,q2,by rw[E.length];exact B,L Z σ _ (s2.trans (s2.gs.mut q h1 (E.append (.cons rp .nil))))⟩
   .cases e
 .cases e
theorem Wo{j:Nat}{y:Str}{l o pt:Pos}{kt k2 W7}(hc:X.calm=cq)(C:X.N.Nodup)(hi:X.N[i]?=aU x)(E:X.N[j]?=aU y)(q:i≠j)(G:X.env.scope.names.lookup x=aU .local)(I:X.env.scope.names.lookup y=aU .local)(J:SX X c a pa)(L:SX X c b pb)(M:nN [.Tuple [.Name x l,.Name y o] kt pt] (.Tuple [a,b] k2 W7) X.env=fy (aU [x,y]):=by rfl)(hs:nL [.Tuple [.Name x l,.Name y o] kt pt] (.Tuple [a,b] k2 W7) pos.line X.env=fy a_:=by rfl)(h1:cL [a,b] X.env=(a_,fi a X.env)::cL [b] X.env:=by rfl)(O:cL [b] X.env=(a_,fi b X.env)::cL [] X.env:=by rfl):SS X c n (.Assign [.Tuple [.Name x l,.Name y o] kt pt] (.Tuple [a,b] k2 W7) pos) (.par i j pa pb):=by refine eO (_L.WN hc C hi E q G I (cG J.ev (cG L.ev dX O) h1) M hs) ?_;rintro D σ H⟨F,ρ,fl,Q,g,e,k⟩;rw[_H.X7]at e;obtain⟨r,f,U,e⟩:=aj e;obtain⟨B,t,W,e⟩:=aj e;obtain⟨Y,Z,h,e⟩:=aj e;cases e;have zz:=aD h;clear h;obtain⟨h,e4⟩:=zz;obtain⟨ac,e5,e6⟩:=cg h;refine⟨F,ρ,r,f,g,U,λv F1 H1 s1 rr=>?_⟩;obtain⟨F2,s2,_,rp⟩:=s1.dw rr;refine⟨F2,f,B,t,s2.gs,W,λu F3 H3 s3 w=>?_⟩;obtain⟨F4,s4,_,z⟩:=s3.dw w;refine⟨v,u,rfl,?_⟩;have t4:=s2.trans s4;have t5:=t4.put (r:=.val r.d) (v:=v) (rp.mono s4.cQ) e5;exact k F4 _ H3 (t5.put (r:=.val B.d) (v:=u) z e6)
theorem Jy{bs:List Bool}(h:ds.mapM Bs=aU bs):ds=bs.map D.bl:=by induction ds generalizing bs with|nil=>simp at h;subst h;rfl|cons d ds f=>rw[mapM_cons]at h;cases hd:Bs d with|none=>rw[hd]at h;cases h|some k=>rw[hd]at h;cases hr:ds.mapM Bs with|none=>rw[hr]at h;cases h|some r=>rw[hr]at h;cases h;rw[dl,<-f hr,zb hd]
theorem Fq{K:PySem.W.Frag}{F:Hp}:∀{bs:List Bool}{xs:List V},aF K F xs (bs.map D.bl)->xs=bs.map V.bl|[],_,h=>h.fZ|k::bs,_,h=>by obtain⟨v,r,rfl,h1,f⟩:=h.cR;rw[Rep]at h1;rw[h1,Fq f];rfl
theorem EY:∀{bs:List Bool}{f:List b_},Vals (bs.map V.bl) f->f=bs.map kL|[],_,h=>h.zero|k::bs,_,.cons r t=>by rw[dl,<-EY t,show _=_ from r]
theorem Oa{id:String}{f:List Bool->Bool}(hc:X.calm=cq)(rule:∀{x:b_}{Q:b_->cv->Prop}{s:cv},cK (c_ X.prog X.w) X.A.in1 (mI x) (λit g=>∃ I G t n P St y,it=.ref I/\vn X.prog X.w X.A.in1 I G t n P St/\St 0 g.heap/\TruthOf X.prog X.w X.A.in1 P y/\∀h' B,(∀b o,b∉t->g.heap.get? b=aU o->h'.get? b=aU o)->Q (.bool (f ((dE n).map y))) {g with heap:=h',toks:=B}) X.xe s->cK (c_ X.prog X.w) X.A (call (.builtin id) [x]) Q X.xe s):dC X (.builtin id) (λxs H Q=>∃p ys bs,xs=[.ref p]/\eY X.K H p ys/\ys=bs.map V.bl/\Q (.bl (f bs)) H):=by
 rintro C s σ H xs us Q I r⟨p,ys,bs,J,L,M,k⟩;subst J;subst M;obtain⟨u,rfl,N⟩:=r.one;cases N;obtain⟨O,U,l,hz⟩:=I.list L;have h:=EY U;subst h;refine rule (ln l.isList ?_);have q:p≠s.heap.objs.size:=by obtain⟨o,h1,_⟩:=l.isList;exact dS (dA h1)
 refine⟨s.heap.objs.size,_,_,_,_,_,λi=>bs.getD i a_,rfl,Walks.list (prog:=X.prog) (w:=X.w) (A:=X.A.in1) (show X.A.in1.handled=cr from I.ok.hd hc) s.heap.objs.size p q (bs.map kL).toArray,⟨⟨_,dc _ rfl,rfl,rfl⟩,?_⟩,?_,λh' B kp=>?_⟩;.obtain⟨o,h1,E⟩:=l.isList;exact⟨o,dz h1,E⟩
 . intro i v s' Q' E' j W;have Y:v=.bool (bs.getD i a_):=by
    have j:(bs.map kL)[i]?=aU v:=by simpa using j
    rw[eL]at j;obtain⟨k',Z,e2⟩:=map_some j;rw[<-e2,e_,Z];rfl
   subst Y;exact ib W
 . have e:f ((dE (bs.map kL).toArray.size).map λi=>bs.getD i a_)=f bs:=by
    congr 1;apply lw;.simp
    .intro i h1 E;simp at h1;simp[h1]
   rw[e];exact⟨.bl _,H,I.kept (λb o z=>kp b o (by simp;exact dS (dA z)) (dz z)),rfl,k⟩
theorem aaL(hc:X.calm=cq):dC X (.builtin "all") (MP X.K λx=>blt .all [x]):=by rintro g s σ H xs q Q I r⟨x,t,F,d,u,sm,w,he,k⟩;obtain⟨bs,y,he⟩:=map_some (show((Cj d).bind λds=>ds.mapM Bs).map _=aU u from he);subst he;obtain⟨ds,j,B⟩:=cg y;have C:=Jy B;cases d with|lst es=>cases j;obtain⟨p,ys,rfl,E,l⟩:=w.lst sm;rw[C]at l;refine Oa (f:=λbs=>bs.all id) hc (λh=>call_all_walk (eK h (λit o⟨I,fp,wr,n,P,Sx,tr,h1,h2,h3,h4,h5⟩=>⟨I,fp,wr,n,P,Sx,tr,h1,h2,h3,h4,λh' G kp=>?_⟩) λ_ _ z=>z)) g s σ H xs q Q I r ⟨p,ys,bs,t,E,Fq l,cF.cV sm (il _) k⟩;have z:=h5 h' G kp;rw[List.all_map]at z;exact z|_=>cases j
theorem boot_all:gn "all"=aU (.builtin "all"):=by decide+kernel
theorem JZ(f:x="all")(hc:X.calm=cq)(g:Gl X x)(j:X.mg x=cr)(k:SX X c a pa)(hs:cL [a] X.env=(a_,fi a X.env)::cL [] X.env:=by rfl):SX X c (.Call (.Name x p') [a] [] pos) (.blt .all [pa]):=by subst f;exact oF (λh=>fG (aaL hc) g j boot_all h (he:=hs)) k (λρ=>rfl) rfl hs
end
section
variable{K:PySem.W.Frag}
theorem jN:∀{xs ys:List D},xs.length≠ys.length->lV xs ys=a_|[],[],h=>absurd rfl h|[],_::_,_=>by simp[mF,jj,tU,uo]|_::_,[],_=>by simp[mF,jj,tU,uo]|x::xs,y::ys,h=>by rw[jj,jN (xs:=xs) (ys:=ys) (by simpa using h),pE]
theorem gM:∀{xs ys:List D},xs.length=ys.length->lV xs ys=(dE xs.length).all λj=>jO (xs.getD j .non) (ys.getD j .non)|[],[],_=>by rw[mF];rfl|[],_::_,h=>by simp at h|_::_,[],h=>by simp at h|x::xs,y::ys,h=>by rw[jj,gM (xs:=xs) (ys:=ys) (by simpa using h),eI,List.range_succ_eq_map,ma,List.all_map];rfl
mutual
theorem zO:∀d:D,jO d d=cq|.non=>rfl|.bl _=>by exact beq_self_eq_true _|.int _=>by exact beq_self_eq_true _|.str _=>by exact beq_self_eq_true _|.tup ds=>by exact lK ds|.lst ds=>by exact lK ds|.dN _=>by exact decide_eq_true rfl|.dv ks ds=>by show(decide (ks=ks)&&lV ds ds)=cq;rw[lK ds];simp
theorem lK:∀ds:List D,lV ds ds=cq|[]=>by rw[mF]|d::ds=>by rw[jj,zO d,lK ds];rfl
end
theorem fY{d e:D}(b:flat d=cq)(h1:Rep K F v d)(a:Rep K F v e):d=e:=by cases d with
 |tup _=>cases b|lst _=>cases b|dN _=>cases b|dv _ _=>cases b|non=>rw[Rep]at h1;subst h1;cases e with|non=>rfl|tup _=>rw[Rep]at a;obtain⟨_,_,q,_⟩:=a;cases q|lst _=>rw[Rep]at a;obtain⟨_,_,q,_⟩:=a;cases q|dN _=>rw[Rep]at a;obtain⟨_,_,q,_⟩:=a;cases q|dv _ _=>rw[Rep]at a;obtain⟨_,_,_,q,_⟩:=a;cases q|_=>rw[Rep]at a;cases a
 |bl k=>rw[Rep]at h1;subst h1;cases e with|bl _=>rw[Rep]at a;cases a;rfl|tup _=>rw[Rep]at a;obtain⟨_,_,q,_⟩:=a;cases q|lst _=>rw[Rep]at a;obtain⟨_,_,q,_⟩:=a;cases q|dN _=>rw[Rep]at a;obtain⟨_,_,q,_⟩:=a;cases q|dv _ _=>rw[Rep]at a;obtain⟨_,_,_,q,_⟩:=a;cases q|_=>rw[Rep]at a;cases a
 |int k=>rw[Rep]at h1;subst h1;cases e with|int _=>rw[Rep]at a;cases a;rfl|tup _=>rw[Rep]at a;obtain⟨_,_,q,_⟩:=a;cases q|lst _=>rw[Rep]at a;obtain⟨_,_,q,_⟩:=a;cases q|dN _=>rw[Rep]at a;obtain⟨_,_,q,_⟩:=a;cases q|dv _ _=>rw[Rep]at a;obtain⟨_,_,_,q,_⟩:=a;cases q|_=>rw[Rep]at a;cases a
 |str k=>rw[Rep]at h1;subst h1;cases e with|str _=>rw[Rep]at a;cases a;rfl|tup _=>rw[Rep]at a;obtain⟨_,_,q,_⟩:=a;cases q|lst _=>rw[Rep]at a;obtain⟨_,_,q,_⟩:=a;cases q|dN _=>rw[Rep]at a;obtain⟨_,_,q,_⟩:=a;cases q|dv _ _=>rw[Rep]at a;obtain⟨_,_,_,q,_⟩:=a;cases q|_=>rw[Rep]at a;cases a
theorem Ox{X:Cx}{u:List (cx×Obj)}(I:_L.Inv X u σ H s)(sm:aK F H):∀n:Nat,(∀d:D,jG n d=cq->∀(v:V)(e:D),Rep X.K F v d->Rep X.K F v e->d=e):=by
 have N:∀{a:cx}{xs ys:List V},iD X.K F a xs->eY X.K F a ys->False:=λ{a xs ys}h1 b=>by obtain⟨_,_,⟨o,g,j,_⟩,_⟩:=I.tuple (aK.gZ sm h1);obtain⟨_,_,w,_⟩:=I.list (sm.seq b);obtain⟨C,c,f,_⟩:=w.isList;rw[g]at c;cases c;rw[j]at f;exact absurd f (by decide)
 have O:∀{a:cx}{kvs:Dc},Rep X.K F (.ref a) (.dN kvs)->∃o,s.heap.get? a=aU o/\o.cls=.type "dict":=λ{a kvs}h=>by rw[Rep]at h;obtain⟨y,_,q,E⟩:=h;cases q;exact V6 I (sm _ _ E)
 have Q:∀{a:cx}{xs:List V}{kvs:Dc},iD X.K F a xs->Rep X.K F (.ref a) (.dN kvs)->False:=λ{a xs kvs}h1 b=>by obtain⟨_,_,⟨o,g,j,_⟩,_⟩:=I.tuple (aK.gZ sm h1);obtain⟨C,c,f⟩:=O b;rw[g]at c;cases c;rw[j]at f;exact absurd f (by decide)
 have ld:∀{a:cx}{xs:List V}{kvs:Dc},eY X.K F a xs->Rep X.K F (.ref a) (.dN kvs)->False:=λ{a xs kvs}h1 b=>by obtain⟨_,_,w,_⟩:=I.list (sm.seq h1);obtain⟨o,g,j,_⟩:=w.isList;obtain⟨C,c,f⟩:=O b;rw[g]at c;cases c;rw[j]at f;exact absurd f (by decide)
 have z:∀{a:cx}{ks:List Int}{es:List D},Rep X.K F (.ref a) (.dv ks es)->∃o,s.heap.get? a=aU o/\o.cls=.type "dict":=λ{a ks es}h=>by rw[Rep]at h;obtain⟨y,_,_,q,E,_⟩:=h;cases q;exact Tv I (sm _ _ E)
 have G:∀{a:cx}{xs:List V}{ks:List Int}{es:List D},iD X.K F a xs->Rep X.K F (.ref a) (.dv ks es)->False:=λ{a xs ks es}h1 b=>by obtain⟨_,_,⟨o,g,j,_⟩,_⟩:=I.tuple (aK.gZ sm h1);obtain⟨C,c,f⟩:=z b;rw[g]at c;cases c;rw[j]at f;exact absurd f (by decide)
 have J:∀{a:cx}{xs:List V}{ks:List Int}{es:List D},eY X.K F a xs->Rep X.K F (.ref a) (.dv ks es)->False:=λ{a xs ks es}h1 b=>by obtain⟨_,_,w,_⟩:=I.list (sm.seq h1);obtain⟨o,g,j,_⟩:=w.isList;obtain⟨C,c,f⟩:=z b;rw[g]at c;cases c;rw[j]at f;exact absurd f (by decide)
 intro n;induction n with
 |zero=>intro d hd v e h1 b;cases d with|tup _=>simp[bR,bJ,bL,bQ,bN,bM]at hd|lst _=>simp[bR,bJ,bL,bQ,bN,bM]at hd|dN _=>simp[bR,bJ,bL,bQ,bN,bM]at hd|dv _ _=>simp[bR,bJ,bL,bQ,bN,bM]at hd|non=>exact fY rfl h1 b|bl k=>exact fY rfl h1 b|int k=>exact fY rfl h1 b|str k=>exact fY rfl h1 b
 |succ n U=>
   have all:∀{xs:List V}{ds es:List D},ds.all (jG n)=cq->aF X.K F xs ds->aF X.K F xs es->ds=es:=λ{xs ds}=>by induction ds generalizing xs with|nil=>intro es _ h1 b;rw[h1.fZ]at b;have:=b.length;exact(ip this.symm).symm|cons d ds L=>intro es p h1 b;rw[ma,eR]at p;obtain⟨v,r,rfl,g,j⟩:=h1.cR;cases es with|nil=>cases b.fZ|cons e es=>obtain⟨Y,Z,W,c,f⟩:=b.cR;cases W;rw[U d p.1 v e g c,L p.2 j f]
   intro d hd v e h1 b;cases d with
   |dN _=>simp[bR,bJ,bL,bQ,bN,bM]at hd|dv _ _=>simp[bR,bJ,bL,bQ,bN,bM]at hd|tup ds=>
     have p:ds.all (jG n)=cq:=by simpa[bR,bJ,bL,bQ,bN,bM]using hd
     rw[Rep]at h1;obtain⟨a,xs,rfl,l,M⟩:=h1;cases e with|tup es=>rw[Rep]at b;obtain⟨y,ys,q,t,B⟩:=b;cases q;have:=I.pB (aK.gZ sm l) (aK.gZ sm t);subst this;rw[all p M B]|lst es=>rw[Rep]at b;obtain⟨y,ys,q,t,B⟩:=b;cases q;exact(N l t).elim|dN _=>exact(Q l b).elim|dv _ _=>exact(G l b).elim|_=>rw[Rep]at b;cases b
   |lst ds=>
     have p:ds.all (jG n)=cq:=by simpa[bR,bJ,bL,bQ,bN,bM]using hd
     rw[Rep]at h1;obtain⟨a,xs,rfl,l,M⟩:=h1;cases e with|lst es=>rw[Rep]at b;obtain⟨y,ys,q,t,B⟩:=b;cases q;have:=I.tL (sm.seq l) (sm.seq t);subst this;rw[all p M B]|tup es=>rw[Rep]at b;obtain⟨y,ys,q,t,B⟩:=b;cases q;exact(N t l).elim|dN _=>exact(ld l b).elim|dv _ _=>exact(J l b).elim|_=>rw[Rep]at b;cases b
   |non=>exact fY rfl h1 b|bl k=>exact fY rfl h1 b|int k=>exact fY rfl h1 b|str k=>exact fY rfl h1 b
theorem El{d e:D}{u:V}{c:b_}(hd:flat d=cq)(he:flat e=cq)(h1:Rep K F v d)(a:Rep K F u e)(r1:RelV v c)(b:RelV u u'):io A s c u' (jO d e):=by cases d with
 |tup _=>cases hd|lst _=>cases hd|dN _=>cases hd|dv _ _=>cases hd|non=>rw[Rep]at h1;subst h1;cases(show c=.none from r1);cases e with|tup _=>cases he|lst _=>cases he|dN _=>cases he|dv _ _=>cases he|non=>rw[Rep]at a;subst a;cases(show u'=.none from b);exact mB _|bl _=>rw[Rep]at a;subst a;cases(show u'=.bool _ from b);exact none_bool _|int _=>rw[Rep]at a;subst a;obtain⟨t,rfl⟩:=b;exact none_int _ _|str _=>rw[Rep]at a;subst a;obtain⟨t,rfl⟩:=b;exact none_str _ _
 |bl _=>rw[Rep]at h1;subst h1;cases(show c=.bool _ from r1);cases e with|tup _=>cases he|lst _=>cases he|dN _=>cases he|dv _ _=>cases he|non=>rw[Rep]at a;subst a;cases(show u'=.none from b);exact bool_none _|bl _=>rw[Rep]at a;subst a;cases(show u'=.bool _ from b);exact bool_bool _ _|int _=>rw[Rep]at a;subst a;obtain⟨t,rfl⟩:=b;exact bool_int _ _ _|str _=>rw[Rep]at a;subst a;obtain⟨t,rfl⟩:=b;exact bool_str _ _ _
 |int _=>rw[Rep]at h1;subst h1;obtain⟨t0,rfl⟩:=r1;cases e with|tup _=>cases he|lst _=>cases he|dN _=>cases he|dv _ _=>cases he|non=>rw[Rep]at a;subst a;cases(show u'=.none from b);exact int_none _ _|bl _=>rw[Rep]at a;subst a;cases(show u'=.bool _ from b);exact int_bool _ _ _|int _=>rw[Rep]at a;subst a;obtain⟨t,rfl⟩:=b;exact int_int _ _ _ _|str _=>rw[Rep]at a;subst a;obtain⟨t,rfl⟩:=b;exact int_str _ _ _ _
 |str _=>rw[Rep]at h1;subst h1;obtain⟨t0,rfl⟩:=r1;cases e with|tup _=>cases he|lst _=>cases he|dN _=>cases he|dv _ _=>cases he|non=>rw[Rep]at a;subst a;cases(show u'=.none from b);exact str_none _ _|bl _=>rw[Rep]at a;subst a;cases(show u'=.bool _ from b);exact str_bool _ _ _|int _=>rw[Rep]at a;subst a;obtain⟨t,rfl⟩:=b;exact str_int _ _ _ _|str _=>rw[Rep]at a;subst a;obtain⟨t,rfl⟩:=b;exact str_str _ _ _ _
theorem nU{e:D}{u:V}{a:cx}{f:Array b_}(ht:s.heap.IsTuple a f)(hu:A.units<gS)(he:flat e=cq)(b:Rep K F u e)(c:RelV u u'):io A s (.ref a) u' (jO (.tup ds) e)/\io A s u' (.ref a) (jO e (.tup ds)):=by cases e with|tup _=>cases he|lst _=>cases he|dN _=>cases he|dv _ _=>cases he|non=>rw[Rep]at b;subst b;cases(show u'=.none from c);exact⟨SeqAt.EqAt.tuple_none ht hu,SeqAt.EqAt.none_tuple ht hu⟩|bl _=>rw[Rep]at b;subst b;cases(show u'=.bool _ from c);exact⟨SeqAt.EqAt.tuple_bool _ ht hu,SeqAt.EqAt.bool_tuple _ ht hu⟩|int _=>rw[Rep]at b;subst b;obtain⟨t,rfl⟩:=c;exact⟨SeqAt.EqAt.tuple_int _ _ ht hu,SeqAt.EqAt.int_tuple _ _ ht hu⟩|str _=>rw[Rep]at b;subst b;obtain⟨t,rfl⟩:=c;exact⟨SeqAt.EqAt.tuple_str _ _ ht hu,SeqAt.EqAt.str_tuple _ _ ht hu⟩
theorem nM{e:D}{u:V}{a:cx}{f:Array b_}(ht:s.heap.IsList a f)(hu:A.units<gS)(he:flat e=cq)(b:Rep K F u e)(c:RelV u u'):io A s (.ref a) u' (jO (.lst ds) e)/\io A s u' (.ref a) (jO e (.lst ds)):=by cases e with|tup _=>cases he|lst _=>cases he|dN _=>cases he|dv _ _=>cases he|non=>rw[Rep]at b;subst b;cases(show u'=.none from c);exact⟨SeqAt.EqAt.list_none ht hu,SeqAt.EqAt.none_list ht hu⟩|bl _=>rw[Rep]at b;subst b;cases(show u'=.bool _ from c);exact⟨SeqAt.EqAt.list_bool _ ht hu,SeqAt.EqAt.bool_list _ ht hu⟩|int _=>rw[Rep]at b;subst b;obtain⟨t,rfl⟩:=c;exact⟨SeqAt.EqAt.list_int _ _ ht hu,SeqAt.EqAt.int_list _ _ ht hu⟩|str _=>rw[Rep]at b;subst b;obtain⟨t,rfl⟩:=c;exact⟨SeqAt.EqAt.list_str _ _ ht hu,SeqAt.EqAt.str_list _ _ ht hu⟩
theorem zf{n:Nat}{d:D}(h:jG n d=cq)(h0:n=0):flat d=cq:=by subst h0;cases d<;>first|rfl|simp[bR,bJ,bL,bQ,bN,bM]at h
theorem ad4{X:Cx}{G:List (cx×Obj)}(I:_L.Inv X G σ H s)(sm:aK F H):∀(n:Nat)(A:eM),A.units+n<gS->∀(d e:D),jG n d=cq->jG n e=cq->∀(v u:V)(J u':b_),Rep X.K F v d->Rep X.K F u e->RelV v J->RelV u u'->io A s J u' (jO d e):=by intro n;induction n with|zero=>intro A hu d e hd he v u J u' h1 f r1 g;exact El (zf hd rfl) (zf he rfl) h1 f r1 g|succ n Z=>
   intro A hu d e hd he v u J u' h1 f r1 g;have c:A.units<gS:=by omega
   have N:A.in1.units+n<gS:=by show A.units+1+n<gS;omega--items by place
   have L:∀{xs ys:List V}{q ws:List b_}{ds es:List D}{j:Nat}(B:j<q.toArray.size)(C:j<ws.toArray.size),ds.all (jG n)=cq->es.all (jG n)=cq->Vals xs q->Vals ys ws->aF X.K F xs ds->aF X.K F ys es->io A.in1 s q.toArray[j] ws.toArray[j] (jO (ds.getD j .non) (es.getD j .non)):=λ{xs ys q ws ds es j}B C a1 a2 E h p1 p2=>by
    have B:j<q.length:=by simpa using B
    have C:j<ws.length:=by simpa using C
    have r:j<ds.length:=by rw[<-p1.length,E.length];exact B
    have l2:j<es.length:=by rw[<-p2.length,h.length];exact C
    obtain⟨x,g1,g2⟩:=p1.get (show ds[j]?=aU ds[j]by simp[r]);obtain⟨y,g3,g4⟩:=p2.get (show es[j]?=aU es[j]by simp[l2]);obtain⟨W,g5,g6⟩:=E.get g1;obtain⟨Y,g7,g8⟩:=h.get g3;have e1:q.toArray[j]=W:=by have:=(fB g5).2;simpa using this
    have e2:ws.toArray[j]=Y:=by have:=(fB g7).2;simpa using this
    have e3:ds.getD j .non=ds[j]:=by simp[j_,r]
    have e4:es.getD j .non=es[j]:=by simp[j_,l2]
    rw[e1,e2,e3,e4];exact Z A.in1 N _ _ (gi.mp a1 _ (ki r)) (gi.mp a2 _ (ki l2)) x y W Y g2 g4 g6 g8--the same object
   have same:∀{a:cx},v=.ref a->u=.ref a->io A s J u' (jO d e):=λ{a}q1 q2=>by subst q1;subst q2;have:=Ox I sm (n+1) d hd _ e h1 f;subst this;rw[zO];cases r1;cases g;exact mB _
   cases d with
   |dN _=>simp[bR,bJ,bL,bQ,bN,bM]at hd|dv _ _=>simp[bR,bJ,bL,bQ,bN,bM]at hd|tup ds=>
     have O:ds.all (jG n)=cq:=by simpa[bR,bJ,bL,bQ,bN,bM]using hd
     have k:=h1;rw[Rep]at k;obtain⟨a,xs,rfl,Q,M⟩:=k;cases r1;obtain⟨q,E,p1,_⟩:=I.tuple (aK.gZ sm Q)
     cases e with|dN _=>simp[bR,bJ,bL,bQ,bN,bM]at he|dv _ _=>simp[bR,bJ,bL,bQ,bN,bM]at he|tup es=>
       have U:es.all (jG n)=cq:=by simpa[bR,bJ,bL,bQ,bN,bM]using he
       have l:=f;rw[Rep]at l;obtain⟨b,ys,rfl,o,t⟩:=l;by_cases p:a=b;.subst p;exact same rfl rfl
       . cases g;obtain⟨ws,h,p2,_⟩:=I.tuple (aK.gZ sm o);refine .of_refs p ?_;have z:=SeqAt.RcAt.tuples (A:=A) (e:=λj=>jO (ds.getD j .non) (es.getD j .non)) p1 p2 c λj B C=>L B C O U E h M t;have r:q.toArray.size=ds.length:=by rw[cS,<-E.length,M.length]
         have l2:ws.toArray.size=es.length:=by rw[cS,<-h.length,t.length]
         rw[r,l2]at z;have e0:jO (.tup ds) (.tup es)=((dE (min ds.length es.length)).all (λj=>jO (ds.getD j .non) (es.getD j .non))&&ds.length==es.length):=by
          rw[pqt];by_cases w:ds.length=es.length;.rw[gM w,w];simp
          . rw[jN w];have:(ds.length==es.length)=a_:=by simpa using w
            rw[this,pE]
         rw[e0];exact z|lst es=>rw[Rep]at f;obtain⟨b,ys,rfl,o,t⟩:=f;cases g;obtain⟨ws,h,p2,_⟩:=I.list (sm.seq o);exact SeqAt.EqAt.tuple_list p1 p2.isList c|non=>exact(nU p1 c rfl f g).1|bl _=>exact(nU p1 c rfl f g).1|int _=>exact(nU p1 c rfl f g).1|str _=>exact(nU p1 c rfl f g).1
   |lst ds=>
     have O:ds.all (jG n)=cq:=by simpa[bR,bJ,bL,bQ,bN,bM]using hd
     have k:=h1;rw[Rep]at k
     obtain⟨a,xs,rfl,Q,M⟩:=k;cases r1;obtain⟨q,E,p1,_⟩:=I.list (sm.seq Q);cases e with|dN _=>simp[bR,bJ,bL,bQ,bN,bM]at he|dv _ _=>simp[bR,bJ,bL,bQ,bN,bM]at he|lst es=>
       have U:es.all (jG n)=cq:=by simpa[bR,bJ,bL,bQ,bN,bM]using he
       have l:=f;rw[Rep]at l;obtain⟨b,ys,rfl,o,t⟩:=l;by_cases p:a=b;.subst p;exact same rfl rfl
       . cases g;obtain⟨ws,h,p2,_⟩:=I.list (sm.seq o);refine .of_refs p ?_;have r:q.toArray.size=ds.length:=by rw[cS,<-E.length,M.length]
         have l2:ws.toArray.size=es.length:=by rw[cS,<-h.length,t.length]
         rw[pql];by_cases w:ds.length=es.length;.have z:=SeqAt.RcAt.lists (A:=A) (e:=λj=>jO (ds.getD j .non) (es.getD j .non)) p1.isList p2.isList (by rw[r,l2,w]) c λj B C=>L B C O U E h M t;rw[r]at z;rw[gM w];exact z
         .rw[jN w];exact lists_lengths p1.isList p2.isList (by rw[r,l2];simpa using w) c|tup es=>rw[Rep]at f;obtain⟨b,ys,rfl,o,t⟩:=f;cases g;obtain⟨ws,h,p2,_⟩:=I.tuple (aK.gZ sm o);exact SeqAt.EqAt.list_tuple p1.isList p2 c|non=>exact(nM p1.isList c rfl f g).1|bl _=>exact(nM p1.isList c rfl f g).1|int _=>exact(nM p1.isList c rfl f g).1|str _=>exact(nM p1.isList c rfl f g).1
   |non|bl _|int _|str _=>cases e with|dN _=>simp[bR,bJ,bL,bQ,bN,bM]at he|dv _ _=>simp[bR,bJ,bL,bQ,bN,bM]at he|tup es=>rw[Rep]at f;obtain⟨b,ys,rfl,o,t⟩:=f;cases g;obtain⟨ws,h,p2,_⟩:=I.tuple (aK.gZ sm o);exact(nU p2 c rfl h1 r1).2|lst es=>rw[Rep]at f;obtain⟨b,ys,rfl,o,t⟩:=f;cases g;obtain⟨ws,h,p2,_⟩:=I.list (sm.seq o);exact(nM p2.isList c rfl h1 r1).2|_=>exact El rfl rfl h1 f r1 g
end
section
variable{X:Cx}{pins:List (cx×Obj)}{σ:_L.St}{H F:Hp}{s:cv}{A:eM}
noncomputable abbrev RC(A:eM)(s:cv)(v u:b_)(k:Bool):Prop:=SeqAt.RcAt A s v u k/\SeqAt.RcNeAt A s v u (!k)
inductive Top(X:Cx)(F H:Hp)(s:cv):b_->D->Prop where|non:Top X F H s .none .non|bl(b:Bool):Top X F H s (.bool b) (.bl b)|int(i:Int)(t:Tok):Top X F H s (.int i t) (.int i)|str(x:Str)(t:Tok):Top X F H s (.str x t) (.str x)|tup{a:cx}{us:List b_}{xs:List V}{ds:List D}(ht:s.heap.IsTuple a us.toArray)(hv:Vals xs us)(hr:aF X.K F xs ds):Top X F H s (.ref a) (.tup ds)|lst{a:cx}{us:List b_}{xs:List V}{ds:List D}(ht:s.heap.IsList a us.toArray)(hv:Vals xs us)(hr:aF X.K F xs ds):Top X F H s (.ref a) (.lst ds)
theorem xn(I:_L.Inv X pins σ H s)(sm:aK F H){f:b_}{d:D}(hd:jG 8 d=cq)(h:dB X.K F H v d)(r:RelV v f):Top X F H s f d:=by cases d with|dN _=>simp[bR,bJ,bL,bQ,bN,bM]at hd|dv _ _=>simp[bR,bJ,bL,bQ,bN,bM]at hd|non=>rw[h.non]at r;cases r;exact .non|bl b=>rw[h.bl]at r;cases r;exact .bl b|int i=>rw[h.int]at r;obtain⟨t,rfl⟩:=r;exact .int i t|str x=>rw[h.str]at r;obtain⟨t,rfl⟩:=r;exact .str x t|tup ds=>obtain⟨a,xs,rfl,h1,c,_⟩:=h.tup sm;cases r;obtain⟨g,e,p1,_⟩:=I.tuple h1;exact .tup p1 e c|lst ds=>obtain⟨a,xs,rfl,h1,c⟩:=h.lst sm;cases r;obtain⟨g,e,p1,_⟩:=I.list h1;exact .lst p1.isList e c
theorem aaV(I:_L.Inv X pins σ H s)(sm:aK F H){n:Nat}(hu:A.units+(n+1)<gS){d e:D}(hd:jG (n+1) d=cq)(he:jG (n+1) e=cq){J:b_}(h1:Top X F H s J d)(w:Top X F H s u' e):RC A s J u' (jO d e):=by
 have c:A.units<gS:=by omega
 have G:A.in1.units+n<gS:=by show A.units+1+n<gS;omega
 have r:∀{xs ys:List V}{q ws:List b_}{ds es:List D}{j:Nat}(k:j<q.toArray.size)(l:j<ws.toArray.size),ds.all (jG n)=cq->es.all (jG n)=cq->Vals xs q->Vals ys ws->aF X.K F xs ds->aF X.K F ys es->io A.in1 s q.toArray[j] ws.toArray[j] (jO (ds.getD j .non) (es.getD j .non)):=λ{xs ys q ws ds es j}k l Q U L M p1 p2=>by
  have k:j<q.length:=by simpa using k
  have l:j<ws.length:=by simpa using l
  have o:j<ds.length:=by rw[<-p1.length,L.length];exact k
  have l2:j<es.length:=by rw[<-p2.length,M.length];exact l
  obtain⟨x,W,Y⟩:=p1.get (show ds[j]?=aU ds[j]by simp[o]);obtain⟨y,Z,g4⟩:=p2.get (show es[j]?=aU es[j]by simp[l2]);obtain⟨N,g5,g6⟩:=L.get W;obtain⟨O,g7,g8⟩:=M.get Z;have e1:q.toArray[j]=N:=by have:=(fB g5).2;simpa using this
  have e2:ws.toArray[j]=O:=by have:=(fB g7).2;simpa using this
  have e3:ds.getD j .non=ds[j]:=by simp[j_,o]
  have e4:es.getD j .non=es[j]:=by simp[j_,l2]
  rw[e1,e2,e3,e4];exact ad4 I sm n A.in1 G _ _ (gi.mp Q _ (ki o)) (gi.mp U _ (ki l2)) x y N O Y g4 g6 g8
 cases h1 with
 |non=>cases w with|non=>exact⟨SeqAt.RcAt.none_none,SeqAt.RcNeAt.none_none⟩|bl b=>exact⟨SeqAt.RcAt.none_bool _,SeqAt.RcNeAt.none_bool _⟩|int i t=>exact⟨SeqAt.RcAt.none_int _ _,SeqAt.RcNeAt.none_int _ _⟩|str i t=>exact⟨SeqAt.RcAt.none_str _ _,SeqAt.RcNeAt.none_str _ _⟩|tup ht _ _=>exact⟨SeqAt.RcAt.none_tuple ht c,SeqAt.RcNeAt.none_tuple ht c⟩|lst ht _ _=>exact⟨SeqAt.RcAt.none_list ht c,SeqAt.RcNeAt.none_list ht c⟩
 |bl b0=>cases w with|non=>exact⟨SeqAt.RcAt.bool_none _,SeqAt.RcNeAt.bool_none _⟩|bl b=>exact⟨SeqAt.RcAt.bool_bool _ _,SeqAt.RcNeAt.bool_bool _ _⟩|int i t=>exact⟨SeqAt.RcAt.bool_int _ _ _,SeqAt.RcNeAt.bool_int _ _ _⟩|str i t=>exact⟨SeqAt.RcAt.bool_str _ _ _,SeqAt.RcNeAt.bool_str _ _ _⟩|tup ht _ _=>exact⟨SeqAt.RcAt.bool_tuple _ ht c,SeqAt.RcNeAt.bool_tuple _ ht c⟩|lst ht _ _=>exact⟨SeqAt.RcAt.bool_list _ ht c,SeqAt.RcNeAt.bool_list _ ht c⟩
 |int i0 t0=>cases w with|non=>exact⟨SeqAt.RcAt.int_none _ _,SeqAt.RcNeAt.int_none _ _⟩|bl b=>exact⟨SeqAt.RcAt.int_bool _ _ _,SeqAt.RcNeAt.int_bool _ _ _⟩|int i t=>exact⟨SeqAt.RcAt.int_int _ _ _ _,SeqAt.RcNeAt.int_int _ _ _ _⟩|str i t=>exact⟨SeqAt.RcAt.int_str _ _ _ _,SeqAt.RcNeAt.int_str _ _ _ _⟩|tup ht _ _=>exact⟨SeqAt.RcAt.int_tuple _ _ ht c,SeqAt.RcNeAt.int_tuple _ _ ht c⟩|lst ht _ _=>exact⟨SeqAt.RcAt.int_list _ _ ht c,int_list _ _ ht c⟩
 |str i0 t0=>cases w with|non=>exact⟨SeqAt.RcAt.str_none _ _,SeqAt.RcNeAt.str_none _ _⟩|bl b=>exact⟨SeqAt.RcAt.str_bool _ _ _,SeqAt.RcNeAt.str_bool _ _ _⟩|int i t=>exact⟨SeqAt.RcAt.str_int _ _ _ _,SeqAt.RcNeAt.str_int _ _ _ _⟩|str i t=>exact⟨SeqAt.RcAt.str_str _ _ _ _,SeqAt.RcNeAt.str_str _ _ _ _⟩|tup ht _ _=>exact⟨SeqAt.RcAt.str_tuple _ _ ht c,SeqAt.RcNeAt.str_tuple _ _ ht c⟩|lst ht _ _=>exact⟨SeqAt.RcAt.str_list _ _ ht c,str_list _ _ ht c⟩
 |@tup a q xs ds ht u hr=>
   have z:ds.all (jG n)=cq:=by simpa[bR,bJ,bL,bQ,bN,bM]using hd
   cases w with|non=>exact⟨SeqAt.RcAt.tuple_none ht c,SeqAt.RcNeAt.tuple_none ht c⟩|bl b=>exact⟨SeqAt.RcAt.tuple_bool _ ht c,SeqAt.RcNeAt.tuple_bool _ ht c⟩|int i t=>exact⟨SeqAt.RcAt.tuple_int _ _ ht c,SeqAt.RcNeAt.tuple_int _ _ ht c⟩|str i t=>exact⟨SeqAt.RcAt.tuple_str _ _ ht c,SeqAt.RcNeAt.tuple_str _ _ ht c⟩|lst h _ _=>exact⟨SeqAt.RcAt.tuple_list ht h c,SeqAt.RcNeAt.tuple_list ht h c⟩|@tup b ws ys es h f g=>
     have B:es.all (jG n)=cq:=by simpa[bR,bJ,bL,bQ,bN,bM]using he
     have o:q.toArray.size=ds.length:=by rw[cS,<-u.length,hr.length]
     have l2:ws.toArray.size=es.length:=by rw[cS,<-f.length,g.length]
     have C:=SeqAt.RcAt.tuples (A:=A) (e:=λj=>jO (ds.getD j .non) (es.getD j .non)) ht h c λj k l=>r k l z B u f hr g;have E:=SeqAt.RcNeAt.tuples (A:=A) (e:=λj=>jO (ds.getD j .non) (es.getD j .non)) ht h c λj k l=>r k l z B u f hr g;rw[o,l2]at C E;have e0:jO (.tup ds) (.tup es)=((dE (min ds.length es.length)).all (λj=>jO (ds.getD j .non) (es.getD j .non))&&ds.length==es.length):=by
      rw[pqt];by_cases p:ds.length=es.length;.rw[gM p,p];simp
      . rw[jN p];have:(ds.length==es.length)=a_:=by simpa using p
        rw[this,pE]
     rw[e0];exact⟨C,E⟩
 |@lst a q xs ds ht u hr=>
   have z:ds.all (jG n)=cq:=by simpa[bR,bJ,bL,bQ,bN,bM]using hd
   cases w with|non=>exact⟨SeqAt.RcAt.list_none ht c,SeqAt.RcNeAt.list_none ht c⟩|bl b=>exact⟨SeqAt.RcAt.list_bool _ ht c,SeqAt.RcNeAt.list_bool _ ht c⟩|int i t=>exact⟨SeqAt.RcAt.list_int _ _ ht c,list_int _ _ ht c⟩|str i t=>exact⟨SeqAt.RcAt.list_str _ _ ht c,list_str _ _ ht c⟩|tup h _ _=>exact⟨SeqAt.RcAt.list_tuple ht h c,SeqAt.RcNeAt.list_tuple ht h c⟩|@lst b ws ys es h f g=>
     have B:es.all (jG n)=cq:=by simpa[bR,bJ,bL,bQ,bN,bM]using he
     have o:q.toArray.size=ds.length:=by rw[cS,<-u.length,hr.length]
     have l2:ws.toArray.size=es.length:=by rw[cS,<-f.length,g.length]
     rw[pql];by_cases p:ds.length=es.length;.have C:=SeqAt.RcAt.lists (A:=A) (e:=λj=>jO (ds.getD j .non) (es.getD j .non)) ht h (by rw[o,l2,p]) c λj k l=>r k l z B u f hr g;have E:=SeqAt.RcNeAt.lists (A:=A) (e:=λj=>jO (ds.getD j .non) (es.getD j .non)) ht h (by rw[o,l2,p]) c λj k l=>r k l z B u f hr g;rw[o]at C E;rw[gM p];exact⟨C,E⟩
     .rw[jN p];exact⟨lists_lengths ht h (by rw[o,l2];simpa using p) c,SeqAt.RcNeAt.lists_lengths ht h (by rw[o,l2];simpa using p) c⟩
theorem V5(hu:X.A.units+8<gS):fL X (ec .Eq) (rD X.K (mH .eq)):=by rintro pins s σ H x y v u Q I b c⟨F,d,e,r,sm,f,g,he,k⟩;obtain⟨t,a,h⟩:=map_some (show(Ka d e).map _=aU r from he);subst h;unfold Ka at a;obtain⟨hd,a⟩:=bf a;rw[eR]at hd;subst a;exact(aaV I sm (n:=7) hu hd.1 hd.2 (xn I sm hd.1 f b) (xn I sm hd.2 g c)).1 _ _ _ _ ⟨.bl _,H,I,rfl,cF.cV sm (il _) k⟩
theorem ux(hu:X.A.units+8<gS):fL X (ec .NotEq) (rD X.K (mH .ne)):=by rintro pins s σ H x y v u Q I b c⟨F,d,e,r,sm,f,g,he,k⟩;obtain⟨t,a,h⟩:=map_some (show(Ik d e).map _=aU r from he);subst h;unfold Ik at a;obtain⟨hd,a⟩:=bf a;rw[eR]at hd;subst a;exact(aaV I sm (n:=7) hu hd.1 hd.2 (xn I sm hd.1 f b) (xn I sm hd.2 g c)).2 _ _ _ _ ⟨.bl _,H,I,rfl,cF.cV sm (il _) k⟩
end
section
variable{Pg:dF}{w:eJ}{K:PySem.W.Frag}{mg:Str->Option b_}{base:eN}
theorem aap{qual:Str}{st:ft}{f:cx}{fd:i1}{N ps:List Str}{k n:Nat}{c:Call}{d:Fd}(C:gY K x qual st f fd)(S:aJ N ps (az st))(h1:d.np=ps.length)(t:d.nn=N.length)(G:∀(cdv:b_)(A:eM)(outer:List Env)(s:cv)(H:Hp)(E:XK),jY k (A.deeper (mT qual (az st) s.heap.objs.size f cdv))->SB (CJ Jk Pg w K mg base N qual (az st) f cdv A outer s H E).nox c n (gC st) d.body):pH Pg w K mg base Jk (k+1) f fd ps (Nq K ps.length (λargs=>enter c n d args)):=by
 refine C.ok S (λvs H Q E h=>h.1) λcdv A outer s H vs Q E hr h=>?_;obtain⟨u,F,args,r,o,g,e,q⟩:=h;refine⟨_,G cdv A outer s H E hr,?_⟩;replace e:enter c n d args=.ok r o:=e;unfold enter at e;split at e
 . rename_i hc;obtain⟨c1,c2⟩:=hc;have I:=g.more (n:=d.nn-d.np) (τ:=cE (N.length-vs.length) cr) (by simp[h1,t,u]);have p:args.length=d.np:=c1;have go:∀{fl:Fl}{a:List Sl},iG c n d.body (args++cE (d.nn-d.np) .aX)=.ok fl a->(∀l b j,aB K F (args++cE (d.nn-d.np) .aX) (start N vs) H l a b j->(match fl with|.next=>Q .non j|.brk=>False|.cont=>False|.ret r=>∀v,dg K l a b j (args++cE (d.nn-d.np) .aX) (start N vs) H v r->Q v j))->tEx K (iG c n d.body) {nx:=λ_ j=>Q .non j,rt:=Q} (start N vs) H:=λ{fl a}z k=>⟨F,_,fl,a,I,z,λl b j s=>by have:=k l b j s;cases fl<;>exact this⟩;split at e;.rename_i a z;cases e;refine go z λl b j s=>?_;obtain⟨y,B⟩:=aB.less (m:=d.np) p.symm g (by simp[h1,t,u]) s;exact q .non l _ j y (show Rep K l _ _ from TV)
   .rename_i L a z;cases e;refine go z λl b j s v J=>?_;obtain⟨y,B⟩:=aB.less (m:=d.np) p.symm g (by simp[h1,t,u]) s;exact q v l _ j y (B v r J)
   .split at e<;>cases e
 .cases e
structure aR(Pg:dF)(w:eJ)(K:PySem.W.Frag)(mg:Str->Option b_)(base:eN)(k:Nat)(c:Call)(i:Nat)(x:Str)(np:Nat):Prop where ex:∃fa fd qs,pH Pg w K mg base Jk k fa fd qs (Nq K qs.length (c i))/\mg x=aU (.ref fa)/\keepIn K (.ref fa)=cq/\Binds K fd qs []/\qs.length=np
end
section
variable{X:Cx}{c:Call}{n k:Nat}{e a b:dO}{es:List dO}{p pa pb:P}{ps:List P}{pos:Pos}
theorem sv(i:Nat)(g:X.N[i]?=aU x:=by rfl)(h:yr X.env.scope x:=by first|exact df rfl|exact dQ (df rfl)|exact dQ (dQ rfl))(hd:(x==("__debug__":Str))=a_:=by rfl)(f:(x==("__classdict__":Str))=a_:=by rfl):SX X c (.Name x pos) (.var i):=Ux g h hd f
theorem dq{np:Nat}(C:aR X.prog X.w X.K X.mg X.base k c i x np)(hr:jY k X.A)(h:SG X c (e::es) ps)(j:Gl X x:=by rfl)(l:(e::es).length=np:=by rfl)(f:(x==("__debug__":Str))=a_:=by rfl)(he:cL (e::es) X.env=(a_,fi e X.env)::cL es X.env:=by rfl)(hpl:(kf pos (cL es X.env)).any (·.1)=a_:=by rfl)(g:ps.length=(e::es).length:=by rfl):SX X c (.Call (.Name x p') (e::es) [] pos) (.call i ps):=by obtain⟨u,fd,y,h1,o,q,r,t⟩:=C.ex;exact Oi h1 hr j o q r h (l.trans t.symm) f he hpl g
noncomputable def Q6(names outer:List (Str×lj))(N N':List Str)(n:Nat):Bool:=(names.all λy=>names.lookup y.1==aU y.2)&&(names.all λy=>y.2!=.local||names.lookup y.1==aU .local)&&(names.all λy=>y.2!=.free||outer.lookup y.1==aU .cell||outer.lookup y.1==aU .free)&&N'.length==N.length+n&&((N.zip N').all λp=>(p.1==p.2&&names.lookup p.2==aU .free)||(names.lookup p.2!=aU .local&&names.lookup p.2!=aU .cell&&names.lookup p.2!=aU .free))
theorem qi{scope:kU}{N':List Str}(g:scope.kind=.function)(h:Q6 scope.names X.env.scope.names X.N N' n=cq):gh X scope N' n:=by
 unfold Q6 at h;simp only[eR]at h;obtain⟨⟨⟨⟨h1,j⟩,l⟩,o⟩,q⟩:=h;refine⟨g,λy f=>eq_of_beq (gi.mp h1 y f),λy f e=>?_,λy f e=>?_,by simpa using o,q⟩;.have:=gi.mp j y f;rw[e]at this;simpa using this
 . have:=gi.mp l y f;rw[e]at this;simp only[k_]at this;rcases this with(z|z)|z;.cases z
   .exact .inl (eq_of_beq z)
   .exact .inr (eq_of_beq z)
theorem bV(h:jY k A):A.units+8<gS:=by have:=h.un;omega
end
end _H
namespace PySem
section
variable{prog:dF}{w:eJ}{A:eM}{E:b_->cv->Prop}{s:cv}
theorem n8{it l:cx}{i:Nat}{items:Array b_}{x:b_}{Q:b_->cv->Prop}(a:s.heap.IsTupleIter it l i)(e:s.heap.IsTuple l items)(f:items[i]?=aU x)(g:∀h',h'.IsTupleIter it l (i+1)->nm it s.heap h'->Q x {s with heap:=h'}):cK (c_ prog w) A (nextOf (.ref it)) Q E s:=by obtain⟨o,ho,hc,hd⟩:=id a;obtain⟨h,b,_,j,c⟩:=e;unfold nextOf;refine bx (fx (name:=hX "__next__") a.typeIs F.slot_tuple_iterator_next (fv F.slot_tuple_iterator_next a.typeIs F.entry_tuple_iterator_next ?_ (F.args_tuple_iterator_next_1 _)));show cK _ _ (field (.ref it) 0>>=_) _ _ s;refine bx (kH ho hd (x:=.ref l) rfl ?_);show cK _ _ (if(et l==eA)=cq then _ else _) _ _ s;rw[if_neg (show ¬((et l==eA)=cq)from dr)];show cK _ _ (field (.ref it) 1>>=_) _ _ s;refine bx (kH ho hd (x:=.int i 0) rfl ?_);show cK _ _ (seqItems? (.ref l)>>=_) _ _ s;refine bx (qV b c ?_);simp only[ka,f];refine bx (iq ho hd (by simp) (cw ⟨x,rfl,cw (g _ ?_ (gw ..))⟩));exact⟨_,g9 _ ho (sd (kT hd _)),(Obj.cls_mapFields ..).trans hc,by rw[kT hd];simp[gy]⟩
theorem iW{it l:cx}{i:Nat}{items:Array b_}{Q:b_->cv->Prop}(g:A.handled=cr)(b:s.heap.IsTupleIter it l i)(h:s.heap.IsTuple l items)(j:items[i]?=cr)(k:∀h' e,Heap.ExtBut it s.heap h'->(∃o,h'.get? e=aU o/\o.cls=.type "StopIteration")->E (.ref e) {s with heap:=h'}):cK (c_ prog w) A (nextOf (.ref it)) Q E s:=by
 obtain⟨o,ho,hc,hd⟩:=id b;obtain⟨n,c,_,p,f⟩:=h;unfold nextOf;refine bx (fx (name:=hX "__next__") b.typeIs F.slot_tuple_iterator_next (fv F.slot_tuple_iterator_next b.typeIs F.entry_tuple_iterator_next ?_ (F.args_tuple_iterator_next_1 _)));show cK _ _ (field (.ref it) 0>>=_) _ _ s;refine bx (kH ho hd (x:=.ref l) rfl ?_);show cK _ _ (if(et l==eA)=cq then _ else _) _ _ s;rw[if_neg (show ¬((et l==eA)=cq)from dr)];show cK _ _ (field (.ref it) 1>>=_) _ _ s;refine bx (kH ho hd (x:=.int i 0) rfl ?_);show cK _ _ (seqItems? (.ref l)>>=_) _ _ s;refine bx (qV c f ?_);simp only[ka,j];refine bx (ky (bx (iq ho hd (by simp) ?_)));show cK _ _ (tN (.type "StopIteration") []>>=_) _ _ _;refine bx ?_;simp only[tN,newTuple];refine bx (ei ?_ (by size_fits));refine bx (m:=mS _ _) (uj (a:=eA) (by first|rfl|(simp only[mS];rfl)) ?_);refine ei ?_ (by size_fits);simp only[raiseNew];refine bx (wpAny_handled ?_);first|rw[show A.in1.handled=cr from g]|rw[g]
 refine bx (cw (wpAny_throw ?_));exact k _ _ (((gw ..).extBut.push _).push _) ⟨_,dc _ rfl,rfl⟩
end
theorem kW(l:cx)(items:Array b_)(n:Nat)(b:Option cx)(sl:Array (Option b_)):ve (gI.«enumerate.__new__» ⟨[.type "enumerate",.ref l],[]⟩) (λ_ R s=>s.heap.get? l=aU {cls:=.type "tuple",dict:=b,data:=.seq items n,slots:=sl}/\R (.ok (.ret (.ref (s.heap.push {cls:=.type "tuple_iterator",data:=.fields #[.ref l,.int 0 0]}).objs.size))) {s with heap:=(s.heap.push {cls:=.type "tuple_iterator",data:=.fields #[.ref l,.int 0 0]}).push {cls:=.type "enumerate",data:=.fields #[.none,.bool a_,.ref s.heap.objs.size,gy 0,.none,.none]}}):=.of_wp λprog w A R s h=>by
  obtain⟨i,g,d,j,os⟩:=s;obtain⟨a,h⟩:=h;have f:=sub_enumerate;have e:Heap.IsTuple (Shared.heap ⟨i,g,d,j,os⟩) l items:=⟨_,a,rfl,n,rfl⟩;wp_walk using gL a;refine wpAny_stack_any λst=>cw ?_;split
  . rename_i c _ _ _ _ _;cases(c==eP "enumerate");.wp_walk using gL a,iN e;exact⟨_,rfl,h⟩
    .wp_walk using gL a,iN e;exact⟨_,rfl,h⟩
  .wp_walk using gL a,iN e;exact⟨_,rfl,h⟩
section
variable{prog:dF}{w:eJ}{A:eM}{E:b_->cv->Prop}{s:cv}
theorem km{l:cx}{items:Array b_}{Q:b_->cv->Prop}(e:s.heap.IsTuple l items)(h:∀ h',IsEnum h' (s.heap.objs.size+1) s.heap.objs.size 0 .none->h'.IsTupleIter s.heap.objs.size l 0->h'.objs.size=s.heap.objs.size+2->(∀b o,s.heap.get? b=aU o->h'.get? b=aU o)->Q (.ref (s.heap.objs.size+1)) {s with heap:=h'}):cK (c_ prog w) A (call (.type "enumerate") [.ref l]) Q E s:=by
 obtain⟨⟨c,a,dt,sl⟩,f,hc,n,hd⟩:=e;replace hc:c=.type "tuple":=hc;replace hd:dt=.seq items n:=hd;subst hc hd;refine callType_new F.called_enumerate (by decide) (F.typeCall_enumerate_1 _) (F.newCall_enumerate_1 _) (λobj=>F.args_object_init_2 obj _) F.entry_enumerate_new (kW l items n a sl) ⟨f,?_⟩;have hz:(s.heap.push {cls:=.type "tuple_iterator",data:=.fields #[.ref l,.int 0 0]}).objs.size=s.heap.objs.size+1:=ia ..;show _/\_;rw[hz];have he:IsEnum ((s.heap.push {cls:=.type "tuple_iterator",data:=.fields #[.ref l,.int 0 0]}).push {cls:=.type "enumerate",data:=.fields #[.none,.bool a_,.ref s.heap.objs.size,gy 0,.none,.none]}) (s.heap.objs.size+1) s.heap.objs.size 0 .none:=by have:=dc (s.heap.push {cls:=.type "tuple_iterator",data:=.fields #[.ref l,.int 0 0]}) (o:={cls:=.type "enumerate",data:=.fields #[.none,.bool a_,.ref s.heap.objs.size,gy 0,.none,.none]}) rfl;rw[hz]at this;exact this
 refine⟨⟨_,he,rfl⟩,h _ he ⟨_,dz (dc _ rfl),rfl,rfl⟩ (by rw[ia,hz]) λb o x=>dz (dz x)⟩
end
end PySem
namespace _L
open PySem Spec PyProof.Rows
variable{prog:dF}{w:eJ}{A:eM}
section
variable{X:Cx}{pins:List (cx×Obj)}{σ:_L.St}{H:Hp}{s:cv}
theorem Inv.Ls{ch:List cx}{h':eN}{o:HO}{t':Nat}(I:Inv X pins σ H s)(k:∀b u,b∉ch->s.heap.get? b=aU u->h'.get? b=aU u)(l:∀b∈ch,∃u,h'.get? b=aU u)(g:∀b∈ch,qM X pins H b)(i:bF X.prog X.w (upd H s.heap.objs.size o) h' s.heap.objs.size o):Inv X pins σ (upd H s.heap.objs.size o) {s with heap:=h',toks:=t'}:=by
 have fr:H s.heap.objs.size=cr:=I.hok.fresh (cI);have j:∀b u,H b=aU u->b∉ch:=λb u e a=>by rw[(g b a).1]at e;cases e
 have h:∀b u,H b=aU u->upd H s.heap.objs.size o b=aU u:=λb u e=>by
  have:b≠s.heap.objs.size:=by rintro rfl;rw[fr]at e;cases e
  rw[aC this];exact e
 refine I.call (g':=s.gens) (d':=s.drawn) (ch:=ch) ⟨λb u e n _ f=>k b u f e,λb u e n _ f=>⟨u.slots,k b u f e⟩,λb u e n f=>?_,λb u e f=>⟨u,k b u f e⟩,λb xs e=>h b _ e,λb m u e=>h b _ e,λb ps e=>⟨#[],by rw[h b _ e];simp⟩⟩ ?_ I.bare λb a=>⟨(g b a).2.2.2.1,(g b a).2.1,(g b a).2.2.2.2.1,(g b a).2.2.2.2.2⟩;.have:b≠s.heap.objs.size:=dS (dA e);rw[aC this];exact n
 . intro b u e;by_cases a:b=s.heap.objs.size;.subst a;rw[aH]at e;cases e;exact i
   . rw[aC a]at e;refine(I.hok b u e).stay (λc v hc q=>k c v ?_ q) (λc q=>h c _ q) λc xs q=>h c _ q;rcases hc with rfl|hc;.exact j _ _ e
     .exact j _ _ hc
end
noncomputable def BJ(K:PySem.W.Frag)(a:cx):It:=⟨λi H=>∃xs x,eY K H a xs/\xs[i]?=aU x,λi H x b=>∃T v,H T=cr/\x=.ref T/\b=upd H T (.tup [.int (i:Int),v])/\∀xs,eY K H a xs->xs[i]?=aU v,λi H=>∃xs,eY K H a xs/\xs.length<=i⟩
theorem SJ(f:A.handled=cr)(it l:cx)(c:l≠it)(items:Array b_):Draws prog w A it [it,l] items.size (λi v=>items[i]?=aU v) (λi h=>h.IsListIter it l i/\h.IsList l items)where
 live:=λ_ _ st=>let⟨o,ho,_⟩:=st.1;⟨o,ho⟩;frame:=λ_ _ _ st e=>⟨(let⟨o,ho,r⟩:=st.1;⟨o,e it (by simp) o ho,r⟩),(let⟨o,ho,r⟩:=st.2;⟨o,e l (by simp) o ho,r⟩)⟩;item:=λi s Q E hi st g=>by refine wpAny_nextOf_list_item st.1 st.2 (x:=items[i]) (by simp[hi]) λh' a b=>?_;exact g _ h' s.toks (by simp[hi]) ⟨a,(let⟨o,ho,r⟩:=st.2;⟨o,b.extBut l o c ho,r⟩)⟩ b
 done:=λs Q E st j=>ua f st.1 st.2 (by simp) j
theorem Hh(b:A.handled=cr)(it l:cx)(items:Array b_)(n:Nat)(c:items.size<=n):Draws prog w A it [it,l] n (λ_ _=>True) (λi h=>i=n/\h.IsListIter it l i/\h.IsList l items)where live:=λ_ _ st=>let⟨o,ho,_⟩:=st.2.1;⟨o,ho⟩;frame:=λ_ _ _ st a=>⟨st.1,(let⟨o,ho,r⟩:=st.2.1;⟨o,a it (by simp) o ho,r⟩),(let⟨o,ho,r⟩:=st.2.2;⟨o,a l (by simp) o ho,r⟩)⟩;item:=λi s Q E hi st f=>absurd st.1 (dS hi);done:=λs Q E st e=>ua b st.2.1 st.2.2 (by simp;exact c) e
theorem GF{P:dF}{K:PySem.W.Frag}{p:List dO}{x1}{tp:Pos}(a it e:cx)(m:e≠it):Turn P w K (.Tuple p x1 tp) (BJ K a) [e,it] e (λi h=>(∃g,IsEnum h e it (i:Int) g)/\h.IsListIter it a i)where
 mem:=by simp
 obj:=λi h st b hb=>by
  obtain⟨⟨g,h1⟩,o,j,G,h4⟩:=st;rcases da.mp hb with rfl|hb;.exact⟨_,h1,λv z=>by cases z⟩
  . have:b=it:=by simpa using hb
    subst this;exact⟨o,j,λv z=>by rw[h4]at z;cases z⟩
 keep:=λi h h' st k=>by obtain⟨⟨g,h1⟩,o,j,G⟩:=st;exact⟨⟨g,k e (by simp) _ h1⟩,o,k it (by simp) _ j,G⟩
 item:=λX Z hw hK hc i t s σ H E I J st go=>by
  subst Z hw hK;obtain⟨⟨g,he⟩,l⟩:=st;obtain⟨xs,x,L,B⟩:=go;obtain⟨c,M,pl,hz⟩:=I.list L;have N:s.heap.IsList a c.toArray:=pl.isList;obtain⟨oa,O,n,_⟩:=id N;have ac:e≠a:=by rintro rfl;rw[he]at O;cases O;exact absurd (show eP "enumerate"=eP _ from n) (by decide)
  have ae:a≠it:=by rintro rfl;obtain⟨o,j,G,_⟩:=id l;rw[j]at O;cases O;rw[G]at n;exact absurd n (by decide)
  have af:i<c.toArray.size:=by rw[cS,<-M.length];exact(fB B).1
  refine sL (SJ (show X.A.in1.handled=cr from I.ok.hd hc) it a ae c.toArray) he ⟨l,N⟩ af m (by simp[m,ac]) λy h' tk U ag hst ht hsz kp=>?_;refine⟨_,rfl,rb ag λC Mt Y=>?_⟩;obtain⟨u,ah,ai⟩:=M.get B;have al:y=u:=by
   have U:c[i]?=aU y:=by simpa using U
   rw[ah]at U;cases U;rfl
  subst al;have hT:∀b∈[e,it],b≠s.heap.objs.size:=λb hb=>by
   rcases da.mp hb with rfl|hb;.exact dS (dA he)
   . have:b=it:=by simpa using hb
     subst this;obtain⟨o,j,_⟩:=id l;exact dS (dA j)
  have am:s.heap.objs.size≠e:=(hT e (by simp)).symm;have ap:∀b o,b∉[e,it]->s.heap.get? b=aU o->C.get? b=aU o:=λb o hb q=>by have h1:b≠e:=λz=>hb (by simp[z]);have j:b≠it:=λz=>hb (by simp[z]);exact Y.extBut b o h1 (kp b o h1 j q)
  have Ah:C.get? s.heap.objs.size=aU {cls:=.type "tuple",data:=.seq #[.int i tk,y]}:=Y.extBut _ _ am ht;refine⟨.ref s.heap.objs.size,upd H s.heap.objs.size (.tup [.int (i:Int),x]),?_,rfl,⟨_,x,I.fresh,rfl,rfl,λys ar=>?_⟩,⟨⟨_,Mt⟩,?_⟩,λb hb=>?_⟩
  . refine I.Ls (ch:=[e,it]) (t':=tk+1) ap (λb hb=>?_) (λb hb=>(J b hb)) ⟨(by show 2<=sizeLine;decide),[.int i tk,y],.cons ⟨_,rfl⟩ (.cons ai .nil),⟨_,Ah,rfl,_,rfl⟩⟩;rcases da.mp hb with rfl|hb;.exact⟨_,Mt⟩
    . have:b=it:=by simpa using hb
      subst this;obtain⟨o,j,_⟩:=id hst.1;exact⟨o,Y.extBut _ _ (fI m) j⟩
  .rw[I.tL ar L];exact B
  .obtain⟨o,j,r⟩:=hst.1;exact⟨o,Y.extBut _ _ (fI m) j,r⟩
  .rw[aC (hT b hb)];exact(J b hb).1
 done:=λX Z hw hK hc i t s σ H E I J st stop=>by subst Z hw hK;obtain⟨⟨g,he⟩,l⟩:=st;obtain⟨xs,L,B⟩:=stop;obtain⟨c,M,pl,hz⟩:=I.list L;have N:s.heap.IsList a c.toArray:=pl.isList;refine tq (Hh (show X.A.in1.handled=cr from I.ok.hd hc) it a c.toArray i (by rw[cS,<-M.length];exact B)) he ⟨rfl,l,N⟩ λh' hs=>⟨rfl,?_⟩;have f:=J it (by simp);exact I.turned (t':=s.toks) (λb o hb q=>hs b o hb q) f.1 f.2.1 f.2.2.2.1 f.2.2.2.2.1 f.2.2.2.2.2
 self:=λA i s Q E st q=>om st.1.choose_spec q
noncomputable def BX(K:PySem.W.Frag)(a:cx):It:=⟨λi H=>∃xs x,iD K H a xs/\xs[i]?=aU x,λi H x b=>∃T v,H T=cr/\x=.ref T/\b=upd H T (.tup [.int (i:Int),v])/\∀xs,iD K H a xs->xs[i]?=aU v,λi H=>∃xs,iD K H a xs/\xs.length<=i⟩
theorem WQ(f:A.handled=cr)(it l:cx)(c:l≠it)(items:Array b_):Draws prog w A it [it,l] items.size (λi v=>items[i]?=aU v) (λi h=>h.IsTupleIter it l i/\h.IsTuple l items)where
 live:=λ_ _ st=>let⟨o,ho,_⟩:=st.1;⟨o,ho⟩;frame:=λ_ _ _ st e=>⟨(let⟨o,ho,r⟩:=st.1;⟨o,e it (by simp) o ho,r⟩),(let⟨o,ho,r⟩:=st.2;⟨o,e l (by simp) o ho,r⟩)⟩;item:=λi s Q E hi st g=>by refine n8 st.1 st.2 (x:=items[i]) (by simp[hi]) λh' a b=>?_;exact g _ h' s.toks (by simp[hi]) ⟨a,(let⟨o,ho,r⟩:=st.2;⟨o,b.extBut l o c ho,r⟩)⟩ b
 done:=λs Q E st j=>iW f st.1 st.2 (by simp) j
theorem Hd(b:A.handled=cr)(it l:cx)(items:Array b_)(n:Nat)(c:items.size<=n):Draws prog w A it [it,l] n (λ_ _=>True) (λi h=>i=n/\h.IsTupleIter it l i/\h.IsTuple l items)where live:=λ_ _ st=>let⟨o,ho,_⟩:=st.2.1;⟨o,ho⟩;frame:=λ_ _ _ st a=>⟨st.1,(let⟨o,ho,r⟩:=st.2.1;⟨o,a it (by simp) o ho,r⟩),(let⟨o,ho,r⟩:=st.2.2;⟨o,a l (by simp) o ho,r⟩)⟩;item:=λi s Q E hi st f=>absurd st.1 (dS hi);done:=λs Q E st e=>iW b st.2.1 st.2.2 (by simp;exact c) e
theorem G7{P:dF}{K:PySem.W.Frag}{p:List dO}{x1}{tp:Pos}(a it e:cx)(m:e≠it):Turn P w K (.Tuple p x1 tp) (BX K a) [e,it] e (λi h=>(∃g,IsEnum h e it (i:Int) g)/\h.IsTupleIter it a i)where
 mem:=by simp
 obj:=λi h st b hb=>by
  obtain⟨⟨g,h1⟩,o,j,G,h4⟩:=st;rcases da.mp hb with rfl|hb;.exact⟨_,h1,λv z=>by cases z⟩
  . have:b=it:=by simpa using hb
    subst this;exact⟨o,j,λv z=>by rw[h4]at z;cases z⟩
 keep:=λi h h' st k=>by obtain⟨⟨g,h1⟩,o,j,G⟩:=st;exact⟨⟨g,k e (by simp) _ h1⟩,o,k it (by simp) _ j,G⟩
 item:=λX Z hw hK hc i t s σ H E I J st go=>by
  subst Z hw hK;obtain⟨⟨g,he⟩,l⟩:=st;obtain⟨xs,x,L,B⟩:=go;obtain⟨c,M,pl,hz⟩:=I.tuple L;have N:s.heap.IsTuple a c.toArray:=pl;obtain⟨oa,O,n,_⟩:=id N;have ac:e≠a:=by rintro rfl;rw[he]at O;cases O;exact absurd (show eP "enumerate"=eP _ from n) (by decide)
  have ae:a≠it:=by rintro rfl;obtain⟨o,j,G,_⟩:=id l;rw[j]at O;cases O;rw[G]at n;exact absurd n (by decide)
  have af:i<c.toArray.size:=by rw[cS,<-M.length];exact(fB B).1
  refine sL (WQ (show X.A.in1.handled=cr from I.ok.hd hc) it a ae c.toArray) he ⟨l,N⟩ af m (by simp[m,ac]) λy h' tk U ag hst ht hsz kp=>?_;refine⟨_,rfl,rb ag λC Mt Y=>?_⟩;obtain⟨u,ah,ai⟩:=M.get B;have al:y=u:=by
   have U:c[i]?=aU y:=by simpa using U
   rw[ah]at U;cases U;rfl
  subst al;have hT:∀b∈[e,it],b≠s.heap.objs.size:=λb hb=>by
   rcases da.mp hb with rfl|hb;.exact dS (dA he)
   . have:b=it:=by simpa using hb
     subst this;obtain⟨o,j,_⟩:=id l;exact dS (dA j)
  have am:s.heap.objs.size≠e:=(hT e (by simp)).symm;have ap:∀b o,b∉[e,it]->s.heap.get? b=aU o->C.get? b=aU o:=λb o hb q=>by have h1:b≠e:=λz=>hb (by simp[z]);have j:b≠it:=λz=>hb (by simp[z]);exact Y.extBut b o h1 (kp b o h1 j q)
  have Ah:C.get? s.heap.objs.size=aU {cls:=.type "tuple",data:=.seq #[.int i tk,y]}:=Y.extBut _ _ am ht;refine⟨.ref s.heap.objs.size,upd H s.heap.objs.size (.tup [.int (i:Int),x]),?_,rfl,⟨_,x,I.fresh,rfl,rfl,λys ar=>?_⟩,⟨⟨_,Mt⟩,?_⟩,λb hb=>?_⟩
  . refine I.Ls (ch:=[e,it]) (t':=tk+1) ap (λb hb=>?_) (λb hb=>(J b hb)) ⟨(by show 2<=sizeLine;decide),[.int i tk,y],.cons ⟨_,rfl⟩ (.cons ai .nil),⟨_,Ah,rfl,_,rfl⟩⟩;rcases da.mp hb with rfl|hb;.exact⟨_,Mt⟩
    . have:b=it:=by simpa using hb
      subst this;obtain⟨o,j,_⟩:=id hst.1;exact⟨o,Y.extBut _ _ (fI m) j⟩
  .rw[I.pB ar L];exact B
  .obtain⟨o,j,r⟩:=hst.1;exact⟨o,Y.extBut _ _ (fI m) j,r⟩
  .rw[aC (hT b hb)];exact(J b hb).1
 done:=λX Z hw hK hc i t s σ H E I J st stop=>by subst Z hw hK;obtain⟨⟨g,he⟩,l⟩:=st;obtain⟨xs,L,B⟩:=stop;obtain⟨c,M,pl,hz⟩:=I.tuple L;have N:s.heap.IsTuple a c.toArray:=pl;refine tq (Hd (show X.A.in1.handled=cr from I.ok.hd hc) it a c.toArray i (by rw[cS,<-M.length];exact B)) he ⟨rfl,l,N⟩ λh' hs=>⟨rfl,?_⟩;have f:=J it (by simp);exact I.turned (t':=s.toks) (λb o hb q=>hs b o hb q) f.1 f.2.1 f.2.2.2.1 f.2.2.2.2.1 f.2.2.2.2.2
 self:=λA i s Q E st q=>om st.1.choose_spec q
section
variable{X:Cx}{elts:List dO}{x1:Nat}{tp:Pos}
noncomputable def aeE(K:PySem.W.Frag)(c:TE):TI:=λσ H R=>c σ H λx b=>∃a,x=.ref a/\(((∃xs,eY K b a xs)/\R (BJ K a) b)\/((∃xs,iD K b a xs)/\R (BX K a) b))
theorem boot_enumerate:gn "enumerate"=aU (.type "enumerate"):=by decide+kernel
theorem Ut{a:dO}{t:TE}{p pos:Pos}(v:Gl X "enumerate")(y:X.mg "enumerate"=cr)(z:PE X a t)(hs:cL [a] X.env=[(a_,fi a X.env)]:=by rfl):PI X (.Tuple elts x1 tp) (.Call (.Name "enumerate" p) [a] [] pos) (aeE X.K t):=by
 intro e s σ H R I h;refine Call_ (mL I v y boot_enumerate (fN (cA ((cG z dX hs) pos e s σ H (λvs c=>match vs with|[x]=>∃a,x=.ref a/\(((∃xs,eY X.K c a xs)/\R (BJ X.K a) c)\/((∃xs,iD X.K c a xs)/\R (BX X.K a) c))|_=>False) I h) ?_) hs rfl));rintro E s1⟨vs,c,f,r1,j⟩
 . obtain⟨ad,q,k⟩:∃ad,(((∃xs,eY X.K c ad xs)/\R (BJ X.K ad) c)\/((∃xs,iD X.K c ad xs)/\R (BX X.K ad) c))/\vs=[.ref ad]:=by cases vs with|nil=>cases j|cons x r=>cases r with|nil=>obtain⟨ad,rfl,q⟩:=j;exact⟨ad,q,rfl⟩|cons _ _=>cases j
   subst k;obtain⟨u,rfl,B⟩:=r1.one;cases B;have fin:∀(h':eN)(i:Nat->eN->Prop)(J:It),Turn X.prog X.w X.K (.Tuple elts x1 tp) J [s1.heap.objs.size+1,s1.heap.objs.size] (s1.heap.objs.size+1) i->i 0 h'->IsEnum h' (s1.heap.objs.size+1) s1.heap.objs.size 0 .none->(∀b o,s1.heap.get? b=aU o->h'.get? b=aU o)->R J c->cK (c_ X.prog X.w) X.A (mI (.ref (s1.heap.objs.size+1))) (PIE X e σ (.Tuple elts x1 tp) R) X.xe {s1 with heap:=h'}:=λh' i J T t0 he kp q=>by
    refine om he ⟨_,_,i,J,c,rfl,f.kept (t':=s1.toks) kp,T,t0,λb hb=>?_,q⟩;have g:s1.heap.objs.size<=b:=by
     rcases da.mp hb with rfl|hb;.exact oI _
     . have:b=s1.heap.objs.size:=by simpa using hb
       rw[this];exact cI
    exact f.Hm g (f.hok.fresh g)
   rcases q with⟨⟨xs,l⟩,q⟩|⟨⟨xs,l⟩,q⟩;.obtain⟨m,C,n,hz⟩:=f.list l;exact call_enumerate_list n.isList λh' he hi hsz kp=>fin h' _ _ (GF ad s1.heap.objs.size (s1.heap.objs.size+1) (Nat.succ_ne_self _)) ⟨⟨_,he⟩,hi⟩ he kp q
   .obtain⟨m,C,n,hz⟩:=f.tuple l;exact km n λh' he hi hsz kp=>fin h' _ _ (G7 ad s1.heap.objs.size (s1.heap.objs.size+1) (Nat.succ_ne_self _)) ⟨⟨_,he⟩,hi⟩ he kp q
end
end _L
namespace _H
open PySem _L Spec PyProof.Rows
section
variable{K:PySem.W.Frag}{F F1 H H1:Hp}{ρ ρ1:List Sl}{σ:_L.St}{ds:List D}{a:cx}
theorem yu{c e:Hp}{T:cx}{v w:V}{d1 d2:D}(sm:aK c e)(g:e T=cr)(r1:Rep K c v d1)(h:Rep K c w d2):∃b,Ext c e b (upd e T (.tup [v,w]))/\Rep K b (.ref T) (.tup [d1,d2]):=Cy (Q:=λv f=>∃b,Ext c e b f/\Rep K b v (.tup [d1,d2])) sm (.cons r1 (.cons h .nil)) g λv b f x i=>⟨b,x,i⟩
theorem Kr{xs:List V}{e b:Hp}(f:eY K b a xs)(r:aF K e xs ds)(s:aK e b)(k:Nat):(∀d,(ds.mapIdx λi d=>D.tup [.int (i:Int),d])[k]?=aU d->(BJ K a).go k b/\∀x g,(BJ K a).M7 k b x g->∃c,Ext e b c g/\Rep K c x d)/\((ds.mapIdx λi d=>D.tup [.int (i:Int),d]).length<=k->(BJ K a).stop k b):=by refine⟨λd hd=>?_,λh=>⟨xs,f,by rw[r.length];simpa using h⟩⟩;rw[sj]at hd;obtain⟨d0,j,l⟩:=map_some hd;subst l;obtain⟨w,h1,m⟩:=r.get j;refine⟨⟨xs,w,f,h1⟩,?_⟩;rintro x g⟨T,v,n,o,p,y⟩;subst o;subst p;have:=y xs f;rw[h1]at this;cases this;exact yu s n (bw _) m
theorem JQ{xs:List V}{e b:Hp}(f:iD K b a xs)(r:aF K e xs ds)(s:aK e b)(k:Nat):(∀d,(ds.mapIdx λi d=>D.tup [.int (i:Int),d])[k]?=aU d->(BX K a).go k b/\∀x g,(BX K a).M7 k b x g->∃c,Ext e b c g/\Rep K c x d)/\((ds.mapIdx λi d=>D.tup [.int (i:Int),d]).length<=k->(BX K a).stop k b):=by refine⟨λd hd=>?_,λh=>⟨xs,f,by rw[r.length];simpa using h⟩⟩;rw[sj]at hd;obtain⟨d0,j,l⟩:=map_some hd;subst l;obtain⟨w,h1,m⟩:=r.get j;refine⟨⟨xs,w,f,h1⟩,?_⟩;rintro x g⟨T,v,n,o,p,y⟩;subst o;subst p;have:=y xs f;rw[h1]at this;cases this;exact yu s n (bw _) m
end
section
variable{X:Cx}{c:Call}{e a:dO}{pa:P}{pos:Pos}{elts:List dO}{x1:Nat}{tp:Pos}
theorem U9{x:Str}{A:Pos}(B:x="enumerate")(C:Gl X x)(E:X.mg x=cr)(G:SX X c a pa)(hs:cL [a] X.env=[(a_,fi a X.env)]:=by rfl):SI X c (.Tuple elts x1 tp) (.Call (.Name x A) [a] [] pos) (.enm pa):=by subst B;refine qd (Ut C E G.ev hs) ?_;rintro σ H R⟨F,ρ,ds,I,g,e,k⟩;obtain⟨r,J,w,j⟩:=aj e;have m:=aD j;clear j;obtain⟨j,L⟩:=m;subst L;rw[_H.E21]at w;obtain⟨r0,h,M,l⟩:=aj w;have m:=aD l;clear l;obtain⟨l,N⟩:=m;subst N;obtain⟨es,f1,f2⟩:=map_some l;subst f2;cases j;refine⟨F,ρ,r0,_,g,M,λv y z s i=>?_⟩;obtain⟨U,s2,_,f⟩:=s.dw i;cases hd:r0.d with|tup o=>rw[hd]at f1 f;cases f1;rw[Rep]at f;obtain⟨ad,xs,rfl,h1,p⟩:=f;exact⟨ad,rfl,.inr ⟨⟨xs,aK.gZ s2.gs.sub h1⟩,k _ _ _ ⟨s2.gs,λn k y q t z b=>JQ (aK.gZ b.gs.sub (aK.gZ b.cQ h1)) (p.mono b.cQ) b.gs.sub k,λO h u Q s3=>⟨s2.trans s3,λv r i=>i.later s2⟩⟩⟩⟩|lst o=>rw[hd]at f1 f;cases f1;rw[Rep]at f;obtain⟨ad,xs,rfl,h1,p⟩:=f;exact⟨ad,rfl,.inl ⟨⟨xs,s2.gs.sub.seq h1⟩,k _ _ _ ⟨s2.gs,λn k y q t z b=>Kr (b.gs.sub.seq (b.cQ.seq h1)) (p.mono b.cQ) b.gs.sub k,λO h u Q s3=>⟨s2.trans s3,λv r i=>i.later s2⟩⟩⟩⟩|_=>rw[hd]at f1;cases f1
end
end _H
namespace _H
open PySem _L Spec PyProof.Rows
structure bu(K:PySem.W.Frag)(x:Str)(st:ft):Prop where ex:∃f fd,PySem.W.nsIn K ef x=aU (aU (.ref f))/\gY K x x st f fd
section
variable{Pg:dF}{w:eJ}{K:PySem.W.Frag}{mg:Str->Option b_}{base h:eN}
theorem Vv{x:Str}{st:ft}{f:cx}{oc:b_}{g i:Option cx}{b:Array (Option b_)}{kV e j cdv ct:b_}(a:PySem.W.nsIn K ef x=aU (aU (.ref f)))(l:K.lookup f=aU ⟨oc,g,.func (PySem.W.fnOf x x (jr st) (gC st) (az st) .none kV e j i cdv ct),b⟩)(c:PySem.W.codeIn K cdv x=cq)(k:keepIn K (.ref f)=cq):bu K x st:=⟨_,_,a,V3 l c k⟩
theorem bH{Γ:Tab}{wl i np:Nat}{x:Str}{st:ft}{ps:List Str}(X:K.In h)(G:h.Ns ef mg)(D:bu K x st)(j:ps.length=np)(k:∀(kV g l:b_)(m:Option cx)(cdv ct:b_)(c:List b_),c.length=ps.length->va (PySem.W.fnOf x x (jr st) (gC st) (az st) .none kV g l m cdv ct) ⟨c,[]⟩=fy (ps.zip c)):aR Pg w K mg base 0 (run Γ wl 0) i x np:=by obtain⟨f,fd,a,F⟩:=D.ex;exact⟨f,fd,ps,⟨λvs H Q E s=>s.1,λA outer s H args c vs Q E hr e b v sp=>by obtain⟨_,F,as,r,n,_,z,_⟩:=sp;cases z⟩,mg_of X G a,F.kp,F.binds k,j⟩
theorem bG{Γ:Tab}{wl n i np:Nat}{x:Str}{st:ft}{ps:List Str}{d:Fd}(X:K.In h)(G:h.Ns ef mg)(D:bu K x st)(j:ps.length=np)(b:Γ i=aU d)(k:∀(kV c l:b_)(m:Option cx)(cdv ct:b_)(g:List b_),g.length=ps.length->va (PySem.W.fnOf x x (jr st) (gC st) (az st) .none kV c l m cdv ct) ⟨g,[]⟩=fy (ps.zip g))(ok:∀f fd,gY K x x st f fd->pH Pg w K mg base Jk (n+1) f fd ps (Nq K np (λargs=>enter (run Γ wl n) wl d args))):aR Pg w K mg base (n+1) (run Γ wl (n+1)) i x np:=by
 obtain⟨f,fd,a,F⟩:=D.ex;refine⟨f,fd,ps,?_,mg_of X G a,F.kp,F.binds k,j⟩;have e:run Γ wl (n+1) i=λargs=>enter (run Γ wl n) wl d args:=by funext args;show(match Γ i with|some d=>enter (run Γ wl n) wl d args|none=>.stuck)=_;rw[b]
 rw[e,j];exact ok f fd F
theorem vM{F:Hp}:∀ns:List Int,aF K F (ns.map V.int) (ns.map D.int)|[]=>.nil|n::ns=>.cons (bw n) (vM ns)
theorem Ht{H:Hp}{a:cx}{ns:List Int}{g:List Sl->Res R}{as:List Sl}(l:eY K H a (ns.map V.int))(hr:g [.val a_ (.lst (ns.map D.int))]=.ok (.val (.bl cq)) as):Nq K 1 g [.ref a] H (λv _=>v=.bl cq) λ_ _ _=>False:=by
 refine⟨rfl,H,_,_,as,⟨.refl _,rfl,λi b d e=>?_,λi s ds e k=>?_,λi j c h=>?_⟩,hr,λv m n o s f=>?_⟩;.match i,e with|0,e=>cases e;refine⟨.ref a,rfl,?_⟩;rw[Rep];exact⟨a,_,rfl,l,vM ns⟩|i+1,e=>simp at e
 .match i,e with|0,e=>cases e;cases k|i+1,e=>simp at e
 .obtain⟨⟨s,ds,e,k⟩,_⟩:=h;match i,e with|0,e=>cases e;cases k|i+1,e=>simp at e
 .have f:Rep K m v (.bl cq):=f;rw[Rep]at f;exact f
end
end _H
namespace _H
open PySem
variable{n:Nat}{c:Call}{ρ:List Sl}{is:List Nat}{ds:List D}
noncomputable def Res.sat{b:Type}(Q:b->List Sl->Prop)(x:Res b):Prop:=match x with|.ok a ρ=>Q a ρ|.exc _ _=>False|.stuck=>False
section
variable{α β:Type}{Q Q':α->List Sl->Prop}
@[simp]theorem Wz{a:α}{ρ:List Sl}:(Res.ok a ρ).sat Q=Q a ρ:=rfl
@[simp]theorem acS{k:Nat}{ρ:List Sl}:(Res.exc k ρ:Res α).sat Q=False:=rfl
@[simp]theorem XX:(Res.stuck:Res α).sat Q=False:=rfl
theorem bU{x:Res β}{f:β->List Sl->Res α}:(x.bind f).sat Q=x.sat λa ρ=>(f a ρ).sat Q:=by cases x<;>rfl
@[simp]theorem acx{p:Prop}[Decidable p]{x y:Res α}:(if p then x else y).sat Q=((p->x.sat Q)/\(¬ p->y.sat Q)):=by by_cases h:p<;>simp[h]
@[simp]theorem MN{a:α}{ρ:List Sl}:(lift (aU a) ρ).sat Q=Q a ρ:=rfl
@[simp]theorem MK{ρ:List Sl}:(lift (cr:Option α) ρ).sat Q=False:=rfl
@[simp]theorem Pb{p:Prop}[Decidable p]{a:α}{ρ:List Sl}:(lift (if p then aU a else cr) ρ).sat Q=(p/\Q a ρ):=by by_cases h:p<;>simp[h]
theorem Res.sat.imp{x:Res α}(h:x.sat Q)(k:∀a ρ,Q a ρ->Q' a ρ):x.sat Q':=by cases x with|ok a ρ=>exact k a ρ h|exc _ _=>exact h|stuck=>exact h
theorem sat_iff{x:Res α}:x.sat Q↔∃a ρ,x=.ok a ρ/\Q a ρ:=by cases x with|ok a ρ=>exact⟨λh=>⟨a,ρ,rfl,h⟩,λ⟨_,_,e,h⟩=>by cases e;exact h⟩|exc _ _=>exact⟨λh=>h.elim,λ⟨_,_,e,_⟩=>by cases e⟩|stuck=>exact⟨λh=>h.elim,λ⟨_,_,e,_⟩=>by cases e⟩
end
noncomputable def fr:Sl->Bool|.aX=>cq|.val b _=>!b|.own b _=>!b|.lent _=>a_|.ie _=>a_|.cU _=>a_|.hold _=>a_
@[simp]theorem aeY:fr .aX=cq:=rfl
@[simp]theorem adz{b:Bool}{d:D}:fr (.val b d)=!b:=rfl
@[simp]theorem afY{b:Bool}{d:List D}:fr (.own b d)=!b:=rfl
@[simp]theorem ac6{d:List D}:fr (.lent d)=a_:=rfl
theorem UL(ρ:List Sl)(i:Nat)(s:Sl):put ρ i s=match ρ[i]?with|some t=>if fr t=cq then aU (ρ.set i s)else cr|none=>cr:=by unfold put;cases h:ρ[i]?with|none=>rfl|some t=>cases t with|aX=>rfl|val b d=>cases b<;>rfl|own b d=>cases b<;>rfl|lent d=>rfl|ie m=>rfl|cU m=>rfl|hold m=>rfl
theorem Jm{Γ:Tab}{w i:Nat}{d:Fd}{args:List Sl}(h:Γ i=aU d):run Γ w (n+1) i args=enter (run Γ w n) w d args:=by rw[run,h]
noncomputable def fin(np:Nat):Fl->List Sl->Option (R×List Sl)|.next,ρ=>aU (.val .non,ρ.take np)|.ret r,ρ=>aU (r,ρ.take np)|_,_=>cr
noncomputable def eQ(np:Nat)(Q:R->List Sl->Prop)(fl:Fl)(ρ:List Sl):Prop:=match fl with|.next=>Q (.val .non) (ρ.take np)|.ret r=>Q r (ρ.take np)|_=>False
noncomputable def sQ(c:Call)(n:Nat)(r:List S)(Q:Fl->List Sl->Prop)(fl:Fl)(ρ:List Sl):Prop:=match fl with|.next=>(iG c n r ρ).sat Q|fl=>Q fl ρ
noncomputable def fQ(J:List Sl->Prop)(Q:Fl->List Sl->Prop)(fl:Fl)(ρ:List Sl):Prop:=match fl with|.next=>J ρ|.cont=>J ρ|.brk=>Q .next ρ|.ret v=>Q (.ret v) ρ
section
variable{np:Nat}{Q:R->List Sl->Prop}{ρ:List Sl}{v:R}{c:Call}{n:Nat}{r:List S}{Q':Fl->List Sl->Prop}{J:List Sl->Prop}
@[simp]theorem acf:eQ np Q .next ρ=Q (.val .non) (ρ.take np):=rfl
@[simp]theorem afZ:eQ np Q (.ret v) ρ=Q v (ρ.take np):=rfl
@[simp]theorem aeR:eQ np Q .brk ρ=False:=rfl
@[simp]theorem ab1:eQ np Q .cont ρ=False:=rfl
@[simp]theorem acG:sQ c n r Q' .next ρ=(iG c n r ρ).sat Q':=rfl
@[simp]theorem ad3:sQ c n r Q' (.ret v) ρ=Q' (.ret v) ρ:=rfl
@[simp]theorem aft:sQ c n r Q' .brk ρ=Q' .brk ρ:=rfl
@[simp]theorem acs:sQ c n r Q' .cont ρ=Q' .cont ρ:=rfl
@[simp]theorem abB:fQ J Q' .next ρ=J ρ:=rfl
@[simp]theorem abP:fQ J Q' .cont ρ=J ρ:=rfl
@[simp]theorem aeo:fQ J Q' .brk ρ=Q' .next ρ:=rfl
@[simp]theorem aeG:fQ J Q' (.ret v) ρ=Q' (.ret v) ρ:=rfl
end
theorem Hj{d:Fd}{args:List Sl}{Q:R->List Sl->Prop}(a:args.length=d.np)(hd:d.np<=d.nn)(h:(iG c n d.body (args++cE (d.nn-d.np) .aX)).sat (eQ d.np Q)):(enter c n d args).sat Q:=by unfold enter;rw[if_pos ⟨a,hd⟩];revert h;cases iG c n d.body (args++cE (d.nn-d.np) .aX)with|stuck=>exact λh=>fR h|exc _ _=>exact λh=>fR h|ok fl ρ=>cases fl<;>first|exact id|exact λh=>fR h
theorem aM{Γ:Tab}{w i:Nat}{d:Fd}{args:List Sl}{Q:R->List Sl->Prop}(a:Γ i=aU d)(b:args.length=d.np)(hd:d.np<=d.nn)(h:(iG (run Γ w n) w d.body (args++cE (d.nn-d.np) .aX)).sat (eQ d.np Q)):(run Γ w (n+1) i args).sat Q:=by rw[Jm a];exact Hj b hd h
theorem ak{s:S}{r:List S}{Q:Fl->List Sl->Prop}(h:(ex c n s ρ).sat (sQ c n r Q)):(iG c n (s::r) ρ).sat Q:=by rw[T7,bU];refine h.imp λfl a q=>?_;cases fl<;>exact q
theorem G9{s:S}{r:List S}{Q:Fl->List Sl->Prop}(h:(ex c n s ρ).sat (sQ c n r Q)):sQ c n (s::r) Q .next ρ:=ak h
@[simp]theorem aca{c:Call}{n:Nat}{ρ:List Sl}{Q:Fl->List Sl->Prop}:(iG c n [] ρ).sat Q=Q .next ρ:=by rw[xs0];rfl
theorem fC{s:S}{r:List S}{Q:Fl->List Sl->Prop}(M:List Sl->Prop)(h:(ex c n s ρ).sat λfl a=>fl=.next/\M a)(k:∀a,M a->(iG c n r a).sat Q):(iG c n (s::r) ρ).sat Q:=ak (h.imp λfl a⟨e,q⟩=>by subst e;exact k a q)
theorem dj{is:List Nat}{one:Bool}{body:List Sl->Res Fl}(J:List D->List Sl->Prop){Q:Fl->List Sl->Prop}(b:∀d r ρ,J (d::r) ρ->∃a,cP ρ is one d=aU a/\(body a).sat (fQ (J r) Q))(f:∀ρ,J [] ρ->Q .next ρ):∀{ds:List D}{ρ:List Sl},J ds ρ->(jl is one body ds ρ).sat Q|[],ρ,j=>f ρ j|d::r,ρ,j=>by obtain⟨a,e,h⟩:=b d r ρ j;rw[CG,e];show((body a).bind _).sat Q;rw[bU];refine h.imp λfl g q=>?_;cases fl with|next=>exact dj J b f q|cont=>exact dj J b f q|brk=>exact q|ret v=>exact q
theorem lN{is:List Nat}{one:Bool}{a:List Sl->Res Bool}{p:Ev}(J:List Sl->Prop)(g:D->Option D){Q:List D->List Sl->Prop}:∀{ds f:List D}{ρ:List Sl},J ρ->(∀ d,d ∈ ds->∀ ρ,J ρ->∃ i,cP ρ is one d=aU i/\(a i).sat λb l=>if b=cq then(p l).sat λr s=>g d=aU r.d/\J s else g d=cr/\J l)->(∀ ρ,J ρ->Q (f++ds.filterMap g) ρ)->(turns is one a p ds f ρ).sat Q|[],f,ρ,j,h,k=>by rw[xY];simpa using k ρ j|d::r,f,ρ,j,h,k=>by obtain⟨i,e,h1⟩:=h d (by simp) ρ j;rw[xr,e];show((a i).bind _).sat Q;rw[bU];refine h1.imp λb l q=>?_;cases b with|true=>rw[if_pos rfl]at q;rw[if_pos rfl,bU];refine q.imp λx s⟨u,j3⟩=>?_;refine lN J g j3 (λd' m=>h d' (by simp[m])) λo t=>?_;have:=k o t;rw[je,u]at this;rw[fK];exact this|false=>rw[if_neg (by simp)]at q;rw[if_neg (by simp)];refine lN J g q.2 (λd' m=>h d' (by simp[m])) λo t=>?_;have:=k o t;rw[je,q.1]at this;exact this
theorem BZ{one:Bool}{b:Ev}(J:List Sl->Prop)(g:D->D){Q:List D->List Sl->Prop}(j:J ρ)(h:∀d,d∈ds->∀ρ,J ρ->∃a,cP ρ is one d=aU a/\(b a).sat λr f=>g d=r.d/\J f)(k:∀ρ,J ρ->Q (ds.map g) ρ):(turns is one (qg c cr) b ds [] ρ).sat Q:=lN J (λd=>aU (g d)) j (λd hd ρ j=>by obtain⟨a,e,h1⟩:=h d hd ρ j;refine⟨a,e,?_⟩;rw[qg,Wz,if_pos rfl];exact h1.imp λr f q=>⟨by rw[q.1],q.2⟩) λρ j=>by simpa using k ρ j
section
variable{ρ l:List Sl}{a:Sl}{i j:Int}{k m:Nat}{b b':Bool}{s:Str}{d:D}{ds es:List D}{e f:Ev}{x:Option Sl}{c:Call}
@[simp]theorem Vw:du .int .non=a_:=rfl
@[simp]theorem XM:du .int (.bl b)=cq:=rfl
@[simp]theorem Vp:du .int (.int i)=cq:=rfl
@[simp]theorem Vn:du .int (.str s)=a_:=rfl
@[simp]theorem Ue:du .int (.tup ds)=a_:=rfl
@[simp]theorem Tj:du .int (.lst ds)=a_:=rfl
@[simp]theorem Ry:du .bool .non=a_:=rfl
@[simp]theorem Tu:du .bool (.bl b)=cq:=rfl
@[simp]theorem RM:du .bool (.int i)=a_:=rfl
@[simp]theorem Rp:du .bool (.str s)=a_:=rfl
@[simp]theorem QV:du .bool (.tup ds)=a_:=rfl
@[simp]theorem QR:du .bool (.lst ds)=a_:=rfl
@[simp]theorem Wu:du .str .non=a_:=rfl
@[simp]theorem Yv:du .str (.bl b)=a_:=rfl
@[simp]theorem V8:du .str (.int i)=a_:=rfl
@[simp]theorem Vk:du .str (.str s)=cq:=rfl
@[simp]theorem U7:du .str (.tup ds)=a_:=rfl
@[simp]theorem SM:du .str (.lst ds)=a_:=rfl
@[simp]theorem Oq:du .tuple .non=a_:=rfl
@[simp]theorem RJ:du .tuple (.bl b)=a_:=rfl
@[simp]theorem Ni:du .tuple (.int i)=a_:=rfl
@[simp]theorem Qk:du .tuple (.str s)=a_:=rfl
@[simp]theorem Nt:du .tuple (.tup ds)=cq:=rfl
@[simp]theorem Qj:du .tuple (.lst ds)=a_:=rfl
@[simp]theorem Rm:du .list .non=a_:=rfl
@[simp]theorem TF:du .list (.bl b)=a_:=rfl
@[simp]theorem Rh:du .list (.int i)=a_:=rfl
@[simp]theorem RT:du .list (.str s)=a_:=rfl
@[simp]theorem QX:du .list (.tup ds)=a_:=rfl
@[simp]theorem RK:du .list (.lst ds)=cq:=rfl
@[simp]theorem Q7:du .none .non=cq:=rfl
@[simp]theorem T3:du .none (.bl b)=a_:=rfl
@[simp]theorem RV:du .none (.int i)=a_:=rfl
@[simp]theorem RZ:du .none (.str s)=a_:=rfl
@[simp]theorem RG:du .none (.tup ds)=a_:=rfl
@[simp]theorem Rc:du .none (.lst ds)=a_:=rfl
@[simp]theorem XJ:jU .non=cq:=rfl
@[simp]theorem Z4:jU (.bl b)=a_:=rfl
@[simp]theorem Xx:jU (.int i)=a_:=rfl
@[simp]theorem YB:jU (.str s)=a_:=rfl
@[simp]theorem Yb:jU (.tup ds)=a_:=rfl
@[simp]theorem YL:jU (.lst ds)=a_:=rfl
@[simp]theorem ZP:flat .non=cq:=rfl
@[simp]theorem acw:flat (.bl b)=cq:=rfl
@[simp]theorem zy:flat (.int i)=cq:=rfl
@[simp]theorem Zw:flat (.str s)=cq:=rfl
@[simp]theorem aaC:flat (.tup ds)=a_:=rfl
@[simp]theorem aa1:flat (.lst ds)=a_:=rfl
@[simp]theorem aez:(R.val d).d=d:=rfl
@[simp]theorem afk:(R.own ds).d=.lst ds:=rfl
@[simp]theorem ZL:Ax (.val d)=.val a_ d:=rfl
@[simp]theorem Zf:Ax (.own ds)=.own a_ ds:=rfl
@[simp]theorem Xm:vy (.val d)=.dat d:=rfl
@[simp]theorem Xp:vy (.own ds)=.tmp ds:=rfl
@[simp]theorem abG:gB (.int i)=aU i:=rfl
@[simp]theorem aeK:Bs (.bl b)=aU b:=rfl
@[simp]theorem G4:items (.lst ds)=aU ds:=rfl
@[simp]theorem vU:items (.tup ds)=aU ds:=rfl
@[simp]theorem VN:T5 (.tup ds)=aU ds:=rfl
@[simp]theorem W3:Cj (.lst ds)=aU ds:=rfl
@[simp]theorem abz:nT .add=tV:=rfl
@[simp]theorem acb:nT .sub=yU:=rfl
@[simp]theorem abS:nT .mul=p7:=rfl
@[simp]theorem Zk:nT .fdiv=rW:=rfl
@[simp]theorem ab9:nT .mod=Ad:=rfl
@[simp]theorem ab3:nT .pow=zR:=rfl
@[simp]theorem YC:tV (.int i) (.int j)=aU (.val (.int (i+j))):=rfl
@[simp]theorem Xn:tV (.lst ds) (.lst es)=if ds.length+es.length<=lim then aU (.own (ds++es))else cr:=rfl
@[simp]theorem Xg:tV (.tup ds) (.tup es)=if ds.length+es.length<=lim then aU (.val (.tup (ds++es)))else cr:=rfl
@[simp]theorem Yr:yU (.int i) (.int j)=aU (.val (.int (i-j))):=rfl
@[simp]theorem Xz:p7 (.int i) (.int j)=if((-18446744073709551616<i/\i<18446744073709551616)\/(-18446744073709551616<j/\j<18446744073709551616))then aU (.val (.int (i*j)))else cr:=rfl
@[simp]theorem Tn:rW (.int i) (.int j)=if 0<j/\j<1606938044258990275541962092341162602522202993782792835301376 then aU (.val (.int (i/j)))else cr:=rfl
@[simp]theorem Yl:Ad (.int i) (.int j)=if 0<j then aU (.val (.int (i%j)))else cr:=rfl
@[simp]theorem Yy:zR (.int i) (.int j)=if 0<=j/\j<=1000/\i.natAbs<18446744073709551616 then aU (.val (.int (i^j.toNat)))else cr:=rfl
@[simp]theorem acu:M4 (.lst ds) (.int i)=(at' ds i).map .val:=rfl
@[simp]theorem ac0:M4 (.tup ds) (.int i)=(at' ds i).map .val:=rfl
@[simp]theorem aay:J2 (.int i)=aU (.val (.int (-i))):=rfl
@[simp]theorem Xl:cm .eq (.int i) (.int j)=aU (i==j):=rfl
@[simp]theorem XR:cm .ne (.int i) (.int j)=aU (!(i==j)):=rfl
@[simp]theorem aaF:cm .eq (.bl b) (.bl b')=aU (b==b'):=rfl
@[simp]theorem ZD:cm .ne (.bl b) (.bl b')=aU (!(b==b')):=rfl
@[simp]theorem YD:cm .lt (.int i) (.int j)=aU (decide (i<j)):=rfl
@[simp]theorem Xk:cm .le (.int i) (.int j)=aU (decide (i<=j)):=rfl
@[simp]theorem Yo:cm .gt (.int i) (.int j)=aU (decide (j<i)):=rfl
@[simp]theorem Xo:cm .ge (.int i) (.int j)=aU (decide (j<=i)):=rfl
@[simp]theorem afy:cm .isN d .non=aU (jU d):=rfl
@[simp]theorem abD:cm .QD d .non=aU (!jU d):=rfl
@[simp]theorem Q4:blt .len [.lst ds]=aU (.val (.int ds.length)):=rfl
@[simp]theorem Rq:blt .len [.tup ds]=aU (.val (.int ds.length)):=rfl
@[simp]theorem O5:blt .list [.lst ds]=aU (.own ds):=rfl
@[simp]theorem Qe:blt .list [.tup ds]=aU (.own ds):=rfl
@[simp]theorem M3:blt .tuple [.lst ds]=aU (.val (.tup ds)):=rfl
@[simp]theorem MJ:blt .tuple [.tup ds]=aU (.val (.tup ds)):=rfl
@[simp]theorem aaa:blt .min2 [.int i,.int j]=aU (.val (.int (if j<i then j else i))):=rfl
@[simp]theorem Zx:blt .max2 [.int i,.int j]=aU (.val (.int (if i<j then j else i))):=rfl
@[simp]theorem acj:blt .all [.lst ds]=(ds.mapM Bs).map λbs=>.val (.bl (bs.all id)):=rfl
@[simp]theorem Xv:isVar (.var k)=aU k:=rfl
@[simp]theorem abT:pk (a::l) k=match(a::l)[k]?with|some (.val _ d)=>aU d|some (.own _ ds)=>aU (.lst ds)|some (.lent ds)=>aU (.lst ds)|_=>cr:=rfl
@[simp]theorem aax:HQ (a::l) k=match pk (a::l) k with|some (.lst ds)=>aU ds|_=>cr:=rfl
@[simp]theorem Ze:bW (aU k) e ρ=lift (pk ρ k) ρ:=rfl
@[simp]theorem aaU:bW cr e ρ=(e ρ).bind λr ρ=>.ok r.d ρ:=rfl
@[simp]theorem Xf{y:Option Nat}:gq (aU k) e y f ρ=(lift (pk ρ k) ρ).bind λ_ ρ=>(bW y f ρ).bind λy ρ=>(lift (pk ρ k) ρ).bind λx ρ=>.ok (x,y) ρ:=rfl
@[simp]theorem Yj{y:Option Nat}:gq cr e y f ρ=(bW cr e ρ).bind λx ρ=>(bW y f ρ).bind λy ρ=>.ok (x,y) ρ:=rfl
@[simp]theorem Yk{es:List D}:eG (.own b ds) (aU (.own b' es))=.own b es:=rfl
@[simp]theorem YS:eG (.own b ds) (aU (.val b' d))=.val b d:=rfl
@[simp]theorem JL:eG a cr=a:=by cases a<;>rfl
@[simp]theorem GZ:eG (.val b d) x=.val b d:=by cases x<;>rfl
@[simp]theorem YJ:eG .aX x=.aX:=by cases x<;>rfl
@[simp]theorem Cd:eG (.lent ds) x=.lent ds:=by cases x<;>rfl
@[simp]theorem aaH:cP ρ [k] cq d=put ρ k (.val a_ d):=rfl
@[simp]theorem YQ{is:List Nat}:cP ρ is a_ (.tup ds)=putAll ρ is ds:=by cases is<;>rfl
@[simp]theorem Tr:srcOf cr e ρ=(e ρ).bind λr ρ=>lift (items r.d) ρ:=rfl
@[simp]theorem Vr:srcOf (aU k) e (a::l)=match(a::l)[k]?with|some (.val _ d)=>lift (items d) (a::l)|some (.own _ ds)=>.ok ds ((a::l).set k (.lent ds))|some (.lent ds)=>.ok ds (a::l)|_=>.stuck:=rfl
@[simp]theorem RQ{g:List Sl}:bA g cr ρ=ρ:=rfl
@[simp]theorem R1:bA (a::l) (aU k) ρ=match(a::l)[k]?with|some (.own b ds)=>ρ.set k (.own b ds)|_=>ρ:=rfl
@[simp]theorem aaQ{s:Sl}:put (a::l) k s=match(a::l)[k]?with|some t=>if fr t=cq then aU ((a::l).set k s)else cr|none=>cr:=UL ..
@[simp]theorem Wd:putAll ρ [] []=aU ρ:=rfl
@[simp]theorem Rb{is:List Nat}:putAll ρ (k::is) (d::ds)=(put ρ k (.val a_ d)).bind λρ=>putAll ρ is ds:=rfl
end
@[simp]theorem at_0{a:Type}{b:a}{l:List a}:at' (b::l) 0=aU b:=by unfold at' jE;rw[if_pos (by decide),if_pos (by simp only[eI];omega)];rfl
@[simp]theorem at_1{a:Type}{e b:a}{l:List a}:at' (e::b::l) 1=aU b:=by unfold at' jE;rw[if_pos (by decide),if_pos (by simp only[eI];omega)];rfl
@[simp]theorem at_2{a:Type}{e f b:a}{l:List a}:at' (e::f::b::l) 2=aU b:=by unfold at' jE;rw[if_pos (by decide),if_pos (by simp only[eI];omega)];rfl
@[simp]theorem at_3{a:Type}{e f g b:a}{l:List a}:at' (e::f::g::b::l) 3=aU b:=by unfold at' jE;rw[if_pos (by decide),if_pos (by simp only[eI];omega)];rfl
@[simp]theorem at_4{a:Type}{e f g h b:a}{l:List a}:at' (e::f::g::h::b::l) 4=aU b:=by unfold at' jE;rw[if_pos (by decide),if_pos (by simp only[eI];omega)];rfl
@[simp]theorem at_5{a:Type}{e f g h i b:a}{l:List a}:at' (e::f::g::h::i::b::l) 5=aU b:=by unfold at' jE;rw[if_pos (by decide),if_pos (by simp only[eI];omega)];rfl
@[simp]theorem at_6{a:Type}{e f g h i j b:a}{l:List a}:at' (e::f::g::h::i::j::b::l) 6=aU b:=by unfold at' jE;rw[if_pos (by decide),if_pos (by simp only[eI];omega)];rfl
@[simp]theorem at_7{a:Type}{e f g h i j k b:a}{l:List a}:at' (e::f::g::h::i::j::k::b::l) 7=aU b:=by unfold at' jE;rw[if_pos (by decide),if_pos (by simp only[eI];omega)];rfl
theorem su{a:Type}{l:List a}{i:Int}(h:0<=i)(h':i<l.length):at' l i=l[i.toNat]?:=by unfold at' jE;rw[if_pos h,if_pos h'];rfl
theorem J0{a:Type}{l:List a}{k:Nat}(h':k<l.length):at' l (k:Int)=l[k]?:=by rw[su (by omega) (by omega)];simp
@[simp]theorem YM{d:D}:isVar (.con d)=cr:=rfl
@[simp]theorem Yu{o:Op}{p q:P}:isVar (.bin o p q)=cr:=rfl
@[simp]theorem Yp{p:P}:isVar (.neg p)=cr:=rfl
@[simp]theorem Yc{p:P}:isVar (.not p)=cr:=rfl
@[simp]theorem Yq{p q:P}:isVar (.and p q)=cr:=rfl
@[simp]theorem aaK{p q:P}:isVar (.or p q)=cr:=rfl
@[simp]theorem Yx{o:Cm}{p q:P}:isVar (.cmp o p q)=cr:=rfl
@[simp]theorem Q0{o a:Cm}{p q r:P}:isVar (.chain o a p q r)=cr:=rfl
@[simp]theorem Ym{p q r:P}:isVar (.M8 p q r)=cr:=rfl
@[simp]theorem Ye{as:List P}:isVar (.tup as)=cr:=rfl
@[simp]theorem Yh{as:List P}:isVar (.lst as)=cr:=rfl
@[simp]theorem Ys{p q:P}:isVar (.idx p q)=cr:=rfl
@[simp]theorem RN{p q r:P}:isVar (.slice p q r)=cr:=rfl
@[simp]theorem Uu{f:Nat}{as:List P}:isVar (.call f as)=cr:=rfl
@[simp]theorem Xh{b:Blt}{as:List P}:isVar (.blt b as)=cr:=rfl
@[simp]theorem Ul{p e:P}{n:Nat}{is:List Nat}{one:Bool}{t:Option P}:isVar (.comp p n is one t e)=cr:=rfl
@[simp]theorem XH{p q:P}:isVar (.qC p q)=cr:=rfl
@[simp]theorem Xy{p:P}:isVar (.enm p)=cr:=rfl
@[simp]theorem Yn{p q:P}:isVar (.zip p q)=cr:=rfl
noncomputable def oR(c:Call)(is:List Nat)(one:Bool)(a:Option P)(b:P)(ds:List D)(ρ:List Sl):Res (List D):=turns is one (qg c a) (ev c b) ds [] ρ
@[simp]theorem acR{c:Call}{src f:P}{n:Nat}{is:List Nat}{one:Bool}{b:Option P}{ρ:List Sl}:ev c (.comp src n is one b f) ρ=(srcOf (isVar src) (ev c src) ρ).bind λds a=>if ds.length<=lim then(oR c is one b f ds (a++cE n .aX)).bind λxs e=>.ok (.own xs) (bA ρ (isVar src) (e.take a.length))else .stuck:=(rfl)
noncomputable def Im(c:Call)(n:Nat)(t:P)(body:List S)(k:Nat)(ρ:List Sl):Res Fl:=ug (lO (ev c t)) (iG c n body) k ρ
@[simp]theorem afR{c:Call}{n:Nat}{t:P}{body:List S}{ρ:List Sl}:ex c n (.whl t body) ρ=Im c n t body n ρ:=(rfl)
theorem xV{b e h:Type}{x:Res e}{f:e->List Sl->Res b}{g:b->List Sl->Res h}:(x.bind f).bind g=x.bind λa ρ=>(f a ρ).bind g:=by cases x<;>rfl
@[simp]theorem ad9{Γ:Tab}{w n i:Nat}{args:List Sl}{b:Type}{f:R->List Sl->Res b}{Q:b->List Sl->Prop}:((run Γ w n i args).bind f).sat Q=(run Γ w n i args).sat λa ρ=>(f a ρ).sat Q:=bU
@[simp]theorem adR{Γ:Tab}{w n i:Nat}{args:List Sl}{b e:Type}{f:R->List Sl->Res b}{g:b->List Sl->Res e}:((run Γ w n i args).bind f).bind g=(run Γ w n i args).bind λa ρ=>(f a ρ).bind g:=xV
@[simp]theorem abR{c:Call}{is:List Nat}{one:Bool}{b:Option P}{e:P}{ds:List D}{ρ:List Sl}{g:Type}{f:List D->List Sl->Res g}{Q:g->List Sl->Prop}:((oR c is one b e ds ρ).bind f).sat Q=(oR c is one b e ds ρ).sat λa ρ=>(f a ρ).sat Q:=bU
@[simp]theorem aci{c:Call}{is:List Nat}{one:Bool}{b:Option P}{e:P}{ds:List D}{ρ:List Sl}{h i:Type}{f:List D->List Sl->Res h}{g:h->List Sl->Res i}:((oR c is one b e ds ρ).bind f).bind g=(oR c is one b e ds ρ).bind λa ρ=>(f a ρ).bind g:=xV
@[simp]theorem afb{is:List Nat}{one:Bool}{b:List Sl->Res Fl}{ds:List D}{ρ:List Sl}{e:Type}{f:Fl->List Sl->Res e}{Q:e->List Sl->Prop}:((jl is one b ds ρ).bind f).sat Q=(jl is one b ds ρ).sat λa ρ=>(f a ρ).sat Q:=bU
@[simp]theorem acE{b e:Type}{p:Prop}[Decidable p]{a:e}{ρ:List Sl}{f:e->List Sl->Res b}{Q:b->List Sl->Prop}:((lift (if p then aU a else cr) ρ).bind f).sat Q=(p/\(f a ρ).sat Q):=by by_cases h:p<;>simp[h,lift,Res.bind]
@[simp]theorem acd{b e h:Type}{p:Prop}[Decidable p]{a:e}{ρ:List Sl}{f:e->List Sl->Res b}{g:b->List Sl->Res h}:((lift (if p then aU a else cr) ρ).bind f).bind g=(lift (if p then aU a else cr) ρ).bind λa ρ=>(f a ρ).bind g:=xV
@[simp]theorem bb_ite{b a:Type}{p:Prop}[Decidable p]{x y:Res a}{f:a->List Sl->Res b}:(if p then x else y).bind f=if p then x.bind f else y.bind f:=by by_cases h:p<;>simp[h]
@[simp]theorem afr{c:Call}{n k:Nat}{t:P}{b:List S}{ρ:List Sl}{e:Type}{f:Fl->List Sl->Res e}{Q:e->List Sl->Prop}:((Im c n t b k ρ).bind f).sat Q=(Im c n t b k ρ).sat λa ρ=>(f a ρ).sat Q:=bU
@[simp]theorem adO{b e:Type}{a:b}{ρ:List Sl}{f:b->List Sl->Res e}:(Res.ok a ρ).bind f=f a ρ:=rfl
@[simp]theorem Yi{a b:Type}{f:a->List Sl->Res b}:(Res.stuck:Res a).bind f=.stuck:=rfl
@[simp]theorem Zy{b:Type}{a:b}{ρ:List Sl}:lift (aU a) ρ=.ok a ρ:=rfl
@[simp]theorem Y6{a:Type}{ρ:List Sl}:lift (cr:Option a) ρ=.stuck:=rfl
noncomputable def HR:List Sl->Nat->Sl->List Sl|[],_,_=>[]|t::ρ,0,s=>eG t (aU s)::ρ|t::ρ,k+1,s=>t::HR ρ k s
theorem uh{k:Nat}{s:Sl}:HR [] k s=[]:=rfl
theorem uv{t:Sl}{ρ:List Sl}{s:Sl}:HR (t::ρ) 0 s=eG t (aU s)::ρ:=rfl
theorem tM{t:Sl}{ρ:List Sl}{k:Nat}{s:Sl}:HR (t::ρ) (k+1) s=t::HR ρ k s:=rfl
noncomputable def bk:List Arg->List Sl->List Sl->List Sl|.fX k::as,s::ss,ρ=>bk as ss (HR ρ k s)|.dat _::as,_::ss,ρ=>bk as ss ρ|.tmp _::as,_::ss,ρ=>bk as ss ρ|_,_,ρ=>ρ
section
variable{t s:Sl}{ρ ss:List Sl}{k:Nat}{as:List Arg}{d:D}{ds:List D}
@[simp]theorem ahn:HR (t::ρ) 0 s=eG t (aU s)::ρ:=rfl
@[simp]theorem ahl:HR (t::ρ) (k+1) s=t::HR ρ k s:=rfl
@[simp]theorem Wq:bk (.fX k::as) (s::ss) ρ=bk as ss (HR ρ k s):=rfl
@[simp]theorem VB:bk (.dat d::as) (s::ss) ρ=bk as ss ρ:=rfl
@[simp]theorem W2:bk (.tmp ds::as) (s::ss) ρ=bk as ss ρ:=rfl
@[simp]theorem afX:bk [] ss ρ=ρ:=rfl
end
theorem CN{s:Sl}:∀{ρ:List Sl}{k j:Nat},(HR ρ k s)[j]?=(ρ[j]?).map λt=>if j=k then eG t (aU s)else t|[],_,_=>by simp[uh,uv,tM]|t::ρ,0,0=>by simp[uh,uv,tM]|t::ρ,0,j+1=>by simp[uh,uv,tM]|t::ρ,k+1,0=>by simp[uh,uv,tM]|t::ρ,k+1,j+1=>by have:=CN (s:=s) (ρ:=ρ) (k:=k) (j:=j);simp only[uh,uv,tM,ll,this];congr 1;funext t;simp
theorem yG{as:List Arg}{ss:List Sl}:∀{ρ:List Sl}{i j:Nat},(fu as ss i ρ)[j]?=(ρ[j]?).map λt=>eG t (aY (i+j) as ss)|[],_,_=>by simp[sH,mW]|t::ρ,i,0=>by simp[sH,mW]|t::ρ,i,j+1=>by have:=yG (as:=as) (ss:=ss) (ρ:=ρ) (i:=i+1) (j:=j);simp only[sH,mW,ll,this];rw[show i+1+j=i+(j+1)by omega]
noncomputable def stb(t:Sl):Prop:=∀x,eG t x=t
noncomputable def Wv(ρ:List Sl):List Arg->Prop|[]=>True|.fX k::as=>(Arg.fX k∈as->∀t,ρ[k]?=aU t->stb t)/\Wv ρ as|_::as=>Wv ρ as
theorem rF{ρ:List Sl}:∀{as:List Arg}{a:List Sl},Wv ρ as->(∀k,Arg.fX k∈as->∀t,a[k]?=aU t->ρ[k]?=aU t\/stb t)->Wv a as
 |[],_,_,_=>trivial|.fX k::as,a,h,g=>⟨λf t ht=>by
  rcases g k (by simp) t ht with e|e;.exact h.1 f t e
  .exact e,rF h.2 λj b=>g j (by simp[b])⟩|.dat _::as,a,h,g=>rF (as:=as) h λj b=>g j (by simp[b])|.tmp _::as,a,h,g=>rF (as:=as) h λj b=>g j (by simp[b])
theorem oO{k:Nat}:∀{as:List Arg}{ss:List Sl},Arg.fX k∉as->aY k as ss=cr|[],_,_=>by unfold aY;rfl|.fX j::as,[],_=>rfl|.dat _::as,[],_=>rfl|.tmp _::as,[],_=>rfl|.fX j::as,s::ss,h=>by simp only[da,Arg.fX.injEq,not_or]at h;rw[aY,if_neg (λe=>h.1 e.symm),oO h.2]|.dat _::as,s::ss,h=>by simp only[da,not_or]at h;rw[aY,oO h.2]|.tmp _::as,s::ss,h=>by simp only[da,not_or]at h;rw[aY,oO h.2]
theorem Eo:∀{as:List Arg}{ss ρ:List Sl},Wv ρ as->∀j,(bk as ss ρ)[j]?=(ρ[j]?).map λt=>eG t (aY j as ss)
 |[],ss,ρ,_,j=>by cases ss<;>simp[aY]|.fX k::as,[],ρ,_,j=>by rw[show bk (.fX k::as) [] ρ=ρ from rfl];simp[aY]|.dat d::as,[],ρ,_,j=>by rw[show bk (.dat d::as) [] ρ=ρ from rfl];simp[aY]|.tmp d::as,[],ρ,_,j=>by rw[show bk (.tmp d::as) [] ρ=ρ from rfl];simp[aY]|.dat _::as,s::ss,ρ,h,j=>by rw[VB,aY];exact Eo (as:=as) h j|.tmp _::as,s::ss,ρ,h,j=>by rw[W2,aY];exact Eo (as:=as) h j|.fX k::as,s::ss,ρ,h,j=>by
   have b:Wv (HR ρ k s) as:=rF h.2 λi hi t ht=>by rw[CN]at ht;cases e:ρ[i]?with|none=>rw[e]at ht;cases ht|some t0=>
      rw[e]at ht;by_cases c:i=k;.subst c;have hs:=h.1 hi t0 e;simp[hs (aU s)]at ht;exact .inl (by rw[ht])
      .simp[c]at ht;exact .inl (by rw[ht])
   rw[Wq,Eo b j,CN,aY];cases e:ρ[j]?with|none=>rfl|some t0=>
     simp only[kx];by_cases c:j=k
     . subst c;rw[if_pos rfl,if_pos rfl];by_cases a:Arg.fX j∈as;.have hs:=h.1 a t0 e;rw[hs (aU s),hs]
       .rw[oO a,JL]
     .rw[if_neg c,if_neg (λz=>c z.symm)]
theorem gD{ρ:List Sl}{k:Nat}{b:Bool}{ds:List D}(e:ρ[k]?=aU (.own b ds)):∀{as:List Arg}{u:List Nat}{r:List Sl},k∈u->cj ρ as u=aU r->Arg.fX k∉as
 |[],_,_,_,_=>by simp|.dat _::as,u,r,hu,h=>by simp only[Ar,CP,CK,uf,f_]at h;obtain⟨a,h,_⟩:=h;simp[gD e hu h]|.tmp _::as,u,r,hu,h=>by simp only[Ar,CP,CK,uf,f_]at h;obtain⟨a,h,_⟩:=h;simp[gD e hu h]|.fX i::as,u,r,hu,h=>by
   rw[uf]at h;have hi:i≠k:=by rintro rfl;rw[e]at h;simp[hu]at h
   have:Arg.fX k∉as:=by
    split at h;.obtain⟨a,h,_⟩:=f_.mp h;exact gD e hu h
    . split at h;.cases h
      .obtain⟨a,h,_⟩:=f_.mp h;exact gD e (by simp[hu]) h
    . split at h;.cases h
      .obtain⟨a,h,_⟩:=f_.mp h;exact gD e (by simp[hu]) h
    .cases h
   simp[this];exact λz=>hi z.symm
theorem gF{ρ:List Sl}:∀{as:List Arg}{u:List Nat}{r:List Sl},cj ρ as u=aU r->Wv ρ as
 |[],_,_,_=>trivial|.dat _::as,u,r,h=>by obtain⟨a,h,_⟩:=f_.mp h;exact gF (as:=as) h|.tmp _::as,u,r,h=>by obtain⟨a,h,_⟩:=f_.mp h;exact gF (as:=as) h|.fX i::as,u,r,h=>by
   rw[uf]at h;split at h;.rename_i b d q;obtain⟨a,h,_⟩:=f_.mp h;exact⟨λ_ t ht=>by rw[q]at ht;cases ht;exact λx=>GZ,gF h⟩
   . rename_i b ds q;split at h;.cases h
     .obtain⟨a,h,_⟩:=f_.mp h;exact⟨λe=>absurd e (gD q (by simp) h),gF h⟩
   . rename_i ds q;split at h;.cases h
     .obtain⟨a,h,_⟩:=f_.mp h;exact⟨λ_ t ht=>by rw[q]at ht;cases ht;exact λx=>Cd,gF h⟩
   .cases h
theorem aaj{as:List Arg}{ss r:List Sl}{u:List Nat}(h:cj ρ as u=aU r):fu as ss 0 ρ=bk as ss ρ:=by apply ny;intro j;rw[yG,Eo (gF h),rk]
@[simp]theorem XS{c:Call}{k:Nat}{as:List Arg}{ρ:List Sl}:sZ c k as ρ=match cj ρ as []with|none=>.stuck|some args=>(c k args).bind λr a=>.ok r (bk as a ρ):=by unfold sZ;cases e:cj ρ as []with|none=>rfl|some args=>simp only[<-aaj (r:=args) e];cases c k args<;>rfl
theorem bC{one:Bool}{a:P}(J:List Sl->Prop)(g:D->D){Q:List D->List Sl->Prop}(j:J ρ)(h:∀d,d∈ds->∀ρ,J ρ->∃b,cP ρ is one d=aU b/\(ev c a b).sat λr e=>g d=r.d/\J e)(k:∀ρ,J ρ->Q (ds.map g) ρ):(oR c is one cr a ds ρ).sat Q:=BZ J g j h k
theorem fP{one:Bool}{i t:P}(J:List Sl->Prop)(g:D->Option D){Q:List D->List Sl->Prop}(j:J ρ)(h:∀d,d∈ds->∀ρ,J ρ->∃a,cP ρ is one d=aU a/\(ev c t a).sat λr f=>∃b,r.d=.bl b/\if b=cq then(ev c i f).sat λr l=>g d=aU r.d/\J l else g d=cr/\J f)(k:∀ρ,J ρ->Q (ds.filterMap g) ρ):(oR c is one (aU t) i ds ρ).sat Q:=lN J g j (λd hd ρ j=>by obtain⟨a,e,h1⟩:=h d hd ρ j;refine⟨a,e,?_⟩;rw[qg,lO,bU];refine h1.imp λr f⟨b,e,q⟩=>?_;rw[e];exact q) λρ j=>by simpa using k ρ j
theorem kE{c:Call}{n:Nat}{t:P}{body:List S}(J:Nat->List Sl->Prop){Q:Fl->List Sl->Prop}(h:∀m ρ,J m ρ->(ev c t ρ).sat λr a=>∃b,r.d=.bl b/\if b=cq then(iG c n body a).sat (fQ (λf=>∃g,g<m/\J g f) Q)else Q .next a):∀{k m:Nat}{ρ:List Sl},m<k->J m ρ->(Im c n t body k ρ).sat Q|0,m,ρ,i,_=>absurd i (Nat.not_lt_zero _)|k+1,m,ρ,i,j=>by unfold Im;rw[JV,bU,lO,bU];refine(h m ρ j).imp λr a⟨b,e,q⟩=>?_;rw[e];show(if b=cq then _ else _:Res Fl).sat Q;cases b with|false=>rw[if_neg (by simp)]at q;rw[if_neg (by simp)];exact q|true=>rw[if_pos rfl]at q;rw[if_pos rfl,bU];refine q.imp λfl f q=>?_;cases fl with|next=>obtain⟨g,l,o⟩:=q;exact kE J h (eu l (Nat.lt_succ_iff.mp i)) o|cont=>obtain⟨g,l,o⟩:=q;exact kE J h (eu l (Nat.lt_succ_iff.mp i)) o|brk=>exact q|ret v=>exact q
@[simp]theorem ag6:type_of%@_H.E1:=@_H.E1
@[simp]theorem ahJ:type_of%@_H.E2:=@_H.E2
@[simp]theorem ahp:type_of%@_H.E3:=@_H.E3
@[simp]theorem ag5:type_of%@_H.E4:=@_H.E4
@[simp]theorem ahz:type_of%@_H.E5:=@_H.E5
@[simp]theorem ahx:type_of%@_H.E6:=@_H.E6
@[simp]theorem ahM:type_of%@_H.E7:=@_H.E7
@[simp]theorem ahc:type_of%@_H.E8:=@_H.E8
@[simp]theorem adY:type_of%@_H.E9:=@_H.E9
@[simp]theorem aeQ:type_of%@_H.E10:=@_H.E10
@[simp]theorem afN:type_of%@_H.E11:=@_H.E11
@[simp]theorem adJ:type_of%@_H.E12:=@_H.E12
@[simp]theorem aeb:type_of%@_H.E13:=@_H.E13
@[simp]theorem afA:type_of%@_H.E14:=@_H.E14
@[simp]theorem ae5:type_of%@_H.E15:=@_H.E15
@[simp]theorem adN:type_of%@_H.E16:=@_H.E16
@[simp]theorem afW:type_of%@_H.E17:=@_H.E17
@[simp]theorem aeU:type_of%@_H.E18:=@_H.E18
@[simp]theorem abE:type_of%@_H.ZW:=@_H.ZW
@[simp]theorem adQ:type_of%@_H.E19:=@_H.E19
@[simp]theorem adT:type_of%@_H.E20:=@_H.E20
@[simp]theorem afq:type_of%@_H.E21:=@_H.E21
@[simp]theorem af1:type_of%@_H.E22:=@_H.E22
@[simp]theorem ahf:type_of%@_H.X1:=@_H.X1
@[simp]theorem ag7:type_of%@_H.X2:=@_H.X2
@[simp]theorem ahK:type_of%@_H.X3:=@_H.X3
@[simp]theorem ahP:type_of%@_H.X4:=@_H.X4
@[simp]theorem ahB:type_of%@_H.X5:=@_H.X5
@[simp]theorem ahv:type_of%@_H.X6:=@_H.X6
@[simp]theorem ahN:type_of%@_H.X7:=@_H.X7
@[simp]theorem ahq:type_of%@_H.X8:=@_H.X8
@[simp]theorem adF:type_of%@_H.X9:=@_H.X9
@[simp]theorem aek:type_of%@_H.X10:=@_H.X10
@[simp]theorem adS:type_of%@_H.X11:=@_H.X11
@[simp]theorem aed:type_of%@_H.X12:=@_H.X12
@[simp]theorem aeh:type_of%@_H.X13:=@_H.X13
@[simp]theorem aeW:type_of%@_H.lO.eq_1:=@_H.lO.eq_1
@[simp]theorem aev:type_of%@_H.evs.eq_1:=@_H.evs.eq_1
@[simp]theorem ae0:type_of%@_H.evs.eq_2:=@_H.evs.eq_2
@[simp]theorem ad1:type_of%@_H.Bp.eq_1:=@_H.Bp.eq_1
@[simp]theorem aeV:type_of%@_H.Bp.eq_2:=@_H.Bp.eq_2
@[simp]theorem aec:type_of%@_H.qg.eq_1:=@_H.qg.eq_1
@[simp]theorem aew:type_of%@_H.qg.eq_2:=@_H.qg.eq_2
@[simp]theorem ad8:type_of%@_H.mH.eq_1:=@_H.mH.eq_1
@[simp]theorem ZV:type_of%@_H.cj.eq_1:=@_H.cj.eq_1
@[simp]theorem Zh:type_of%@_H.cj.eq_2:=@_H.cj.eq_2
@[simp]theorem Zu:type_of%@_H.cj.eq_3:=@_H.cj.eq_3
@[simp]theorem aat:type_of%@_H.cj.eq_4:=@_H.cj.eq_4
@[simp]theorem aaY:type_of%@_H.fu.eq_1:=@_H.fu.eq_1
@[simp]theorem aai:type_of%@_H.fu.eq_2:=@_H.fu.eq_2
@[simp]theorem aaw:type_of%@_H.aY.eq_1:=@_H.aY.eq_1
@[simp]theorem Zj:type_of%@_H.aY.eq_2:=@_H.aY.eq_2
@[simp]theorem Zd:type_of%@_H.aY.eq_3:=@_H.aY.eq_3
@[simp]theorem aau:type_of%@_H.aY.eq_4:=@_H.aY.eq_4
end _H
namespace _H
open PySem _L Spec PyProof.Rows
variable{H:Hp}
section
variable{X:Cx}{c:Call}{a b:dO}{pa pb:P}{pos:Pos}
theorem nY:∀{ds:List D}{ns:List Int},ds.mapM gB=aU ns->ds=ns.map D.int|[],ns,h=>by simp at h;subst h;rfl|d::ds,ns,h=>by simp[mapM_cons,Option.bind_eq_some_iff]at h;obtain⟨i,e,g,f,rfl⟩:=h;rw[di e,nY f];rfl
theorem gU{K:PySem.W.Frag}{F:Hp}:∀{ns:List Int}{ys:List V},aF K F ys (ns.map D.int)->ys=ns.map V.int|[],ys,h=>by rw[h.fZ];rfl|n::ns,ys,h=>by obtain⟨v,r,rfl,h1,t⟩:=h.cR;rw[Rep]at h1;rw[h1,gU t];rfl
theorem nJ{ns:List Int}{f:List b_}(h:Vals (ns.map V.int) f){i:Nat}{v:b_}(e:f.toArray[i]?=aU v):∃t,v=.int (ns.getD i 0) t:=by
 have e:f[i]?=aU v:=by simpa using e
 have hi:i<f.length:=(fB e).1;have k:=h.length;rw[dy]at k;have g:(ns.map V.int)[i]?=aU (.int (ns.getD i 0)):=by rw[eL,eF (by omega)];simp[j_,show i<ns.length by omega]
 obtain⟨w,j,l⟩:=h.get g;rw[e]at j;cases j;exact l
theorem walked{h:List (cx×Obj)}{σ:_L.St}{s:cv}{p:cx}{ys:List V}(I:_L.Inv X h σ H s)(hc:X.calm=cq)(hq:eY X.K H p ys\/iD X.K H p ys){Q:b_->cv->Prop}{E:b_->cv->Prop}(k:∀(it:cx)(g:List b_)(e:cv)(St:Nat->eN->Prop),Vals ys g->vn X.prog X.w X.A.in1 it [it,p] [it] g.toArray.size (λi v=>g.toArray[i]?=aU v) St->St 0 e.heap->(∀ b ∈[it,p],b<e.heap.objs.size)->(∀h' m,(∀b o,b∉[it]->e.heap.get? b=aU o->h'.get? b=aU o)->_L.Inv X h σ H {e with heap:=h',toks:=m})->Q (.ref it) e):cK (c_ X.prog X.w) X.A.in1 (mI (.ref p)) Q E s:=by
 have r:X.A.in1.handled=cr:=I.ok.hd hc;rcases hq with hq|hq
 . obtain⟨g,n,f,hz⟩:=I.list hq;have f:=f.isList;have j:p<s.heap.objs.size:=by obtain⟨o,h1,_⟩:=f;exact dA h1
   refine ln f (k s.heap.objs.size g _ _ n (Walks.list r s.heap.objs.size p (dS j) g.toArray) ⟨⟨_,dc _ rfl,rfl,rfl⟩,?_⟩ ?_ λh' m kp=>?_);.obtain⟨o,h1,q⟩:=f;exact⟨o,dz h1,q⟩
   . intro b l;obtain⟨o,h1,_⟩:=f;simp at l;rcases l with rfl|rfl;.exact dA (dc _ rfl)
     .exact dA (dz h1)
   .exact I.kept (λb o z=>kp b o (by simp;exact dS (dA z)) (dz z))
 . obtain⟨g,n,f,hz⟩:=I.tuple hq;have j:p<s.heap.objs.size:=by obtain⟨o,h1,_⟩:=f;exact dA h1
   refine iN f (k s.heap.objs.size g _ _ n (Walks.tuple r s.heap.objs.size p (dS j) g.toArray) ⟨⟨_,dc _ rfl,rfl,rfl⟩,?_⟩ ?_ λh' m kp=>?_);.obtain⟨o,h1,q⟩:=f;exact⟨o,dz h1,q⟩
   . intro b l;obtain⟨o,h1,_⟩:=f;simp at l;rcases l with rfl|rfl;.exact dA (dc _ rfl)
     .exact dA (dz h1)
   .exact I.kept (λb o z=>kp b o (by simp;exact dS (dA z)) (dz z))
theorem qx(ns:List Int):∀k,k<=ns.length->preSum (λi=>ns.getD i 0) k=(ns.take k).sum|0,_=>by simp[preSum]|k+1,h=>by rw[preSum,qx ns k (by omega),List.take_succ,List.sum_append];simp[j_,show k<ns.length by omega]
theorem Zb(hc:X.calm=cq):dC X (.builtin "sum") (MP X.K λx=>blt .sum [x]):=by
 rintro g s σ H xs h Q I r⟨x,n,F,d,o,sm,q,he,k⟩;obtain⟨ns,t,he⟩:=map_some (show((items d).bind λds=>ds.mapM gB).map _=aU o from he);subst he;obtain⟨ds,w,y⟩:=cg t;obtain⟨p,ys,rfl,z,j⟩:=q.items sm w;rw[nY y]at j;have A:=gU j;subst n;obtain⟨u,rfl,B⟩:=r.one;cases B;refine call_sum_walkG (walked I hc z λit h l St m W h0 C kp=>?_);subst A;have f:h.toArray.size=ns.length:=by rw[cS,<-m.length,dy]
 refine⟨it,_,_,_,_,St,λi=>ns.getD i 0,rfl,W,h0,C,λi v e=>nJ m e,λh' E t' G=>?_⟩;rw[f,qx ns _ (cI),List.take_length];exact⟨.int _,H,kp h' E G,⟨t',rfl⟩,cF.cV sm (bw _) k⟩
theorem Jx{ns:List Int}{m:Int}(k:ns.min?=aU m):ns.getD (argBest (λi j=>decide (ns.getD i 0<ns.getD j 0)) (ns.length-1)) 0=m:=by
 have h:ns≠[]:=by rintro rfl;simp at k
 have r:0<ns.length:=sF.mpr h;obtain⟨h1,n⟩:=argBest_lt (λi=>ns.getD i 0) (ns.length-1);have l:=rq.mp k;generalize argBest (λi j=>decide (ns.getD i 0<ns.getD j 0)) (ns.length-1)=j at*;have o:j<ns.length:=by omega
 have f:ns.getD j 0∈ns:=by simp[j_,o]
 obtain⟨q,p,e⟩:=sK l.1;have g:=n q (by omega);simp only[j_,eF p,getD_some]at g;rw[e]at g;have s:=l.2 _ f;have g:ns.getD j 0<=m:=g;omega
theorem Lb{ns:List Int}{m:Int}(k:ns.max?=aU m):ns.getD (argBest (λi j=>decide (ns.getD i 0>ns.getD j 0)) (ns.length-1)) 0=m:=by
 have h:ns≠[]:=by rintro rfl;simp at k
 have r:0<ns.length:=sF.mpr h;obtain⟨h1,n⟩:=argBest_gt (λi=>ns.getD i 0) (ns.length-1);have l:=ru.mp k;generalize argBest (λi j=>decide (ns.getD i 0>ns.getD j 0)) (ns.length-1)=j at*;have o:j<ns.length:=by omega
 have f:ns.getD j 0∈ns:=by simp[j_,o]
 obtain⟨q,p,e⟩:=sK l.1;have g:=n q (by omega);simp only[j_,eF p,getD_some]at g;rw[e]at g;have s:=l.2 _ f;have g:m<=ns.getD j 0:=g;omega
theorem WL(hc:X.calm=cq):dC X (.builtin "min") (MP X.K λx=>blt .Mi [x]):=by
 rintro j s σ H xs l Q I r⟨x,y,F,d,z,sm,A,he,k⟩;obtain⟨ns,B,he⟩:=cg (show((items d).bind λds=>ds.mapM gB).bind _=aU z from he);obtain⟨m,n,he⟩:=map_some he;subst he;obtain⟨ds,C,E⟩:=cg B;obtain⟨p,ys,rfl,G,o⟩:=A.items sm C;rw[nY E]at o;have J:=gU o;subst y;obtain⟨u,rfl,L⟩:=r.one;cases L;refine call_min_walk (walked I hc G λit l q St h W h0 M kp=>?_);subst J;have f:l.toArray.size=ns.length:=by rw[cS,<-h.length,dy]
 have g:0<ns.length:=by cases ns with|nil=>simp at n|cons _ _=>simp
 refine⟨it,_,_,_,_,St,_,rfl,W,h0,M,by rw[f];exact g,CmpOf.ints_lt (λi=>ns.getD i 0) (λi v e=>nJ h e),λv h' N w O=>?_⟩;rw[f]at w;obtain⟨t,rfl⟩:=nJ h w;rw[Jx n];exact⟨.int _,H,kp h' N O,⟨t,rfl⟩,cF.cV sm (bw _) k⟩
theorem WR(hc:X.calm=cq):dC X (.builtin "max") (MP X.K λx=>blt .Mj [x]):=by
 rintro j s σ H xs l Q I r⟨x,y,F,d,z,sm,A,he,k⟩;obtain⟨ns,B,he⟩:=cg (show((items d).bind λds=>ds.mapM gB).bind _=aU z from he);obtain⟨m,n,he⟩:=map_some he;subst he;obtain⟨ds,C,E⟩:=cg B;obtain⟨p,ys,rfl,G,o⟩:=A.items sm C;rw[nY E]at o;have J:=gU o;subst y;obtain⟨u,rfl,L⟩:=r.one;cases L;refine call_max_walk (walked I hc G λit l q St h W h0 M kp=>?_);subst J;have f:l.toArray.size=ns.length:=by rw[cS,<-h.length,dy]
 have g:0<ns.length:=by cases ns with|nil=>simp at n|cons _ _=>simp
 refine⟨it,_,_,_,_,St,_,rfl,W,h0,M,by rw[f];exact g,CmpOf.ints_gt (λi=>ns.getD i 0) (λi v e=>nJ h e),λv h' N w O=>?_⟩;rw[f]at w;obtain⟨t,rfl⟩:=nJ h w;rw[Lb n];exact⟨.int _,H,kp h' N O,⟨t,rfl⟩,cF.cV sm (bw _) k⟩
theorem boot_sum:gn "sum"=aU (.builtin "sum"):=by decide+kernel
theorem mJ{x:Str}{e:Pos}(f:x="sum")(hc:X.calm=cq)(g:Gl X x)(i:X.mg x=cr)(j:SX X c a pa)(hs:cL [a] X.env=(a_,fi a X.env)::cL [] X.env:=by rfl):SX X c (.Call (.Name x e) [a] [] pos) (.blt .sum [pa]):=by subst f;exact oF (λh=>fG (Zb hc) g i boot_sum h (he:=hs)) j (λρ=>rfl) rfl hs
theorem O1{x:Str}{e:Pos}(f:x="min")(hc:X.calm=cq)(g:Gl X x)(i:X.mg x=cr)(j:SX X c a pa)(hs:cL [a] X.env=(a_,fi a X.env)::cL [] X.env:=by rfl):SX X c (.Call (.Name x e) [a] [] pos) (.blt .Mi [pa]):=by subst f;exact oF (λh=>fG (WL hc) g i boot_min h (he:=hs)) j (λρ=>rfl) rfl hs
theorem Qo{x:Str}{e:Pos}(f:x="max")(hc:X.calm=cq)(g:Gl X x)(i:X.mg x=cr)(j:SX X c a pa)(hs:cL [a] X.env=(a_,fi a X.env)::cL [] X.env:=by rfl):SX X c (.Call (.Name x e) [a] [] pos) (.blt .Mj [pa]):=by subst f;exact oF (λh=>fG (WR hc) g i boot_max h (he:=hs)) j (λρ=>rfl) rfl hs
theorem Cz{K:PySem.W.Frag}{F H:Hp}{v:V}{d:D}(h:dB K F H v d)(f:flat d=cq):mq v=cq:=by cases d with|non=>rw[h.non];rfl|bl _=>rw[h.bl];rfl|int _=>rw[h.int];rfl|str _=>rw[h.str];rfl|tup _=>cases f|lst _=>cases f|dN _=>cases f|dv _ _=>cases f
theorem afJ{K:PySem.W.Frag}{F H:Hp}{v u:V}{d e:D}(h:dB K F H v d)(h':dB K F H u e)(f:flat d=cq)(g:flat e=cq):Pq v u=jO d e:=by cases d with
 |tup _=>cases f|lst _=>cases f|dN _=>cases f|dv _ _=>cases f|non=>rw[h.non];cases e with|tup _=>cases g|lst _=>cases g|dN _=>cases g|dv _ _=>cases g|non=>rw[h'.non];rfl|bl _=>rw[h'.bl];rfl|int _=>rw[h'.int];rfl|str _=>rw[h'.str];rfl
 |bl _=>rw[h.bl];cases e with|tup _=>cases g|lst _=>cases g|dN _=>cases g|dv _ _=>cases g|non=>rw[h'.non];rfl|bl _=>rw[h'.bl];rfl|int _=>rw[h'.int];rfl|str _=>rw[h'.str];rfl
 |int _=>rw[h.int];cases e with|tup _=>cases g|lst _=>cases g|dN _=>cases g|dv _ _=>cases g|non=>rw[h'.non];rfl|bl _=>rw[h'.bl];rfl|int _=>rw[h'.int];rfl|str _=>rw[h'.str];rfl
 |str _=>rw[h.str];cases e with|tup _=>cases g|lst _=>cases g|dN _=>cases g|dv _ _=>cases g|non=>rw[h'.non];rfl|bl _=>rw[h'.bl];rfl|int _=>rw[h'.int];rfl|str _=>rw[h'.str];rfl
theorem Ti{K:PySem.W.Frag}{F H:Hp}{v:V}{d:D}(h:dB K F H v d)(f:flat d=cq):∀{ds:List D}{vs:List V},aF K F vs ds->ds.all flat=cq->vs.all mq=cq/\inV v vs=ds.any λy=>jO y d|[],vs,r,_=>by rw[r.fZ];exact⟨rfl,rfl⟩|e::ds,vs,r,g=>by obtain⟨w,ws,rfl,h1,t⟩:=r.cR;rw[ma,eR]at g;obtain⟨j,i⟩:=Ti h f t g.2;have q:dB K F H w e:=.inl h1;refine⟨by rw[ma,Cz q g.1,j];rfl,?_⟩;unfold inV at i ⊢;rw[li,li,i,afJ q h g.1 f]
theorem rA:fL X (ec .In) (rD X.K (mH .inn)):=by rintro f s σ H x y v u Q I i j⟨F,d,e,r,sm,h,l,he,k⟩;obtain⟨t,m,n⟩:=map_some (show(uX a_ d e).map _=aU r from he);subst n;obtain⟨ds,o,q⟩:=cg m;obtain⟨g,w⟩:=bf q;rw[eR]at g;obtain⟨p,xs,rfl,z,A⟩:=l.items sm o;obtain⟨B,C⟩:=Ti h g.1 A g.2;subst w;refine Hs f s σ H x _ v u Q I i j ⟨p,xs,rfl,z,Cz h g.1,B,?_⟩;rw[C];exact cF.cV sm (il _) k
theorem pM:fL X (ec .NotIn) (rD X.K (mH .wg)):=by rintro f s σ H x y v u Q I i j⟨F,d,e,r,sm,h,l,he,k⟩;obtain⟨t,m,n⟩:=map_some (show(uX cq d e).map _=aU r from he);subst n;obtain⟨ds,o,q⟩:=cg m;obtain⟨g,w⟩:=bf q;rw[eR]at g;obtain⟨p,xs,rfl,z,A⟩:=l.items sm o;obtain⟨B,C⟩:=Ti h g.1 A g.2;subst w;refine xW f s σ H x _ v u Q I i j ⟨p,xs,rfl,z,Cz h g.1,B,?_⟩;rw[C];exact cF.cV sm (il _) k
end
end _H
namespace _H
open PySem
section
variable{i j:Int}{ds es:List D}{d:D}{b b':Bool}
@[simp]theorem ab8:nT .shl=Ld:=rfl
@[simp]theorem ab5:nT .shr=Li:=rfl
@[simp]theorem Zz:nT .band=Aw:=rfl
@[simp]theorem Xj:Ld (.int i) (.int j)=if 0<=j/\j<=1000/\i.natAbs<18446744073709551616 then aU (.val (.int (i*2^j.toNat)))else cr:=rfl
@[simp]theorem XF:Li (.int i) (.int j)=if 0<=j then aU (.val (.int (i/2^j.toNat)))else cr:=rfl
@[simp]theorem UW:Aw (.int i) (.int j)=aU (.val (.int (Builtin.bitAnd i j))):=rfl
@[simp]theorem Xu:p7 (.lst ds) (.int i)=if 0<=i/\0<ds.length/\ds.length*i.toNat<=lim then aU (.own (cE i.toNat ds).flatten)else cr:=rfl
@[simp]theorem XC:p7 (.tup ds) (.int i)=if 0<=i/\0<ds.length/\ds.length*i.toNat<=lim then aU (.val (.tup (cE i.toNat ds).flatten))else cr:=rfl
@[simp]theorem afl:cm .isT (.bl b) (.bl cq)=aU b:=rfl
@[simp]theorem ac5:cm .aa7 (.bl b) (.bl cq)=aU (!b):=rfl
@[simp]theorem acN:blt .sum [.lst ds]=(ds.mapM gB).map λns=>.val (.int ns.sum):=rfl
@[simp]theorem ZJ:blt .Mi [.lst ds]=(ds.mapM gB).bind λns=>ns.min?.map λi=>.val (.int i):=rfl
@[simp]theorem aad:blt .Mj [.lst ds]=(ds.mapM gB).bind λns=>ns.max?.map λi=>.val (.int i):=rfl
end
@[simp]theorem aes:type_of%@_H.X15:=@_H.X15
@[simp]theorem aeC:type_of%@_H.X16:=@_H.X16
theorem fH{ns:List Int}:(ns.map D.int).mapM gB=aU ns:=by induction ns with|nil=>rfl|cons n ns a=>simp[a]
@[simp]theorem Yt{ns:List Int}:ns.mapM (gB ∘ D.int)=aU ns:=by rw[<-fH (ns:=ns),List.mapM_map]
@[simp]theorem aaf{bs:List Bool}:bs.mapM (Bs ∘ D.bl)=aU bs:=by induction bs with|nil=>rfl|cons b bs a=>simp[a]
theorem Di{S:List Int}{i:Int}:((S.map D.int).any λy=>jO y (.int i))=S.contains i:=by induction S with|nil=>rfl|cons s S a=>rw[dl,li,List.contains_cons,a,pqi];rw[show(s==i)=(i==s)from Bool.eq_iff_iff.mpr ⟨λh=>by simp at h ⊢;exact h.symm,λh=>by simp at h ⊢;exact h.symm⟩]
theorem ud{S:List Int}:(S.map D.int).all flat=cq:=by rw[gi];intro d hd;obtain⟨i,_,rfl⟩:=de.mp hd;rfl
theorem Bq{S:List Int}{i:Int}:cm .inn (.int i) (.tup (S.map D.int))=aU (S.contains i):=by show uX a_ _ _=_;unfold uX;simp only[vU,bind_some,zy,ud,qc,Di];rfl
theorem pO{S:List Int}{i:Int}:cm .wg (.int i) (.tup (S.map D.int))=aU (!S.contains i):=by show uX cq _ _=_;unfold uX;simp only[vU,bind_some,zy,ud,qc,Di];rfl
theorem M9{a:Type}{l:List a}{x:a}:at' (l++[x]) (-1)=aU x:=by
 unfold at' jE;rw[if_neg (by decide),if_pos (by simp only[ez,kC];omega)];have:(-1+((l++[x]).length:Int)).toNat=l.length:=by simp only[ez,kC];omega
 rw[this];simp
theorem jy{a:Type}{l:List a}{f:a->D}{k:Nat}{x:a}(h:l[k]?=aU x):at' (l.map f) (k:Int)=aU (f x):=by have b:=(fB h).1;rw[J0 (by simpa using b),eL,h];rfl
theorem Tf{n k:Nat}(h:k<n):jE n (k:Int)=aU k:=by unfold jE;rw[if_pos (by omega),if_pos (by omega)];simp
theorem iQ{is:List Nat}{one:Bool}{body:List Sl->Res Fl}{g:Nat->D}{N:Nat}(J:Nat->List Sl->Prop){Q:Fl->List Sl->Prop}(c:∀i ρ,i<N->J i ρ->∃a,cP ρ is one (g i)=aU a/\(body a).sat (fQ (J (i+1)) Q))(f:∀ρ,J N ρ->Q .next ρ){ρ:List Sl}(h0:J 0 ρ):(jl is one body ((dE N).map g) ρ).sat Q:=by
 refine dj (λr ρ=>∃i,i<=N/\r=((dE N).map g).drop i/\J i ρ) ?_ ?_ ⟨0,uL,rfl,h0⟩
 . rintro d r ρ⟨i,hi,e,j⟩;have b:i<N:=by
    rcases Nat.lt_or_ge i N with h|h;.exact h
    .rw[List.drop_eq_nil_of_le (by simpa using h)]at e;cases e
   rw[jk (by simpa using b)]at e;injection e with e1 e2;simp at e1;subst e1;obtain⟨a,h1,k⟩:=c i ρ b j;refine⟨a,h1,k.imp λfl l q=>?_⟩;cases fl with|next=>exact⟨i+1,b,e2,q⟩|cont=>exact⟨i+1,b,e2,q⟩|brk=>exact q|ret v=>exact q
 . rintro ρ⟨i,hi,e,j⟩;have:i=N:=by have m:=congrArg me e;simp at m;omega
   subst this;exact f ρ j
theorem GQ{c:Call}{is:List Nat}{one:Bool}{l:P}{t:Option P}(J:List Sl->Prop)(P:D->Prop){Q:List D->List Sl->Prop}{ds:List D}{ρ:List Sl}(j:J ρ)(h:∀d,d∈ds->∀ρ,J ρ->∃a,cP ρ is one d=aU a/\(qg c t a).sat λb f=>if b=cq then(ev c l f).sat λr i=>P r.d/\J i else J f)(k:∀xs ρ,J ρ->xs.length<=ds.length->(∀x∈xs,P x)->Q xs ρ):(oR c is one t l ds ρ).sat Q:=by suffices hh:∀(ds:List D)(g:List D)(ρ:List Sl),J ρ->(∀x∈g,P x)->(∀d,d∈ds->∀ρ,J ρ->∃a,cP ρ is one d=aU a/\(qg c t a).sat λb f=>if b=cq then(ev c l f).sat λr i=>P r.d/\J i else J f)->(turns is one (qg c t) (ev c l) ds g ρ).sat λxs ρ=>J ρ/\(∀x∈xs,P x)/\xs.length<=g.length+ds.length from(hh ds [] ρ j (by simp) h).imp λxs ρ⟨n,q2,q3⟩=>k xs ρ n (by simpa using q3) q2;intro ds;induction ds with|nil=>intro g ρ j o _;rw[xY];exact⟨j,o,by simp⟩|cons d r s=>
   intro g ρ j o h;obtain⟨a,e,h1⟩:=h d (by simp) ρ j;rw[xr,e];show((qg c t a).bind _).sat _;rw[bU];refine h1.imp λb f q=>?_
   cases b with|true=>
     rw[if_pos rfl]at q;rw[if_pos rfl,bU];refine q.imp λx i⟨p,j3⟩=>?_;refine(s (g++[x.d]) i j3 (λy hy=>?_) λd' m=>h d' (by simp[m])).imp λxs ρ⟨n,q2,q3⟩=>⟨n,q2,by simp at q3 ⊢;omega⟩;rcases fE.mp hy with hy|hy;.exact o y hy
     .rw[d_.mp hy];exact p|false=>rw[if_neg (by simp)]at q;rw[if_neg (by simp)];exact(s g f q o λd' m=>h d' (by simp[m])).imp λxs ρ⟨n,q2,q3⟩=>⟨n,q2,by simp at q3 ⊢;omega⟩
inductive A3(a b c:Prop):Prop where|mk(ha:a)(hb:b)(hc:c)
inductive A4(a b c d:Prop):Prop where|mk(ha:a)(hb:b)(hc:c)(hd:d)
inductive A6(a b c d e f:Prop):Prop where|mk(ha:a)(hb:b)(hc:c)(hd:d)(he:e)(hf:f)
end _H
namespace _U
open PySem Spec PyProof.Rows
section
variable{prog:dF}{w:eJ}{A:eM}{E:b_->cv->Prop}{s:cv}
theorem zN{t sl:cx}{a:Array b_}{f g:b_}{lo hi:Option Int}{Q:b_->cv->Prop}(ht:s_ s.heap t a)(hs:s.heap.IsSliceOf sl f g .none)(i:m9 f lo)(j:m9 g hi)(h1:dM a.size 0 lo=0)(k:dM a.size a.size hi=a.size)(h:Q (.ref t) s):cK (c_ prog w) A (k3 (.ref t) (.ref sl)) Q E s:=by
 obtain⟨os,b,c,l⟩:=id hs;have m:s.TypeIs (.ref sl) "slice":=⟨os,b,c⟩;unfold k3;try with_reducible refine fT ?_
 first|refine bx (cw ?_)|skip
 refine bx (wpAny_sequenceKey ht.typeIs (by decide) (bx (fx (name:=hX "__getitem__") ht.typeIs slot_tuple_getitem (fv slot_tuple_getitem ht.typeIs entry_tuple_getitem ?_ (args_tuple_getitem _ _)))));show cK _ _ (tupleItemsOf (.ref t)>>=_) _ _ s;refine bx (tupleItemsOf_ ht (bx (kn m ?_)));rw[if_pos (by decide)];refine bx (iJ hs i j ?_);have e:((((dM a.size 0 lo:Nat):Int)==0&&(1:Int)==1&&(dM a.size a.size hi-dM a.size 0 lo)==a.size)=cq):=by rw[h1,k];simp
 show cK _ _ (if(((dM a.size 0 lo:Nat):Int)==0&&(1:Int)==1&&(dM a.size a.size hi-dM a.size 0 lo)==a.size)=cq then _ else _) _ _ s;rw[if_pos e];unfold Builtin.Tuple.tupleIsExact;refine bx (bx (kn ht.typeIs (cw ?_)));rw[if_pos (by decide)];exact bx (ky (cw ⟨_,rfl,cw h⟩))
end
end _U
namespace _H
open PySem _L Spec PyProof.Rows
noncomputable def nst:dO->Bool|.Starred _ _=>a_|_=>cq
theorem jo{e:dO}{es:List dO}{env:Env}(h:nst e=cq):cL (e::es) env=(a_,fi e env)::cL es env:=by cases e with|Starred a b=>cases h|_=>rw[cL];(intro e p z;cases z)
noncomputable def uq:List Int->List dO->Option (List dO)|[],es=>aU es|i::is,.Constant (.int j) _ _::es=>if i=j then uq is es else cr|_,_=>cr
theorem yc{X:_L.Cx}{c:Call}:∀(is:List Int){es a:List dO}{b:List P},uq is es=aU a->SA X c a b->SA X c es (is.map (λi=>P.con (.int i))++b)|[],es,a,b,h,r=>by cases h;exact r|i::is,[],a,b,h,r=>by cases h|i::is,e::es,a,b,h,r=>by cases e with
   |Constant v k p=>cases v with
     |int j=>
       replace h:(if i=j then uq is es else cr)=aU a:=h;split at h;.rename_i f;subst f;exact Ga aa (yc is h r) (jo rfl)
       .cases h|_=>cases h
   |_=>cases h
theorem yd{n d:Nat}{o:Option Int}:_U.dM n d o=_H.dM n d o:=by cases o with|none=>rfl|some v=>
   show(if v<0 then(v+(n:Int)).toNat else min v.toNat n)=(if 0<=v then min v.toNat n else(v+n).toNat);by_cases h:0<=v;.rw[if_pos h,if_neg (by omega)]
   .rw[if_neg h,if_pos (by omega)]
theorem Ih{xs:List V}{lo hi:Option Int}:yO xs lo hi=_H.cut xs lo hi:=by unfold yO _H.cut;rw[yd,yd]
theorem aF.cut{K:PySem.W.Frag}{F:Hp}{ds:List D}{vs:List V}{lo hi:Option Int}(h:aF K F vs ds):aF K F (_H.cut vs lo hi) (_H.cut ds lo hi):=by unfold _H.cut;rw[h.length];exact(h.drop _).take _
section
variable{X:Cx}{c:Call}{n:Nat}{e a b:dO}{p pa pb pl ph:P}{pos p2:Pos}{lo hi:Option dO}
noncomputable def adP(K:PySem.W.Frag):V->Option Int->Option Int->Hp->VK->Prop:=λx lo hi H Q=>∃F d r,aK F H/\dB K F H x d/\QS d (aU lo) (aU hi)=aU r/\∀v g f,Ext F H g f->cF K g f H v r->Q v f
theorem Y7:SlR X (adP X.K):=by
 rintro f s σ H x v t u lo hi sl Q I l hs pl m⟨F,d,r,sm,w,he,k⟩;cases d with|lst ds=>cases he;obtain⟨a,xs,rfl,j,h⟩:=w.lst sm;refine O7 f s σ H _ v t u lo hi sl Q I l hs pl m ⟨a,xs,rfl,j,λp o=>?_⟩;rw[Ih];exact zV sm h.cut o k|tup ds=>
   cases he;obtain⟨a,xs,rfl,j,h,rt⟩:=w.tup sm;by_cases i:_U.dM xs.length 0 lo=0/\_U.dM xs.length xs.length hi=xs.length
   . cases l;obtain⟨q,y,ht,hz⟩:=I.tuple j;have g:q.toArray.size=xs.length:=by rw[cS];exact y.length.symm
     refine⟨"tuple",_,slot_tuple_getitem.lookup,ht.typeIs,_U.zN ht hs pl m (by rw[g];exact i.1) (by rw[g];exact i.2) ⟨.ref a,H,I,rfl,?_⟩⟩;have hc:_H.cut ds lo hi=ds:=by unfold _H.cut;rw[<-h.length,<-yd,<-yd,i.1,i.2];simp[h.length]
     rw[hc]at k;exact cF.cV sm rt k
   .refine Wi f s σ H _ v t u lo hi sl Q I l hs pl m ⟨a,xs,rfl,j,i,λp o=>?_⟩;rw[Ih];exact Cy sm h.cut o k|_=>cases he
noncomputable def SO(X:Cx)(c:Call)(o:Option dO)(p:P):Prop:=∃t,PO X o t/\∀{σ:_L.St}{H F:Hp}{ρ f:List Sl}{d:D}{i:Option Int}{Q:Option Int->Hp->Prop},GS X.K F ρ σ H->bW (isVar p) (_H.ev c p) ρ=.ok d f->part p d=aU i->(∀h g,aB X.K F ρ σ H h f σ g->Q i g)->t σ H Q
theorem Eu:SO X c cr (.con .non):=by refine⟨_,Pu,λ{σ H F ρ f d i Q}g e h k=>?_⟩;cases(show aU cr=aU i from h);have j:(_H.ev c (.con .non) ρ).bind (λr ρ=>.ok r.d ρ)=.ok d f:=e;clear e;rw[_H.E2]at j;cases j;exact k F H (.refl g)
theorem Ex(h:SX X c e p)(l:Za p=a_:=by rfl):SO X c (aU e) p:=by obtain⟨t,h1,m⟩:=h.bW;refine⟨_,Qd h1,λ{σ H F ρ o d i Q}g e f k=>?_⟩;unfold part at f;rw[l,if_neg (by decide)]at f;obtain⟨j,q,r⟩:=map_some f;cases di q;subst r;exact m g e λv u w s x=>⟨j,x.int,k u w s⟩
theorem zr{d:D}{x y:Option (Option Int)}{r:R}(h:QS d x y=aU r):∃lo hi,x=aU lo/\y=aU hi:=by cases x with|none=>cases d<;>cases h|some lo=>cases y with|none=>cases d<;>cases h|some hi=>exact⟨lo,hi,rfl,rfl⟩
theorem yN(ha:SX X c a pa)(hl:SO X c lo pl)(hh:SO X c hi ph):SX X c (.Subscript a (.Slice lo hi cr p2) pos) (.slice pa pl ph):=by obtain⟨tl,l1,l2⟩:=hl;obtain⟨th,h1,h2⟩:=hh;cases hv:isVar pa with|none=>refine⟨eV (yx Y7 ha.ev l1 h1) ?_,λi h=>by cases h⟩;rintro σ H Q⟨F,ρ,r,B,g,e,k⟩;rw[_H.E15,hv]at e;obtain⟨x,C,f,j⟩:=aj e;clear e;have l:(_H.ev c pa ρ).bind (λr ρ=>.ok r.d ρ)=.ok x C:=f;clear f;obtain⟨rx,ac,e1,E⟩:=aj l;clear l;cases E;obtain⟨y,G,I,m⟩:=aj j;clear j;obtain⟨z,J,L,o⟩:=aj m;clear m;obtain⟨e,M⟩:=aD o;clear o;subst M;obtain⟨N,O,q,s⟩:=zr e;rw[q,s]at e;refine⟨F,ρ,rx,_,g,e1,λv F1 H1 s1 rr=>?_⟩;obtain⟨F2,s2,_,rp⟩:=s1.dw rr;refine l2 s2.gs I q λF3 H3 s3=>h2 s3.gs L s λU H4 s4=>?_;have s5:=s2.trans (s3.trans s4);refine⟨U,_,r,s4.gs.sub,.inl ((rp.mono s3.cQ).mono s4.cQ),e,λv W Y x Z=>?_⟩;exact k v W Y (s5.trans (x.stp s5.gs)) (.later s5 (Z.nC s5.gs))|some i=>refine⟨eV (yx Y7 (ha.var i hv) l1 h1) ?_,λi h=>by cases h⟩;rintro σ H Q⟨F,ρ,r,B,g,e,k⟩;rw[_H.E15,hv]at e;obtain⟨x0,ae,t,j⟩:=aj e;clear e;obtain⟨E,CW⟩:=aD t;clear t;subst CW;obtain⟨y,G,I,m⟩:=aj j;clear j;obtain⟨z,J,L,o⟩:=aj m;clear m;obtain⟨x,af,u,ed⟩:=aj o;clear o;obtain⟨e5,e6⟩:=aD u;clear u;subst e6;obtain⟨e,M⟩:=aD ed;clear ed;subst M;obtain⟨N,O,q,s⟩:=zr e;rw[q,s]at e;obtain⟨v,w,_⟩:=g.pk E;refine⟨v,w,l2 g I q λF3 H3 s3=>h2 s3.gs L s λU H4 s4=>?_⟩;have s5:=s3.trans s4;obtain⟨v',A,pv⟩:=s5.gs.pk e5;rw[w]at A;cases A;refine⟨U,_,r,s4.gs.sub,pv,e,λv W Y x Z=>?_⟩;exact k v W Y (s5.trans (x.stp s5.gs)) (.later s5 (Z.nC s5.gs))
theorem Zn:dC X (.type "int") (MP X.K λx=>blt .int [x]):=by rintro f s σ H xs g Q I r⟨x,h,F,d,j,sm,l,he,k⟩;cases d with|int i=>cases(show aU _=aU j from he);exact vp f s σ H xs g Q I r (.inl ⟨i,by rw[h,l.int],cF.cV sm (bw _) k⟩)|bl b=>cases(show aU _=aU j from he);exact vp f s σ H xs g Q I r (.inr ⟨b,by rw[h,l.bl],cF.cV sm (bw _) k⟩)|_=>cases he
theorem Oe{x:Str}{f:Pos}(g:x="int")(i:Gl X x)(j:X.mg x=cr)(k:SX X c a pa)(hs:cL [a] X.env=(a_,fi a X.env)::cL [] X.env:=by rfl):SX X c (.Call (.Name x f) [a] [] pos) (.blt .int [pa]):=by subst g;exact oF (λh=>iM Zn i j (by decide+kernel) h (he:=hs)) k (λρ=>rfl) rfl hs
theorem Wn{i:Nat}{x:Str}{t:Pos}{op:m4}{sub:Bool}(ho:Rr X op (Xw λi j=>if sub then i-j else i+j))(w:X.N.Nodup)(hi:X.N[i]?=aU x)(y:Loc X.env.scope x)(he:SX X c e p)(z:X.fn x=cq\/X.env.scope.names.lookup x=aU .local:=by first|(left;rfl)|(right;rfl)|assumption):SS X c n (.AugAssign (.Name x t) op e pos) (.aug i sub p):=by
 obtain⟨te,h1,A⟩:=he.bW;refine eO (Ur w hi y h1 ho z) ?_;rintro D σ H⟨F,ρ,fl,B,g,e,k⟩;rw[_H.X15]at e;obtain⟨a0,C,f,s⟩:=aj e;clear e;obtain⟨E,G⟩:=aD f;clear f;subst G;obtain⟨b0,I,J,o⟩:=aj s;clear s;obtain⟨v,q,L⟩:=g.pk E;refine⟨v,q,A g J λu F1 M s1 O=>?_⟩;split at o;.rename_i h l;obtain⟨Q,U,m,W⟩:=aj o;clear o;cases W;obtain⟨Y,e3⟩:=aD m;clear m;have Z:Rep X.K F1 (.int (if sub then h-l else h+l)) (.int (if sub then h-l else h+l)):=bw _;exact⟨h,l,L.int,O.int,k F1 _ M (aB.put (r:=.val (.int _)) s1 Z Y)⟩
 .cases o
theorem Ou:Rr X .Add (Xw λi j=>if a_ then i-j else i+j):=VD
theorem N7:Rr X .Sub (Xw λi j=>if cq then i-j else i+j):=We
end
end _H
namespace _L
open PySem Spec PyProof.Rows
section
variable{X:Cx}{tg:dO}
theorem yE:gn "tuple"=aU (.type "tuple"):=by decide+kernel
theorem rY:gn "reversed"=aU (.type "reversed"):=by decide+kernel
end
end _L
namespace _H
open PySem _L Spec PyProof.Rows
section
variable{K:PySem.W.Frag}{F F1 H H1:Hp}{ρ ρ1:List Sl}{σ:_L.St}{ds:List D}{a:cx}
theorem aF.rev:∀{ds:List D}{xs:List V},aF K F xs ds->aF K F xs.reverse ds.reverse|[],_,h=>by rw[h.fZ];exact .nil|d::ds,_,h=>by obtain⟨v,r,rfl,h1,b⟩:=h.cR;rw[oz,oz];exact(aF.rev b).append (.cons h1 .nil)
end
end _H
namespace PySem
namespace F
theorem JF:ml (.type "list_reverseiterator") "__len__"=fy cr:=by rw[kQ,i8];kernel_rfl
theorem Qm:ml (.type "list_reverseiterator") "__length_hint__"=fy (aU (.builtin "list_reverseiterator.__length_hint__")):=by rw[kQ,i8];kernel_rfl
end F
section
variable{prog:dF}{w:eJ}{A:eM}{E:b_->cv->Prop}{s:cv}
theorem qG{it l:cx}{items:Array b_}{Q:Bool->cv->Prop}(e:s.heap.IsRevIter it l ((items.size:Int)-1))(m:s.heap.IsList l items)(i:items.size<=2^24)(h:∀b j,s.toks<=j->Q b {s with toks:=j}):cK (c_ prog w) A (mM (.ref it)) Q E s:=by
 have f:=e.typeIs;unfold mM;refine bx (mw f F.JF ?_);show cK _ _ (specialOf (et it) (hX "__length_hint__")>>=_) _ _ _;refine bx (mw f F.Qm ?_);generalize a:("list_reverseiterator.__length_hint__":String)=c;(fail_if_success(clear a c));wp_delta;rw[show splitId c=aU ("list_reverseiterator","__length_hint__")from by subst a;decide+kernel];subst a;refine bx (l8 (b:=cq) f (by rw[ko];kernel_rfl) ?_);rw[if_neg (by decide)];dsimp only;split;.refine kP (λg=>absurd g (by decide+kernel)) (λ_=>?_);exact cw (h _ s.toks (cI))
 .rename_i k;exact absurd (by decide+kernel) k
theorem oA{R:t_->cv->Prop}{I l:cx}{items:Array b_}(O:A.handled=cr)(j:s.heap.IsRevIter I l ((items.size:Int)-1))(C:s.heap.IsList l items)(G:l≠I)(t:items.size<=2^24)(S:cx)(m:S≠I)(u:S≠l)(res:b_)(k:Nat)(H:s.heap.get? S=aU {cls:=.type "list",data:=.seq #[] k})(Q:∀ h' x a r,(∀ b o,b ≠ S->b ≠ I->s.heap.get? b=aU o->h'.get? b=aU o)->h'.get? S=aU {cls:=.type "list",dict:=cr,data:=.seq a r,slots:=#[]}->ItemsOf (λi v=>items[items.size-1-i]?=aU v) a items.size->R (.ok (.ret res)) {s with heap:=h',toks:=x}):cK (c_ prog w) A.in1 (ja (.ref S) (.ref I) res) (λfin n=>match fin with|.done f=>R (.ok f) n|.again r=>r.quiet=cq/\ku (c_ prog w) A r R n) (λe n=>R (.error e) n) s:=by
 have J:S∉[I,l]:=λhm=>by
  rcases da.mp hm with e|hm;.exact m e
  .exact u (d_.mp hm)
 have W:=(Walks.listRev (prog:=prog) (w:=w) (A:=A.in1) O I l G items).toS;have U:s.TypeIs (.ref I) "list_reverseiterator":=j.typeIs;have key:∀(h:eN)(c x:Nat),h.IsRevIter I l ((items.size:Int)-1-((0:Nat):Int))->h.IsList l items->(∀b o,b≠S->s.heap.get? b=aU o->h.get? b=aU o)->h.get? S=aU {cls:=.type "list",data:=.seq #[] c}->ku (c_ prog w) A (.builtin "list.extend.loop" ⟨[.ref S,.ref I,res],[]⟩) R {s with heap:=h,toks:=x}:=by
  intro h c x hi L X p;refine u7 W (by rw[fh];omega) S J res items.size 0 _ #[] c rfl (uL) ⟨uL,hi,L⟩ p (ItemsOf.nil _) λn a r hm M y=>?_;rw[Moved.eq_with hm];refine Q n.heap n.toks a r (λb o z N e=>hm.heap b o (λhmem=>?_) (X b o z e)) M y;rcases da.mp hmem with Y|hmem;.exact z Y
  .exact N (d_.mp hmem)
 unfold ja;refine bx (kn U ?_);have h1:qa (.ref S) (.ref I)=a_:=by simp[qa,m]
 have Z:(eP "list_reverseiterator"==eP "list")=a_:=by decide
 have h3:(eP "list_reverseiterator"==eP "tuple")=a_:=by decide
 simp only[h1,Z,h3,Bool.or_false,i7,if_false];refine bx (wpAny_pyIter_revIter j ?_);refine bx (fT (qG j C t λbb x ac=>?_));have B:s.heap.IsRevIter I l ((items.size:Int)-1-((0:Nat):Int)):=by simpa using j
 refine kP (λ_=>?_) (λ_=>cw ⟨im F.plain_extend_loop _,key _ k _ B C (λb o _ e=>e) H⟩);refine bx (ky ?_);refine bx ?_;show cK _ _ (sM S (·.push .none)>>=λ_=>sM S (·.pop)) _ _ _;refine bx (mv H rfl ?_);have g:=g9 (fU (·.push eA)) H rfl;refine mv (hz:=by seq_fits) g rfl ?_;have q:=g9 (fU (·.pop)) g rfl;have oth:∀b o,b≠S->s.heap.get? b=aU o->((s.heap.update S (fU (·.push eA))).update S (fU (·.pop))).get? b=aU o:=λb o z e=>(ew _ _ (fI z)).trans ((ew _ _ (fI z)).trans e);exact cw ⟨im F.plain_extend_loop _,key _ _ _ (B.at λo e=>oth I o (fI m) e) (C.at λo e=>oth l o (fI u) e) oth q⟩
end
end PySem
namespace _H
open PySem
theorem nD:∀a b:List Int,bz a b=cq->bz b a=a_
 |[],[],h=>by simp[bz]at h|[],_::_,_=>by simp[bz]|_::_,[],h=>by simp[bz]at h|x::a,y::b,h=>by
   simp only[bz,k_,decide_eq_true_eq,eR]at h;simp only[bz,mi,decide_eq_false_iff_not,l7];rcases h with h|⟨h,h'⟩;.exact⟨by omega,.inl (by omega)⟩
   .exact⟨by omega,.inr (nD a b h')⟩
theorem Ca:∀a b c:List Int,bz b a=a_->bz c b=a_->bz c a=a_
 |[],_,c,_,_=>by cases c<;>simp[bz]|_::_,[],_,h,_=>by simp[bz]at h|_::_,_::_,[],_,h=>by simp[bz]at h|x::a,y::b,z::c,h1,f=>by
   simp only[bz,mi,decide_eq_false_iff_not,l7]at h1 f ⊢;refine⟨by omega,?_⟩;by_cases e:z=x;.right;exact Ca a b c (h1.2.resolve_left (by omega)) (f.2.resolve_left (by omega))
   .exact .inl e
theorem yP:∀a b:List Int,bz a b=a_->bz b a=a_->a=b
 |[],[],_,_=>rfl|[],_::_,h,_=>by simp[bz]at h|_::_,[],_,h=>by simp[bz]at h|x::a,y::b,h1,c=>by
   simp only[bz,mi,decide_eq_false_iff_not,l7]at h1 c;have e:x=y:=by omega
   subst e;rw[yP a b (h1.2.resolve_left (by simp)) (c.2.resolve_left (by simp))]
theorem zU:∀{xs ys:List D},xs.all gj=cq->ys.all gj=cq->xs.map cz=ys.map cz->xs=ys
 |[],[],_,_,_=>rfl|[],_::_,_,_,h=>by simp at h|_::_,[],_,_,h=>by simp at h|x::xs,y::ys,h1,a,h=>by
   simp only[ma,eR]at h1 a;simp only[dl,List.cons.injEq]at h;obtain⟨i,rfl⟩:∃i,x=.int i:=by cases x<;>first|exact⟨_,rfl⟩|(have q:=h1.1;simp[gj]at q;done)
   obtain⟨j,rfl⟩:∃j,y=.int j:=by cases y<;>first|exact⟨_,rfl⟩|(have q:=a.1;simp[gj]at q;done)
   rw[zU h1.2 a.2 h.2,show i=j from h.1]
theorem Fw{x y:D}(h:(gj x=cq/\gj y=cq)\/(zc x=cq/\zc y=cq))(e:cZ x=cZ y):x=y:=by
 rcases h with⟨h1,a⟩|⟨h1,a⟩
 . cases x<;>first|(simp[gj]at h1;done)|skip
   cases y<;>first|(simp[gj]at a;done)|skip
   simpa[cZ]using e
 . cases x<;>first|(simp[zc]at h1;done)|skip
   cases y<;>first|(simp[zc]at a;done)|skip
   rename_i xs ys;cases xs<;>first|(simp[zc]at h1;done)|skip
   cases ys<;>first|(simp[zc]at a;done)|skip
   rw[zU h1 a e]
noncomputable def mV(a b:D):Bool:=!bz (cZ b) (cZ a)
theorem jZ(ds:List D):(qP ds).Perm ds:=List.mergeSort_perm ..
theorem PQ(a b c:D)(h1:mV a b=cq)(e:mV b c=cq):mV a c=cq:=by simp only[mV,mn]at*;exact Ca _ _ _ h1 e
theorem Jv(a b:D):(mV a b||mV b a)=cq:=by simp only[mV,k_,mn];cases h:bz (cZ b) (cZ a)with|false=>exact .inl rfl|true=>exact .inr (nD _ _ h)
theorem sE(ds:List D):(qP ds).Pairwise λa b=>mV a b=cq:=List.pairwise_mergeSort PQ Jv ds
theorem wX{ds:List D}(h:sortable ds=cq):∀x∈ds,∀y∈ds,cZ x=cZ y->x=y:=by
 simp only[sortable,eR,k_,gi]at h;intro x a y b e;rcases h.2 with h|h;.exact Fw (.inl ⟨h x a,h y b⟩) e
 .exact Fw (.inr ⟨h x a,h y b⟩) e
theorem kZ{ds l:List D}(h:sortable ds=cq)(p:l.Perm ds)(s:l.Pairwise λa b=>mV a b=cq):l=qP ds:=by refine List.Perm.eq_of_pairwise (le:=λa b=>mV a b=cq) (λa b e f h1 c=>?_) s (sE ds) (p.trans (jZ ds).symm);simp only[mV,mn]at h1 c;exact wX h a (p.mem_iff.mp e) b ((jZ ds).mem_iff.mp f) (yP _ _ c h1)
end _H
namespace _H
open PySem PyProof.Rows
variable{xs:Array gX}{i:Nat}
structure Rk(M:sT)(A:eM)(E:b_->cv->Prop)(s:cv)(κ:kw)(ok:gX->Prop)(K:gX->Int):Prop where lt:∀{x y:gX}{Q:Option Bool->kg->Prop}{st:kg},ok x->ok y->kindOf st=κ->Q (aU (decide (K x<K y))) st->wpS M A E s (lt' x y) Q st
section
variable{M:sT}{A:eM}{E:b_->cv->Prop}{s:cv}{κ:kw}{ok:gX->Prop}{K:gX->Int}
noncomputable def it(xs:Array gX)(i:Nat):gX:=xs.getD i (eA,eA)
theorem N8(h:i<xs.size):xs[i]?=aU (it xs i):=by unfold it;simp[i3,h]
theorem Kz(h:i<xs.size):it xs i∈xs.toList:=by
 have:it xs i=xs[i]:=by unfold it;simp[i3,h]
 rw[this];simp
theorem Ed{Q:gX->kg->Prop}{st:kg}(h:i<xs.size)(q:Q (it xs i) st):wpS M A E s (elem' xs i) Q st:=by rw[elem'_eq,N8 h];exact k7 q
end
section
variable{K:gX->Int}
noncomputable def Seg(K:gX->Int)(xs:Array gX)(lo hi:Nat):Prop:=∀i j,lo<=i->i<=j->j<hi->K (it xs i)<=K (it xs j)
theorem Od:it xs i=xs.toList.getD i (eA,eA):=by
 unfold it;by_cases h:i<xs.size;.simp[i3,h]
 .simp[i3,h]
end
section
variable{M:sT}{A:eM}{E:b_->cv->Prop}{s:cv}{κ:kw}{ok:gX->Prop}{K:gX->Int}
structure Sx(κ:kw)(ok:gX->Prop)(st:kg)(xs:Array gX)(st':kg):Prop where
 kind:kindOf st'=κ
 arr:vc st'=xs
 pend:k4 st'=k4 st
 fail:u0 st'=cr
 ok:∀x∈xs.toList,ok x
theorem NP(R:Rk M A E s κ ok K){st a:kg}{j:Nat}{Q:Option Bool->kg->Prop}(h:Sx κ ok st xs a)(hi:i<xs.size)(b:j<xs.size)(q:Q (aU (decide (K (it xs i)<K (it xs j)))) a):wpS M A E s (ltAt' i j) Q a:=by rw[ltAt'_eq];refine iS (tj ?_);show wpS M A E s (elem' (vc a) i>>=λx=>elem' (vc a) j>>=λy=>lt' x y) Q a;rw[h.arr];exact iS (Ed hi (iS (Ed b (R.lt (h.ok _ (Kz hi)) (h.ok _ (Kz b)) h.kind q))))
theorem Ud(R:Rk M A E s κ ok K){st g:kg}{lo a n:Nat}{Q:Option (Option Nat)×Nat->kg->Prop}(h:Sx κ ok st xs g)(u:lo+n<=xs.size)(v:1<=a)(l:a<=n)(hs:Seg K xs lo (lo+a))(q:∀m,a<=m->m<=n->Seg K xs lo (lo+m)->(m=n\/K (it xs (lo+m))<K (it xs (lo+m-1)))->Q (cr,m) g):wpS M A E s (forIn [a:n] ((cr,a):Option (Option Nat)×Nat) λ_ c=>ltAt' (lo+c.2) (lo+c.2-1)>>=λo=>match o with|some b=>if b=cq then fy (.done (cr,c.2))else fy (.yield (cr,c.2+1))|_=>fy (.done (aU cr,c.2))) Q g:=by
 refine tm (I:=λx c k=>k=g/\c=(cr,x)/\Seg K xs lo (lo+x)) ?_ ?_ ⟨rfl,rfl,hs⟩
 . rintro x c k h1 w⟨rfl,rfl,f⟩;try dsimp only
   refine iS (NP R h (by omega) (by omega) ?_);by_cases c:K (it xs (lo+x))<K (it xs (lo+x-1))
   . rw[decide_eq_true c];try dsimp only
     rw[if_pos rfl];exact k7 (q x h1 (by omega) f (.inr c))
   . rw[decide_eq_false c];try dsimp only
     rw[if_neg (by simp)];refine k7 ⟨rfl,rfl,λi j p r y=>?_⟩;by_cases t:j<lo+x;.exact f i j p r t
     . have:j=lo+x:=by omega
       subst this;by_cases e:i=lo+x;.rw[e];exact fm _
       .have:=f i (lo+x-1) p (by omega) (by omega);omega
 .rintro c k⟨rfl,rfl,f⟩;rw[show max a n=n by omega]at f ⊢;exact q n l (cI) f (.inl rfl)
end
noncomputable abbrev Rn:=Nat×Nat×Nat
section
variable{K:gX->Int}{xs ys:Array gX}
noncomputable def Zc(K:gX->Int)(xs:Array gX):Nat->List Rn->Nat->Prop|a,[],b=>a=b|a,r::l,b=>r.1=a/\1<=r.2.1/\Seg K xs a (a+r.2.1)/\Zc K xs (a+r.2.1) l b
theorem wJ:∀{l k:List Rn}{a b:Nat},Zc K xs a (l++k) b↔∃m,Zc K xs a l m/\Zc K xs m k b
 |[],k,a,b=>⟨λh=>⟨a,rfl,h⟩,λ⟨m,h1,c⟩=>by cases(show a=m from h1);exact c⟩|r::l,k,a,b=>by
   rw[lx];constructor;.rintro⟨h1,c,e,f⟩;obtain⟨m,g,j⟩:=wJ.mp f;exact⟨m,⟨h1,c,e,g⟩,j⟩
   .rintro⟨m,⟨h1,c,e,f⟩,g⟩;exact⟨h1,c,e,wJ.mpr ⟨m,f,g⟩⟩
end
section
variable{M:sT}{A:eM}{E:b_->cv->Prop}{s:cv}{κ:kw}{ok:gX->Prop}{K:gX->Int}
structure SR(κ:kw)(ok:gX->Prop)(K:gX->Int)(x0 ys:Array gX)(l:List Rn)(lo:Nat)(st:kg):Prop where
 kind:kindOf st=κ
 arr:vc st=ys
 fail:u0 st=cr
 pend:(k4 st).toList=l
 perm:ys.toList.Perm x0.toList
 ok:∀x∈ys.toList,ok x
 rns:Zc K ys 0 l lo
 le:lo<=ys.size
theorem SR.sx{x0 ys:Array gX}{l:List Rn}{lo:Nat}{st:kg}(h:SR κ ok K x0 ys l lo st):Sx κ ok st ys st:=⟨h.kind,h.arr,rfl,h.fail,h.ok⟩
end
end _H
namespace _H
open PySem W PyProof.Rows Calls _L Spec
theorem N5(a:List Int):bz a a=a_:=by cases h:bz a a with|false=>rfl|true=>rw[nD _ _ h]at h;cases h
theorem Lg{a b x:List Int}(h:bz b a=a_)(c:bz x a=cq):bz x b=cq:=by cases e:bz x b with|true=>rfl|false=>rw[Ca _ _ _ h e]at c;cases c
theorem u6{a:Type}{p q:a->Bool}(h:∀x,p x=cq->q x=cq):∀{l:List a},(∃x,x∈l/\q x=cq/\p x=a_)->l.countP p<l.countP q
 |[],⟨x,hx,_⟩=>by cases hx|y::l,⟨x,hx,h1,b⟩=>by
   rw[List.countP_cons,List.countP_cons];have m:=rS (l:=l) (p:=p) (q:=q) λx _=>h x;rcases da.mp hx with rfl|hx;.rw[h1,b,if_pos rfl,if_neg (by simp)];omega
   .have:=u6 h ⟨x,hx,h1,b⟩;cases hp:p y with|true=>rw[h y hp];omega|false=>rw[if_neg (by simp)];omega
noncomputable def Uk(ds:List D)(d:D):Nat:=ds.countP λe=>bz (cZ e) (cZ d)
theorem Jz{ds:List D}{d e:D}(hd:d∈ds):decide ((Uk ds d:Int)<Uk ds e)=bz (cZ d) (cZ e):=by cases h:bz (cZ d) (cZ e)with|true=>have:=u6 (l:=ds) (p:=λx=>bz (cZ x) (cZ d)) (q:=λx=>bz (cZ x) (cZ e)) (λx a=>Lg (nD _ _ h) a) ⟨d,hd,h,N5 _⟩;rw[decide_eq_true_iff];unfold Uk;omega|false=>have:=rS (l:=ds) (p:=λx=>bz (cZ x) (cZ e)) (q:=λx=>bz (cZ x) (cZ d)) λx _ a=>Lg h a;rw[decide_eq_false_iff_not];unfold Uk;omega
open Classical in
noncomputable def rkK(P:b_->D->Prop)(ds:List D)(x:gX):Int:=if h:∃d,d∈ds/\P x.1 d then(Uk ds h.choose:Int)else 0
theorem Dk{P:b_->D->Prop}{ds:List D}{x:gX}{d:D}(fn:∀u d e,P u d->P u e->cZ d=cZ e)(hd:d∈ds)(a:P x.1 d):rkK P ds x=Uk ds d:=by have h:∃d,d∈ds/\P x.1 d:=⟨d,hd,a⟩;unfold rkK;rw[dif_pos h];unfold Uk;rw[fn _ _ _ h.choose_spec.2 a]
noncomputable def pick{a:Type}(d:a)(p:List Nat)(l:List a):List a:=p.map λi=>l.getD i d
theorem nP{a:Type}(d:a)(l:List a):pick d (dE l.length) l=l:=by refine lw (by simp[pick]) λi h1 b=>?_;simp[pick,b]
theorem uw{a:Type}{d:a}{p:List Nat}{l:List a}{n:Nat}(h:p.Perm (dE n)):(pick d p l).length=n:=by rw[pick,dy,h.length_eq,iP]
theorem lG{P:b_->D->Prop}:∀{a:List b_}{ds:List D},Paired P a ds->∀i,i<a.length->P (a.getD i .none) (ds.getD i .non)/\ds.getD i .non∈ds|_,_,.cons r _,0,_=>⟨by simpa using r,by simp⟩|_,_,.cons _ t,i+1,hi=>by have:=lG t i (by simpa using hi);exact⟨by simpa using this.1,by simpa using dQ this.2⟩
end _H
namespace _H
open PySem _L Spec PyProof.Rows Calls W
section
variable{prog:dF}{w:eJ}{A:eM}{E:b_->cv->Prop}{s:cv}{vs:List b_}{κ:kw}{P:b_->D->Prop}{ds:List D}
theorem qe{b fin:Bool}{Q:Bool->cv->Prop}:∀{xs ys:List b_}{is js:List Int}{i:Nat},fe xs is->fe ys js->fin=decide (is.length<js.length)->Q (bz is js) s->KatLex prog w A b fin Q (xs.zip ys) i s
 |_,_,_,_,_,.nil,.nil,e,h=>by subst e;exact kat_nil (by simpa[bz]using h)|_,_,_,_,_,.nil,.cons _ _ _,e,h=>by subst e;exact kat_nil (by simpa[bz]using h)|_,_,_,_,_,.cons _ _ _,.nil,e,h=>by subst e;exact kat_nil (by simpa[bz]using h)|_,_,_,_,i,.cons (ns:=is) x t r,.cons (ns:=js) y u r',e,h=>by
   refine kat_cons (pS ?_);by_cases q:x=y;.subst q;rw[beq_self_eq_true];refine kat_yes (qe r r' (by rw[e];simp) ?_);simpa[bz]using h
   . rw[beq_eq_false_iff_ne.mpr q];refine kat_no ?_;have a:Q (decide (x<y)) s:=by simpa[bz,q]using h
     cases(b&&i==0)with|true=>exact oneLt_int a|false=>exact kat_one _ _ (wpAny_lt_int a)
noncomputable def qL(h:eN)(u:b_)(d:D):Prop:=∃a b is,u=.ref a/\s_ h a (tz b)/\fe b is/\is≠[]/\cZ d=is
theorem pR{h h':eN}(k:∀b o,h.get? b=aU o->h'.get? b=aU o){u:b_}{d:D}(t:qL h u d):qL h' u d:=by obtain⟨a,c,is,e,⟨o,h1,f⟩,g⟩:=t;exact⟨a,c,is,e,⟨o,k _ _ h1,f⟩,g⟩
theorem vR{h h':eN}(k:∀b o,h.get? b=aU o->h'.get? b=aU o):∀{a:List b_}{ds:List D},Paired (qL h) a ds->Paired (qL h') a ds|_,_,.nil=>.nil|_,_,.cons r t=>.cons (pR k r) (vR k t)
theorem qw{h:eN}:∀{b:List b_}{ds:List D},Paired (qL h) b ds->∃fs,KatTups h b fs/\fs.length=b.length/\∀f∈fs,∃n t,f=gu n t|_,_,.nil=>⟨[],trivial,rfl,by simp⟩|_,_,.cons r t=>by obtain⟨fs,h1,e,g⟩:=qw t;obtain⟨a,i,is,rfl,⟨o,j,k,n,l⟩,hi,c,_⟩:=r;cases hi with|nil=>exact absurd rfl c|cons x m p=>
     refine⟨.int x m::fs,KatTups.cons j k l (by simp) h1,by simp[e],λf hf=>?_⟩;rcases da.mp hf with rfl|hf;.exact⟨_,_,rfl⟩
     .exact g f hf
theorem Ha{ds:List D}(t:Paired (qL s.heap) vs ds)(e:2<=vs.length){C:kw->cv->Prop}(a:C (tuples' (eP "int"!=eP "tuple")) s):cK (c_ prog w) A (keyKind' vs.toArray) C E s:=by obtain⟨fs,h1,f,b⟩:=qw t;refine kat_kind (T:=.type "int") h1 (by omega) (λv c=>?_) rfl a;obtain⟨n,t,rfl⟩:=b v c;exact Looks.now
theorem Qt{x y:b_}{d e:D}(h:qL s.heap x d)(i:qL s.heap y e){b:Bool}{C:Bool->cv->Prop}(c:C (bz (cZ d) (cZ e)) s):cK (c_ prog w) A (keyLt' (tuples' b) x y) C E s:=by obtain⟨a,j,is,rfl,⟨o,k,r,n,l⟩,hi,m,p⟩:=h;obtain⟨t,its',js,rfl,⟨u,p1,p2,v,p3⟩,f,g,q⟩:=i;refine kat_lt k l p1 p3 ?_;rw[p,q]at c;refine qe (is:=is) (js:=js) (by simpa using hi) (by simpa using f) ?_ c;rw[cS,cS,kF hi,kF f]
end
theorem Gi{xs:List V}{a:List b_}(h:Vals xs a)(i:Nat):RelV (xs.getD i .non) (a.getD i .none):=by
 have f:=h.length;by_cases hi:i<xs.length
 . obtain⟨u,e,r⟩:=h.get (i:=i) (x:=xs[i]) (eF hi);have b:xs.getD i .non=xs[i]:=by simp[hi]
   have c:a.getD i .none=u:=by simp[e]
   rw[b,c];exact r
 . have b:xs.getD i .non=.non:=by simp[n_ hi]
   have c:a.getD i .none=.none:=by simp[show a.length<=i by omega]
   rw[b,c];rfl
theorem yW{f:Nat->V}{g:Nat->b_}(h:∀i,RelV (f i) (g i)):∀l:List Nat,Vals (l.map f) (l.map g)|[]=>.nil|i::l=>.cons (h i) (yW h l)
theorem Lx{p:List Nat}{xs:List V}{a:List b_}(h:Vals xs a):Vals (pick .non p xs) (pick .none p a):=yW (Gi h) _
theorem yw{K:PySem.W.Frag}{F:Hp}{f:Nat->V}{g:Nat->D}(h:∀i,Rep K F (f i) (g i)):∀l:List Nat,aF K F (l.map f) (l.map g)|[]=>.nil|i::l=>.cons (h i) (yw h l)
theorem La{K:PySem.W.Frag}{F:Hp}{p:List Nat}{xs:List V}{ds:List D}(h:aF K F xs ds):aF K F (pick .non p xs) (pick .non p ds):=yw (λi=>by
 have c:=h.length;by_cases hi:i<ds.length
 . obtain⟨u,e,r⟩:=h.get (i:=i) (d:=ds[i]) (eF hi);have a:ds.getD i .non=ds[i]:=by simp[hi]
   have b:xs.getD i .non=u:=by simp[e]
   rw[a,b];exact r
 . have a:ds.getD i .non=.non:=by simp[n_ hi]
   have b:xs.getD i .non=.non:=by simp[show xs.length<=i by omega]
   rw[a,b,Rep]) _
theorem Ip{a:List b_}:∀{ns b:List Int},fe a ns->fe a b->ns=b:=by induction a with|nil=>intro ns b h1 c;cases h1;cases c;rfl|cons u a e=>intro ns b h1 c;cases h1 with|cons n t r=>cases c with|cons m t' f=>rw[e r f]
theorem Qv{h:eN}(u:b_)(d e:D):qL h u d->qL h u e->cZ d=cZ e:=λ⟨a,f,is,h1,⟨o,g,r,n,i⟩,j,_,k⟩⟨b,l,js,c,⟨s,p1,p2,m,p3⟩,p,_,q⟩=>by rw[h1]at c;cases c;rw[g]at p1;cases p1;rw[i]at p3;cases p3;rw[k,q,Ip j p]
theorem all_ints:∀{ds:List D},ds.all gj=cq->ds=(ds.map cz).map D.int
 |[],_=>rfl|d::ds,h=>by
   simp only[ma,eR]at h;cases d<;>first|(have q:=h.1;simp[gj]at q;done)|skip
   rw[dl,dl,<-all_ints h.2];rfl
theorem intsAre_of:∀{ns:List Int}{a:List b_},Vals (ns.map V.int) a->fe a ns|[],_,.nil=>.nil|n::ns,_,.cons r t=>by obtain⟨b,rfl⟩:=r;exact .cons n b (intsAre_of t)
section
variable{X:Cx}{c:Call}{a:dO}{pa:P}{pos:Pos}
theorem boot_sorted:gn "sorted"=aU (.builtin "sorted"):=by decide+kernel
end
end _H
namespace _H
open PySem _L Spec PyProof.Rows Calls
theorem Bk(l b:cx)(items a:List b_)(n H:Nat)(I o:Option cx)(sl r:Array (Option b_))(is js:List Int)(hi:fe items is)(G:fe a js):ve (gI.«tuple.__lt__» ⟨[.ref l,.ref b],[]⟩) (λA R s=>s.heap.get? l=aU {cls:=.type "tuple",dict:=I,data:=.seq items.toArray n,slots:=sl}/\s.heap.get? b=aU {cls:=.type "tuple",dict:=o,data:=.seq a.toArray H,slots:=r}/\R (.ok (.ret (.bool (bz is js)))) s):=.of_wp λprog w A R s h=>by
  obtain⟨v,g,d,z,os⟩:=s;obtain⟨J,L,h⟩:=h;have f2:=AutoSeq1.sub_tuple_tuple;wp_walk using gL J,gL L,wpAny_forIn_list _ (λf b B=>b.1=cr/\B=⟨v,g,d,z,os⟩/\∃xs ys c j,f=xs.zip ys/\fe xs c/\fe ys j/\decide (items.length<a.length)=decide (c.length<j.length)/\R (.ok (.ret (.bool (bz c j)))) ⟨v,g,d,z,os⟩) _;case turn=>rintro⟨y,x⟩f b B⟨i,rfl,xs,ys,c,j,hz,h1,k,C,m⟩;cases h1 with|nil=>cases hz|cons p t h1=>cases k with|nil=>cases hz|cons q u k=>
       injection hz with hyx hrest;cases hyx;refine bx (pS ?_);by_cases e:p=q;.subst e;rw[beq_self_eq_true];wp_walk;exact⟨rfl,rfl,_,_,_,_,hrest,h1,k,by rw[C];simp,by simpa[bz]using m⟩
       . rw[beq_eq_false_iff_ne.mpr e];have E:R (.ok (.ret (.bool (decide (p<q))))) ⟨v,g,d,z,os⟩:=by simpa[bz,e]using m
         simp only[Bool.not_false,if_true];refine bx (ky ?_);refine bx (show cK (c_ prog w) A.in1 (ec .Lt (gu p t) (gu q u)) _ _ _ from wpAny_lt_int ?_);refine bx (cw ?_);exact cw (cw ⟨_,rfl,E⟩)
  case fin=>
   rintro⟨b1,b2⟩B⟨i,rfl,xs,ys,c,j,hz,h1,k,C,m⟩;simp only at i;subst i;have e:bz c j=decide (items.length<a.length):=by rw[C];cases h1 with|nil=>cases k<;>simp[bz]|cons _ _ _=>cases k with|nil=>simp[bz]|cons _ _ _=>cases hz
   rw[e]at m;wp_walk;exact⟨_,rfl,by simpa[Builtin.Tuple.tupleCompareSizes]using m⟩
  case h=>exact⟨rfl,rfl,items,a,is,js,by simp,hi,G,by rw[kF hi,kF G],h⟩
section
variable{X:Cx}
theorem Iv(hu:X.A.units+8<gS):fL X (ec .Lt) (rD X.K (mH .lt)):=by rintro f s σ H x y v u Q I G J⟨F,d,e,r,sm,L,M,he,k⟩;obtain⟨t,c,q⟩:=map_some (show(aav d e).map _=aU r from he);subst q;cases d with
 |int i=>cases e with|int j=>exact W4 f s σ H x y v u Q I G J ⟨F,.int i,.int j,_,sm,L,M,by have q:MT (λi j=>decide (i<j)) (.int i) (.int j)=aU t:=c;simp only[q];rfl,k⟩|_=>cases c
 |tup xs=>cases e with|tup ys=>obtain⟨hc,c⟩:=bf (show(if(xs.all gj&&ys.all gj)=cq then aU (bz (xs.map cz) (ys.map cz))else cr)=aU t from c);rw[eR]at hc;obtain⟨a,vs,rfl,h1,N,_⟩:=L.tup sm;obtain⟨b,ws,rfl,Y,O,_⟩:=M.tup sm;cases G;cases J;obtain⟨z,U,it,_⟩:=I.tuple h1;obtain⟨g,h,B,_⟩:=I.tuple Y;rw[all_ints hc.1]at N;rw[all_ints hc.2]at O;rw[gU N]at U;rw[gU O]at h;have Z:=intsAre_of U;have i2:=intsAre_of h;obtain⟨⟨cls,dd,data,sl⟩,ho,l,n,hd⟩:=it;obtain⟨⟨W,C,data2,E⟩,m,o,n2,p⟩:=B;simp only at l hd o p;subst l hd o p;refine(show cK (c_ X.prog X.w) X.A (richCompare .Lt (.ref a) (.ref b)) _ _ s from richCompare_meets_room (op:=.Lt) ⟨_,ho,rfl⟩ ⟨_,m,rfl⟩ PySem.F.slot_tuple_lt PySem.F.entry_tuple_lt (PySem.F.args_tuple_lt_2 _ _) (Bk a b z g n n2 dd C sl E _ _ Z i2) ⟨ho,m,show kL _≠md/\_ from⟨(λx=>nomatch x),⟨.bl t,H,I,by rw[<-c];rfl,cF.cV sm (il _) k⟩⟩⟩ (by omega))|_=>cases c
 |_=>cases c
end
end _H
namespace _L
open PySem Spec PyProof.Rows
variable{y:V}{w:eJ}{H:Hp}{Q:b_->cv->Prop}{pos:Pos}{X:Cx}
section
variable{κ:Type}[DecidableEq κ]
noncomputable def jF(kvs:List (κ×V))(k:κ):Option V:=(kvs.find? λa=>decide (a.1=k)).map (·.2)
noncomputable def putK(kvs:List (κ×V))(k:κ)(v:V):List (κ×V):=if(kvs.any λa=>decide (a.1=k))=cq then kvs.map (λa=>if a.1=k then(a.1,v)else a)else kvs++[(k,v)]
theorem oJ{p:κ×V}{r:List (κ×V)}{k:κ}(e:p.1=k):jF (p::r) k=aU p.2:=by simp[jF,hQ,e]
theorem oV{p:κ×V}{r:List (κ×V)}{k:κ}(e:¬ p.1=k):jF (p::r) k=jF r k:=by simp[jF,hQ,e]
theorem rK(k:κ):∀kvs:List (κ×V),(kvs.any λa=>decide (a.1=k))=(jF kvs k).isSome
 |[]=>rfl|p::r=>by
   rw[li];by_cases e:p.1=k;.simp only[oJ e,decide_eq_true e,Bool.true_or,Option.isSome_some]
   .rw[oV e,decide_eq_false e,Bool.false_or];exact rK k r
theorem kj(kvs:List (κ×V))(k:κ)(v:V):(putK kvs k v).length<=kvs.length+1:=by
 unfold putK;split;.rw[dy];omega
 .rw[ez,eI,n4];omega
theorem qI.iI{o:Option V}{u:Option b_}(r:qI o u):o.isSome=u.isSome:=by cases o with
 |none=>cases u with|none=>rfl|some _=>exact(show False from r).elim
 |some _=>cases u with|none=>exact(show False from r).elim|some _=>rfl
theorem qI.getD{o:Option V}{u:Option b_}{d:V}{d':b_}(r:qI o u)(a:RelV d d'):RelV (o.getD d) (u.getD d'):=by cases o with
 |none=>cases u with|none=>exact a|some _=>exact(show False from r).elim
 |some _=>cases u with|none=>exact(show False from r).elim|some _=>exact r
theorem KV.val{kvs:List (κ×V)}{vs:List (κ×b_)}(r:KV kvs vs)(k:κ):qI (jF kvs k) (oo vs k):=by unfold KV at r;induction r with|nil=>exact ly|@cons p q ps a h t f=>
   obtain⟨h1,g⟩:=h;by_cases e:p.1=k
   . have c:q.1=k:=h1.symm.trans e;have b:oo (q::a) k=aU q.2:=by simp[oo,hQ,c]
     rw[oJ e,b];exact g
   . have c:¬ q.1=k:=λz=>e (h1.trans z);have b:oo (q::a) k=oo a k:=by simp[oo,hQ,c]
     rw[oV e,b];exact f
theorem KV.any{kvs:List (κ×V)}{vs:List (κ×b_)}(r:KV kvs vs)(k:κ):(kvs.any λa=>decide (a.1=k))=vs.any λa=>decide (a.1=k):=by unfold KV at r;induction r with|nil=>rfl|cons h t b=>rw[li,li,b,h.1]
theorem KV.repl{kvs:List (κ×V)}{vs:List (κ×b_)}(r:KV kvs vs)(k:κ){u:b_}(b:RelV y u):KV (kvs.map λa=>if a.1=k then(a.1,y)else a) (vs.map λa=>if a.1=k then(a.1,u)else a):=by unfold KV at r ⊢;induction r with|nil=>exact .nil|@cons p q ps g h t c=>
   rw[dl,dl];refine .cons ?_ c;obtain⟨h1,f⟩:=h;by_cases e:p.1=k;.rw[if_pos e,if_pos (h1.symm.trans e)];exact⟨h1,b⟩
   .rw[if_neg e,if_neg (λz=>e (h1.trans z))];exact⟨h1,f⟩
theorem KV.put{kvs:List (κ×V)}{vs:List (κ×b_)}(r:KV kvs vs)(k:κ){u:b_}(a:RelV y u):KV (putK kvs k y) (stored vs k u):=by
 unfold putK stored;rw[r.any k];by_cases e:(vs.any λb=>decide (b.1=k))=cq;.rw[if_pos e,if_pos e];exact r.repl k a
 .rw[if_neg e,if_neg e];exact Paired.snoc r ⟨rfl,a⟩
theorem KV.length{kvs:List (κ×V)}{vs:List (κ×b_)}(r:KV kvs vs):kvs.length=vs.length:=Paired.length r
end
theorem tD{P:dF}{k:Key}{u:b_}(r:RelV (kV k) u):(bj P w).is k u=cq:=by cases k with|inl i=>obtain⟨t,e⟩:=(show ∃t,u=gu i t from r);subst e;exact zB P w i t|inr x=>obtain⟨t,e⟩:=(show ∃t,u=Value.str x t from r);subst e;exact yD P w x t
theorem vC{P:dF}{w:eJ}:∀{ks:List Key}{a:List b_},Vals (ks.map kV) a->ItemsAre (bj P w) ks a|[],_,r=>by rw[mr]at r;cases r;exact .nil|k::ks,_,r=>by rw[dl]at r;cases r with|cons h t=>exact .cons (tD h) (vC t)
noncomputable abbrev KT(H:Hp):List (List Key×V)->List (List Key×cx×b_)->Prop:=Paired λp q=>p.1=q.1/\H q.2.1=aU (.tup (p.1.map kV))/\RelV p.2 q.2.2
theorem KT.val{kvs:List (List Key×V)}{xs:List (List Key×cx×b_)}(r:KT H kvs xs)(k:List Key):qI (jF kvs k) ((rj xs k).map (·.2)):=by induction r with|nil=>exact ly|@cons p q ps a h t f=>
   obtain⟨h1,_,g⟩:=h;by_cases e:p.1=k
   . have c:q.1=k:=h1.symm.trans e;have b:rj (q::a) k=aU q.2:=by simp[rj,hQ,c]
     rw[oJ e,b];exact g
   . have c:¬ q.1=k:=λz=>e (h1.trans z);have b:rj (q::a) k=rj a k:=by simp[rj,hQ,c]
     rw[oV e,b];exact f
theorem KT.repl{kvs:List (List Key×V)}{xs:List (List Key×cx×b_)}(r:KT H kvs xs)(k:List Key){u:b_}(c:RelV y u):KT H (kvs.map λa=>if a.1=k then(a.1,y)else a) (xs.map (putAt k u)):=by induction r with|nil=>exact .nil|@cons p q ps i h t f=>
   rw[dl,dl];refine .cons ?_ f;obtain⟨h1,b,g⟩:=h;unfold putAt;by_cases e:p.1=k;.rw[if_pos e,if_pos (h1.symm.trans e)];exact⟨h1,b,c⟩
   .rw[if_neg e,if_neg (λz=>e (h1.trans z))];exact⟨h1,b,g⟩
theorem KT.put{kvs:List (List Key×V)}{xs:List (List Key×cx×b_)}(r:KT H kvs xs)(k:List Key){b:cx}{u:b_}(c:H b=aU (.tup (k.map kV)))(a:RelV y u):KT H (putK kvs k y) (storedH xs k b u):=by
 have e:(kvs.any λf=>decide (f.1=k))=(rj xs k).isSome:=by rw[rK,(r.val k).iI,isSome_map]
 unfold putK storedH;rw[e];by_cases q:(rj xs k).isSome=cq;.rw[if_pos q,if_pos q];exact r.repl k a
 .rw[if_neg q,if_neg q];exact Paired.snoc r ⟨rfl,c,a⟩
theorem KT.keeps{a:Hp}{kvs:List (List Key×V)}{xs:List (List Key×cx×b_)}(r:KT H kvs xs)(ht:∀b ys,H b=aU (.tup ys)->a b=aU (.tup ys)):KT a kvs xs:=Paired.U0 r λ_ _ z=>⟨z.1,ht _ _ z.2.1,z.2.2⟩
section
variable{P:dF}{w:eJ}{H:Hp}{h:eN}{a:cx}
theorem Q8{u:HO}(ok:o7 P w H h)(e:Rd H a u):bF P w H h a u:=e.ok ok
theorem uz{kvs:List (Key×V)}(ok:o7 P w H h)(e:Rd H a (.dK kvs)):kvs.length<=sizeLine/\(a==iO)=a_/\∃vs,KV kvs vs/\h.DictOf (bj P w) a vs:=show bF P w H h a (.dK kvs)from Q8 ok e
theorem Ra{kvs:List (Key×V)}(ok:o7 P w H h)(e:H a=aU (.dK kvs)):kvs.length<=sizeLine/\(a==iO)=a_/\∃vs,KV kvs vs/\h.DictOf (bj P w) a vs:=uz ok (.inl e)
theorem pN{ks:List Key}(ok:o7 P w H h)(e:H a=aU (.tup (ks.map kV))):(nh (bj P w)).is h ks a:=by obtain⟨_,b,r,o,h1,c,n,f⟩:=(show bF P w H h a (.tup (ks.map kV))from ok a _ e);exact⟨o,b.toArray,n,h1,c,f,by simpa using vC r⟩
theorem uD{kvs:List (List Key×V)}(ok:o7 P w H h)(e:Rd H a (.dT kvs)):kvs.length<=sizeLine/\(a==iO)=a_/\∃xs,KT H kvs xs/\h.DictOfH (nh (bj P w)) a xs:=by
 obtain⟨z,y,xs,r,o,es,ep,h1,c,f,g,i⟩:=(show bF P w H h a (.dT kvs)from Q8 ok e);refine⟨z,y,xs,r,o,es,ep,h1,c,f,g,λx hx=>?_,i⟩;have all:∀{l:List (List Key×V)}{m:List (List Key×cx×b_)},KT H l m->∀x∈m,(nh (bj P w)).is h x.1 x.2.1:=by intro l m q;induction q with|nil=>intro x hx;exact nomatch hx|@cons p q ps k b t j=>
    intro x hx;rcases da.mp hx with e|hx;.subst e;exact pN ok (by rw[<-b.1];exact b.2.1)
    .exact j x hx
 exact all r x hx
theorem Dr{kvs:List (List Key×V)}(ok:o7 P w H h)(e:H a=aU (.dT kvs)):kvs.length<=sizeLine/\(a==iO)=a_/\∃xs,KT H kvs xs/\h.DictOfH (nh (bj P w)) a xs:=uD ok (.inl e)
end
noncomputable def pF(H:Hp)(a:cx)(y:V)(r:Option V):Prop:=(∃kvs k,Rd H a (.dK kvs)/\y=kV k/\r=jF kvs k)\/∃kvs k b,Rd H a (.dT kvs)/\y=.ref b/\H b=aU (.tup (k.map kV))/\r=jF kvs k
noncomputable def aaO(H:Hp)(a:cx)(y v:V)(c:Hp):Prop:=(∃kvs k,H a=aU (.dK kvs)/\y=kV k/\kvs.length<sizeLine/\c=upd H a (.dK (putK kvs k v)))\/∃kvs k b,H a=aU (.dT kvs)/\y=.ref b/\H b=aU (.tup (k.map kV))/\kvs.length<sizeLine/\c=upd H a (.dT (putK kvs k v))
section
variable{X:Cx}{pins:List (cx×Obj)}{σ:St}{H:Hp}{s:cv}{a:cx}{y v:V}{u r:b_}{o:Option V}{A:eM}{E:b_->cv->Prop}
theorem Inv.big(I:Inv X pins σ H s):iO<s.heap.objs.size:=by have h:ef<s.heap.objs.size:=(I.mod.glob.keeps I.bk).lt;exact uS (by decide) h
theorem pI(hu:A.units+1<gS)(I:Inv X pins σ H s)(g:pF H a y (aU v))(t:RelV y u)(h:∀f x,Inv X pins σ H x->RelV v f->Q f x):cK (c_ X.prog X.w) A (k3 (.ref a) u) Q E s:=by
 rcases g with⟨kvs,k,e,i,l⟩|⟨kvs,k,b,e,i,B,l⟩;.subst i;obtain⟨z,hd,vs,c,j⟩:=uz I.hok e;obtain⟨f,m,n⟩:=qI.some_of (v:=v) (o:=oo vs k) (by rw[l];exact c.val k);exact wpAny_getItem_of (tD t) j.mapOf m (h f _ (I.tok _) n)
 .subst i;cases(show u=et b from t);obtain⟨z,hd,xs,c,j⟩:=uD I.hok e;obtain⟨f,m,n⟩:=qI.some_of (v:=v) (o:=(rj xs k).map (·.2)) (by rw[l];exact c.val k);obtain⟨p,C,q⟩:=f_.mp m;refine wpAny_getItem_heap (ke hu) (pN I.hok B) j C ?_;rw[q];exact h f _ (I.tok _) n
theorem aaz(hu:A.units+1<gS)(I:Inv X pins σ H s)(g:pF H a y o)(j:RelV y u)(h:∀m,Inv X pins σ H m->Q (.bool o.isSome) m):cK (c_ X.prog X.w) A (ec .In u (.ref a)) Q E s:=by
 rcases g with⟨kvs,k,e,f,l⟩|⟨kvs,k,b,e,f,n,l⟩;.subst f;obtain⟨z,hd,vs,c,i⟩:=uz I.hok e;refine wpAny_in_of (tD j) hd i.mapOf ?_;rw[<-(c.val k).iI,<-l];exact h _ (I.tok _)
 .subst f;cases(show u=et b from j);obtain⟨z,hd,xs,c,i⟩:=uD I.hok e;refine wpAny_in_heap (ke hu) (pN I.hok n) hd i ?_;have q:=(c.val k).iI;rw[isSome_map]at q;rw[<-q,<-l];exact h _ (I.tok _)
theorem FT(hu:A.units+1<gS)(I:Inv X pins σ H s)(g:pF H a y o)(j:RelV y u)(h:∀m,Inv X pins σ H m->Q (.bool (!o.isSome)) m):cK (c_ X.prog X.w) A (ec .NotIn u (.ref a)) Q E s:=by
 rcases g with⟨kvs,k,e,f,l⟩|⟨kvs,k,b,e,f,n,l⟩;.subst f;obtain⟨z,hd,vs,c,i⟩:=uz I.hok e;refine wpAny_notIn_of (tD j) hd i.mapOf ?_;rw[<-(c.val k).iI,<-l];exact h _ (I.tok _)
 .subst f;cases(show u=et b from j);obtain⟨z,hd,xs,c,i⟩:=uD I.hok e;refine wpAny_notIn_heap (ke hu) (pN I.hok n) hd i ?_;have q:=(c.val k).iI;rw[isSome_map]at q;rw[<-q,<-l];exact h _ (I.tok _)
theorem xU{h':eN}{t':Nat}{c:HO}(I:Inv X pins σ H s)(g:ZG (H a))(hs:nm a s.heap h')(he:∃q,h'.get? a=aU q)(f:bF X.prog X.w (upd H a c) h' a c):Inv X pins σ (upd H a c) {s with heap:=h',toks:=t'}:=I.write (x:=a) (e:=a) g (.inl rfl) (λb q h z=>(hs.2 b h).trans z) he f
theorem KQ{P:dF}{c:Hp}{h':eN}{kvs:List (Key×V)}{vs:List (Key×b_)}(z:kvs.length<=sizeLine)(hd:(a==iO)=a_)(b:KV kvs vs)(e:h'.DictOf (bj P w) a vs):bF P w c h' a (.dK kvs):=⟨z,hd,vs,b,e⟩
theorem Gw{x:Hp}{Q:Unit->cv->Prop}(hu:A.units+1<gS)(I:Inv X pins σ H s)(g:aaO H a y v x)(B:RelV y u)(C:RelV v r)(h:∀G,Inv X pins σ x G->Q () G):cK (c_ X.prog X.w) A (qq (.ref a) u r) Q E s:=by
 rcases g with⟨kvs,k,e,m,l,n⟩|⟨kvs,k,b,e,m,J,l,n⟩
 . subst m n;obtain⟨z,hd,vs,f,p⟩:=Ra I.hok e;have hz:vs.length<=sizeLine:=by rw[<-f.length];exact z
   have t:(putK kvs k v).length<=sizeLine:=by have:=kj kvs k v;omega
   refine wpAny_setItem_pairs (hsz:=hz) (tD B) p λh' i hs=>h _ ?_;have he:∃q,h'.get? a=aU q:=let⟨q,_,_,j,_⟩:=i;⟨q,j⟩;exact xU I (by rw[e];exact ly) hs he (KQ t hd (f.put k C) i)
 . subst m n;cases(show u=et b from B);obtain⟨z,hd,xs,f,p⟩:=Dr I.hok e;have hz:xs.length<=sizeLine:=by rw[<-Paired.length f];exact z
   have t:(putK kvs k v).length<=sizeLine:=by have:=kj kvs k v;omega
   refine wpAny_setItem_heap (hsz:=hz) (ke hu) (pN I.hok J) p λh' i hs=>h _ ?_;obtain⟨q,es,ep,j,M,N,O,_,U⟩:=i;refine xU I (by rw[e];exact ly) hs ⟨q,j⟩ ⟨t,hd,_,(f.put k J C).keeps λc ys L=>?_,q,es,ep,j,M,N,O,U⟩;rw[aC (ZC L e (λz=>nomatch z))];exact L
end
noncomputable def Nx(i:dO):Prop:=∀a iv,p5 i a_ a iv=operate [a,iv] (k3 a iv)
theorem DY{prog:dF}{A:eM}{E:b_->cv->Prop}{s:cv}{env:Env}{a slice:dO}{T id:String}(l:ml (.type T) "__getitem__"=fy (aU (.builtin id)))(hs:Nx slice)(h:cK (c_ prog w) A (fi a env) (λo e=>cK (c_ prog w) A (fi slice env) (λi b=>b.TypeIs o T/\cK (c_ prog w) A (k3 o i) Q E b) E e) E s):cK (c_ prog w) A (fi (.Subscript a slice pos) env) Q E s:=by
 refine Subscript_ (eK h (λo e g=>eK g (λi b c=>?_) λ_ _ x=>x) λ_ _ x=>x);obtain⟨k,c⟩:=c;unfold sq;refine bx ?_;rw[getitemInPython_of_ne k.not_modules];refine bx (mw k l ?_);have fin:cK (c_ prog w) A (p5 slice a_ o i) (λr f=>cK (c_ prog w) A (letTemporaryGo a o r>>=λ_=>fy r) Q E f) E b:=by rw[hs o i];exact wpAny_operating (eK c (λr f j=>bx (wpAny_letTemporaryGo (cw j))) λ_ _ x=>x)
 first|exact cw (bx fin)|exact bx (cw (bx fin))|exact bx fin
theorem jL{c:List (cx×Obj)}{σ:St}{s:cv}{a:cx}{o:Option V}(I:Inv X c σ H s)(g:pF H a y o):s.TypeIs (.ref a) "dict":=by
 rcases g with⟨kvs,k,e,_,_⟩|⟨kvs,k,b,e,_,_,_⟩;.obtain⟨_,_,vs,_,f⟩:=uz I.hok e;exact f.typeIs
 .obtain⟨_,_,xs,_,f⟩:=uD I.hok e;exact f.typeIs
noncomputable def aab(c ty:TE):TE:=λσ H Q=>c σ H λx e=>ty σ e λy b=>∃a v,x=.ref a/\pF b a y (aU v)/\Q v b
noncomputable def agf(ty c:TE):TE:=λσ H Q=>ty σ H λy e=>c σ e λx b=>∃a o,x=.ref a/\pF b a y o/\Q (.bl o.isSome) b
noncomputable def NT(ty c:TE):TE:=λσ H Q=>ty σ H λy e=>c σ e λx b=>∃a o,x=.ref a/\pF b a y o/\Q (.bl (!o.isSome)) b
noncomputable def aaG(c ty e:TE):TS:=λD σ H=>e σ H λv f=>c σ f λx g=>ty σ g λy h=>∃a b,x=.ref a/\aaO h a y v b/\D.nx σ b
section
variable{X:Cx}{o i e value:dO}{pos pos' tpos:Pos}{td ty tv:TE}
theorem Ng(hu:X.A.units+1<gS)(ho:PE X o td)(hi:PE X i ty)(hs:Nx i):PE X (.Subscript o i pos) (aab td ty):=by intro b s σ H Q I h;refine DY PySem.F.slot_dict_getitem.lookup hs (cA (ho b s σ H _ I h) λu s1⟨x,H1,I1,rx,q1⟩=>cA (hi b s1 σ H1 _ I1 q1) λiv s2⟨y,H2,I2,ry,a,v,ex,g,q2⟩=>?_);subst ex;obtain rfl:u=et a:=rx;exact⟨jL I2 g,pI hu I2 g ry λj s3 c f=>⟨v,H2,c,f,q2⟩⟩
theorem Vl(hu:X.A.units+1<gS)(hi:PE X i ty)(ho:PE X o td):PC X .In i o (agf ty td):=by intro b s σ H Q I h;refine cA (hi b s σ H _ I h) λiv s1⟨y,H1,I1,ry,q1⟩=>cA (ho b s1 σ H1 _ I1 q1) λu s2⟨x,H2,I2,rx,a,ov,ex,g,q2⟩=>?_;subst ex;obtain rfl:u=et a:=rx;exact aaz hu I2 g ry λs3 c=>⟨.bl ov.isSome,H2,c,rfl,q2⟩
theorem Gv(hu:X.A.units+1<gS)(hi:PE X i ty)(ho:PE X o td):PC X .NotIn i o (NT ty td):=by intro b s σ H Q I h;refine cA (hi b s σ H _ I h) λiv s1⟨y,H1,I1,ry,q1⟩=>cA (ho b s1 σ H1 _ I1 q1) λu s2⟨x,H2,I2,rx,a,ov,ex,g,q2⟩=>?_;subst ex;obtain rfl:u=et a:=rx;exact FT hu I2 g ry λs3 c=>⟨.bl (!ov.isSome),H2,c,rfl,q2⟩
theorem Fx(hu:X.A.units+1<gS)(ho:PE X o td)(hi:PE X i ty)(c:PE X value tv)(hs:h_ value (aU (.Subscript o i pos')) pos.line X.env=fy a_):PS X (.Assign [.Subscript o i pos'] value pos) (aaG td ty tv):=by intro b s σ H D I h;refine wpAny_Assign_Subscript (cA (c b s σ H _ I h) λr s1⟨v,H1,I1,rv,q1⟩=>cA (ho b s1 σ H1 _ I1 q1) λu s2⟨x,H2,I2,rx,q2⟩=>cA (hi b s2 σ H2 _ I2 q2) λiv s3⟨y,H3,I3,ry,a,H4,ex,g,q3⟩=>?_) hs;subst ex;obtain rfl:u=et a:=rx;exact Gw hu I3 g ry rv λs4 f=>⟨σ,H4,f,q3⟩
end
theorem zQ{P:dF}(h:eN)(a:iO<h.objs.size):bF P w H (h.push {cls:=.type "dict",data:=.dict #[]}) h.objs.size (.dK []):=⟨uL,beq_eq_false_iff_ne.mpr (fI (dS a)),[],.nil,Heap.DictOf.new h⟩
noncomputable def Vd:TE:=λ_ H Q=>∀p,H p=cr->Q (.ref p) (upd H p (.dK []))
section
variable{X:Cx}{pos:Pos}
theorem yH:PE X (.Dict [] [] pos) Vd:=λb s σ H Q I h=>wpAny_Dict_empty ⟨.ref s.heap.objs.size,_,I.laid (a:=s.heap.objs.size) (o:=.dK []) (t':=s.toks) (λ_ _ q=>dz q) (cI) (zQ s.heap I.big),rfl,h _ (I.hok.fresh (cI))⟩
end
noncomputable def Cv:List (TE×TE)->St->Hp->(List (V×V)->Hp->Prop)->Prop|[],_,H,Q=>Q [] H|(a,b)::r,σ,H,Q=>a σ H λx c=>b σ c λy e=>Cv r σ e λps f=>Q ((x,y)::ps) f
noncomputable abbrev VV:List (V×V)->List (b_×b_)->Prop:=Paired λp q=>RelV p.1 q.1/\RelV p.2 q.2
noncomputable def PPs(X:Cx)(pos:Pos)(keys:List (Option dO))(a:List dO)(e:List (TE×TE)):Prop:=∀(b:List (cx × Obj))(s:cv)(σ:St)(H:Hp)(Q:List (V × V)->Hp->Prop),Inv X b σ H s->Cv e σ H Q->cK (c_ X.prog X.w) X.A (evalPairs (pairTrees keys a X.env pos)) (λvs f=>∃ps c,Inv X b σ c f/\VV ps vs/\Q ps c) X.xe s
theorem wR:PPs X pos [] [] []:=λa s σ H Q I h=>pairTrees_nil_walk ⟨[],H,I,.nil,h⟩
theorem oW{k v:dO}{ks:List (Option dO)}{vs:List dO}{b c:TE}{e:List (TE×TE)}(f:PE X k b)(g:PE X v c)(hr:PPs X pos ks vs e):PPs X pos (aU k::ks) (v::vs) ((b,c)::e):=λa s σ H Q I h=>pairTrees_cons_walk (cA (f a s σ H _ I h) λu s1⟨x,H1,I1,rx,q1⟩=>cA (g a s1 σ H1 _ I1 q1) λi s2⟨y,H2,I2,ry,q2⟩=>cA (hr a s2 σ H2 _ I2 q2) λws s3⟨ps,H3,I3,rel,q3⟩=>⟨(x,y)::ps,H3,I3,.cons ⟨rx,ry⟩ rel,q3⟩)
noncomputable def mR(kvs more:List (Key×V)):List (Key×V):=more.foldl (λa b=>putK a b.1 b.2) kvs
theorem KV.merge:∀{more:List (Key×V)}{a:List (Key×b_)}{kvs:List (Key×V)}{vs:List (Key×b_)},KV more a->KV kvs vs->KV (mR kvs more) (merged vs a):=by intro more a kvs vs r;unfold KV at r;induction r generalizing kvs vs with|nil=>intro q;exact q|@cons p q ps c h t b=>
   intro r0;have e:KV (putK kvs p.1 p.2) (stored vs q.1 q.2):=by have:=r0.put p.1 h.2;rw[<-h.1];exact this
   exact b e
theorem my:∀(more kvs:List (Key×V)),(mR kvs more).length<=kvs.length+more.length|[],kvs=>by show kvs.length<=kvs.length+0;omega|p::r,kvs=>by have h1:=my r (putK kvs p.1 p.2);have a:=kj kvs p.1 p.2;show(mR (putK kvs p.1 p.2) r).length<=_;rw[eI];omega
theorem uE{P:dF}{w:eJ}:∀{kvs:List (Key×V)}{ws:List (b_×b_)},VV (kvs.map λf=>(kV f.1,f.2)) ws->∃e,Carries (bj P w) ws e/\KV kvs e|[],_,r=>by rw[mr]at r;cases r;exact⟨[],ly,.nil⟩|p::kvs,_,r=>by rw[dl]at r;cases r with|@cons a b as bs h t=>obtain⟨e,c,q⟩:=uE (P:=P) (w:=w) t;obtain⟨b1,b2⟩:=b;exact⟨(p.1,b2)::e,⟨tD h.1,rfl,c⟩,.cons ⟨rfl,h.2⟩ q⟩
noncomputable def Z5(c:List (TE×TE)):TE:=λσ H Q=>∀p,H p=cr->Cv c σ (upd H p (.dK [])) λps a=>a p=aU (.dK [])/\∃kvs:List (Key×V),ps=kvs.map (λb=>(kV b.1,b.2))/\kvs.length<=15/\Q (.ref p) (upd a p (.dK (mR [] kvs)))
theorem wK{keys:List (Option dO)}{b:List dO}{j:List (TE×TE)}(h:PPs X pos keys b j)(f:keys.all (·.isSome)=cq)(l:keys.length=b.length)(h0:keys≠[])(i:keys.length<=15):PE X (.Dict keys b pos) (Z5 j):=by
 intro g s σ H Q I q;have m:=I.hok.fresh (le_refl s.heap.objs.size);have n:=I.laid (a:=s.heap.objs.size) (o:=.dK []) (h':=s.heap.push {cls:=.type "dict",data:=.dict #[]}) (t':=s.toks) (λ_ _ q=>dz q) (cI) (zQ s.heap I.big);refine wpAny_Dict_walk (knd:=bj X.prog X.w) f l h0 i (cA (h g _ σ _ _ n (q _ m)) λws s2⟨ps,H2,I2,rel,e,kvs,ep,lk,q2⟩=>?_);subst ep;obtain⟨p,c,r⟩:=uE (P:=X.prog) (w:=X.w) rel;obtain⟨z,hd,t,r0,u⟩:=Ra I2.hok e;cases r0;refine⟨p,c,u,λh' k hs=>⟨.ref s.heap.objs.size,_,?_,rfl,q2⟩⟩;have hz:(mR [] kvs).length<=sizeLine:=by have h1:=my kvs [];rw[n4]at h1;rw[fh];omega
 have he:∃q,h'.get? s.heap.objs.size=aU q:=let⟨q,_,_,hq,_⟩:=k;⟨q,hq⟩;exact xU I2 (by rw[e];exact ly) hs he (KQ hz hd (r.merge .nil) k)
structure M2(X:Cx)(o:dO)(m:Str)(apos:Pos)(e f:dO)(cpos:Pos):Prop where
 base:kc o m X.env (fi o X.env)=fi o X.env
 few:((kf cpos (cL [e,f] X.env)).all (λx=>!x.1)&&(ri cpos (mN [] X.env)).all (λx=>x.1.isSome)&&decide (([e,f]:List dO).length+([]:List lI).length+(if([]:List lI).isEmpty then 0 else 1)<30))=cq
 line:(apos.endLine==cpos.line)=cq
 trees:kf cpos (cL [e,f] X.env)=[(a_,fi e X.env),(a_,fi f X.env)]
noncomputable def IsD(H:Hp)(a:cx):Prop:=(∃kvs,Rd H a (.dK kvs))\/∃kvs,Rd H a (.dT kvs)
theorem U8{f:List (cx×Obj)}{σ:St}{s:cv}{a:cx}(I:Inv X f σ H s)(d:IsD H a):s.TypeIs (.ref a) "dict"/\(∀b,et a=.ref b->∃c,s.heap.get? b=aU c/\c.dict=cr)/\(a==iO)=a_:=by
 rcases d with⟨kvs,e⟩|⟨kvs,e⟩;.obtain⟨_,hd,vs,_,g⟩:=uz I.hok e;refine⟨g.typeIs,λb q=>?_,hd⟩;cases q;obtain⟨c,_,_,h1,h,_⟩:=g;exact⟨c,h1,h.2.1⟩
 .obtain⟨_,hd,xs,_,g⟩:=uD I.hok e;refine⟨g.typeIs,λb q=>?_,hd⟩;cases q;obtain⟨c,_,_,h1,h,_⟩:=g;exact⟨c,h1,h.2.1⟩
section
variable{X:Cx}{pins:List (cx×Obj)}{σ:St}{H:Hp}{s:cv}{a:cx}{y d:V}{u r:b_}{o:Option V}{A:eM}{E:b_->cv->Prop}
theorem Tp(hu:A.units+1<gS)(I:Inv X pins σ H s)(g:pF H a y o)(j:RelV y u)(m:RelV d r)(h:∀n p,Inv X pins σ H p->RelV (o.getD d) n->Q n p):cK (c_ X.prog X.w) A (call (.builtin "dict.get") [.ref a,u,r]) Q E s:=by
 rcases g with⟨kvs,k,e,i,l⟩|⟨kvs,k,b,e,i,q,l⟩;.subst i;obtain⟨z,hd,vs,c,f⟩:=uz I.hok e;refine t9 slot_dict_get f.typeIs PySem.F.entry_dict_get (PySem.F.args_dict_get_3 _ _ _) (meets_dict_get_default (bj X.prog X.w) a (tD j) hd r) ⟨_,f.mapOf,h _ _ (I.tok _) ?_⟩;rw[l];exact(c.val k).getD m
 .subst i;cases(show u=et b from j);obtain⟨z,hd,xs,c,f⟩:=uD I.hok e;refine t9 slot_dict_get f.typeIs PySem.F.entry_dict_get (PySem.F.args_dict_get_3 _ _ _) (meetsH_dict_get_default (nh (bj X.prog X.w)) a b hd r) ⟨ke hu,k,xs,pN I.hok q,f,h _ _ (I.tok _) ?_⟩;rw[l];exact(c.val k).getD m
end
noncomputable def TY(e ty f:TE):TE:=λσ H Q=>e σ H λx b=>∃a,x=.ref a/\IsD b a/\ty σ b λy g=>f σ g λz c=>∃o,pF c a y o/\Q (o.getD z) c
section
variable{X:Cx}{o e f:dO}{apos cpos:Pos}{td ty tx:TE}
theorem JM(hu:X.A.units+1<gS)(ho:PE X o td)(he:PE X e ty)(c:PE X f tx)(m:M2 X o "get" apos e f cpos):PE X (.Call (.Attribute o "get" apos) [e,f] [] cpos) (TY td ty tx):=by intro b s σ H Q I h;refine wpAny_Call_method m.base m.few m.line PySem.F.plainAttrs_dict slot_dict_get PySem.F.type_dict_get (cA (ho b s σ H _ I h) λu s1⟨x,H1,I1,rx,a,ex,d,q1⟩=>?_);subst ex;obtain rfl:u=et a:=rx;obtain⟨t1,t2,_⟩:=U8 I1 d;refine⟨t1,t2,?_⟩;rw[m.trees];refine lm rfl (r9 (kM (cA (he b s1 σ H1 _ I1 q1) λiv s2⟨y,H2,I2,ry,q2⟩=>kM (cA (c b s2 σ H2 _ I2 q2) λk s3⟨z,H3,I3,rz,ov,g,q3⟩=>ng ?_))));exact Tp hu I3 g ry rz λl s4 i j=>⟨_,H3,i,j,q3⟩
end
end _L
namespace _H
open PySem _L Spec PyProof.Rows
variable{kvs:List (Int×D)}{es:List (Key×V)}{k:Int}{i:Nat}
inductive KR(K:PySem.W.Frag)(F:Hp):List (Int×D)->List (Key×V)->Prop where|nil:KR K F [] []|cons{k:Int}{d:D}{v:V}{kvs:List (Int×D)}{es:List (Key×V)}(h:Rep K F v d)(t:KR K F kvs es):KR K F ((k,d)::kvs) ((dP k,v)::es)
section
variable{K:PySem.W.Frag}{F F':Hp}
noncomputable def ent(ks:List Int)(vs:List V):List (Key×V):=(ks.zip vs).map λp=>(dP p.1,p.2)
theorem KR.of:∀{kvs:List (Int×D)}{vs:List V},aF K F vs (kvs.map (·.2))->KR K F kvs (ent (kvs.map (·.1)) vs)|[],vs,h=>by rw[mr]at h;rw[h.fZ];exact .nil|(k,d)::kvs,vs,h=>by obtain⟨v,r,rfl,h1,a⟩:=h.cR;exact .cons h1 (KR.of a)
theorem KR.to(h:KR K F kvs es):∃vs,es=ent (kvs.map (·.1)) vs/\aF K F vs (kvs.map (·.2)):=by induction h with|nil=>exact⟨[],rfl,.nil⟩|@cons k d v kvs es h t a=>obtain⟨vs,rfl,r⟩:=a;exact⟨v::vs,rfl,.cons h r⟩
theorem KR.oc(h:KR K F kvs es):mj K F (.dK es) (.v kvs):=by obtain⟨vs,rfl,r⟩:=h.to;exact⟨vs,rfl,r⟩
theorem KR.Vi{o:HO}(h:mj K F o (.v kvs)):∃es,o=.dK es/\KR K F kvs es:=by obtain⟨vs,rfl,r⟩:=h;exact⟨_,rfl,.of r⟩
theorem KR.len(h:KR K F kvs es):es.length=kvs.length:=by induction h with|nil=>rfl|cons h t a=>simp[a]
theorem KR.get{d:D}(h:KR K F kvs es)(e:mD kvs k=aU d):∃v,jF es (dP k:Key)=aU v/\Rep K F v d:=by induction h with|nil=>cases e|@cons j d' v kvs es h t a=>
   unfold mD at e a;rw[hQ]at e;by_cases c:j=k;.simp[c]at e;subst e;exact⟨v,oJ (by rw[c]),h⟩
   .simp[c]at e;obtain⟨b,h1,f⟩:=a (by simpa using e);exact⟨b,by rw[oV (by simpa using c)];exact h1,f⟩
theorem KR.any{kvs:List (Int×D)}{es:List (Key×V)}(k:Int)(h:KR K F kvs es):(es.any λa=>decide (a.1=(dP k:Key)))=kvs.any λp=>decide (p.1=k):=by induction h with|nil=>rfl|cons h t b=>simp[b]
theorem KR.has(k:Int)(h:KR K F kvs es):(jF es (dP k:Key)).isSome=(kvs.map (·.1)).contains k:=by rw[<-rK,h.any k];induction h with|nil=>rfl|@cons j d v kvs es h t a=>rw[li,a,dl,List.contains_cons];congr 1;exact Bool.eq_iff_iff.mpr ⟨λz=>by simp at z ⊢;exact z.symm,λz=>by simp at z ⊢;exact z.symm⟩
theorem KR.repl{d:D}{v:V}(r:Rep K F v d)(h:KR K F kvs es):KR K F (kvs.map λp=>if p.1=k then(p.1,d)else p) (es.map λa=>if a.1=(dP k:Key)then(a.1,v)else a):=by induction h with|nil=>exact .nil|@cons j d' e kvs es h t b=>
   by_cases c:j=k;.subst c;simp;exact .cons r b
   . have:¬(dP j:Key)=dP k:=by simpa using c
     simp[c,this];exact .cons h b
theorem KR.snoc{d:D}{v:V}(r:Rep K F v d)(h:KR K F kvs es):KR K F (kvs++[(k,d)]) (es++[(dP k,v)]):=by induction h with|nil=>exact .cons r .nil|cons h t a=>exact .cons h a
theorem KR.put{d:D}{v:V}(r:Rep K F v d)(h:KR K F kvs es):KR K F (gA kvs k d) (putK es (dP k:Key) v):=by
 unfold gA putK;rw[h.any k];split;.exact h.repl r
 .exact h.snoc r
theorem KR.zip{ks:List Int}{ds:List D}{vs:List V}(h:aF K F vs ds)(a:ks.length=ds.length):KR K F (ks.zip ds) (ent ks vs):=by induction ds generalizing ks vs with
 |nil=>rw[h.fZ];cases ks with|nil=>exact .nil|cons _ _=>simp at a
 |cons d ds b=>obtain⟨v,r,rfl,h1,c⟩:=h.cR;cases ks with|nil=>simp at a|cons k ks=>exact .cons h1 (b c (by simpa using a))
end
section
variable{K:PySem.W.Frag}{F F1 H H1:Hp}{ρ ρ1 ρ2:List Sl}{σ σ1:_L.St}
theorem GS.adI{x:Nat}{m p:Dc}{a:cx}(g:GS K F ρ σ H)(e:ρ[x]?=aU (.ie m))(r:σ[x]?=aU (aU (.ref a))):aB K F ρ σ H F (ρ.set x (.ie p)) σ (upd H a p.ho):=by
 have hi:x<ρ.length:=(fB e).1;have v:aZ ρ σ x a:=⟨⟨_,_,e,rfl⟩,r⟩;obtain⟨I,J,h1,L,w,M⟩:=g.own x _ _ e rfl;rw[r]at h1;cases h1;have f:∀{j:Nat}{c:cx},aZ (ρ.set x (.ie p)) σ j c->aZ ρ σ j c:=λ{j c}⟨⟨t,dt,h,s⟩,q3⟩=>by
  by_cases b:j=x;.subst b;exact⟨⟨_,_,e,rfl⟩,q3⟩
  .rw[fM b]at h;exact⟨⟨t,dt,h,s⟩,q3⟩
 refine⟨⟨λc o q=>?_,by simp[g.len],λj z d q=>?_,λj t dt q u=>?_,λj k c h s=>g.dis j k c (f h) (f s)⟩,.refl _,λc n A=>absurd n A,λc o q n=>?_,λc⟨j,q⟩=>.inl ⟨j,f q⟩,by simp,λj t q l=>⟨rfl,?_⟩⟩
 . have:c≠a:=by rintro rfl;rw[w]at q;cases q
   rw[aC this];exact g.sub c o q
 . by_cases b:j=x;.subst b;rw[cy hi]at q;cases q
   .rw[fM b]at q;exact g.val j z d q
 . by_cases b:j=x;.subst b;rw[cy hi]at q;cases q;cases u;exact⟨a,_,r,aH,w,rfl⟩
   . rw[fM b]at q;obtain⟨c,B,y,C,E,G⟩:=g.own j t dt q u;have:c≠a:=by rintro rfl;exact b (g.dis j x c ⟨⟨t,dt,q,u⟩,y⟩ v)
     exact⟨c,B,y,by rw[aC this];exact C,E,G⟩
 . have:c≠a:=by rintro rfl;exact n ⟨x,v⟩
   rw[aC this];exact q
 . by_cases b:j=x;.subst b;rw[e]at q;cases q;cases l
   .exact⟨t,by rw[fM b];exact q,.refl t⟩
theorem GS.newD{m:Dc}{a:cx}(g:GS K F ρ σ H)(e:ρ[i]?=aU .aX)(s:H a=cr):aB K F ρ σ H F (ρ.set i (.ie m)) (σ.set i (aU (.ref a))) (upd H a m.ho):=by
 have hi:i<ρ.length:=(fB e).1;have u:i<σ.length:=by rw[<-g.len];exact hi
 have x:F a=cr:=by cases q:F a with|none=>rfl|some o=>rw[g.sub a o q]at s;cases s
 have f:∀{j:Nat}{c:cx},j≠i->aZ (ρ.set i (.ie m)) (σ.set i (aU (.ref a))) j c->aZ ρ σ j c:=λ{j c}b⟨⟨t,ds,e1,e2⟩,e3⟩=>by rw[fM b]at e1 e3;exact⟨⟨t,ds,e1,e2⟩,e3⟩
 have h:∀{c:cx},aZ (ρ.set i (.ie m)) (σ.set i (aU (.ref a))) i c->c=a:=λ{c}⟨_,e3⟩=>by rw[cy u]at e3;cases e3;rfl
 have no:∀{j:Nat},¬ aZ ρ σ j a:=λ{j}⟨⟨t,ds,e1,e2⟩,e3⟩=>by obtain⟨c,o,p,r,_⟩:=g.own j t ds e1 e2;rw[e3]at p;cases p;rw[s]at r;cases r
 refine⟨⟨λc o q=>?_,by simp[g.len],λj z d q=>?_,λj t dt q y=>?_,λj k c p r=>?_⟩,.refl _,λc n A=>absurd n A,λc o q n=>?_,λc⟨j,q⟩=>?_,by simp,λj t q l=>?_⟩
 . have:c≠a:=by rintro rfl;rw[x]at q;cases q
   rw[aC this];exact g.sub c o q
 . by_cases b:j=i;.subst b;rw[cy hi]at q;cases q
   .rw[fM b]at q ⊢;exact g.val j z d q
 . by_cases b:j=i;.subst b;rw[cy hi]at q;cases q;cases y;exact⟨a,_,cy u,aH,x,rfl⟩
   . rw[fM b]at q ⊢;obtain⟨c,o,B,w,C,E⟩:=g.own j t dt q y;have:c≠a:=by rintro rfl;rw[s]at w;cases w
     exact⟨c,o,B,by rw[aC this];exact w,C,E⟩
 . by_cases b:j=i
   . by_cases v:k=i;.rw[b,v]
     .subst b;rw[h p]at r;exact absurd (f v r) no
   . by_cases v:k=i;.subst v;rw[h r]at p;exact absurd (f b p) no
     .exact g.dis j k c (f b p) (f v r)
 . have:c≠a:=by rintro rfl;rw[s]at q;cases q
   rw[aC this];exact q
 . by_cases b:j=i;.subst b;rw[h q];exact .inr s
   .exact .inl ⟨j,f b q⟩
 . have b:j≠i:=by rintro rfl;rw[e]at q;cases q;cases l
   exact⟨by rw[fM b],t,by rw[fM b];exact q,.refl t⟩
end
noncomputable def uO(p:Int×Int):Key×V:=(dP p.1,V.int p.2)
theorem Kh(i:Int):∀kvs:List (Int×Int),jF (kvs.map uO) (dP i:Key)=((kvs.find? λb=>decide (b.1=i)).map (·.2)).map V.int
 |[]=>rfl|p::kvs=>by
   have a:=Kh i kvs;unfold jF at a ⊢;rw[dl,hQ,hQ];by_cases h:p.1=i
   . have e:decide ((uO p).1=(dP i:Key))=cq:=by simp[uO,h]
     rw[e];simp[h,uO]
   . have e:decide ((uO p).1=(dP i:Key))=a_:=by simp[uO,h]
     rw[e];simp only[h,decide_false];exact a
theorem Wj(i v:Int)(kvs:List (Int×Int)):putK (kvs.map uO) (dP i:Key) (V.int v)=(putD kvs i v).map uO:=by
 have e:((kvs.map uO).any λa=>decide (a.1=(dP i:Key)))=kvs.any λa=>decide (a.1=i):=by rw[List.any_map];congr 1;funext p;simp[uO]
 unfold putK putD;rw[e];split
 . rw[ej,ej];refine hB λp _=>?_;by_cases h:p.1=i;.simp[uO,h]
   .simp[uO,h]
 .rw[gc];rfl
section
variable{X:Cx}{c:Call}{n:Nat}{a b e:dO}{pa pb p:P}{pos:Pos}
theorem LK{H:Hp}{q:cx}{m:Dc}{i:Int}{o:Option Int}(h:Rd H q m.ho)(e:m.get (.int i)=aU o):pF H q (.int i) (o.map V.int):=by cases m with|k kvs=>cases e;exact .inl ⟨kvs.map uO,dP i,h,rfl,(Kh i kvs).symm⟩|t kvs=>cases e
theorem nQ(hu:X.A.units+8<gS)(M:SX X c a pa)(N:SX X c b pb)(hs:Nx b):SX X c (.Subscript a b pos) (.bin .Af pa pb):=by refine wZ (f:=Ez) (λh1 O=>?_) M N (λρ=>rfl) rfl;intro l s σ H Q I h;refine DY PySem.F.slot_dict_getitem.lookup hs (cA (h1 l s σ H _ I h) λu s1⟨x,H1,I1,rx,q1⟩=>cA (O l s1 σ H1 _ I1 q1) λiv s2⟨y,H2,I2,ry,q2⟩=>?_);obtain⟨F,d,e,r,sm,G,J,he,k⟩:=q2;cases d with
 |dN m=>have U:=cg (show(m.get e).bind (λo=>o.map λv=>R.val (.int v))=aU r from he);clear he;obtain⟨o,w,he⟩:=U;cases o with|none=>cases he|some v=>
     cases he;obtain⟨i,rfl⟩:∃i,e=.int i:=by cases m with|t kvs=>cases e<;>cases w|k kvs=>cases e<;>first|exact⟨_,rfl⟩|cases w
     obtain⟨q,z,rfl,B⟩:=G.dN sm;rw[J.int]at ry;obtain rfl:u=et q:=rx;have g:=LK (.inr ⟨z,B⟩) w;exact⟨jL I2 g,pI (by omega) I2 g ry λW s3 C E=>⟨.int v,H2,C,E,cF.cV sm (bw _) k⟩⟩
 |dv ks ds=>cases e with|int j=>obtain⟨d',Y,he⟩:=map_some (show(mD (ks.zip ds) j).map R.val=aU r from he);subst he;obtain⟨q,z,vs,rfl,B,Z,hl⟩:=G.dv sm;obtain⟨L,g1,g2⟩:=(KR.zip Z hl).get Y;rw[J.int]at ry;obtain rfl:u=et q:=rx;have g:pF H2 q (.int j) (aU L):=.inl ⟨_,dP j,.inr ⟨z,B⟩,rfl,g1.symm⟩;exact⟨jL I2 g,pI (by omega) I2 g ry λW s3 C E=>⟨L,H2,C,E,cF.cV sm g2 k⟩⟩|_=>cases he
 |_=>cases he
theorem Pr{x:Str}{f p2:Pos}(h:X.N.Nodup)(hi:X.N[i]?=aU x)(j:Loc X.env.scope x)(hs:h_ (.Dict [] [] p2) (aU (.Name x f)) pos.line X.env=fy a_:=by rfl)(l:X.fn x=cq\/X.env.scope.names.lookup x=aU .local:=by first|(left;rfl)|(right;rfl)|assumption):SS X c n (.Assign [.Name x f] (.Dict [] [] p2) pos) (.Mp i a_):=by
 refine eO (xm h hi j yH hs l) ?_;rintro D σ H⟨F,ρ,fl,o,g,e,k⟩;rw[_H.X17]at e;split at e;.rename_i q;cases e;exact λa r=>k F _ _ (g.newD (m:=.k []) q r)
 .cases e
theorem Sw{x:Str}{C f l:Pos}{pk E:P}(hu:X.A.units+8<gS)(Y:X.N[i]?=aU x)(Z:yr X.env.scope x)(ha:SX X c a pk)(hb:SX X c b E)(m:M2 X (.Name x C) "get" f a b l)(hd:(x==("__debug__":Str))=a_:=by decide)(u:(x==("__classdict__":Str))=a_:=by decide):SX X c (.Call (.Attribute (.Name x C) "get" f) [a,b] [] l) (.YX i pk E):=by
 obtain⟨ta,h1,h2⟩:=ha.bW;obtain⟨tb,h3,h4⟩:=hb.bW;refine⟨eV (JM (by omega) (fO Y Z hd u) h1 h3 m) ?_,λi h=>by cases h⟩;rintro σ H Q⟨F,ρ,r,ac,g,e,k⟩;rw[_H.E23]at e;split at e
 . rename_i m0 q;obtain⟨y,ae,e1,G⟩:=aj e;clear e;obtain⟨dd,af,e2,s⟩:=aj G;clear G;obtain⟨I,o0,J,L,w3,w4⟩:=g.own i _ _ q rfl;refine⟨.ref I,J,I,rfl,?_,?_⟩;.cases(show o0=m0.ho from w4);cases m0 with|k kvs=>exact .inl ⟨_,.inl L⟩|t kvs=>exact .inr ⟨_,.inl L⟩
   . refine h2 g e1 λv F1 H1 s1 pv=>h4 s1.gs e2 λz M H2 s2 O=>?_;split at s
     . rename_i m1 q1;obtain⟨U,e3⟩:=aD s;clear s;subst e3;obtain⟨o,B,eD⟩:=cg U;clear U;obtain⟨w,e5,e6⟩:=map_some eD;subst e6;obtain⟨a1,o1,W,y2,y3,y4⟩:=s2.gs.own i _ _ q1 rfl;rw[J]at W;cases W;cases(show o1=m1.ho from y4);obtain⟨j,rfl⟩:∃j,y=.int j:=by cases m1 with|t kvs=>cases y<;>cases B|k kvs=>cases y<;>first|exact⟨_,rfl⟩|cases B
       rw[di e5]at O;rw[pv.int,O.int];refine⟨o.map V.int,LK (.inl y2) B,?_⟩;have:(o.map V.int).getD (V.int w)=V.int (o.getD w):=by cases o<;>rfl
       rw[this];exact k _ M H2 (s1.trans s2) (show Rep X.K M _ _ from bw _)
     .cases s
 .cases e
theorem Nj{x:Str}{C f:Pos}{pk:P}(hu:X.A.units+8<gS)(J:X.N[i]?=aU x)(L:yr X.env.scope x)(M:SX X c a pk)(he:SX X c e p)(hs:h_ e (aU (.Subscript (.Name x C) a f)) pos.line X.env=fy a_:=by rfl)(hd:(x==("__debug__":Str))=a_:=by decide)(s:(x==("__classdict__":Str))=a_:=by decide):SS X c n (.Assign [.Subscript (.Name x C) a f] e pos) (.dput i pk p):=by
 obtain⟨ta,h1,O⟩:=M.bW;refine eO (Fx (by omega) (fO J L hd s) h1 he.ev hs) ?_;rintro D σ H⟨F,ρ,fl,Q,g,e,k⟩;rw[_H.X18]at e;obtain⟨r,u,U,o⟩:=aj e;clear e;refine⟨F,ρ,r,u,g,U,λv F1 H1 s1 W=>?_⟩;split at o
 . rename_i m0 Y;obtain⟨E,Z,e2,h⟩:=aj o;clear o;obtain⟨z,o0,B,w2,w3,w4⟩:=s1.gs.own i _ _ Y rfl;refine⟨.ref z,B,O s1.gs e2 λy F2 H2 s2 py=>?_⟩;split at h
   . rename_i m w q;split at h;.rename_i G l;cases h;obtain⟨a1,o1,I,y2,y3,y4⟩:=s2.gs.own i _ _ q rfl;rw[B]at I;cases I;cases(show o1=m.ho from y4);cases(show v=.int w by have:Rep X.K F1 v (.int w):=W;rwa[Rep]at this);refine⟨z,upd H2 z G.ho,rfl,?_,k F2 σ _ ((s1.trans s2).trans (s2.gs.adI q B))⟩;cases m with|t kvs=>cases E<;>cases l|k kvs=>cases E with|int j=>obtain⟨hl,l⟩:=bf (show(if kvs.length<lim then aU (Dc.k (putD kvs j w))else cr)=aU G from l);subst l;rw[py.int];refine .inl ⟨kvs.map uO,dP j,y2,rfl,by rw[dy,fh];exact hl,?_⟩;rw[Wj];rfl|_=>cases l
     .cases h
   .cases h
 .cases o
end
end _H
namespace _L
open PySem Spec PyProof.Rows
noncomputable def Itk(a:cx)(b:Obj)(kvs:List (Key×V)):It:=⟨λi H=>H a=aU (.dw b (.dK kvs))/\i<kvs.length,λi H x c=>c=H/\∃p,kvs[i]?=aU p/\x=kV p.1,λi H=>H a=aU (.dw b (.dK kvs))/\kvs.length<=i⟩
theorem KV.get:∀{κ:Type}{kvs:List (κ×V)}{vs:List (κ×b_)}{i:Nat}{p:κ×V},KV kvs vs->kvs[i]?=aU p->∃v,vs[i]?=aU (p.1,v)|_,_,_,_,_,.nil,e=>by simp at e|_,_,_,0,_,.cons r _,e=>by simp at e;subst e;exact⟨_,by rw[List.getElem?_cons_zero,r.1]⟩|_,_,_,i+1,p,.cons _ t,e=>by obtain⟨v,h⟩:=KV.get (i:=i) (p:=p) t (by simpa using e);exact⟨v,by simpa using h⟩
theorem vK{X:Cx}{b:List (cx×Obj)}{σ:St}{H:Hp}{s:cv}{a:cx}{c:Obj}{kvs:List (Key×V)}{es:Array DictEntry}{ep:Nat}(I:Inv X b σ H s)(h:H a=aU (.dw c (.dK kvs)))(hd:c.data=.dict es ep):(a==iO)=a_/\∃vs,KV kvs vs/\s.heap.DictAt (bj X.prog X.w) a vs ep:=by obtain⟨ho,hz,f,vs,r,g⟩:=(show bF X.prog X.w H s.heap a (.dw c (.dK kvs))from I.hok a _ h);obtain⟨o,i,j,h1,k,e,l⟩:=g;rw[ho]at h1;cases h1;rw[hd]at e;cases e;exact⟨f,vs,r,⟨c,es,ho,k,hd,l⟩⟩
theorem T8{P:dF}{w:eJ}{k:Key}{u:b_}(h:(bj P w).is k u=cq):RelV (kV k) u:=by
 rcases bI h with⟨i,t,rfl,rfl⟩|⟨x,t,rfl,rfl⟩;.exact⟨t,rfl⟩
 .exact⟨t,rfl⟩
theorem Hn{P:dF}{w:eJ}{K:PySem.W.Frag}{C:dO}(a it:cx)(B:Obj)(kvs:List (Key×V))(es:Array DictEntry)(ep:Nat)(hd:B.data=.dict es ep):Turn P w K C (Itk a B kvs) [it] it (λi h=>h.IsKeyIter it a i kvs.length ep)where
 mem:=by simp
 obj:=λi h st b g=>by
  have e:b=it:=by simpa using g
  subst e;obtain⟨o,e,c,d⟩:=st;exact⟨o,e,λv z=>by rw[d]at z;cases z⟩
 keep:=λi h h' st k=>st.at λo e=>k it (by simp) o e;item:=by intro X n p q hc i f s σ H E I m st t;subst n p q;obtain⟨x,hi⟩:=t;obtain⟨G,vs,r,y⟩:=vK I x hd;have l:vs.length=kvs.length:=(Paired.length r).symm;obtain⟨v,J⟩:=KV.get r (show kvs[i]?=aU kvs[i]by simp[hi]);obtain⟨f0,f1,f2,f3,f4,f5⟩:=m it (by simp);refine wpAny_pyNext_dict_item (by rw[l];exact st) y J λu h' hu j L=>?_;have M:Inv X f σ H {s with heap:=h'}:=I.turned (t':=s.toks) (λb o g e=>(L.2 b g).trans e) f0 f1 f3 f4 f5;rw[l]at j;obtain⟨o,e,c,d⟩:=id j;exact⟨u,rfl,Dm (s:={s with heap:=h'}) e c d (by decide) ⟨_,H,M,T8 hu,⟨rfl,_,by simp[hi],rfl⟩,j,λb g=>(m b g).1⟩⟩
 done:=by intro X n p q hc i f s σ H E I m st t;subst n p q;obtain⟨x,hi⟩:=t;obtain⟨G,vs,r,y⟩:=vK I x hd;have l:vs.length=kvs.length:=(Paired.length r).symm;obtain⟨f0,f1,f2,f3,f4,f5⟩:=m it (by simp);refine wpAny_pyNext_dict_end (I.ok.hd hc) (by rw[l];exact st) y (by simp[l,hi]) λh' he=>⟨rfl,?_⟩;exact I.turned (t':=s.toks) (λb o g e=>he b o g e) f0 f1 f3 f4 f5
 self:=λA i s Q E st N=>wpAny_pyIter_keyiter st N
section
variable{X:Cx}{tg:dO}
theorem OD{l:dO}{k:TE}(n:PE X l k):PI X tg l (λσ H R=>k σ H λx f=>∃a c kvs,x=.ref a/\f a=aU (.dw c (.dK kvs))/\R (Itk a c kvs) f):=by
 intro g s σ H R I h;refine cA (n g s σ H _ I h) ?_;rintro v s1⟨x,f,j,r1,a,c,kvs,e,p,q⟩;subst e;cases r1;obtain⟨ho,hz,t,vs,r,u⟩:=(show bF X.prog X.w f s1.heap a (.dw c (.dK kvs))from j.hok a _ p);obtain⟨o,es,ep,h1,y,m,z⟩:=id u;rw[ho]at h1;cases h1;have i:vs.length=kvs.length:=(Paired.length r).symm;refine wpAny_pyIter_dict (knd:=bj X.prog X.w) (kvs:=vs) (ep:=ep) t ⟨c,es,ho,y,m,z⟩ ?_;refine⟨s1.heap.objs.size,[s1.heap.objs.size],_,_,f,rfl,j.kept (t':=s1.toks) λb o e=>dz e,Hn a _ c kvs es ep m,⟨_,dc _ rfl,rfl,by rw[i];rfl⟩,λb A=>?_,q⟩;have e:b=s1.heap.objs.size:=by simpa using A
 subst e;exact j.Hm (cI) (j.hok.fresh (cI))
end
end _L
namespace _H
open PySem _L Spec PyProof.Rows
section
variable{X:Cx}{c:Call}{tg e:dO}{p:P}
theorem Qn{ks:List Int}{es:List (Key×V)}{j:Nat}{p:Key×V}{i:Int}(h:es.map (·.1)=ks.map (dP:Int->Key))(a:es[j]?=aU p)(b:ks[j]?=aU i):p.1=dP i:=by
 have:(es.map (·.1))[j]?=(ks.map (dP:Int->Key))[j]?:=by rw[h]
 rw[eL,eL,a,b]at this;exact fb this
theorem sr:∀{ks:List Int}{vs:List V},ks.length=vs.length->(ent ks vs).map (·.1)=ks.map (dP:Int->Key)|[],[],_=>rfl|k::ks,v::vs,h=>by have:=sr (ks:=ks) (vs:=vs) (by simpa using h);unfold ent at this ⊢;simpa using this|[],_::_,h=>by simp at h|_::_,[],h=>by simp at h
theorem Qx(h:SX X c e p):SI X c tg e (.blt .keys [p]):=by
 unfold SI;obtain⟨ta,h1,U⟩:=h.bW;refine qd (OD h1) ?_;rintro σ H R⟨F,ρ,ds,A,g,W,k⟩;obtain⟨r,o,G,Y⟩:=aj (show((_H.ev c (.blt .keys [p]) ρ).bind λr ρ=>lift (items r.d) ρ)=.ok ds A from W);obtain⟨I,Z⟩:=aD Y;subst Z;rw[_H.E17]at G;obtain⟨d,ac,e1,eE⟩:=aj G;obtain⟨y,e4⟩:=aD eE;subst e4;refine U g e1 λv F' J s L=>?_;have hd:∃(ks:List Int)(es:List (Key×V))(a:cx)(b:Obj),ds=ks.map D.int/\v=.ref a/\J a=aU (.dw b (.dK es))/\es.map (·.1)=ks.map (dP:Int->Key):=by cases d with
  |dN m=>cases m with|k kvs=>cases y;cases I;obtain⟨a,b,rfl,f⟩:=L.dN s.gs.sub;exact⟨kvs.map (·.1),kvs.map uO,a,b,by rw[ej];rfl,rfl,f,by rw[ej,ej];rfl⟩|t kvs=>cases y
  |dv ks ae=>cases y;cases I;obtain⟨a,b,vs,rfl,f,rs,hl⟩:=L.dv s.gs.sub;exact⟨ks,ent ks vs,a,b,rfl,rfl,f,sr (by rw[rs.length];exact hl)⟩|_=>cases y
 obtain⟨ks,es,a,b,rfl,rfl,f,u⟩:=hd;have B:es.length=ks.length:=by have:=congrArg me u;simpa using this
 refine⟨a,b,es,rfl,f,k _ F' J ⟨s.gs,λn j M o C H2 s2=>?_,λM o C H2 s2=>⟨s.trans s2,λv r rr=>rr.later s⟩⟩⟩;have gm:=s.gs.more (n:=n) (τ:=cE n cr) (by simp);have w:=s2.keep a _ f λ⟨j,⟨t,dt,q1,q2⟩,q3⟩=>by obtain⟨a',o',N,O,z3,E⟩:=gm.own j t dt q1 q2;rw[q3]at N;cases N;rw[f]at O;cases O;cases dt with|l ds=>obtain⟨xs,z,_⟩:=E;cases z|d m=>cases m<;>cases E|v kvs=>obtain⟨xs,z,_⟩:=E;cases z
 refine⟨λd hd=>?_,λQ=>⟨w,by rw[B];simpa using Q⟩⟩;have Q:j<ks.length:=by have:=(fB hd).1;simpa using this
 refine⟨⟨w,by omega⟩,λx nu⟨e5,q,e6,e7⟩=>?_⟩;subst e5;refine⟨M,.refl s2.gs.sub,?_⟩;rw[eL]at hd;obtain⟨i,e8,e9⟩:=map_some hd;rw[e7,Qn u e6 e8,<-e9];exact bw _
end
end _H
namespace _H
open PySem _L Spec PyProof.Rows Calls W
section
variable{X:Cx}{c:Call}{a:dO}{pa:P}{pos:Pos}
theorem ju:∀{ns:List Int}{b:List b_},fe b ns->Vals (ns.map V.int) b|_,_,.nil=>.nil|_,_,.cons n t r=>.cons ⟨t,rfl⟩ (ju r)
theorem pP{K:PySem.W.Frag}{F:Hp}:∀ns:List Int,aF K F (ns.map V.int) (ns.map D.int)|[]=>.nil|n::ns=>.cons (bw n) (pP ns)
end
end _H
namespace _H
open PySem _L Spec PyProof.Rows
theorem Inv.afe{X:Cx}{c:List (cx×Obj)}{σ:_L.St}{H:Hp}{s:cv}{a:cx}{kvs:List (List Key×V)}(I:_L.Inv X c σ H s)(h:H a=aU (.dT kvs)):∃o,_L.Inv X c σ (upd H a (.dw o (.dT kvs))) s:=by obtain⟨z,y,xs,r,o,es,ep,h1,f,g,i,j⟩:=(show bF X.prog X.w H s.heap a (.dT kvs)from I.hok a _ h);refine⟨o,I.write (h':=s.heap) (t':=s.toks) (by rw[h];exact trivial) (.inl rfl) (λb u _ e=>e) ⟨o,h1⟩ ⟨h1,z,y,xs,KT.keeps r λb ys q=>?_,o,es,ep,h1,f,g,i,j⟩⟩;rw[aC (by rintro rfl;rw[h]at q;cases q)];exact q
section
variable{X:Cx}{c:Call}{n:Nat}{a b e:dO}{p pa pb:P}{pos:Pos}{es:List dO}{ps:List P}{x1:Nat}{tpos:Pos}
theorem JP{i:Nat}{x:Str}{A:Pos}(B:X.N[i]?=aU x)(C:yr X.env.scope x)(hd:(x==("__debug__":Str))=a_:=by decide)(w:(x==("__classdict__":Str))=a_:=by decide):SX X c (.Name x A) (.vw i):=by
 have h:=fO (X:=X) (pos:=A) B C hd w;refine⟨?_,λi h=>by cases h⟩;rintro f s σ H Q I⟨F,ρ,r,E,g,e,k⟩;rw[_H.E24]at e;split at e
 . rename_i m q;cases e;obtain⟨a,h1,j,l⟩:=g.Dw q;refine cA (h f s σ H (λv y=>v=.ref a/\y=H) I ⟨.ref a,h1,rfl,rfl⟩) λu s1⟨v,H1,I1,r1,e1,e2⟩=>?_;subst e1 e2;have G:∃o,_L.Inv X f σ (upd H1 a (.dw o m.ho)) s1:=by cases m with|k kvs=>exact Inv.Hf I1 j|t kvs=>exact Inv.afe I1 j
   obtain⟨o,z⟩:=G;exact⟨.ref a,_,z,r1,k _ _ _ (l o).1 (l o).2⟩
 .rename_i kvs q;cases e;obtain⟨a,vs,h1,j,l⟩:=g.Fp q;refine cA (h f s σ H (λv y=>v=.ref a/\y=H) I ⟨.ref a,h1,rfl,rfl⟩) λu s1⟨v,H1,I1,r1,e1,e2⟩=>?_;subst e1 e2;obtain⟨o,z⟩:=Inv.Hf I1 j;exact⟨.ref a,_,z,r1,k _ _ _ (l o).1 (l o).2⟩
 .rename_i b ds q;cases e;obtain⟨v,J,h1,j,l⟩:=g.freeze q;exact h f s σ H Q I ⟨v,h1,k v J H j l⟩
 .rename_i b d q;cases e;obtain⟨v,h1,j⟩:=g.val i b d q;exact h f s σ H Q I ⟨v,h1,k v F H (.refl g) j⟩
 .cases e
end
end _H
namespace _H
open PySem _L Spec PyProof.Rows
section
variable{K:PySem.W.Frag}{F H F' H':Hp}{ρ ρ':List Sl}{σ σ':_L.St}
noncomputable def Kp(ρ:List Sl)(σ:_L.St)(H:Hp)(a:cx)(o:HO):Prop:=H a=aU o/\¬ Own ρ σ a
theorem Kp.stp{a:cx}{o:HO}(h:Kp ρ σ H a o)(s:aB K F ρ σ H F' ρ' σ' H'):Kp ρ' σ' H' a o:=⟨s.keep a o h.1 h.2,λz=>(s.wu a z).elim h.2 λe=>by rw[h.1]at e;cases e⟩
structure Wt(K:PySem.W.Frag)(F:Hp)(ρ:List Sl)(σ:_L.St)(H:Hp)(a:cx)(ds:List D):Prop where
 ex:∃xs,Kp ρ σ H a (.lst xs)/\aF K F xs ds
 fr:F a=cr
theorem Wt.stp{a:cx}{ds:List D}(h:Wt K F ρ σ H a ds)(s:aB K F ρ σ H F' ρ' σ' H'):Wt K F' ρ' σ' H' a ds:=by obtain⟨⟨xs,h1,b⟩,c⟩:=h;refine⟨⟨xs,h1.stp s,b.mono s.cQ⟩,?_⟩;cases q:F' a with|none=>rfl|some o=>
   rcases s.yj a c (by rw[q];simp)with z|z;.exact absurd z h1.2
   .rw[h1.1]at z;cases z
end
end _H
namespace _H
open PySem _L Spec PyProof.Rows Calls W
theorem Om{ns js:List Int}(p:js.Perm ns)(s:js.Pairwise (·<=·))(e:ns.length<64):qP (ns.map D.int)=js.map D.int:=by
 refine(kZ ?_ (p.map D.int) ?_).symm;.simp only[sortable,dy,eR,k_,decide_eq_true_eq];refine⟨by omega,.inl ?_⟩;rw[gi];intro x c;obtain⟨i,_,rfl⟩:=de.mp c;rfl
 .rw[oD];refine s.imp λ{a b}h=>?_;simp only[mV,cZ,bz,mn];simp;omega
theorem G8{prog:dF}{w:eJ}{A:eM}{E:b_->cv->Prop}{s:cv}{vs:List b_}{ns:List Int}{a:cx}{n:Nat}{O:PySem.Fin->cv->Prop}(ho:s.heap.get? a=aU (kR "list" vs.toArray n))(k:fe vs ns)(f:vs.length<64)(h:∀h' c(out:List b_)(js:List Int),(∀b o,b≠a->s.heap.get? b=aU o->h'.get? b=aU o)->fe out js->qP (ns.map D.int)=js.map D.int->js.length=ns.length->h'.get? a=aU (kR "list" out.toArray c)->O (.done (.ret .none)) {s with heap:=h'}):cK (c_ prog w) A (gI.«list.sort» ⟨[.ref a],[]⟩) O E s:=by refine list_sort_tree ho k f λout js m p1 s1=>?_;have p:a<s.heap.objs.size:=dA ho;obtain⟨g,i⟩:∃g,(s.heap.update a (fU λ_=>(#[]:Array b_))).get? a=aU (kR "list" #[] g):=⟨_,mz ho λ_=>#[]⟩;have j:(((s.heap.update a (fU λ_=>(#[]:Array b_))).push (kR "tuple" vs.toArray 0)).push (kR "list" #[] 0)).get? a=aU (kR "list" #[] g):=dz (dz i);obtain⟨c,hc⟩:∃c,(sortedHeap s.heap a vs out).get? a=aU (kR "list" out c):=⟨_,mz j λ_=>out⟩;refine h (sortedHeap s.heap a vs out) c out.toList js (λb o l e=>?_) m (Om p1 s1 (by rw[<-kF k];exact f)) p1.length_eq (by rw[hc]);exact(ew _ _ (fI l)).trans (dz (dz ((ew _ _ (fI l)).trans e)))
end _H
namespace _H
open PySem PyProof.Rows
section
variable{M:sT}{A:eM}{E:b_->cv->Prop}{s:cv}{κ:kw}{ok:gX->Prop}{K:gX->Int}
theorem GK(R:Rk M A E s κ ok K){st b:kg}{xs:Array gX}{lo n:Nat}{Q:Option Nat->kg->Prop}(h:Sx κ ok st xs b)(f:lo+n<=xs.size)(h1:1<=n)(sg:Seg K xs lo (lo+n))(q:Q (aU n) b):wpS M A E s (countRun' lo n) Q b:=by
 have one:∀ys:Array gX,Seg K ys lo (lo+1):=λys i j k l jn=>by rw[show i=j by omega];exact fm _
 show wpS M A E s (_>>=_) Q b;refine iS (Ud (a:=1) (n:=n) R h f (le_refl 1) h1 (one xs) λm m1 o sm e=>?_);dsimp only;have c1:m=n:=by
  by_cases c:m=n;.exact c
  .have g:=e.resolve_left c;have:=sg (lo+m-1) (lo+m) (by omega) (by omega) (by omega);omega
 subst c1;rw[if_pos (by simp)];exact k7 q
theorem SR.Zi{x0 ys:Array gX}{l:List Rn}{lo n:Nat}{st:kg}(h:SR κ ok K x0 ys l lo st)(h1:1<=n)(a:lo+n<=ys.size)(hs:Seg K ys lo (lo+n)):SR κ ok K x0 ys (l++[(lo,n,0)]) (lo+n) (setPending st ((k4 st).push (lo,n,0))):=⟨h.kind,h.arr,h.fail,by show((k4 st).push (lo,n,0)).toList=_;rw[ut,h.pend],h.perm,h.ok,wJ.mpr ⟨lo,h.rns,rfl,h1,hs,rfl⟩,a⟩
theorem vA:∀(f n r:Nat),r<=1->n<64\/n<=f->tS f n r<=n+r/\(64<=n->tS f n r<=n)
 |0,n,r,hr,h=>by have e:tS 0 n r=n+r:=rfl;rw[e];exact⟨cI,λz=>by omega⟩|f+1,n,r,hr,h=>by
   rw[minRun'_succ];by_cases c:n<64;.rw[if_pos c];exact⟨cI,λz=>by omega⟩
   .rw[if_neg c];have a:=vA f (n/2) (max r (n%2)) (by omega) (by omega);exact⟨by omega,λ_=>by omega⟩
theorem Jo(R:Rk M A E s κ ok K){x0:Array gX}{Q:Unit->kg->Prop}{st:kg}(h:SR κ ok K x0 x0 [] 0 st)(sg:Seg K x0 0 x0.size)(h1:1<=x0.size)(q:∀a,vc a=x0->u0 a=cr->Q () a):wpS M A E s sortRuns' Q st:=by
 rw[sortRuns'_eq];refine iS (tj ?_);dsimp only;simp only[h.arr];have j:tS x0.size x0.size 0<=x0.size:=(vA x0.size x0.size 0 (by omega) (.inr (cI))).1;generalize tS x0.size x0.size 0=o at j;refine iS (wpS_mono (tm (I:=λx c a=>(c=(cr,0)/\SR κ ok K x0 x0 [] 0 a/\x=0)\/(c=(cr,x0.size)/\SR κ ok K x0 x0 [(0,x0.size,0)] x0.size a)) (Q:=λc a=>c=(cr,x0.size)/\SR κ ok K x0 x0 [(0,x0.size,0)] x0.size a) ?_ ?_ (.inl ⟨rfl,h,rfl⟩)) ?_)
 . rintro x c f _ k(⟨rfl,b,rfl⟩|⟨rfl,b⟩)
   . dsimp only;rw[if_neg (by omega)];refine iS (GK R b.sx (lo:=0) (n:=x0.size-0) (by omega) (by omega) (by simpa using sg) ?_);dsimp only;rw[if_neg (by omega)];refine iS (tj ?_);have l:(k4 f).back?=cr:=by have:k4 f=#[]:=nI.mp b.pend;rw[this];rfl
     rw[l];dsimp only;refine iS (wpS_modify (k7 (.inr ⟨by simp,?_⟩)));have:=b.Zi (n:=x0.size-0) (by omega) (by omega) (by simpa using sg);simpa using this
   .dsimp only;rw[if_pos (cI)];exact k7 ⟨rfl,b⟩
 . rintro c f(⟨rfl,b,e⟩|⟨rfl,b⟩);.omega
   .exact⟨rfl,b⟩
 . rintro c f⟨rfl,b⟩;dsimp only;refine iS (wpS_mono (tm (I:=λx c a=>c=(cr,())/\SR κ ok K x0 x0 [(0,x0.size,0)] x0.size a) (Q:=λc a=>c=(cr,())/\SR κ ok K x0 x0 [(0,x0.size,0)] x0.size a) ?_ (λ_ _ h=>h) ⟨rfl,b⟩) ?_)
   . rintro x c g _ k⟨rfl,i⟩;refine iS (tj ?_);try dsimp only
     have m:(k4 g).size<=1:=by rw[<-eS,i.pend];simp
     rw[if_pos m];exact k7 ⟨rfl,i⟩
   .rintro c g⟨rfl,i⟩;dsimp only;exact k7 (q g i.arr i.fail)
end
end _H
namespace _H
open PySem W PyProof.Rows Calls _L Spec
section
variable{prog:dF}{w:eJ}{A:eM}{E:b_->cv->Prop}{s:cv}{vs:List b_}{κ:kw}{P:b_->D->Prop}{ds:List D}
theorem IW{a:cx}{n:Nat}{O:PySem.Fin->cv->Prop}(ho:s.heap.get? a=aU (kR "list" vs.toArray n))(so:sortable ds=cq)(hz:vs.length<=16777216)(L:Paired P vs ds)(fn:∀u d e,P u d->P u e->cZ d=cZ e)(z:ds.Pairwise λa b=>mV a b=cq)(N:∀h',(∀b o,b≠a->s.heap.get? b=aU o->h'.get? b=aU o)->∀C:kw->cv->Prop,C κ {s with heap:=h'}->2<=vs.length->cK (c_ prog w) A (keyKind' vs.toArray) C (λ_ _=>False) {s with heap:=h'})(hl:∀h',(∀b o,b≠a->s.heap.get? b=aU o->h'.get? b=aU o)->∀u v d e,P u d->P v e->∀C:Bool->cv->Prop,C (bz (cZ d) (cZ e)) {s with heap:=h'}->cK (c_ prog w) A (keyLt' κ u v) C (λ_ _=>False) {s with heap:=h'})(h:∀h' c p,(∀b o,b≠a->s.heap.get? b=aU o->h'.get? b=aU o)->p.Perm (dE vs.length)->pick .non p ds=qP ds->h'.get? a=aU (kR "list" (pick .none p vs).toArray c)->O (.done (.ret .none)) {s with heap:=h'}):cK (c_ prog w) A (gI.«list.sort» ⟨[.ref a],[]⟩) O E s:=by
 have ha:a<s.heap.objs.size:=dA ho;have B:vs.length=ds.length:=Paired.length L;obtain⟨l,G⟩:∃l,(s.heap.update a (fU λ_=>(#[]:Array b_))).get? a=aU (kR "list" #[] l):=⟨_,mz ho λ_=>#[]⟩;rw[list_sort_plain];refine bx (listItems_at ho rfl ?_);refine bx (sA ho rfl ?_ (by rw[cS,fh];omega) (uL));refine bx (uG G rfl ?_);refine bx (wpAny_newTuple ?_ (by show vs.length<=_;rw[fh];omega));refine bx (sk ?_ (uL));refine fT ?_;generalize hH:(((s.heap.update a (fU λ_=>(#[]:Array b_))).push {cls:=.type "tuple",data:=.seq vs.toArray}).push {cls:=.type "list",data:=.seq #[]}:eN)=m;have g:m.get? a=aU (kR "list" #[] l):=by rw[<-hH];exact dz (dz G)
 have keep:∀b o,b≠a->s.heap.get? b=aU o->m.get? b=aU o:=λb o M e=>by rw[<-hH];exact dz (dz ((ew _ _ (fI M)).trans e))
 have fin:∀p:List Nat,p.Perm (dE vs.length)->pick .non p ds=qP ds->O (.done (.ret .none)) {s with heap:=m.update a (fU λ_=>tz (pick .none p vs))}:=by intro p h1 f;obtain⟨c2,U⟩:∃c2,(m.update a (fU λ_=>tz (pick eA p vs))).get? a=aU (kR "list" (pick eA p vs).toArray c2):=⟨_,mz g λ_=>tz (pick eA p vs)⟩;exact h _ c2 p (λb o M e=>(ew _ _ (fI M)).trans (keep b o M e)) h1 f U
 show cK (c_ prog w) A _ O E {s with heap:=m};dsimp only;by_cases f:vs.toArray.size<2
 . rw[if_pos f,if_pos f];refine bx (cw ?_);rw[StateT.run_pure];refine bx (cw ?_);dsimp only;have eo:(vc (SortSt.mk' general' (vs.toArray.zip vs.toArray) #[] 7 cr)).map (·.2)=tz (pick eA (dE vs.length) vs):=by rw[nP];apply nI.mp;show((vs.toArray.zip vs.toArray).map (·.2)).toList=vs;simp[List.map_snd_zip]
   rw[eo];refine bx (uG g rfl ?_);refine bx (sA g rfl ?_ (uL) (by rw[cS,uw (.refl _),fh];omega));simp only[bne_self_eq_false,i7,if_false];refine cw (fin _ (.refl _) ?_);rw[B,nP];refine kZ so (.refl _) ?_;match ds,(show ds.length<2 by simp at f;omega)with|[],_=>exact .nil|[_],_=>exact List.pairwise_singleton ..|_::_::_,f=>simp at f;omega
 . rw[if_neg f,if_neg f];have W:2<=vs.length:=by simpa using f
   refine bx (N m keep _ ?_ W|>λq=>eK q (λ_ _ x=>x) λ_ _ x=>x.elim);have H:(vs.toArray.zip vs.toArray).toList=(dE vs.length).map λi=>(vs.getD i eA,vs.getD i eA):=by
    refine lw (by simp) λi h1 f=>?_;have:i<vs.length:=by simpa using f
    simp[this]
   have X:∀x∈(vs.toArray.zip vs.toArray).toList,∃d,d∈ds/\P x.1 d:=λx hx=>by rw[H]at hx;obtain⟨i,hi,rfl⟩:=de.mp hx;have:=lG L i (i4.mp hi);exact⟨_,this.2,this.1⟩
   have R:Rk (c_ prog w) A E {s with heap:=m} κ (λx=>∃d,d∈ds/\P x.1 d) (rkK P ds):=⟨by rintro x y Q st⟨d,d1,d2⟩⟨e,l,t⟩Y hq;rw[Dk fn d1 d2,Dk fn l t,Jz d1]at hq;rw[lt'_eq];refine iS (tj ?_);rw[Y];refine iS (wpS_lift (lP (eK (hl m keep x.1 y.1 d e d2 t (λb Z=>Z={s with heap:=m}/\b=bz (cZ d) (cZ e)) ⟨rfl,rfl⟩) ?_ λ_ _ h=>h.elim)));rintro b Z⟨rfl,rfl⟩;exact⟨rfl,k7 hq⟩⟩;have at':∀k,k<vs.length->it (vs.toArray.zip vs.toArray) k=(vs.getD k .none,vs.getD k .none):=λk N=>by rw[Od,H];simp[N]
   have hsz:(vs.toArray.zip vs.toArray).size=vs.length:=by simp
   have sg:Seg (rkK P ds) (vs.toArray.zip vs.toArray) 0 (vs.toArray.zip vs.toArray).size:=λi j _ ij jn=>by
    rw[hsz]at jn;rw[at' i (by omega),at' j jn];have a1:=lG L i (by omega);have a2:=lG L j jn;rw[Dk fn a1.2 a1.1,Dk fn a2.2 a2.1];by_cases e:i=j;.rw[e];exact fm _
    . have I:=p4.mp z i j (by omega) (by omega) (by omega);simp only[mV,mn]at I;have l:ds.getD i .non=ds[i]'(by omega):=by simp[show i<ds.length by omega]
      have t:ds.getD j .non=ds[j]'(by omega):=by simp[show j<ds.length by omega]
      rw[<-l,<-t,<-Jz a2.2,decide_eq_false_iff_not]at I;omega
   have run:=Jo R (x0:=vs.toArray.zip vs.toArray) (st:=SortSt.mk' κ (vs.toArray.zip vs.toArray) #[] 7 cr) (Q:=λ_ r=>∃p:List Nat,p.Perm (dE vs.length)/\pick .non p ds=qP ds/\(vc r).map (·.2)=(pick eA p vs).toArray/\u0 r=cr) ⟨rfl,rfl,rfl,rfl,.refl _,X,rfl,uL⟩ sg (by rw[hsz];omega) λr l t=>by
     refine⟨dE vs.length,.refl _,?_,?_,t⟩;.rw[B,nP];exact kZ so (.refl _) z
     .rw[l,nP];apply nI.mp;simp[List.map_snd_zip]
   refine bx (eK run ?_ λ_ _ e=>e);rintro⟨⟨⟩,r⟩Z⟨rfl,p,p1,p2,J,hf⟩;dsimp only;rw[J];refine bx (uG g rfl ?_);refine bx (sA g rfl ?_ (uL) (by rw[cS,uw p1,fh];omega));rw[hf];simp only[bne_self_eq_false,i7,if_false];exact cw (fin _ p1 p2)
end
end _H
namespace _H
open PySem _L Spec PyProof.Rows Calls W
noncomputable def Ao(nw:cx->Option HO)(H:Hp):Hp:=λa=>match nw a with|some o=>aU o|none=>H a
theorem yf{nw:cx->Option HO}{H:Hp}{a:cx}{o:HO}(h:nw a=aU o):Ao nw H a=aU o:=by unfold Ao;rw[h]
theorem ik{nw:cx->Option HO}{H:Hp}{a:cx}(h:nw a=cr):Ao nw H a=H a:=by unfold Ao;rw[h]
theorem aaZ{X:Cx}{g:List (cx×Obj)}{σ:_L.St}{H:Hp}{s:cv}{h':eN}{t':Nat}{nw:cx->Option HO}(I:_L.Inv X g σ H s)(k:∀b u,s.heap.get? b=aU u->h'.get? b=aU u)(i:∀a o,nw a=aU o->s.heap.objs.size<=a)(h:∀a o,nw a=aU o->bF X.prog X.w (Ao nw H) h' a o):_L.Inv X g σ (Ao nw H) {s with heap:=h',toks:=t'}:=by
 have no:∀a,a<s.heap.objs.size->nw a=cr:=λa j=>by cases q:nw a with|none=>rfl|some o=>exact absurd (i a o q) (Nat.not_le_of_lt j)
 have f:∀a o,H a=aU o->Ao nw H a=aU o:=λa o e=>by rw[ik (no a (I.hok.lt e))];exact e
 refine I.un ⟨λb u q _ _ _=>k b u q,λb u q _ _ _=>⟨u.slots,k b u q⟩,λb u q n _=>?_,λb u q _=>⟨u,k b u q⟩,λb xs q=>f b _ q,λb u xs q=>f b _ q,λb ps q=>⟨#[],by rw[f b _ q];simp⟩⟩ λb u e=>?_;.rw[ik (no b (dA q))];exact n
 .cases q:nw b with|some o=>rw[yf q]at e;cases e;exact h b _ q|none=>rw[ik q]at e;exact(I.hok b u e).stay (λc v _ z=>k c v z) (λc z=>f c _ z) λc xs z=>f c _ z
noncomputable def iv(l d:cx):eN->Prop:=λh=>h.IsItemsView l d
noncomputable def Jd:V->List V->Hp->VK->Prop:=λx xs H Q=>∃q a kvs,x=.ref q/\xs=[]/\H q=aU (.dw a (.dK (map uO kvs)))/\∀l,H l=cr->Q (.ref l) (upd H l (.ext (iv l q)))
noncomputable def rIt(X:Cx):List V->Hp->VK->Prop:=λxs H Q=>∃l q f kvs,xs=[.ref l]/\H l=aU (.ext (iv l q))/\H q=aU (.dw f (.dK (map uO kvs)))/\(kvs.length<=16777216/\kvs.Pairwise (λa b=>a.1<b.1))/\∃F,aK F H/\∀v e c,Ext F H e c->cF X.K e c H v (.own (kvs.map kO))->Q v c
theorem yZ{P:dF}{w:eJ}{h:eN}:∀{kvs:List (Int×Int)}{vs:List (Key×b_)}{as:List cx},KV (kvs.map uO) vs->as.length=vs.length->(∀(j:Nat)(a:cx),as[j]?=aU a->∃key k x,vs[j]?=aU (k,x)/\(bj P w).is k key=cq/\h.get? a=aU {cls:=.type "tuple",data:=.seq #[key,x]})->∀(j:Nat)(a:cx),as[j]?=aU a->∃p,kvs[j]?=aU p/\∃t u,h.get? a=aU {cls:=.type "tuple",data:=.seq #[gu p.1 t,gu p.2 u]}
 |[],_,as,.nil,f,_,j,a,e=>by cases as with|nil=>cases e|cons _ _=>simp at f
 |p::kvs,_,as,.cons (b:=q) r t,f,hk,j,a,e=>by cases as with|nil=>cases e|cons b as=>cases j with
     |zero=>
       obtain⟨key,k,x,g,m,n⟩:=hk 0 a e;simp at g;have o:k=dP p.1:=by have z:=r.1;rw[g]at z;exact z.symm
       have s:∃u,x=gu p.2 u:=by have z:=r.2;rw[g]at z;exact z
       subst o;obtain⟨u,rfl⟩:=s;obtain⟨i,v,l,rfl⟩|⟨_,_,l,_⟩:=bI (show qy (dP p.1) key=cq from m);.cases l;exact⟨p,rfl,v,u,n⟩
       .cases l|succ j=>exact yZ t (by simpa using f) (λi c z=>by simpa using hk (i+1) c (by simpa using z)) j a (by simpa using e)
noncomputable def tpV(p:Int×Int):HO:=.tup [.int p.1,.int p.2]
noncomputable def qT:List cx->List (Int×Int)->cx->Option HO|a::as,p::ps,b=>if b=a then aU (tpV p)else qT as ps b|_,_,_=>cr
theorem qN:∀{as:List cx}{ps:List (Int×Int)}{b:cx}{o:HO},qT as ps b=aU o->∃(j:Nat)(p:Int×Int),as[j]?=aU b/\ps[j]?=aU p/\o=tpV p
 |a::as,p::ps,b,o,h=>by
   unfold qT at h;split at h;.rename_i e;cases h;subst e;exact⟨0,p,rfl,rfl,rfl⟩
   .obtain⟨j,q,h1,c,f⟩:=qN h;exact⟨j+1,q,by simpa using h1,by simpa using c,f⟩|[],_,_,_,h=>by simp[qT]at h|_::_,[],_,_,h=>by simp[qT]at h
theorem Fg:∀{as:List cx}{ps:List (Int×Int)},as.Pairwise (·<·)->∀{j:Nat}{b:cx}{p:Int×Int},as[j]?=aU b->ps[j]?=aU p->qT as ps b=aU (tpV p)|[],_,_,_,_,_,h,_=>by simp at h|_::_,[],_,_,_,_,_,h=>by simp at h|a::as,q::ps,c,j,b,p,h1,f=>by unfold qT;cases j with|zero=>cases h1;cases f;rw[if_pos rfl]|succ j=>
     have h1:as[j]?=aU b:=by simpa using h1
     have:=(kN.mp c).1 b (eh h1);rw[if_neg (λe=>by rw[e]at this;exact i6 _ this)];exact Fg (kN.mp c).2 h1 (by simpa using f)
theorem tY:∀as:List cx,Vals (as.map V.ref) (as.map et)|[]=>.nil|_::as=>.cons rfl (tY as)
theorem Ef{K:PySem.W.Frag}{F:Hp}:∀{as:List cx}{ps:List (Int×Int)},as.length=ps.length->(∀(j:Nat)(b:cx)(p:Int×Int),as[j]?=aU b->ps[j]?=aU p->F b=aU (tpV p))->aF K F (as.map V.ref) (ps.map kO)|[],[],_,_=>.nil|a::as,p::ps,c,h=>.cons (by have:=h 0 a p rfl rfl;rw[show kO p=.tup [.int p.1,.int p.2]from rfl,Rep];refine⟨a,_,rfl,.inl (.inl this),.cons (by rw[Rep]) (.cons (by rw[Rep]) .nil)⟩) (Ef (by simpa using c) λj b q h1 e=>h (j+1) b q (by simpa using h1) (by simpa using e))|[],_::_,c,_=>by simp at c|_::_,[],c,_=>by simp at c
theorem Ec{h:eN}:∀{as:List cx}{ps:List (Int×Int)},as.length=ps.length->(∀(j:Nat)(b:cx),as[j]?=aU b->∃p,ps[j]?=aU p/\∃t u,h.get? b=aU {cls:=.type "tuple",data:=.seq #[gu p.1 t,gu p.2 u]})->Paired (qL h) (as.map et) (ps.map kO)|[],[],_,_=>.nil|a::as,p::ps,c,h=>.cons (by obtain⟨q,e,t,u,g⟩:=h 0 a rfl;cases e;exact⟨a,[gu p.1 t,gu p.2 u],[p.1,p.2],rfl,⟨_,g,rfl,0,rfl⟩,.cons _ _ (.cons _ _ .nil),by simp,rfl⟩) (Ec (by simpa using c) λj b h1=>by simpa using h (j+1) b (by simpa using h1))|[],_::_,c,_=>by simp at c|_::_,[],c,_=>by simp at c
theorem yC{prog:dF}{w:eJ}{A:eM}{E:b_->cv->Prop}{s:cv}{v d:cx}{kvs:List (Key×b_)}{ep:Nat}{Q:List b_->cv->Prop}(n:A.handled=cr)(i:s.heap.IsItemsView v d)(j:s.heap.DictAt (bj prog w) d kvs ep)(p:kvs.length<=sizeLine)(t:∀(h':eN)(f:Nat)(as:List cx),(∀b o,s.heap.get? b=aU o->h'.get? b=aU o)->s.heap.objs.size<h'.objs.size->as.length=kvs.length->KdxG (bj prog w) kvs s.heap.objs.size h' as->Q (as.map et) {s with heap:=h',toks:=f}):cK (c_ prog w) A (qv (.ref v)) Q E s:=by
 have g:v<s.heap.objs.size:=let⟨_,h1,_⟩:=i;dA h1;have h:d<s.heap.objs.size:=j.lt_size;unfold qv;refine bx (k8 (ga F.entry_proto_collect ?_));rw[fw F.plain_proto_collect _];show cK _ A.in1 (tJ []>>=λl=>again (.builtin "list.__iadd__" ⟨[l,.ref v],[]⟩)) _ _ s;refine bx (ei (cw ⟨im F.plain_list_iadd _,ga F.entry_list_iadd ?_⟩));rw[fw F.plain_list_iadd _];show cK _ A.in1 (ja (.ref s.heap.objs.size) (.ref v) (.ref s.heap.objs.size)) _ _ _;refine kdx_extend (A:=A) (R:=λr k=>match r with
  |.ok (.ret v)=>cK (c_ prog w) A (match v with
   |.ref a=>do let o<-load a match o.data with|.seq xs _=>fy xs.toList|_=>lp "internal:collect"
   |_=>lp "internal:collect") Q E k|.ok _=>False|.error e=>E e k) (s:={s with heap:=s.heap.push {cls:=.type "list",data:=.seq #[]}}) n (let⟨o,h1,q⟩:=i;⟨o,dz h1,q⟩) (j.at' λo e=>dz e) s.heap.objs.size (rh g) (dS h) _ 0 (dc _ rfl) (λh' f u B as x m y z c=>?_) p;refine bx (q_ m (cw ?_));rw[c];exact t h' f as (λb o e=>x b o (dS (dA e)) (dz e)) (dA m) y (z.low (by rw[size_push'];exact oI _))
section
variable{X:Cx}{c:Call}{a:dO}{pa:P}{pos:Pos}
theorem JW:MtR X "dict.items" Jd:=by rintro f s σ H x xs v u Q I h i⟨q,j,kvs,rfl,rfl,l,k⟩;cases h;cases i;obtain⟨ho,hz,m,vs,r,g⟩:=(show bF X.prog X.w H s.heap q (.dw j (.dK (kvs.map uO)))from I.hok q _ l);refine t9 PySem.F.slot_dict_items g.typeIs PySem.F.entry_dict_items (PySem.F.args_dict_items_1 _) (meets_dict_items _ q m) ⟨⟨vs,g⟩,?_⟩;have n:(s.heap.push {cls:=.type "dict_items",data:=.fields #[.ref q]}).IsItemsView s.heap.objs.size q:=⟨_,dc _ rfl,rfl,rfl⟩;refine⟨.ref s.heap.objs.size,_,I.laid (t':=s.toks) (o:=.ext (iv s.heap.objs.size q)) (λb o e=>dz e) (cI) ⟨n,⟨_,dc _ rfl⟩,λh1 y z k=>?_⟩,rfl,k _ (I.hok.fresh (cI))⟩;obtain⟨o,p,t⟩:=z;exact⟨o,k o p,t⟩
theorem T4(hc:X.calm=cq):dC X (.builtin "sorted") (rIt X):=by
 rintro al s σ H xs us Q I r⟨l,q,ob,kvs,hx,hl,hq,⟨am,ac⟩,F,sm,k⟩;subst hx;have so:sortable (kvs.map kO)=cq:=by
  have:(kvs.map kO).all zc=cq:=by rw[gi];intro x hx;obtain⟨p,_,rfl⟩:=de.mp hx;rfl
  simp only[sortable,dy,this,Bool.or_true,qc,decide_eq_true_eq];omega
 have J:(kvs.map kO).Pairwise λa b=>mV a b=cq:=by rw[oD];refine ac.imp λ{a b}h=>?_;show(!bz [b.1,b.2] [a.1,a.2])=cq;simp[bz];omega
 have ae:qP (kvs.map kO)=kvs.map kO:=(kZ so (.refl _) J).symm;rw[<-ae]at k;obtain⟨u,rfl,rx⟩:=r.one;cases rx;obtain⟨af,_,_⟩:=(show bF X.prog X.w H s.heap l (.ext (iv l q))from I.hok l _ hl);obtain⟨ho,hz,hS,vs,rv,dd⟩:=(show bF X.prog X.w H s.heap q (.dw ob (.dK (kvs.map uO)))from I.hok q _ hq);have L:vs.length=kvs.length:=by rw[<-Paired.length rv,dy]
 obtain⟨f,es,ep,d1,d2,d3,d4⟩:=dd;have dat:s.heap.DictAt (bj X.prog X.w) q vs ep:=⟨f,es,d1,d2,d3,d4⟩;refine pp kind_sorted plain_sorted entry_sorted (args_sorted1 _) ?_;unfold gI.«sorted»;refine bx (m:=checkCount "sorted" 1 1 _) (cw ?_);refine bx (yC (A:=X.A.in1) (I.ok.hd hc) af dat (by rw[L,fh];omega) λh1 M as kp hsz N hG=>?_);have hsz:=l_ hsz;have g:as.length=kvs.length:=N.trans L;have pr:=yZ rv N hG.pairs;have tt:Paired (qL h1) (as.map et) (kvs.map kO):=Ec g pr;have O:∀a o,qT as kvs a=aU o->s.heap.objs.size<=a:=λa o e=>by obtain⟨j,p,U,_,_⟩:=qN e;exact l_ (hG.above a (eh U))
 have i:∀a o,qT as kvs a=aU o->H a=cr:=λa o e=>I.hok.fresh (O a o e);have B:aK H (Ao (qT as kvs) H):=λb o e=>by cases z:qT as kvs b with|none=>rw[ik z];exact e|some f=>rw[i b f z]at e;cases e
 have e0:Ext F H (Ao (qT as kvs) F) (Ao (qT as kvs) H):=by
  refine⟨B,λb o e=>?_,λb o e=>?_,λb n n'=>?_⟩;.cases z:qT as kvs b with|none=>rw[ik z];exact e|some f=>have n0:=i b f z;rw[sm b o e]at n0;cases n0
  .cases z:qT as kvs b with|none=>rw[ik z]at e ⊢;exact sm b o e|some f=>rw[yf z]at e ⊢;exact e
  .cases z:qT as kvs b with|none=>rw[ik z]at n';exact absurd n n'|some f=>rw[i b f z];rfl
 have rs:aF X.K (Ao (qT as kvs) F) (as.map V.ref) (kvs.map kO):=Ef g λj b p h1 h2=>yf (Fg hG.rise h1 h2);have vv:=tY as;have ag:∀b∈as,b<h1.objs.size:=λb hb=>hG.there hb;have W:(as.map et).length=kvs.length:=by rw[dy];exact g
 refine bx (sk ?_ (by rw[W,fh];omega));generalize Y:(h1.push {cls:=.type "list",data:=.seq (as.map et).toArray}:eN)=G;have Z:G.get? h1.objs.size=aU (kR "list" (as.map et).toArray 0):=by rw[<-Y];exact dc _ rfl
 have Ai:∀b o,h1.get? b=aU o->G.get? b=aU o:=λb o e=>by rw[<-Y];exact dz e
 have E:∀b o,h1.get? b=aU o->b≠h1.objs.size:=λb o e=>dS (dA e);show cK _ _ _ _ _ {s with heap:=G,toks:=M};refine bx (fT (fv slot_list_sort ⟨_,Z,rfl⟩ entry_list_sort ?body (args_list_sort _)));case body=>
  refine IW (s:={s with heap:=G,toks:=M}) (κ:=tuples' (eP "int"!=eP "tuple")) Z so (by omega) tt Qv J (λh' k' C hC h2=>?_) (λh' k' u v d e hd he C hC=>?_) λh' cc p k' p1 p2 e=>?_;.exact Ha (s:={s with heap:=h',toks:=M}) (vR (λb o z=>k' b o (E b o z) (Ai b o z)) tt) h2 hC
  .have kk:∀b o,h1.get? b=aU o->h'.get? b=aU o:=λb o z=>k' b o (E b o z) (Ai b o z);exact Qt (s:={s with heap:=h',toks:=M}) (pR kk hd) (pR kk he) hC
  . refine⟨_,rfl,cw ⟨_,rfl,?_⟩⟩;have kk:∀b o,h1.get? b=aU o->h'.get? b=aU o:=λb o z=>k' b o (E b o z) (Ai b o z);have hL:qT as kvs h1.objs.size=cr:=by cases z:qT as kvs h1.objs.size with|none=>rfl|some o=>obtain⟨j,p,U,_,_⟩:=qN z;exact absurd (ag _ (eh U)) (i6 _)
    have ah:upd (Ao (qT as kvs) H) h1.objs.size (.lst (pick .non p (as.map V.ref)))=Ao (λb=>if b=h1.objs.size then aU (.lst (pick .non p (as.map V.ref)))else qT as kvs b) H:=by
     funext b;unfold upd Ao;by_cases z:b=h1.objs.size;.rw[if_pos z];simp only[if_pos z]
     .rw[if_neg z];simp only[if_neg z]
    have I':=aaZ (t':=M) (h':=h') (nw:=λb=>if b=h1.objs.size then aU (.lst (pick .non p (as.map V.ref)))else qT as kvs b) I (λb o z=>kk b o (kp b o z)) (λa o z=>by
     by_cases y:a=h1.objs.size;.rw[y];exact hsz
     .simp only[if_neg y]at z;exact O a o z) (λa o z=>by
     by_cases y:a=h1.objs.size;.simp only[if_pos y]at z;cases z;subst y;exact⟨by rw[uw p1,W,fh];omega,pick .none p (as.map et),cc,Lx vv,e⟩
     .simp only[if_neg y]at z;obtain⟨j,p',U,e2,rfl⟩:=qN z;obtain⟨ap,e3,t,u,e4⟩:=pr j a U;rw[e2]at e3;cases e3;exact⟨by rw[fh];simp,[gu p'.1 t,gu p'.2 u],.cons ⟨t,rfl⟩ (.cons ⟨u,rfl⟩ .nil),⟨_,kk _ _ e4,rfl,0,rfl⟩⟩);rw[<-ah]at I';refine⟨.ref h1.objs.size,_,I',rfl,?_⟩;have ai:aF X.K (Ao (qT as kvs) F) (pick .non p (as.map V.ref)) (qP (kvs.map kO)):=by rw[<-p2];exact La rs
    refine zV e0.sub ai (by rw[ik hL];exact I.hok.fresh hsz) λv F2 G x rn=>k v F2 G ⟨e0.hs.trans x.hs,e0.fs.trans x.fs,x.sub,λc n n'=>?_⟩ ?_
    . by_cases e:Ao (qT as kvs) F c=cr;.have:=x.gr c e n';cases z:H c with|none=>rfl|some o=>rw[B c o z]at this;exact this
      .exact e0.gr c n e
    obtain⟨b,xs,q1,q2,q3,q4,q5⟩:=rn;refine⟨b,xs,q1,q2,q3,q4,?_⟩;cases z:H b with|none=>rfl|some o=>rw[B b o z]at q5;cases q5
theorem Ig{o:dO}{to:TE}{f g:Pos}(ho:PE X o to)(j:kc o "items" X.env (fi o X.env)=fi o X.env:=by rfl)(l:(f.endLine==g.line)=cq:=by rfl):PE X (.Call (.Attribute o "items" f) [] [] g) (λσ H Q=>to σ H λx m=>Jd x [] m Q):=by intro i s σ H Q I h;refine wpAny_Call_method0_late j l (cA (ho i s σ H _ I h) λv s1⟨x,m,I1,r1,q1⟩=>?_);obtain⟨q,u,kvs,rfl,_,y,k⟩:=id q1;cases r1;obtain⟨ho,hz,z,vs,r,n,es,ep,p,t,A⟩:=(show bF X.prog X.w m s1.heap q (.dw u (.dK (kvs.map uO)))from I1.hok q _ y);refine⟨"dict","dict.items",PySem.F.plainAttrs_dict,PySem.F.slot_dict_items,PySem.F.type_dict_items,⟨n,p,t.1⟩,λb e=>?_,lm rfl (PySem.evalArgs_none (JW i s1 σ m (.ref q) [] _ [] Q I1 rfl .nil q1))⟩;cases e;exact⟨n,p,t.2.1⟩
theorem O6{x:Str}{U f j:Pos}{o:dO}(W:x="sorted")(hc:X.calm=cq)(Y:Gl X x)(Z:X.mg x=cr)(p:(f.endLine==j.line)=cq)(ha:SX X c o pa)(s:kc o "items" X.env (fi o X.env)=fi o X.env:=by rfl):SX X c (.Call (.Name x U) [.Call (.Attribute o "items" f) [] [] j] [] pos) (.blt .Ml [pa]):=by
 subst W;obtain⟨ta,h1,h3⟩:=ha.bW;refine⟨eV (fG (T4 hc) Y Z boot_sorted (cG (Ig h1 s p) dX)) ?_,λi h=>by cases h⟩;rintro σ H Q⟨F,ρ,r,C,g,e,k⟩;have e:((bW (isVar pa) (_H.ev c pa) ρ).bind λx ρ=>lift (blt .Ml [x]) ρ)=.ok r C:=e;obtain⟨d,ac,e1,u⟩:=aj e;have zz:=aD u;clear u;obtain⟨u,e3⟩:=zz;subst e3;refine h3 g e1 λv J y st pv=>?_;obtain⟨kvs,rfl⟩:∃kvs,d=.dN (.k kvs):=by cases d with
  |dN m=>cases m with|k kvs=>exact⟨kvs,rfl⟩|t kvs=>cases u
  |_=>cases u
 obtain⟨so,he⟩:=bf (show(if kvs.length<=16777216/\kvs.Pairwise (λa b=>a.1<b.1)then aU (R.own (kvs.map kO))else cr)=aU r from u);subst he;obtain⟨q,L,rfl,M⟩:=pv.dN st.gs.sub;refine⟨q,L,kvs,rfl,rfl,M,λl A=>⟨l,q,L,kvs,rfl,aH,aK.cu A q _ M,so,J,λb o e=>aK.cu A b o (st.gs.sub b o e),λw E G B rn=>?_⟩⟩;have sm:aK y (upd y l (.ext (iv l q))):=aK.cu A;have x3:Ext J y E G:=⟨sm.trans B.hs,B.fs,B.sub,λb n n'=>by
  have:=B.gr b n n';by_cases N:b=l;.subst N;rw[A];rfl
  .rw[aC N]at this;exact this⟩;have I:cF X.K E G y w (.own (kvs.map kO)):=by obtain⟨b,xs,q1,q2,q3,q4,O⟩:=rn;refine⟨b,xs,q1,q2,q3,q4,?_⟩;cases z:y b with|none=>rfl|some o=>rw[sm b o z]at O;cases O
 exact k w E G (st.trans (x3.stp st.gs)) (.later st (I.nC st.gs))
end
end _H
namespace _H
open PySem _L Spec PyProof.Rows
variable{o:Option V}{rows:List (List D)}
section
variable{K:PySem.W.Frag}{F F' F1 H H' H1 F0 H0:Hp}{ρ ρ' ρ1 ρ0:List Sl}{σ σ' σ1 σ0:_L.St}{x:Nat}{q:cx}{as:List cx}{rows qD:List (List D)}
noncomputable def Ku:Sl->Bool|.aX=>cq|.hold _=>cq|_=>a_
theorem gH{s:Sl}{i:Nat}{b:cx}(g:Ku s=cq)(h:aZ (ρ.set x s) (σ.set x o) i b):aZ ρ σ i b/\i≠x:=by
 obtain⟨⟨t,ds,e,a⟩,f⟩:=h;by_cases c:x=i
 . subst c;rw[oN]at e;rw[if_pos rfl]at e;split at e;.cases e;cases s<;>first|(cases a;done)|(cases g;done)
   .cases e
 .rw[fo c]at e f;exact⟨⟨⟨t,ds,e,a⟩,f⟩,λz=>c z.symm⟩
theorem GS.FJ{s:Sl}(f:Ku s=cq)(g:GS K F ρ σ H):GS K F (ρ.set x s) (σ.set x o) H:=by
 refine⟨g.sub,by simp[g.len],λi b d e=>?_,λi t ds e h=>?_,λi j a h1 k=>g.dis i j a (gH f h1).1 (gH f k).1⟩
 . by_cases c:x=i
   . subst c;rw[oN,if_pos rfl]at e;split at e;.cases e;cases f
     .cases e
   .rw[fo c]at e ⊢;exact g.val i b d e
 . by_cases c:x=i
   . subst c;rw[oN,if_pos rfl]at e;split at e;.cases e;cases s<;>first|(cases h;done)|(cases f;done)
     .cases e
   .rw[fo c]at e ⊢;exact g.own i t ds e h
theorem aB.FJ{s:Sl}{o:Option V}(a:Ku s=cq)(t:aB K F ρ σ H F1 ρ1 σ1 H1)(f:∀s0,ρ[x]?=aU s0->vW s0=a_):aB K F ρ σ H F1 (ρ1.set x s) (σ1.set x o) H1:=by
 refine⟨t.gs.FJ a,t.cQ,t.yj,t.keep,λb⟨i,h⟩=>t.wu b ⟨i,(gH a h).1⟩,by simp[t.len],λi g e l=>?_⟩;have c:x≠i:=by rintro rfl;rw[f _ e]at l;cases l
 obtain⟨j,s2,k,m⟩:=t.lk i g e l;exact⟨by rw[fo c];exact j,s2,by rw[fo c];exact k,m⟩
theorem aB.free{i:Nat}{s1:Sl}(t:aB K F ρ σ H F1 ρ1 σ1 H1)(h:ρ1[i]?=aU s1)(a:vW s1=a_):∀s0,ρ[i]?=aU s0->vW s0=a_:=λs0 e=>by cases z:vW s0 with|false=>rfl|true=>obtain⟨_,s2,b,c⟩:=t.lk i s0 e z;rw[h]at b;cases b;rw[c.vW z]at a;cases a
structure Ui(F:Hp)(ρ:List Sl)(σ:_L.St)(H:Hp)(a:cx)(xs:List V):Prop where kp:Kp ρ σ H a (.lst xs)fr:F a=cr
theorem Ui.stp{a:cx}{xs:List V}(h:Ui F ρ σ H a xs)(s:aB K F ρ σ H F' ρ' σ' H'):Ui F' ρ' σ' H' a xs:=by refine⟨h.kp.stp s,?_⟩;cases z:F' a with|none=>rfl|some o=>
   rcases s.yj a h.fr (by rw[z];simp)with y|y;.exact absurd y h.kp.2
   .rw[h.kp.1]at y;cases y
structure Nw(K:PySem.W.Frag)(x:Nat)(q:cx)(as:List cx)(F:Hp)(ρ:List Sl)(σ:_L.St)(H:Hp)(rows:List (List D)):Prop where
 slot:ρ[x]?=aU (.hold rows)val:σ[x]?=aU (aU (.ref q))out:Ui F ρ σ H q (as.map V.ref)nd:(q::as).Nodup
 len:as.length=rows.length
 row:∀(k:Nat)(a:cx)(ds:List D),as[k]?=aU a->rows[k]?=aU ds->Wt K F ρ σ H a ds
theorem Nw.stp(w:Nw K x q as F ρ σ H rows)(s:aB K F ρ σ H F' ρ' σ' H'):Nw K x q as F' ρ' σ' H' rows:=by obtain⟨b,s2,c,e⟩:=s.lk x _ w.slot rfl;cases(show s2=.hold rows from e);exact⟨c,b.trans w.val,w.out.stp s,w.nd,w.len,λk a ds h1 f=>(w.row k a ds h1 f).stp s⟩
structure NB(K:PySem.W.Frag)(x:Nat)(q:cx)(as:List cx)(F0:Hp)(ρ0:List Sl)(σ0:_L.St)(H0:Hp)(F:Hp)(ρ:List Sl)(σ:_L.St)(H:Hp)(rows:List (List D)):Prop where
 stp:aB K F0 ρ0 σ0 H0 F ρ σ H
 fresh:∀b,b∈q::as->Own ρ0 σ0 b\/H0 b=cr
 free:∀s0,ρ0[x]?=aU s0->vW s0=a_
 nw:Nw K x q as F ρ σ H rows
theorem NB.step(b:NB K x q as F0 ρ0 σ0 H0 F ρ σ H rows)(s:aB K F ρ σ H F' ρ' σ' H'):NB K x q as F0 ρ0 σ0 H0 F' ρ' σ' H' rows:=⟨b.stp.trans s,b.fresh,b.free,b.nw.stp s⟩
theorem Er{s:Sl}{a:cx}{b:HO}(c:Ku s=cq)(h:Kp ρ σ H a b):Kp (ρ.set x s) (σ.set x o) H a b:=⟨h.1,λ⟨i,z⟩=>h.2 ⟨i,(gH c z).1⟩⟩
theorem Qy{s:Sl}{a:cx}{ds:List D}(b:Ku s=cq)(h:Wt K F ρ σ H a ds):Wt K F (ρ.set x s) (σ.set x o) H a ds:=by obtain⟨⟨xs,h1,c⟩,e⟩:=h;exact⟨⟨xs,Er b h1,c⟩,e⟩
theorem aB.afp{Da:cx}{o:HO}(s:aB K F ρ σ H F1 ρ1 σ1 H1)(h:Own ρ σ Da\/H Da=cr)(g:F1 Da=cr)(ho:¬ Own ρ1 σ1 Da):aB K F ρ σ H F1 ρ1 σ1 (upd H1 Da o):=by
 refine⟨⟨λb u e=>?_,s.gs.len,s.gs.val,λi t ds e c=>?_,s.gs.dis⟩,s.cQ,s.yj,λb u e n=>?_,s.wu,s.len,s.lk⟩
 . have:b≠Da:=by rintro rfl;rw[g]at e;cases e
   rw[aC this];exact s.gs.sub b u e
 . obtain⟨a,xs,f,j,k,l⟩:=s.gs.own i t ds e c;have:a≠Da:=by rintro rfl;exact ho ⟨i,⟨t,ds,e,c⟩,f⟩
   exact⟨a,xs,f,by rw[aC this];exact j,k,l⟩
 . have:b≠Da:=by
    rintro rfl;rcases h with h|h;.exact n h
    .rw[h]at e;cases e
   rw[aC this];exact s.keep b u e n
theorem NB.mut{r:Nat}{a:cx}{row e:List D}{ys:List V}(b:NB K x q as F0 ρ0 σ0 H0 F ρ σ H rows)(g:as[r]?=aU a)(hr:rows[r]?=aU row)(n:aF K F ys e):NB K x q as F0 ρ0 σ0 H0 F (ρ.set x (.hold (rows.set r e))) σ (upd H a (.lst ys)) (rows.set r e):=by
 have w:=b.nw.row r a row g hr;obtain⟨⟨xs,l,r1⟩,f1⟩:=w;have p:x<ρ.length:=(fB b.nw.slot).1;have sx:σ.set x (aU (.ref q))=σ:=by have:=b.nw.val;obtain⟨h1,f⟩:=fB this;rw[<-f];simp
 have mem:a∈q::as:=dV _ (eh g);have s1:=(b.stp.afp (o:=.lst ys) (b.fresh a mem) f1 l.2).FJ (x:=x) (s:=.hold (rows.set r e)) (o:=aU (.ref q)) rfl b.free;rw[sx]at s1;have t:q≠a:=by have:=(fk.mp b.nw.nd).1;rintro rfl;exact this (eh g)
 have own:∀{c:cx},¬ Own ρ σ c->¬ Own (ρ.set x (.hold (rows.set r e))) σ c:=λ{c}h⟨i,z⟩=>h ⟨i,by have:=gH (x:=x) (s:=.hold (rows.set r e)) (o:=aU (.ref q)) (σ:=σ) (ρ:=ρ) rfl (b:=c) (i:=i) (by rw[sx];exact z);exact this.1⟩;refine⟨s1,b.fresh,b.free,⟨cy p,b.nw.val,⟨⟨by rw[aC t];exact b.nw.out.kp.1,own b.nw.out.kp.2⟩,b.nw.out.fr⟩,b.nw.nd,by simp[b.nw.len],λk c ds h1 f=>?_⟩⟩;by_cases j:k=r;.subst j;rw[g]at h1;cases h1;have u:k<rows.length:=(fB hr).1;rw[cy u]at f;cases f;exact⟨⟨ys,⟨aH,own l.2⟩,n⟩,f1⟩
 . rw[fo (λz=>j z.symm)]at f;obtain⟨⟨v,m,y⟩,f2⟩:=b.nw.row k c ds h1 f;have nc:c≠a:=by rintro rfl;have nd:=(fk.mp b.nw.nd).2;obtain⟨C,A⟩:=fB h1;obtain⟨l2,B⟩:=fB g;exact j ((List.getElem_inj nd).mp (A.trans B.symm))
   exact⟨⟨v,⟨by rw[aC nc];exact m.1,own m.2⟩,y⟩,f2⟩
noncomputable def Fz(F H:Hp)(bs:List cx):Hp:=λb=>if b∈bs then H b else F b
theorem u9{G:Hp}:∀{as:List cx}{rows:List (List D)},as.length=rows.length->(∀(k:Nat)(a:cx)(ds:List D),as[k]?=aU a->rows[k]?=aU ds->Rep K G (.ref a) (.lst ds))->aF K G (as.map V.ref) (rows.map D.lst)|[],[],_,_=>.nil|a::as,ds::rows,h,k=>.cons (k 0 a ds rfl rfl) (u9 (by simpa using h) λj b es h1 c=>k (j+1) b es (by simpa using h1) (by simpa using c))|[],_::_,h,_=>by simp at h|_::_,[],h,_=>by simp at h
theorem Nw.RX(w:Nw K x q as F ρ σ H rows){b:cx}(hb:b∈q::as):F b=cr/\¬ Own ρ σ b:=by
 rcases da.mp hb with rfl|hb;.exact⟨w.out.fr,w.out.kp.2⟩
 . obtain⟨k,a⟩:=mf hb;have c:k<rows.length:=by rw[<-w.len];exact(fB a).1
   obtain⟨⟨xs,e,_⟩,f1⟩:=w.row k b rows[k] a (by simp[c]);exact⟨f1,e.2⟩
theorem Nw.fz(w:Nw K x q as F ρ σ H rows)(sm:aK F H):aK F (Fz F H (q::as))/\aK (Fz F H (q::as)) H/\Rep K (Fz F H (q::as)) (.ref q) (.lst (rows.map D.lst)):=by
 have s1:aK F (Fz F H (q::as)):=λb o e=>by unfold Fz;rw[if_neg λc=>by rw[(w.RX c).1]at e;cases e];exact e
 refine⟨s1,λb o e=>?_,?_⟩
 . unfold Fz at e;split at e;.exact e
   .exact sm b o e
 .rw[Rep];refine⟨q,as.map V.ref,rfl,eY.of (by unfold Fz;rw[if_pos i5];exact w.out.kp.1),u9 w.len λk a ds h1 f=>?_⟩;obtain⟨⟨xs,g,r1⟩,f1⟩:=w.row k a ds h1 f;rw[Rep];exact⟨a,xs,rfl,eY.of (by unfold Fz;rw[if_pos (dV _ (eh h1))];exact g.1),r1.mono s1⟩
theorem NB.dw(b:NB K x q as F0 ρ0 σ0 H0 F ρ σ H rows):aB K F0 ρ0 σ0 H0 (Fz F H (q::as)) (ρ.set x (.val a_ (.lst (rows.map D.lst)))) σ H:=by
 obtain⟨s1,s2,u⟩:=b.nw.fz b.stp.gs.sub;have g:=b.stp.gs;have r:x<ρ.length:=(fB b.nw.slot).1;have k:∀{j:Nat}{c:cx},aZ (ρ.set x (.val a_ (.lst (rows.map D.lst)))) σ j c->aZ ρ σ j c/\x≠j:=λ{j c}⟨⟨t,ds,e,m⟩,e1⟩=>by
  by_cases f:x=j;.subst f;rw[cy r]at e;cases e;cases m
  .rw[fo f]at e;exact⟨⟨⟨t,ds,e,m⟩,e1⟩,f⟩
 refine⟨⟨s2,by simp[g.len],λi w d e=>?_,λi t ds e m=>?_,λi j c h1 p=>g.dis i j c (k h1).1 (k p).1⟩,b.stp.cQ.trans s1,λc n s=>?_,b.stp.keep,λc⟨j,h⟩=>b.stp.wu c ⟨j,(k h).1⟩,by simp[b.stp.len],λi t e l=>?_⟩
 . by_cases f:x=i;.subst f;rw[cy r]at e;cases e;exact⟨_,b.nw.val,u⟩
   .rw[fo f]at e;obtain⟨v,h1,p⟩:=g.val i w d e;exact⟨v,h1,p.mono s1⟩
 . by_cases f:x=i;.subst f;rw[cy r]at e;cases e;cases m
   .rw[fo f]at e;obtain⟨a,o,h1,p,y,z⟩:=g.own i t ds e m;refine⟨a,o,h1,p,?_,z.mono s1⟩;unfold Fz;rw[if_neg λA=>(b.nw.RX A).2 ⟨i,⟨t,ds,e,m⟩,h1⟩];exact y
 . by_cases hc:c∈q::as;.exact(b.fresh c hc).imp id jd
   . have:Fz F H (q::as) c=F c:=by unfold Fz;rw[if_neg hc]
     rw[this]at s;exact b.stp.yj c n s
 . have c:x≠i:=by rintro rfl;rw[b.free _ e]at l;cases l
   obtain⟨B,s3,C,E⟩:=b.stp.lk i t e l;exact⟨B,s3,by rw[fo c];exact C,E⟩
end
inductive SN(K:PySem.W.Frag)(x:Nat)(f:List Sl->Res Fl)(E:Ends)(σ:_L.St)(H:Hp):Prop where|mk(F0:Hp)(ρ0:List Sl)(σ0:_L.St)(H0 F:Hp)(ρ:List Sl)(q:cx)(as:List cx)(rows:List (List D))(fl:Fl)(ρ':List Sl)(b:NB K x q as F0 ρ0 σ0 H0 F ρ σ H rows)(e:f ρ=.ok fl ρ')(k:∀F' σ' H',aB K F0 ρ0 σ0 H0 F' ρ' σ' H'->aK F F'->((∀r,fl≠.ret r)->∃qD,NB K x q as F0 ρ0 σ0 H0 F' ρ' σ' H' qD)->IK K E F' ρ' σ' H' ρ0 σ0 H0 fl)
inductive aaT(K:PySem.W.Frag)(x:Nat)(f:List Sl->Res Fl)(E:Ends)(σ:_L.St)(H:Hp):Prop where|mk(F0:Hp)(ρ0:List Sl)(σ0:_L.St)(H0 F:Hp)(ρ:List Sl)(q:cx)(as:List cx)(rows:List (List D))(fl:Fl)(ρ':List Sl)(b:NB K x q as F0 ρ0 σ0 H0 F ρ σ H rows)(e:f ρ=.ok fl ρ')(k:∀F' σ' H',aB K F0 ρ0 σ0 H0 F' ρ' σ' H'->IK K E F' ρ' σ' H' ρ0 σ0 H0 fl)
structure Zt(X:Cx)(c:Call)(n x:Nat)(st:ft)(s:S):Prop where p:PS X st (SN X.K x (ex c n s))
structure XD(X:Cx)(c:Call)(n x:Nat)(st:List ft)(s:List S):Prop where p:zM X st (SN X.K x (iG c n s))
structure SBT(X:Cx)(c:Call)(n x:Nat)(st:List ft)(s:List S):Prop where p:zM X st (aaT X.K x (iG c n s))
section
variable{X:Cx}{c:Call}{n x:Nat}{e a b d tg iter:dO}{p pa pb pd:P}{pos:Pos}{body:List ft}{ss:List S}{st:ft}{s:S}{sts:List ft}
theorem qX:XD X c n x [] []:=⟨o9 Dj λD σ H⟨f,ρ0,σ0,H0,F,ρ,q,as,rows,fl,ρ',nb,e,k⟩=>by rw[xs0]at e;cases e;exact k F σ H nb.stp (.refl _) λ_=>⟨rows,nb⟩⟩
theorem rR(h1:Zt X c n x st s)(w:XD X c n x sts ss):XD X c n x (st::sts) (s::ss):=by refine⟨o9 (oH h1.p w.p) ?_⟩;rintro D σ H⟨h,f,g,i,F,ρ,q,as,rows,fl,t,l,e,k⟩;rw[T7]at e;obtain⟨f1,j,m,e⟩:=aj e;cases f1 with|next=>refine⟨h,f,g,i,F,ρ,q,as,rows,.next,j,l,m,λF1 y I s1 sm nn=>?_⟩;obtain⟨A,B⟩:=nn (λr z=>by cases z);exact⟨h,f,g,i,F1,j,q,as,A,fl,t,B,e,λC u E s2 G v=>k C u E s2 (sm.trans G) v⟩|brk=>cases e;exact⟨h,f,g,i,F,ρ,q,as,rows,.brk,_,l,m,k⟩|cont=>cases e;exact⟨h,f,g,i,F,ρ,q,as,rows,.cont,_,l,m,k⟩|ret r=>cases e;exact⟨h,f,g,i,F,ρ,q,as,rows,.ret r,_,l,m,k⟩
theorem Lh(h1:Zt X c n x st s)(w:SBT X c n x sts ss):SBT X c n x (st::sts) (s::ss):=by refine⟨o9 (oH h1.p w.p) ?_⟩;rintro D σ H⟨j,g,h,l,F,ρ,q,as,rows,fl,v,t,e,k⟩;rw[T7]at e;obtain⟨f1,m,u,e⟩:=aj e;cases f1 with|next=>refine⟨j,g,h,l,F,ρ,q,as,rows,.next,m,t,u,λF1 f i s1 sm nn=>?_⟩;obtain⟨y,A⟩:=nn (λr z=>by cases z);exact⟨j,g,h,l,F1,m,q,as,y,fl,v,A,e,k⟩|brk=>cases e;exact⟨j,g,h,l,F,ρ,q,as,rows,.brk,_,t,u,λF1 f i s1 _ _=>k F1 f i s1⟩|cont=>cases e;exact⟨j,g,h,l,F,ρ,q,as,rows,.cont,_,t,u,λF1 f i s1 _ _=>k F1 f i s1⟩|ret r=>cases e;exact⟨j,g,h,l,F,ρ,q,as,rows,.ret r,_,t,u,λF1 f i s1 _ _=>k F1 f i s1⟩
theorem Qq(h:SB X c n sts ss):SBT X c n x sts (.dw x::ss):=by refine⟨o9 h ?_⟩;rintro D σ H⟨B,l,m,C,F,ρ,q,as,rows,fl,f,i,e,k⟩;rw[T7]at e;obtain⟨f1,u,j,e⟩:=aj e;rw[_H.X22,i.nw.slot]at j;cases j;have t:=i.dw;refine⟨_,_,fl,f,t.gs,e,λw g y s=>?_⟩;have z:=k w g y (t.trans s);cases fl with|next=>exact z|brk=>exact z|cont=>exact z|ret r=>exact λv A=>z v (A.later t)
theorem VM{r u:List ft}{v w:List S}(hc:ST X c e p)(z:XD X c n x r v)(A:XD X c n x u w):Zt X c n x (.If e r u pos) (.ifs p v w):=by refine⟨eO (RP hc z.p A.p) ?_⟩;rintro D σ H⟨B,j,l,C,F,ρ,q,as,rows,fl,i,y,e,k⟩;rw[_H.X12]at e;obtain⟨t,g,E,e⟩:=aj e;refine⟨F,ρ,t,g,y.stp.gs,E,λF1 G s1=>?_⟩;have go:∀{f:List Sl->Res Fl},f g=.ok fl i->SN X.K x f D σ G:=λ{f}h=>⟨B,j,l,C,F1,g,q,as,rows,fl,i,y.step s1,h,λI m J s2 sm nn=>k I m J s2 (s1.cQ.trans sm) nn⟩;cases t with|true=>rw[if_pos rfl]at e;exact go e|false=>rw[if_neg dr]at e;exact go e
theorem JX{ρ:List Sl}(h:jA ρ x=aU rows):ρ[x]?=aU (.hold rows):=by
 unfold jA at h;split at h;.rename_i z;cases h;exact z
 .cases h
noncomputable def WalkN(K:PySem.W.Frag)(J:It)(ds:List D)(F1:Hp):Prop:=∀(k:Nat)(h f:Hp),aK F1 h->aK h f->(∀d,ds[k]?=aU d->J.go k f/\∀x i,J.M7 k f x i->∃g,Ext h f g i/\Rep K g x d)/\(ds.length<=k->J.stop k f)
inductive adK(K:PySem.W.Frag)(f:Ev)(σ:_L.St)(H:Hp)(R:It->Hp->Prop):Prop where|mk(F:Hp)(ρ:List Sl)(r:_H.R)(ρ1:List Sl)(ds:List D)(g:GS K F ρ σ H)(e:f ρ=.ok r ρ1)(e2:items r.d=aU ds)(k:∀J F1 H1,aB K F ρ σ H F1 ρ1 σ H1->WalkN K J ds F1->R J H1)
structure SIN(X:Cx)(c:Call)(tg e:dO)(p:P):Prop where p:PI X tg e (adK X.K (_H.ev c p))
theorem NK(h:SX X c e p):SIN X c tg e p:=by refine⟨qd (Az h.ev) ?_⟩;rintro σ H R⟨F,ρ,r,m,ds,g,e,i,k⟩;refine⟨F,ρ,r,m,g,e,λv y z s t=>?_⟩;obtain⟨A,s2,_,j⟩:=s.dw t;cases hd:r.d with|tup es=>rw[hd]at j i;cases i;rw[Rep]at j;obtain⟨a,xs,rfl,h1,q⟩:=j;exact⟨a,rfl,.inr ⟨⟨xs,aK.gZ s2.gs.sub h1⟩,k _ _ _ s2 λk u w f l=>Ep (aK.gZ l (aK.gZ f h1)) (q.mono f) l k⟩⟩|lst es=>rw[hd]at j i;cases i;rw[Rep]at j;obtain⟨a,xs,rfl,h1,q⟩:=j;exact⟨a,rfl,.inl ⟨⟨xs,s2.gs.sub.seq h1⟩,k _ _ _ s2 λk u w f l=>uB (l.seq (f.seq h1)) (q.mono f) l k⟩⟩|_=>rw[hd]at i;cases i
theorem G6{K:PySem.W.Frag}{F1:Hp}(i j:Int):WalkN K (Yw i (j-i).toNat) ((dE (j-i).toNat).map λ(k:Nat)=>D.int (i+(k:Int))) F1:=by
 refine λk g u _ sm=>⟨λd hd=>?_,λh=>?_⟩;.rw[eL]at hd;obtain⟨m,l,q⟩:=map_some hd;obtain⟨h1,f⟩:=fB l;rw[List.getElem_range]at f;subst f;subst q;rw[iP]at h1;refine⟨h1,?_⟩;rintro x v⟨r,t⟩;subst r;subst t;exact⟨g,.refl sm,bw _⟩
 .rw[dy,iP]at h;exact h
theorem Kg{x:Str}{q:Pos}(t:x="range")(u:Gl X x)(w:X.mg x=cr)(y:SX X c a pa)(hs:cL [a] X.env=[(a_,fi a X.env)]:=by rfl):SIN X c tg (.Call (.Name x q) [a] [] pos) (.qC (.con (.int 0)) pa):=by
 subst t;obtain⟨O,h1,z⟩:=y.bW;refine⟨qd (vZ u w (cG h1 dX hs) hs) ?_⟩;rintro σ H R⟨F,ρ,r,A,ds,g,l,B,k⟩;rw[_H.E20]at l;obtain⟨Q,C,E,f⟩:=aj l;have G:=aD f;clear f;obtain⟨f,I⟩:=G;subst I;obtain⟨U,J,L,h⟩:=aj E;cases h;obtain⟨i,f1,f⟩:=cg f;obtain⟨j,f2,f⟩:=cg f;obtain⟨⟨b1,b2,b3,b4⟩,f⟩:=bf f;have f1:i=0:=by cases f1;rfl
 subst f1;subst f;cases B;cases di f2;refine z g L λv m M s N=>⟨j,by rw[N.int],by omega,by omega,?_⟩;have:=G6 (K:=X.K) (F1:=m) 0 j;rw[uu]at this;refine k _ m M s ?_;rw[uu];exact this
theorem DG{g:TG}{is:List Nat}{one:Bool}(hp:nv (c_ X.prog X.w) X.A X.env X.xe)(hc:X.calm=cq)(hi:SIN X c tg iter p)(hg:PG X tg g)(af:Pn X.K (λρ d=>cP ρ is one d) g)(hb:XD X c n x body ss)(hs:∀x,gl iter X.env x=fy x:=by intro _;rfl):Zt X c n x (.For tg iter body [] pos) (.Hy p is one ss):=by
 refine⟨eO (J9 hp hc hi.p hg hb.p hs) ?_⟩;rintro D σ H⟨F0,E,G,H0,F,ρ,q,as,rows,fl,Q,nb,e,k⟩;rw[_H.X21]at e;obtain⟨r,U,e1,e⟩:=aj e;obtain⟨ds,al,e9,e2⟩:=aj e;have zz:=aD e9;clear e9;obtain⟨e9,ag⟩:=zz;subst ag;refine⟨F,ρ,r,U,ds,nb.stp.gs,e1,e9,λJ F1 H1 s1 w=>?_⟩;refine⟨λi m t Hi=>∃C f O,NB X.K x q as F0 E G H0 C f t Hi O/\aK F1 C/\m=ds.length-i/\i<=ds.length/\jl is one (iG c n ss) (ds.drop i) f=.ok fl Q,⟨_,F1,U,rows,nb.step s1,.refl _,rfl,uL,e2⟩,?_⟩;rintro i m t Hi⟨C,f,O,l,I,rfl,am,j⟩;obtain⟨w1,w2⟩:=w i C Hi I l.stp.gs.sub;by_cases u:i<ds.length
 . right;have hd:ds[i]?=aU ds[i]:=by simp[u]
   obtain⟨go,step⟩:=w1 _ hd;refine⟨go,λW Y=>∃m',m'<ds.length-i/\∃C f O,NB X.K x q as F0 E G H0 C f W Y O/\aK F1 C/\m'=ds.length-(i+1)/\i+1<=ds.length/\jl is one (iG c n ss) (ds.drop (i+1)) f=.ok fl Q,λW Y z=>z,λy Y yy=>?_⟩;obtain⟨F2,ext,rx⟩:=step y Y yy;have t2:=ext.stp l.stp.gs;rw[jk u,CG]at j;cases hbd:cP f is one ds[i]with|none=>rw[hbd]at j;cases j|some Z=>rw[hbd]at j;obtain⟨ac,L,eb,j⟩:=aj j;refine af y _ F2 f Z t Y _ t2.gs rx hbd λap sb=>?_;have t3:=t2.trans sb;refine⟨F0,E,G,H0,F2,Z,q,as,O,ac,L,l.step t3,eb,λF4 ae H4 s4 ah M=>?_⟩;have B:aK F1 F4:=I.trans (ext.fs.trans ah);cases ac with|next=>obtain⟨Mv,N⟩:=M (λr z=>by cases z);exact⟨_,by omega,F4,L,Mv,N,B,rfl,u,j⟩|cont=>obtain⟨Mv,N⟩:=M (λr z=>by cases z);exact⟨_,by omega,F4,L,Mv,N,B,rfl,u,j⟩|brk=>cases j;exact k F4 ae H4 s4 (s1.cQ.trans B) λ_=>M (λr z=>by cases z)|ret r=>cases j;exact λv rr=>k F4 ae H4 s4 (s1.cQ.trans B) (λh=>(h r rfl).elim) v rr
 . left;have ai:ds.drop i=[]:=by rw[mA];omega
   rw[ai,Ja]at j;cases j;exact⟨w2 (by omega),k C t Hi l.stp (s1.cQ.trans I) λ_=>⟨O,l⟩⟩
end
section
variable{X:Cx}{c:Call}{n:Nat}{e a b d i j:dO}{p pa pb pd pi pj:P}{pos:Pos}
theorem Ow{ρ f:List Sl}{x:Nat}{o:Option (List (List D))}{fl:Fl}(h:Gs ρ x o=.ok fl f):∃rows,o=aU rows/\fl=.next/\f=ρ.set x (.hold rows):=by cases o with|none=>cases h|some rows=>cases h;exact⟨rows,rfl,rfl,rfl⟩
section
variable{K:PySem.W.Frag}{F H F0 H0:Hp}{ρ ρ0:List Sl}{σ σ0:_L.St}{x:Nat}{q:cx}{as:List cx}{rows qD:List (List D)}
theorem NB.hold(f:NB K x q as F0 ρ0 σ0 H0 F ρ σ H rows)(h:jA ρ x=aU qD):qD=rows:=by have:=JX h;rw[f.nw.slot]at this;cases this;rfl
theorem NB.at{k:Int}{r:Nat}{row:List D}(f:NB K x q as F0 ρ0 σ0 H0 F ρ σ H rows)(h1:_H.jE rows.length k=aU r)(h:rows[r]?=aU row):∃a ys,as[r]?=aU a/\Lr (as.map V.ref) k=aU (.ref a)/\H a=aU (.lst ys)/\aF K F ys row:=by
 have g:r<as.length:=by rw[f.nw.len];exact(fB h).1
 obtain⟨⟨ys,l,r1⟩,_⟩:=f.nw.row r as[r] row (by simp[g]) h;refine⟨as[r],ys,by simp[g],?_,l.1,r1⟩;unfold Lr;rw[dy,f.nw.len];rw[show _L.jE rows.length k=aU r from h1];simp[g]
theorem NB.wH{g:D}{row:List D}(l:NB K x q as F0 ρ0 σ0 H0 F ρ σ H rows)(h:_H.wH ρ x g=aU row):∃k a,(∃r:Nat,as[r]?=aU a)/\Lr (as.map V.ref) k=aU (.ref a)/\g=.int k/\∃ys,H a=aU (.lst ys)/\aF K F ys row:=by unfold _H.wH at h;obtain⟨f,h1,h⟩:=cg h;cases l.hold h1;obtain⟨k,m,h⟩:=cg h;obtain⟨r,s,t⟩:=cg h;obtain⟨a,ys,u,v,w,y⟩:=l.at s t;exact⟨k,a,⟨r,u⟩,v,di m,ys,w,y⟩
end
theorem Hk{l:List (List D)}{k:Int}{f:List D->Option (List D)}(h:kJ rows k f=aU l):∃r row g,_H.jE rows.length k=aU r/\rows[r]?=aU row/\f row=aU g/\l=rows.set r g:=by unfold kJ at h;obtain⟨r,h1,h⟩:=cg h;obtain⟨row,m,h⟩:=cg h;obtain⟨g,q,h⟩:=map_some h;exact⟨r,row,g,h1,m,q,h.symm⟩
theorem Mg{x:Str}{k:Nat}{u f h g:Pos}(hN:X.N[k]?=aU x)(hv:yr X.env.scope x)(hi:SX X c i pi)(he:SX X c e p)(I:xN i:=by intro _ _;rfl)(l:(h.endLine==g.line)=cq:=by rfl)(hs:cL [e] X.env=(a_,fi e X.env)::cL [] X.env:=by rfl)(s:kc (.Subscript (.Name x u) i f) "append" X.env (fi (.Subscript (.Name x u) i f) X.env)=fi (.Subscript (.Name x u) i f) X.env:=by rfl)(w:((kf g (cL [e] X.env)).all (λx=>!x.1)&&(ri g (mN [] X.env)).all (λx=>x.1.isSome)&&decide ([e].length+([]:List lI).length+(if([]:List lI).isEmpty then 0 else 1)<30))=cq:=by rfl)(J:h_ (.Call (.Attribute (.Subscript (.Name x u) i f) "append" h) [e] [] g) cr pos.line X.env=fy a_:=by rfl)(hd:(x==("__debug__":Str))=a_:=by decide)(L:(x==("__classdict__":Str))=a_:=by decide):Zt X c n k (.Expr (.Call (.Attribute (.Subscript (.Name x u) i f) "append" h) [e] [] g) pos) (.Mr k pi p):=by obtain⟨ti,M,O⟩:=hi.bW;refine⟨eO (Fj (Ln plainAttrs_list PySem.F.slot_list_append PySem.F.type_list_append pC (QW Es (fO hN hv hd L) M I) (cG he.ev dX hs) s w l hs) J) ?_⟩;rintro E σ H⟨F0,al,am,H0,F,ρ,q,as,rows,fl,ap,Q,e,kk⟩;rw[_H.X20]at e;obtain⟨dk,U,e2,e⟩:=aj e;obtain⟨ah,ai,C,e⟩:=aj e;have zz:=aD C;clear C;obtain⟨C,W⟩:=zz;subst W;obtain⟨r,Y,e3,e⟩:=aj e;obtain⟨rs,y,rfl,rfl⟩:=Ow e;refine⟨.ref q,Q.nw.val,O Q.stp.gs e2 λvi F1 H1 s1 pi=>?_⟩;have G:=Q.step s1;obtain⟨k0,a,g1,g2,g0,ys,g3,g4⟩:=G.wH C;rw[g0]at pi;refine⟨q,_,k0,_,rfl,pi.int,eY.of G.nw.out.kp.1,g2,.inl ⟨rfl,ys,eY.of g3⟩,F1,U,r,Y,G.stp.gs,e3,λv F2 H2 s2 rr=>?_⟩;obtain⟨F3,s3,_,rp⟩:=s2.dw rr;have t:=G.step s3;obtain⟨Z,e5,y⟩:=cg y;cases t.hold e5;obtain⟨k1,e6,y⟩:=cg y;obtain⟨m,row,lW,f1,f2,f3,rfl⟩:=Hk y;obtain⟨ac,rfl⟩:=bf f3;have:=di e6;rw[g0]at this;cases this;obtain⟨a',ae,af,z,ag,A⟩:=t.at f1 f2;rw[g2]at z;cases z;have B:=t.mut af f2 (A.append (.cons rp .nil));exact⟨a,ae,v,rfl,rfl,ag,by rw[A.length];exact ac,kk F3 σ _ B.stp (s1.cQ.trans s3.cQ) λ_=>⟨_,B⟩⟩
end
section
variable{K:PySem.W.Frag}{F H F1 H1:Hp}{ρ ρ1:List Sl}{σ σ1:_L.St}
theorem aB.since{b:cx}(s:aB K F ρ σ H F1 ρ1 σ1 H1)(h:H1 b=cr):Own ρ σ b\/H b=cr:=by
 by_cases ho:Own ρ σ b;.exact .inl ho
 .right;cases e:H b with|none=>rfl|some o=>rw[s.keep b o e ho]at h;cases h
theorem NB.mk'{x:Nat}{q:cx}{as:List cx}{s1:Sl}(s:aB K F ρ σ H F1 ρ1 σ1 H1)(c:ρ1[x]?=aU s1)(f:vW s1=a_)(g:Ui F1 ρ1 σ1 H1 q (as.map V.ref))(nd:(q::as).Nodup)(len:as.length=rows.length)(row:∀(k:Nat)(a:cx)(ds:List D),as[k]?=aU a->rows[k]?=aU ds->Wt K F1 ρ1 σ1 H1 a ds)(fr:∀b,b∈q::as->Own ρ σ b\/H b=cr):NB K x q as F ρ σ H F1 (ρ1.set x (.hold rows)) (σ1.set x (aU (.ref q))) H1 rows:=by
 have hi:x<ρ1.length:=(fB c).1;have e:x<σ1.length:=by rw[<-s.gs.len];exact hi
 exact⟨s.FJ rfl (s.free c f),fr,s.free c f,⟨cy hi,cy e,⟨Er rfl g.kp,g.fr⟩,nd,len,λk a ds h1 h=>Qy rfl (row k a ds h1 h)⟩⟩
end
theorem Io{K:PySem.W.Frag}{F H:Hp}{ρ e j:List Sl}{σ:_L.St}{ul:List Sl->List Sl}{ti:TI}{is:List Nat}{one:Bool}{c:Call}{el:Ev}{g:TG}{Q:VK}{ds:List D}{m n:Nat}(hm:σ.length=m)(ax:ql K m is one g)(ay:∀R:It->Hp->Prop,(∀J F1 X,Walk K F ρ σ H ul J ds F1 e X->R J X)->ti σ H R)(bn:ds.length<=lim)(e2:gR is one el ds [] (e++cE n .aX)=.ok rows j)(k:∀ q as F' H',aB K F ρ σ H F' (ul (j.take e.length)) σ H'->Ui F' (ul (j.take e.length)) σ H' q (as.map V.ref)->(q::as).Nodup->as.length=rows.length->(∀(k:Nat)(a:cx)(ds:List D),as[k]?=aU a->rows[k]?=aU ds->Wt K F' (ul (j.take e.length)) σ H' a ds)->(∀b,b∈q::as->Own ρ σ b\/H b=cr)->Q (.ref q) H'):vG n ti g (K4 K (qg c cr)) (Fv K el) σ H Q:=by
 refine ay _ λJ F1 X w Da Z=>?_;have aE:e.length=σ.length:=w.gs.len;have gm:=w.gs.more (n:=n) (τ:=cE n cr) (by simp);have fD:F1 Da=cr:=by cases q:F1 Da with|none=>rfl|some o=>rw[w.gs.sub Da o q]at Z;cases Z
 have nO:¬ Own (e++cE n .aX) (σ++cE n cr) Da:=λ⟨i,⟨t,dt,q1,q2⟩,q3⟩=>by obtain⟨a,ys,z1,z2,_⟩:=gm.own i t dt q1 q2;rw[q3]at z1;cases z1;rw[Z]at z2;cases z2
 refine⟨λi mm ys f M=>∃N l u as,aB K F1 (e++cE n .aX) (σ++cE n cr) X N l f M/\f.take m=σ/\ys=as.map V.ref/\M Da=aU (.lst ys)/\N Da=cr/\¬ Own l f Da/\(Da::as).Nodup/\as.length=u.length/\(∀(k:Nat)(a:cx)(ds:List D),as[k]?=aU a->u[k]?=aU ds->Wt K N l f M a ds/\(Own (e++cE n .aX) (σ++cE n cr) a\/X a=cr))/\u.length<=i/\mm=ds.length-i/\i<=ds.length/\gR is one el (ds.drop i) u l=.ok rows j,⟨_,F1,_,[],[],(aB.refl gm).Ci Z fD nO,by rw[oe (by omega),qA (by omega)],rfl,aH,fD,nO,by simp,rfl,λk a ds h=>by simp at h,uL,rfl,uL,e2⟩,?_⟩;rintro i mm ys f M⟨N,l,u,as,si,ap,ac,hD,hF,hO,ae,B,G,bo,rfl,bp,E⟩;refine⟨hD,?_⟩;have stay:∀{F2 H2:Hp}{af:List Sl}{I:_L.St},aB K N l f M F2 af I H2->H2 Da=aU (.lst ys)/\F2 Da=cr/\¬ Own af I Da:=λ{F2 H2 af I}s=>by have:=(Ui.stp (xs:=ys) ⟨⟨hD,hO⟩,hF⟩ s);exact⟨this.kp.1,this.fr,this.kp.2⟩
 obtain⟨s1,s2⟩:=w.src n i N l f M si;by_cases ag:i<ds.length
 . right;have hd:ds[i]?=aU ds[i]:=by simp[ag]
   obtain⟨go,step⟩:=s1 _ hd;refine⟨go,λx H2 y=>?_⟩;obtain⟨F2,ext,rx⟩:=step x H2 y;have t2:=ext.stp si.gs;rw[jk ag,Ks]at E;cases hbd:cP l is one ds[i]with|none=>rw[hbd]at E;cases E|some U=>rw[hbd]at E;obtain⟨re,ah,ee,E⟩:=aj E;cases re with|val _=>cases E|own ai=>
     replace E:gR is one el (ds.drop (i+1)) (u++[ai]) ah=.ok rows j:=E;refine ax x _ F2 l U f H2 _ t2.gs rx hbd λI sb aI=>?_;have t3:=t2.trans sb;refine⟨F2,U,cq,U,t3.gs,by rw[qg],λF4 H4 s4=>?_⟩;have t4:=t3.trans s4;refine(show Fv K el I H4 _ from⟨F4,U,.own ai,ah,t4.gs,ee,λv F5 H5 s5 rr=>?_⟩);have t6:=t4.trans s5;obtain⟨y1,y2,y3⟩:=stay t6;obtain⟨z1,z2,z3⟩:=stay t4;have al:ys.length<sizeLine:=by have O:lim=sizeLine:=rfl;rw[ac,dy];omega
     obtain⟨A,xs,rfl,a1,a2,a3,a4,a5⟩:=rr;have ar:A≠Da:=by
      rintro rfl;rcases a5 with z|z;.exact z3 z
      .rw[z1]at z;cases z
     have nA:A∉as:=λhA=>by
      obtain⟨L,C⟩:=mf hA;have am:L<u.length:=by rw[<-B];exact(fB C).1
      obtain⟨⟨zs,Y,_⟩,_⟩:=(G L A u[L] C (by simp[am])).1.stp t4;rcases a5 with z|z;.exact Y.2 z
      .rw[Y.1]at z;cases z
     have fA:Own (e++cE n .aX) (σ++cE n cr) A\/X A=cr:=by
      have t:=si.trans t4;rcases a5 with z|z;.exact t.wu A z
      .exact t.since z
     refine⟨y1,al,_,by omega,F5,ah,u++[ai],as++[A],(si.trans t6).Ci Z y2 y3,aI.trans ap,by rw[ac];simp,aH,y2,y3,?_,by simp[B],λL a0 aS h1 O=>?_,by simp;omega,rfl,ag,E⟩
     . rw[<-lx,mo];refine⟨ae,by simp,λp hp r hr=>?_⟩;simp at hr;subst hr;rcases da.mp hp with rfl|hp;.exact λz=>ar z.symm
       .rintro rfl;exact nA hp
     . by_cases C:L<as.length
       . rw[dL C]at h1;rw[dL (by omega)]at O;obtain⟨w0,f0⟩:=G L a0 aS h1 O;obtain⟨⟨zs,Y,r1⟩,g1⟩:=w0.stp t6;have na:a0≠Da:=by rintro rfl;exact(fk.mp ae).1 (eh h1)
         exact⟨⟨⟨zs,⟨by rw[aC na];exact Y.1,Y.2⟩,r1⟩,g1⟩,f0⟩
       . rw[eW (by omega)]at h1;rw[eW (by omega)]at O;have:L-as.length=0:=by have:=(fB h1).1;simp at this;exact this
         rw[this]at h1;rw[<-B,this]at O;cases h1;cases O;exact⟨⟨⟨xs,⟨by rw[aC ar];exact a1,a4⟩,a3⟩,a2⟩,fA⟩
 . left;have aT:ds.drop i=[]:=by rw[mA];omega
   rw[aT,Iz]at E;cases E;refine⟨s2 (by omega),?_⟩;have hst:f.take e.length=σ:=by rw[aE,hm];exact ap
   obtain⟨l1,l2⟩:=aB.less (m:=e.length) rfl w.gs (by simp) si;rw[hst]at l1;obtain⟨z1,z2⟩:=w.fin _ _ _ _ l1--the outer list:with nothing in it,it is like any new one
   have ba:=si.Ci (o:=.lst []) Z hF hO;obtain⟨av,Y0⟩:=aB.less (m:=e.length) rfl w.gs (by simp) ba;rw[hst]at av;obtain⟨bq,bi⟩:=w.fin _ _ _ _ av;have rr:dg K N j f (upd M Da (.lst [])) (e++cE n .aX) (σ++cE n cr) X (.ref Da) (.own []):=⟨Da,[],rfl,aH,hF,.nil,hO,.inr Z⟩;have Sd:=Y0 _ _ rr;rw[hst]at Sd;obtain⟨_,_,q0,_,q3,_,q5,q6⟩:=bi _ _ Sd;cases q0;have aw:∀(k:Nat)(a:cx)(ds:List D),as[k]?=aU a->rows[k]?=aU ds->Wt K N (ul (j.take e.length)) σ M a ds/\(Own ρ σ a\/H a=cr):=λk a ds h1 O=>by obtain⟨⟨⟨xs,Y,r1⟩,f1⟩,f2⟩:=G k a ds h1 O;have rr:dg K N j f M (e++cE n .aX) (σ++cE n cr) X (.ref a) (.own ds):=⟨a,xs,rfl,Y.1,f1,r1,Y.2,f2⟩;have Sd:=l2 _ _ rr;rw[hst]at Sd;obtain⟨a',bm,q0,q2,q3,q4,q5,q6⟩:=z2 _ _ Sd;cases q0;exact⟨⟨⟨bm,⟨q2,q5⟩,q4⟩,q3⟩,q6⟩
   refine k Da as N M z1 ⟨⟨by rw[hD,ac],q5⟩,q3⟩ ae B (λk a ds h1 O=>(aw k a ds h1 O).1) λb hb=>?_;rcases da.mp hb with rfl|hb;.exact q6
   . obtain⟨L,C⟩:=mf hb;have am:L<rows.length:=by rw[<-B];exact(fB C).1
     exact(aw L b rows[L] C (by simp[am])).2
section
variable{X:Cx}{c:Call}{nn n:Nat}{tg iter elt:dO}{ps pe:P}{pos:Pos}{sts:List ft}{ss:List S}{scope:kU}{N':List Str}
theorem Oj{i:Nat}{x:Str}{b f:Pos}{g:TG}{is:List Nat}{one:Bool}(hc:X.calm=cq)(A:X.N.Nodup)(m:X.N[i]?=aU x)(B:Loc X.env.scope x)(ok:gh X scope N' n)(hi:SI X c tg iter ps)(E:∀cl C s₀ H₀ ex,PG (v8 X scope N' cl C s₀ H₀ ex) tg g)(r:ql X.K X.N.length is one g)(ht:∀cl C s₀ H₀ ex,SQ (v8 X scope N' cl C s₀ H₀ ex) c [] cr)(he:∀cl C s₀ H₀ ex,SX (v8 X scope N' cl C s₀ H₀ ex) c elt pe)(G:SBT X c nn i sts ss)(t:h_ (.ListComp elt [⟨tg,iter,[],0⟩] scope pos) (aU (.Name x b)) f.line X.env=fy cq:=by rfl)(hs:∀x,gl iter X.env x=fy x:=by intro _;rfl)(J:X.fn x=cq\/X.env.scope.names.lookup x=aU .local:=by first|(left;rfl)|(right;rfl)|assumption):SB X c nn (.Assign [.Name x b] (.ListComp elt [⟨tg,iter,[],0⟩] scope pos) f::sts) (.Mq i ps n is one pe::ss):=by
 have h0:=DP (tt:=K4 X.K (qg c cr)) (te:=Fv X.K (_H.ev c pe)) hc A m B ok hi E ht (λcl C s₀ H₀ ex=>(he cl C s₀ H₀ ex).ev) t hs J;refine λj s σ H D I q=>oH h0 G.p j s σ H D I ?_;have L:σ.length=X.N.length:=I.len;obtain⟨F,ρ,fl,u,M,e,O⟩:=q;rw[T7]at e;obtain⟨f1,Q,a,e⟩:=aj e;rw[_H.X19]at a;obtain⟨ds,w,U,a⟩:=aj a;split at a;.rename_i k;obtain⟨rows,W,Y,a⟩:=aj a;obtain⟨Z,z,l,a⟩:=aj a;cases a;have zz:=aD l;clear l;obtain⟨l,_⟩:=zz;obtain⟨s1,h1,h2,rfl⟩:=xf l;refine(show vG n (tIt X.K (isVar ps) (_H.ev c ps)) g (K4 X.K (qg c cr)) (Fv X.K (_H.ev c pe)) σ H (λv H1=>j9 i v σ H1 (aaT X.K i (iG c nn ss) D))from Io (c:=c) (ul:=bA ρ (isVar ps)) L r (λR h=>⟨F,ρ,ds,w,M,U,h⟩) k Y λq as F' H' s wq nd len row fr=>?_);exact⟨F,ρ,σ,H,F',_,q,as,rows,fl,u,NB.mk' s h1 h2 wq nd len row fr,e,λF2 y H2 s2=>O F2 y H2 s2⟩
 .cases a
end
end _H
namespace _H
open PySem _L Spec PyProof.Rows Calls W
variable{i:Nat}{x:Str}
section
variable{K:PySem.W.Frag}{F F1 H H1:Hp}{ρ ρ1 ρ2:List Sl}{σ σ1:_L.St}
theorem GS.afw{x:Nat}{kvs f:List (Int×D)}{a:cx}{w:HO}(g:GS K F ρ σ H)(e:ρ[x]?=aU (.cU kvs))(p:σ[x]?=aU (aU (.ref a)))(r:mj K F w (.v f)):aB K F ρ σ H F (ρ.set x (.cU f)) σ (upd H a w):=by
 have hi:x<ρ.length:=(fB e).1;have y:aZ ρ σ x a:=⟨⟨_,_,e,rfl⟩,p⟩;obtain⟨L,M,h1,N,z,O⟩:=g.own x _ _ e rfl;rw[p]at h1;cases h1;have h:∀{j:Nat}{c:cx},aZ (ρ.set x (.cU f)) σ j c->aZ ρ σ j c:=λ{j c}⟨⟨t,dt,m,s⟩,q3⟩=>by
  by_cases b:j=x;.subst b;exact⟨⟨_,_,e,rfl⟩,q3⟩
  .rw[fM b]at m;exact⟨⟨t,dt,m,s⟩,q3⟩
 refine⟨⟨λc o q=>?_,by simp[g.len],λj B d q=>?_,λj t dt q u=>?_,λj k c m s=>g.dis j k c (h m) (h s)⟩,.refl _,λc n C=>absurd n C,λc o q n=>?_,λc⟨j,q⟩=>.inl ⟨j,h q⟩,by simp,λj t q l=>⟨rfl,?_⟩⟩
 . have:c≠a:=by rintro rfl;rw[z]at q;cases q
   rw[aC this];exact g.sub c o q
 . by_cases b:j=x;.subst b;rw[cy hi]at q;cases q
   .rw[fM b]at q;exact g.val j B d q
 . by_cases b:j=x;.subst b;rw[cy hi]at q;cases q;cases u;exact⟨a,_,p,aH,z,r⟩
   . rw[fM b]at q;obtain⟨c,E,A,G,I,J⟩:=g.own j t dt q u;have:c≠a:=by rintro rfl;exact b (g.dis j x c ⟨⟨t,dt,q,u⟩,A⟩ y)
     exact⟨c,E,A,by rw[aC this];exact G,I,J⟩
 . have:c≠a:=by rintro rfl;exact n ⟨x,y⟩
   rw[aC this];exact q
 . by_cases b:j=x;.subst b;rw[e]at q;cases q;cases l
   .exact⟨t,by rw[fM b];exact q,.refl t⟩
theorem GS.newV{kvs:List (Int×D)}{a:cx}{A:HO}{s0:Sl}(g:GS K F ρ σ H)(e:ρ[i]?=aU s0)(y:vW s0=a_)(r:mj K F A (.v kvs))(s:H a=cr):aB K F ρ σ H F (ρ.set i (.cU kvs)) (σ.set i (aU (.ref a))) (upd H a A):=by
 have hi:i<ρ.length:=(fB e).1;have u:i<σ.length:=by rw[<-g.len];exact hi
 have B:F a=cr:=by cases q:F a with|none=>rfl|some o=>rw[g.sub a o q]at s;cases s
 have f:∀{j:Nat}{c:cx},j≠i->aZ (ρ.set i (.cU kvs)) (σ.set i (aU (.ref a))) j c->aZ ρ σ j c:=λ{j c}b⟨⟨t,ds,e1,e2⟩,e3⟩=>by rw[fM b]at e1 e3;exact⟨⟨t,ds,e1,e2⟩,e3⟩
 have h:∀{c:cx},aZ (ρ.set i (.cU kvs)) (σ.set i (aU (.ref a))) i c->c=a:=λ{c}⟨_,e3⟩=>by rw[cy u]at e3;cases e3;rfl
 have no:∀{j:Nat},¬ aZ ρ σ j a:=λ{j}⟨⟨t,ds,e1,e2⟩,e3⟩=>by obtain⟨c,o,m,p,_⟩:=g.own j t ds e1 e2;rw[e3]at m;cases m;rw[s]at p;cases p
 refine⟨⟨λc o q=>?_,by simp[g.len],λj E d q=>?_,λj t dt q C=>?_,λj k c m p=>?_⟩,.refl _,λc n G=>absurd n G,λc o q n=>?_,λc⟨j,q⟩=>?_,by simp,λj t q l=>?_⟩
 . have:c≠a:=by rintro rfl;rw[B]at q;cases q
   rw[aC this];exact g.sub c o q
 . by_cases b:j=i;.subst b;rw[cy hi]at q;cases q
   .rw[fM b]at q ⊢;exact g.val j E d q
 . by_cases b:j=i;.subst b;rw[cy hi]at q;cases q;cases C;exact⟨a,_,cy u,aH,B,r⟩
   . rw[fM b]at q ⊢;obtain⟨c,o,I,z,J,L⟩:=g.own j t dt q C;have:c≠a:=by rintro rfl;rw[s]at z;cases z
     exact⟨c,o,I,by rw[aC this];exact z,J,L⟩
 . by_cases b:j=i
   . by_cases w:k=i;.rw[b,w]
     .subst b;rw[h m]at p;exact absurd (f w p) no
   . by_cases w:k=i;.subst w;rw[h p]at m;exact absurd (f b m) no
     .exact g.dis j k c (f b m) (f w p)
 . have:c≠a:=by rintro rfl;rw[s]at q;cases q
   rw[aC this];exact q
 . by_cases b:j=i;.subst b;rw[h q];exact .inr s
   .exact .inl ⟨j,f b q⟩
 . have b:j≠i:=by rintro rfl;rw[e]at q;cases q;rw[y]at l;cases l
   exact⟨by rw[fM b],t,by rw[fM b];exact q,.refl t⟩
end
section
variable{X:Cx}{c:Call}{n:Nat}{a b e:dO}{pa pb p:P}{pos:Pos}
theorem FZ{f p2:Pos}(m:X.N.Nodup)(hi:X.N[i]?=aU x)(o:Loc X.env.scope x)(hs:h_ (.Dict [] [] p2) (aU (.Name x f)) pos.line X.env=fy a_:=by rfl)(r:X.fn x=cq\/X.env.scope.names.lookup x=aU .local:=by first|(left;rfl)|(right;rfl)|assumption):SS X c n (.Assign [.Name x f] (.Dict [] [] p2) pos) (.Hz i):=by
 refine eO (xm m hi o yH hs r) ?_;rintro D σ H⟨F,ρ,fl,h,g,e,k⟩;rw[_H.X23]at e;have go:∀s0,ρ[i]?=aU s0->vW s0=a_->fl=.next->h=ρ.set i (.cU [])->∀a,H a=cr->D.nx (σ.set i (aU (.ref a))) (upd H a (.dK [])):=λs0 q s j l a t=>by subst j l;exact k F _ _ (g.newV (kvs:=[]) q s (KR.oc .nil) t)
 split at e;.rename_i q;cases e;exact go _ q rfl rfl rfl
 .rename_i q;cases e;exact go _ q rfl rfl rfl
 .rename_i q;cases e;exact go _ q rfl rfl rfl
 .cases e
theorem rG{w f:Pos}{pk:P}(hu:X.A.units+8<gS)(C:X.N[i]?=aU x)(E:yr X.env.scope x)(G:SX X c a pk)(he:SX X c e p)(hs:h_ e (aU (.Subscript (.Name x w) a f)) pos.line X.env=fy a_:=by rfl)(hd:(x==("__debug__":Str))=a_:=by decide)(m:(x==("__classdict__":Str))=a_:=by decide):SS X c n (.Assign [.Subscript (.Name x w) a f] e pos) (.gA i pk p):=by
 obtain⟨ta,h1,I⟩:=G.bW;refine eO (Fx (by omega) (fO C E hd m) h1 he.ev hs) ?_;rintro D σ H⟨F,ρ,fl,J,g,e,k⟩;rw[_H.X25]at e;obtain⟨r,o,L,l⟩:=aj e;clear e;refine⟨F,ρ,r,o,g,L,λv F1 H1 s1 M=>?_⟩;obtain⟨F2,s2,_,O⟩:=s1.dw M;split at l
 . rename_i Q U;obtain⟨kd,W,Y,h⟩:=aj l;clear l;obtain⟨s,o0,t,w2,w3,w4⟩:=s2.gs.own i _ _ U rfl;refine⟨.ref s,t,I s2.gs Y λy Z H3 s3 py=>?_⟩;split at h
   . rename_i kvs j q;split at h;.rename_i hl;cases h;obtain⟨a1,o1,z,y2,y3,y4⟩:=s3.gs.own i _ _ q rfl;rw[t]at z;cases z;obtain⟨es,rfl,B⟩:=KR.Vi y4;have u:=B.put (k:=j) (O.mono s3.cQ);refine⟨s,upd H3 s (.dK (putK es (dP j:Key) v)),rfl,?_,k Z σ _ ((s2.trans s3).trans (s3.gs.afw q t u.oc))⟩;rw[py.int];exact .inl ⟨es,dP j,y2,rfl,by rw[B.len,fh];exact hl,rfl⟩
     .cases h
   .cases h
 .cases l
theorem Cg{y:Pos}{pk:P}(hu:X.A.units+8<gS)(z:X.N[i]?=aU x)(B:yr X.env.scope x)(C:SX X c a pk)(hs:Nx a)(hd:(x==("__debug__":Str))=a_:=by decide)(l:(x==("__classdict__":Str))=a_:=by decide):SX X c (.Subscript (.Name x y) a pos) (.R7 i pk):=by
 obtain⟨ta,h1,E⟩:=C.bW;refine⟨eV (Ng (by omega) (fO z B hd l) h1 hs) ?_,λi h=>by cases h⟩;rintro σ H Q⟨F,ρ,r,G,g,e,k⟩;rw[_H.E25]at e;split at e
 . rename_i I q;obtain⟨kd,J,L,f⟩:=aj e;clear e;obtain⟨m,o0,o,w2,w3,w4⟩:=g.own i _ _ q rfl;refine⟨.ref m,o,E g L λv F1 M s1 s=>?_⟩;split at f;.rename_i kvs O;obtain⟨t,U⟩:=aD f;clear f;subst U;obtain⟨j,W,Y⟩:=cg t;clear t;obtain⟨d,Z,e6⟩:=map_some Y;subst e6;rw[di W]at s;obtain⟨a1,o1,u,y2,y3,y4⟩:=s1.gs.own i _ _ O rfl;rw[o]at u;cases u;obtain⟨es,rfl,kr⟩:=KR.Vi y4;obtain⟨w,g1,g2⟩:=kr.get Z;rw[s.int];exact⟨m,w,rfl,.inl ⟨es,dP j,.inl y2,rfl,g1.symm⟩,k w F1 M s1 (show Rep X.K F1 _ _ from g2)⟩
   .cases f
 .cases e
theorem UJ{G:Pos}{pk:P}{neg:Bool}{op:nV}(t:(op=.In/\neg=a_)\/(op=.NotIn/\neg=cq))(hu:X.A.units+8<gS)(w:X.N[i]?=aU x)(z:yr X.env.scope x)(J:SX X c a pk)(hd:(x==("__debug__":Str))=a_:=by decide)(m:(x==("__classdict__":Str))=a_:=by decide):PC X op a (.Name x G) (Fv X.K (_H.ev c (.R8 i pk neg))):=by
 obtain⟨L,h1,M⟩:=J.bW;have l:∀{σ:_L.St}{H:Hp}{Q:VK},Fv X.K (_H.ev c (.R8 i pk neg)) σ H Q->L σ H λy u=>Ua i σ u λx B=>∃a o,x=.ref a/\pF B a y o/\Q (.bl (if neg then !o.isSome else o.isSome)) B:=λ{σ H Q}⟨F,ρ,r,ρ',g,e,k⟩=>by
  rw[_H.E26]at e;obtain⟨kd,O,U,q⟩:=aj e;clear e;refine M g U λv F1 u s1 C=>?_;split at q;.rename_i kvs W;obtain⟨Y,Z⟩:=aD q;clear q;subst Z;obtain⟨j,e4,e5⟩:=map_some Y;subst e5;rw[di e4]at C;obtain⟨E,o1,y1,y2,y3,y4⟩:=s1.gs.own i _ _ W rfl;obtain⟨es,rfl,kr⟩:=KR.Vi y4;rw[C.int];refine⟨.ref E,y1,E,_,rfl,.inl ⟨es,dP j,.inl y2,rfl,rfl⟩,?_⟩;rw[kr.has j];exact k _ F1 u s1 (show Rep X.K F1 _ _ from il _)
  .cases q
 rcases t with⟨rfl,rfl⟩|⟨rfl,rfl⟩;.exact λf s σ H Q I h=>Vl (by omega) h1 (fO w z hd m) f s σ H Q I (l h)
 .exact λf s σ H Q I h=>Gv (by omega) h1 (fO w z hd m) f s σ H Q I (l h)
end
theorem qt{P:dF}{w:eJ}:∀{ks:List Int}{es:List (Key×V)}{vs:List (Key×b_)}{a:List b_},es.map (·.1)=ks.map (dP:Int->Key)->KV es vs->a.length=vs.length->(∀(j:Nat)(v:b_),a[j]?=aU v->∃(k:Key)(x:b_),vs[j]?=aU (k,x)/\(bj P w).is k v=cq)->fe a ks
 |[],es,_,a,he,r,h,_=>by cases es with
   |nil=>cases r;cases a with|nil=>exact .nil|cons _ _=>simp at h
   |cons _ _=>simp at he
 |i::ks,es,_,a,he,r,h,k=>by cases es with|nil=>simp at he|cons p es=>cases r with|@cons _ q _ _ r t=>rw[dl,dl]at he;cases a with|nil=>simp at h|cons v a=>
         obtain⟨f,x,c,g⟩:=k 0 v rfl;simp at c;have l:f=dP i:=by have z:=r.1;rw[c]at z;rw[<-(og he).1];exact z.symm
         subst l;obtain⟨n,m,b,rfl⟩|⟨_,_,b,_⟩:=bI (show qy (dP i) v=cq from g);.cases b;exact .cons _ m (qt (og he).2 t (by simpa using h) λj v e=>k (j+1) v (by simpa using e))
         .cases b
section
variable{X:Cx}{c:Call}{n:Nat}{a b e:dO}{pa pb p:P}{pos:Pos}
theorem Z6(hc:X.calm=cq):dC X (.type "list") (MP X.K λx=>blt .YW [x]):=by rintro t s σ H xs us Q I r⟨x,A,F,d,B,sm,C,he,k⟩;cases d with|dv ks ds=>
   obtain⟨E,he⟩:=bf (show(if ks.length<=16777216 then aU (R.own (ks.map D.int))else cr)=aU B from he);subst he;obtain⟨q,G,g,rfl,J,L,M⟩:=C.dv sm;subst A;obtain⟨u,rfl,N⟩:=r.one;cases N;obtain⟨ho,hz,O,vs,y,l⟩:=(show bF X.prog X.w H s.heap q (.dw G (.dK (ent ks g)))from I.hok q _ J);obtain⟨ep,l⟩:=l.dictAt;have z:=sr (ks:=ks) (vs:=g) (by rw[L.length];exact M);have m:vs.length=ks.length:=by rw[<-Paired.length y];have:=congrArg me z;simpa using this
   refine kdl_call (kdl_dict (knd:=bj X.prog X.w) (kvs:=vs) (ep:=ep) O) (I.ok.hd hc) l (by rw[m,fh];omega) λh' U h W kp Y f=>?_;have Z:fe h.toList ks:=qt (P:=X.prog) (w:=X.w) z y (by rw[eS];exact f.1) λj v e=>f.2 j v (by rw[<-lT];exact e);refine⟨.ref s.heap.objs.size,_,I.laid (t':=U) (o:=.lst (ks.map V.int)) (h':=h') kp (cI) ⟨by rw[dy,fh];omega,h.toList,W,ju Z,by rw[Array.toArray_toList];exact Y⟩,rfl,?_⟩;exact zV sm (pP ks) (I.hok.fresh (cI)) k|_=>cases he
theorem HY{f:Pos}(g:x="list")(hc:X.calm=cq)(j:Gl X x)(k:X.mg x=cr)(l:SX X c a pa)(hs:cL [a] X.env=(a_,fi a X.env)::cL [] X.env:=by rfl):SX X c (.Call (.Name x f) [a] [] pos) (.blt .YW [pa]):=by subst g;exact oF (λh=>iM (Z6 hc) j k (by decide+kernel) h (he:=hs)) l (λρ=>rfl) rfl hs
theorem O4{neg:Bool}{op:nV}(f:(op=.In/\neg=a_)\/(op=.NotIn/\neg=cq))(hu:X.A.units+8<gS):fL X (ec op) (rD X.K (zF neg)):=by rintro m s σ H x y v u Q I h t⟨F,d,e,r,sm,w,z,he,k⟩;cases d with
 |int j=>cases e with|dv ks ds=>
     cases he;obtain⟨q,B,vs,rfl,C,E,G⟩:=z.dv sm;have J:=KR.zip E G;rw[w.int]at h;obtain rfl:u=et q:=t;have g:pF H q (.int j) (jF (ent ks vs) (dP j:Key)):=.inl ⟨_,dP j,.inr ⟨B,C⟩,rfl,rfl⟩;have o:(jF (ent ks vs) (dP j:Key)).isSome=ks.contains j:=by rw[J.has j];congr 1;rw[List.map_fst_zip (by omega)]
     rcases f with⟨rfl,rfl⟩|⟨rfl,rfl⟩;.refine aaz (by omega) I g h λs3 l=>⟨.bl (jF (ent ks vs) (dP j:Key)).isSome,H,l,rfl,?_⟩;rw[o];exact cF.cV sm (il _) k
     .refine FT (by omega) I g h λs3 l=>⟨.bl (!(jF (ent ks vs) (dP j:Key)).isSome),H,l,rfl,?_⟩;rw[o];exact cF.cV sm (il _) k|_=>cases he
 |_=>cases he
end
end _H
namespace PySem
section
variable{prog:dF}{w:eJ}{A:eM}{E:b_->cv->Prop}{s:cv}
theorem wM{Q:List b_->cv->Prop}{I l:cx}{items:Array b_}(u:A.handled=cr)(f:s.heap.IsRevIter I l ((items.size:Int)-1))(p:s.heap.IsList l items)(k:l≠I)(g:items.size<=2^24)(x:∀h' m c,(∀b o,b≠I->s.heap.get? b=aU o->h'.get? b=aU o)->s.heap.objs.size<h'.objs.size->ItemsOf (λi v=>items[items.size-1-i]?=aU v) c items.size->Q c.toList {s with heap:=h',toks:=m}):
 cK (c_ prog w) A (qv (.ref I)) Q E s:=by have h:I<s.heap.objs.size:=let⟨_,ho,_⟩:=f;dA ho;have n:l<s.heap.objs.size:=let⟨_,ho,_⟩:=p;dA ho;unfold qv;refine bx (k8 (ga F.entry_proto_collect ?_));rw[fw F.plain_proto_collect _];show cK _ A.in1 (tJ []>>=λl=>again (.builtin "list.__iadd__" ⟨[l,.ref I],[]⟩)) _ _ s;refine bx (ei ?_);refine cw ⟨im F.plain_list_iadd _,ga F.entry_list_iadd ?_⟩;rw[fw F.plain_list_iadd _];show cK _ A.in1 (ja (.ref s.heap.objs.size) (.ref I) (.ref s.heap.objs.size)) _ _ _;refine oA (A:=A) (R:=λr q=>match r with
  |.ok (.ret v)=>cK (c_ prog w) A (match v with
   |.ref a=>do let o<-load a match o.data with|.seq xs _=>fy xs.toList|_=>lp "internal:collect"
   |_=>lp "internal:collect") Q E q|.ok _=>False|.error e=>E e q) (s:={s with heap:=s.heap.push {cls:=.type "list",data:=.seq #[]}}) u (f.at λo e=>dz e) (p.at λo e=>dz e) k g s.heap.objs.size (fI (dS h)) (fI (dS n)) _ 0 (dc _ rfl) λh' m c B y t j=>?_;refine bx (q_ t ?_);exact cw (x h' m c (λb o z e=>y b o (dS (dA e)) z (dz e)) (dA t) j)
end
theorem jM(I l:cx)(items:Array b_)(i:l≠I)(hsz:items.size<=2^24):ve (gI.«tuple.__new__» ⟨[.type "tuple",.ref I],[]⟩) (λA R s=>A.handled=cr/\s.heap.IsRevIter I l ((items.size:Int)-1)/\s.heap.IsList l items/\∀(h':eN)(p:Nat),(∀b o,b≠I->s.heap.get? b=aU o->h'.get? b=aU o)->s.heap.objs.size<h'.objs.size->∀a:Array b_,a=items.reverse->R (.ok (.ret (.ref h'.objs.size))) {s with heap:=h'.push {cls:=.type "tuple",data:=.seq a},toks:=p}):=.of_wp λprog w A R s h=>by
  obtain⟨r,f,t,h⟩:=h;have q:=sub_tuple_self;have k:=init_tuple_lookup;have u:=madeHere_tuple;have x:o6 s (.ref I) "list_reverseiterator":=f.typeIs;obtain⟨o,ho,hc,hd⟩:=id f;obtain⟨C,g,d,p,os⟩:=s;wp_walk using AutoSeq1.wpAny_loadPart' ho,kn x,wM (A:=A.in1) r f t i hsz;intro h' m a y n c;show cK _ _ (kA a.toList.toArray>>=λv=>ret v) _ _ _;have e:a.toList.toArray=a:=by simp
  have z:a=items.reverse:=by refine Array.ext (by rw[c.1,Array.size_reverse]) λj h1 E=>?_;have:=c.2 j _ (gk h1);rw[Array.getElem_reverse];have B:=Array.getElem?_eq_some_iff.mp this;exact B.2.symm
  rw[e];unfold kA;refine bx (ei ?_ (by show a.size<=sizeLine;rw[c.1,fh];omega));exact cw ⟨_,rfl,h h' m y n a z⟩
section
variable{prog:dF}{w:eJ}{A:eM}{E:b_->cv->Prop}{s:cv}
theorem qK{I l:cx}{items:Array b_}{Q:b_->cv->Prop}(i:A.handled=cr)(a:s.heap.IsRevIter I l ((items.size:Int)-1))(j:s.heap.IsList l items)(c:l≠I)(hsz:items.size<=2^24)(h:∀(h':eN)(f:Nat),(∀b o,b≠I->s.heap.get? b=aU o->h'.get? b=aU o)->s.heap.objs.size<h'.objs.size->Q (.ref h'.objs.size) {s with heap:=h'.push {cls:=.type "tuple",data:=.seq items.reverse},toks:=f}):cK (c_ prog w) A (call (.type "tuple") [.ref I]) Q E s:=callType_new F.called_tuple (by decide) (F.typeCall_tuple_1 _) (F.newCall_tuple_1 _) (λobj=>F.args_object_init_2 obj _) F.entry_tuple_new (jM I l items c hsz) ⟨i,a,j,λh' f k g m e=>by subst e;exact⟨⟨_,dc _ rfl,rfl⟩,h h' f k g⟩⟩
end
end PySem
namespace _L
open PySem Spec PyProof.Rows
section
variable{X:Cx}{pins:List (cx×Obj)}{σ:St}{H:Hp}{s:cv}{E:b_->cv->Prop}
theorem Bf{a:dO}{B:TE}{p pos p2 g:Pos}(hc:X.calm=cq)(n:Gl X "tuple")(t:X.mg "tuple"=cr)(J:Gl X "reversed")(L:X.mg "reversed"=cr)(M:PE X a B)(hs:cL [a] X.env=[(a_,fi a X.env)]:=by rfl)(i:cL [.Call (.Name "reversed" p) [a] [] pos] X.env=[(a_,fi (.Call (.Name "reversed" p) [a] [] pos) X.env)]:=by rfl):PE X (.Call (.Name "tuple" p2) [.Call (.Name "reversed" p) [a] [] pos] [] g) (λσ H Q=>B σ H λx f=>∃ad xs,x=.ref ad/\eY X.K f ad xs/\∀l,f l=cr->Q (.ref l) (upd f l (.tup xs.reverse))):=by
 intro pins s σ H Q I h;refine Call_ (mL I n t yE (fN ?_ i rfl));rw[i];show cK _ _ (spliced ((a_,fi (.Call (.Name "reversed" p) [a] [] pos) X.env)::[])) _ _ _;refine kM (Call_ (mL I J L rY (fN (cA ((cG M dX hs) pos pins s σ H (λvs f=>match vs with|[x]=>∃ad xs,x=.ref ad/\eY X.K f ad xs/\∀l,f l=cr->Q (.ref l) (upd f l (.tup xs.reverse))|_=>False) I h) ?_) hs rfl)));rintro Z s1⟨vs,f,m,r1,v⟩;obtain⟨ad,xs,N,q,w⟩:∃ad xs,eY X.K f ad xs/\(∀l,f l=cr->Q (.ref l) (upd f l (.tup xs.reverse)))/\vs=[.ref ad]:=by cases vs with|nil=>cases v|cons x r=>cases r with|nil=>obtain⟨ad,xs,rfl,q,O⟩:=v;exact⟨ad,xs,q,O,rfl⟩|cons _ _=>cases v
 subst w;obtain⟨u,rfl,U⟩:=r1.one;cases U;obtain⟨c,C,y,hz⟩:=m.list N;have hsz:c.toArray.size=xs.length:=by rw[cS,<-C.length]
 refine call_reversed_list y.isList (ng ?_);have z:ad≠s1.heap.objs.size:=dS (let⟨_,ho,_⟩:=y.isList;dA ho);have A:(s1.heap.push (revObj ad ((c.toArray.size:Int)-1))).IsList ad c.toArray:=y.isList.at λo e=>dz e;refine qK (m.ok.hd hc) (I:=s1.heap.objs.size) (l:=ad) (items:=c.toArray) ⟨_,dc _ rfl,rfl,rfl⟩ A z (by rw[hsz];exact iA hz (by decide)) λh' W G j=>?_;have k:(s1.heap.push (revObj ad ((c.toArray.size:Int)-1))).objs.size=s1.heap.objs.size+1:=ia ..;dsimp only at G j ⊢;rw[k]at j;have Y:c.toArray.reverse=c.reverse.toArray:=by simp
 rw[Y];refine⟨.ref h'.objs.size,_,m.laid (t':=W) (o:=.tup xs.reverse) (h':=h'.push {cls:=.type "tuple",data:=.seq c.reverse.toArray}) (λb o e=>dz (G b o (dS (dA e)) (dz e))) (by omega) ?_,rfl,q _ (m.hok.fresh (by omega))⟩;exact⟨by rw[List.length_reverse];exact hz,_,C.reverse,mh _ _⟩
end
end _L
namespace _H
open PySem _L Spec PyProof.Rows
section
variable{X:Cx}{c:Call}{a:dO}{pa:P}{pos:Pos}
theorem Av{x y:Str}{j p b:Pos}(q:y="tuple")(t:x="reversed")(hc:X.calm=cq)(m:Gl X y)(n:X.mg y=cr)(u:Gl X x)(w:X.mg x=cr)(z:SX X c a pa)(hs:cL [a] X.env=[(a_,fi a X.env)]:=by rfl)(o:cL [.Call (.Name x j) [a] [] pos] X.env=[(a_,fi (.Call (.Name x j) [a] [] pos) X.env)]:=by rfl):SX X c (.Call (.Name y p) [.Call (.Name x j) [a] [] pos] [] b) (.blt .rvT [pa]):=by subst t q;obtain⟨Z,h1,A⟩:=z.bW;refine⟨eV (Bf hc m n u w h1 hs o) ?_,λi h=>by cases h⟩;rintro σ H Q⟨F,ρ,r,B,g,e,k⟩;rw[_H.E17]at e;obtain⟨d,C,E,f⟩:=aj e;have G:=aD f;clear f;obtain⟨f,I⟩:=G;subst I;cases d with|lst ds=>cases f;refine A g E ?_;rintro v F' H' s J;obtain⟨ad,xs,rfl,L,M⟩:=J.lst s.gs.sub;exact⟨ad,xs,rfl,L,λl N=>Cy s.gs.sub (aF.rev M) N λv O U W Y=>k v O U (s.trans (W.stp s.gs)) (.later s (Y.nC s.gs))⟩|_=>cases f
end
end _H
namespace _L
open PySem Spec PyProof.Rows Calls
section
variable{X:Cx}
theorem Kv:aah X (aao X.K):=by
 intro a s σ H x y v u Q I g k h;obtain⟨p,xs,i,z,rfl,rfl,l,he,q⟩:=h;cases g;obtain⟨t,rfl⟩:=k;obtain⟨b,r,e,hz⟩:=I.list l;obtain⟨j,h1,m,C,n,o⟩:=xT he;obtain⟨w,f,A⟩:=r.get m;have B:=r.length;have E:=tu;have fin:EP X a σ Q w s:=⟨z,H,I,A,q⟩;by_cases h0:0<=i
 . have c:i.toNat=j:=by rw[p_ h0 o]at h1;exact fb h1
   exact wpAny_getItem_list e.isList h0 (by omega) (by rw[c];simpa using f) fin
 . have c:(i+(b.toArray.size:Int)).toNat=j:=by rw[oy (by omega) n]at h1;rw[cS,<-B];exact fb h1
   exact tw e.isList (by omega) (by rw[cS]<;>omega) (by omega) (by rw[c];simpa using f) fin
end
end _L
namespace _H
open PySem _L Spec PyProof.Rows Calls W
section
variable{X:Cx}{c:Call}{n:Nat}{a b e:dO}{pa pb p:P}{pos:Pos}
set_option maxHeartbeats 800000 in
theorem FQ{k e:Int}{t1 t2 p1 p2 p3}:SX X c (.Dict [aU (.Constant (.int k) t1 p1)] [.Constant (.int e) t2 p2] p3) (.CV k e):=by
 refine⟨?_,λi h=>by cases h⟩;intro f s σ H Q I h;obtain⟨F,ρ,r,x,g,m,y⟩:=h;rw[_H.E27]at m;cases m;have A:mR [] [((dP k:Key),V.int e)]=ent [k] [.int e]:=rfl;have B:=wK (X:=X) (pos:=p3) (oW (mU (i:=k) (j:=t1) (pos:=p1)) (mU (i:=e) (j:=t2) (pos:=p2)) wR) rfl rfl (by simp) (by simp);refine cA (B f s σ H (λv C=>∃q,v=.ref q/\H q=cr/\C=upd H q (Am [k] [.int e])) I ?_) λu s1⟨v,H1,I1,r1,q,e1,hn,e2⟩=>?_;.intro q E;refine⟨aH,[(dP k,.int e)],rfl,by simp,q,rfl,E,?_⟩;rw[rC,A];rfl
 subst e1 e2;obtain⟨o,t⟩:=Inv.Hf I1 (a:=q) (kvs:=ent [k] [.int e]) aH;rw[rC]at t;have G:F q=cr:=by cases z:F q with|none=>rfl|some o=>rw[g.sub q o z]at hn;cases hn
 have sm:aK F (upd F q (.dw o (Am [k] [.int e]))):=aK.cu G;refine⟨.ref q,_,t,r1,y _ (upd F q (.dw o (Am [k] [.int e]))) _ (Ext.stp g ⟨aK.cu hn,sm,λb o e=>?_,λb n w=>?_⟩) ?_⟩
 . by_cases l:b=q;.subst l;rw[aH]at e ⊢;exact e
   .rw[aC l]at e ⊢;exact g.sub b o e
 . by_cases l:b=q;.subst l;exact jd hn
   .rw[aC l]at w;exact absurd n w
 .show Rep X.K _ _ (.dv [k] [.int e]);rw[Rep];exact⟨q,o,[.int e],rfl,aH,.cons (bw _) .nil,rfl⟩
theorem Nm{x:Str}{k:Nat}{px o:Pos}{op:m4}{sub:Bool}(ho:Rr X op (Xw λi j=>if sub then i-j else i+j))(hN:X.N[k]?=aU x)(hv:yr X.env.scope x)(hi:SX X c b pb)(he:SX X c e p)(ha:∀A iv f,augStore b A iv f=(do kX [f,A,iv] (qq A iv f);release [f,A,iv] [];fy .next):=by intros;rfl)(hd:(x==("__debug__":Str))=a_:=by decide)(E:(x==("__classdict__":Str))=a_:=by decide):SS X c n (.AugAssign (.Subscript (.Name x px) b o) op e pos) (.Mm k pb sub p):=by
 obtain⟨ti,G,I⟩:=hi.bW;obtain⟨te,J,L⟩:=he.bW;refine eO (Qc (fO hN hv hd E) G Kv J ho set_list ha) ?_;rintro D σ H⟨F,ρ,fl,ac,g,e,kk⟩;rw[_H.X16]at e;obtain⟨x0,ae,r,Z⟩:=aj e;clear e;obtain⟨e0,CW⟩:=aD r;clear r;subst CW;obtain⟨dk,M,e1,eB⟩:=aj Z;clear Z;obtain⟨l,af,h,eC⟩:=aj eB;clear eB;obtain⟨B,O⟩:=aD h;clear h;subst O;obtain⟨ra,ag,s,eD⟩:=aj eC;clear eC;obtain⟨e3,Q⟩:=aD s;clear s;subst Q;obtain⟨db,ah,e4,t⟩:=aj eD;clear eD;obtain⟨U,T7,m,_⟩:=Dn g e0;refine⟨.ref U,m,I g e1 λvi F1 H1 s1 pi=>?_⟩;split at t
 . rename_i u v bb ds kz q;split at t
   . rename_i j hj;cases t;obtain⟨C,f3,f5⟩:=cg e3;have W:C=kz:=by cases f3;rfl
     subst W;have h:pk M k=aU (.lst l):=by
      unfold HQ at B;split at B;.rename_i z;cases B;exact z
      .cases B
     obtain⟨o',y,po⟩:=s1.gs.pk h;rw[m]at y;cases y;obtain⟨ad,xs,hr,hL,rs⟩:=po.lst s1.gs.sub;cases hr;obtain⟨j0,h1,h2⟩:=JD f5;obtain⟨w,h3,h4⟩:=rs.get h2;have Y:Lr xs C=aU w:=by unfold Lr;rw[rs.length,h1];exact h3
     have hw:w=.int u:=by rw[Rep]at h4;exact h4
     subst hw;refine⟨U,xs,C,.int u,rfl,pi.int,hL,Y,L s1.gs e4 λvb F2 H2 s2 pb=>⟨u,v,rfl,pb.int,?_⟩⟩;obtain⟨ai,zs,z1,z2,z3,z4⟩:=s2.gs.uU k _ ds q rfl;rw[m]at z1;cases z1;refine⟨U,zs,C,j,rfl,pi.int,z2,by rw[z4.length];exact hj,?_⟩;exact kk F2 σ _ ((s1.trans s2).trans (s2.gs.mut q m (z4.set (bw _) j)))
   .cases t
 .cases t
end
section
variable{X:Cx}{c:Call}{n:Nat}{a b e:dO}{pa pb p:P}{pos:Pos}
theorem N6{neg:Bool}{o:Op}{op:nV}(h:(op=.In/\neg=a_)\/(op=.NotIn/\neg=cq))(j:nT o=zF neg)(hu:X.A.units+8<gS)(l:SX X c a pa)(m:SX X c b pb)(y:gT op b=a_):ST X c (.Compare a [op] [b] pos) (.bin o pa pb):=by obtain⟨B,C,h1,E,G⟩:=l.gq m;refine zP (Fy (O4 h hu) h1 E y) λσ H Q q=>wL (t:=Vm (rD X.K (zF neg)) B C) (λQ z=>?_) q;obtain⟨F,ρ,r,I,g,e,k⟩:=z;rw[_H.E3]at e;obtain⟨i,J,L,f⟩:=aj e;have M:=aD f;clear f;obtain⟨f,N⟩:=M;subst N;rw[j]at f;refine G g L λv u O H' s U W=>⟨O,i.1,i.2,r,s.gs.sub,U,W,f,λw Y Z x rn=>?_⟩;exact k w Y Z (s.trans (x.stp s.gs)) (.later s (rn.nC s.gs))
theorem Lj(hu:X.A.units+8<gS)(f:SX X c a pa)(g:SX X c b pb)(h:gT .In b=a_):ST X c (.Compare a [.In] [b] pos) (.bin .din pa pb):=N6 (.inl ⟨rfl,rfl⟩) rfl hu f g h
theorem Vb{i:Nat}{x:Str}{h:Pos}{pk:P}{neg:Bool}{op:nV}(f:(op=.In/\neg=a_)\/(op=.NotIn/\neg=cq))(hu:X.A.units+8<gS)(j:X.N[i]?=aU x)(k:yr X.env.scope x)(l:SX X c a pk)(m:gT op (.Name x h)=a_)(hd:(x==("__debug__":Str))=a_:=by decide)(g:(x==("__classdict__":Str))=a_:=by decide):ST X c (.Compare a [op] [.Name x h] pos) (.R8 i pk neg):=zP (UG (UJ f hu j k l hd g) m) λσ H Q q=>wL (λ_ z=>z) q
end
end _H
namespace _H
open PySem _L Spec PyProof.Rows
section
variable{X:Cx}{c:Call}{n:Nat}{pos:Pos}
noncomputable def aeO(k e:Int):TE:=λ_ H Q=>∀p,H p=cr->Q (.ref p) (upd H p (.dK [(dP k,.int e)]))
theorem Uq{k e:Int}{t1 t2 p1 p2 p3}:PE X (.Dict [aU (.Constant (.int k) t1 p1)] [.Constant (.int e) t2 p2] p3) (aeO k e):=by refine eV (wK (X:=X) (pos:=p3) (oW (mU (i:=k) (j:=t1) (pos:=p1)) (mU (i:=e) (j:=t2) (pos:=p2)) wR) rfl rfl (by simp) (by simp)) ?_;intro σ H Q h q a;refine⟨aH,[(dP k,.int e)],rfl,by simp,?_⟩;rw[rC];exact h q a
set_option maxHeartbeats 1000000 in
theorem PB{i:Nat}{x:Str}{k e:Int}{t1 t2 p1 p2 p3}{b:Pos}(m:X.N.Nodup)(hi:X.N[i]?=aU x)(o:Loc X.env.scope x)(hs:h_ (.Dict [aU (.Constant (.int k) t1 p1)] [.Constant (.int e) t2 p2] p3) (aU (.Name x b)) pos.line X.env=fy a_:=by rfl)(p:X.fn x=cq\/X.env.scope.names.lookup x=aU .local:=by first|(left;rfl)|(right;rfl)|assumption):SS X c n (.Assign [.Name x b] (.Dict [aU (.Constant (.int k) t1 p1)] [.Constant (.int e) t2 p2] p3) pos) (.Ms i k e):=by
 have h0:=xm m hi o (Uq (X:=X) (k:=k) (e:=e) (t1:=t1) (t2:=t2) (p1:=p1) (p2:=p2) (p3:=p3)) hs p;show PS X _ _;refine eO h0 ?_;rintro D σ H⟨F,ρ,fl,h,g,f,r⟩;rw[_H.X24]at f;have go:∀s0,ρ[i]?=aU s0->vW s0=a_->fl=.next->h=ρ.set i (.cU [(k,.int e)])->∀a,H a=cr->D.nx (σ.set i (aU (.ref a))) (upd H a (.dK [(dP k,.int e)])):=λs0 q s j l a t=>by subst j l;exact r F _ _ (g.newV (kvs:=[(k,.int e)]) q s (KR.oc (.cons (bw _) .nil)) t)
 split at f;.rename_i q;cases f;exact go _ q rfl rfl rfl
 .rename_i q;cases f;exact go _ q rfl rfl rfl
 .rename_i q;cases f;exact go _ q rfl rfl rfl
 .cases f
end
end _H
namespace _L
open PySem Spec PyProof.Rows
section
variable{X:Cx}
noncomputable def V7(K:PySem.W.Frag):V->List V->Hp->VK->Prop:=λx vs H Q=>∃(l:cx)(ns:List Int)(i:Int),x=.ref l/\vs=[.int i]/\eY K H l (ns.map V.int)/\ns.length<=1000/\i∈ns/\Q (.int (ns.idxOf i:Nat)) H
theorem zj:∀{ns:List Int}{a:List b_},Vals (ns.map V.int) a->fe a ns|[],_,r=>by cases r;exact .nil|i::ns,_,r=>by cases r with|cons h t=>obtain⟨b,rfl⟩:=h;exact .cons i b (zj t)
theorem Lk:MtR X "list.index" (V7 X.K):=by
 intro m s σ H x vs v C Q I o p h;obtain⟨l,ns,i,rfl,rfl,w,hz,hi,q⟩:=h;cases o;obtain⟨u,rfl,z⟩:=p.one;obtain⟨t,rfl⟩:=z;obtain⟨b,r,A,_⟩:=I.list w;have a:=zj r;have c:=a.length;have f:ns.idxOf i<ns.length:=jv.mpr hi;obtain⟨⟨cls,E,data,sl⟩,n,ho,hc,e,hd⟩:=A;simp only at hc hd e;subst hc hd e;refine ms PySem.F.slot_list_index ⟨_,ho,rfl⟩ PySem.F.entry_list_index (PySem.F.args_list_index_2 _ _) (SeqAt.list_indexAt l b.toArray n cr sl (.int i t) (isInt i) (ns.idxOf i) (by simpa[c]using f) (by omega) ?_ ?_) ⟨ho,λy B=>(eq_isInt i t a y (by simpa using B)).at _ _,?_⟩;.show isInt i b[ns.idxOf i]=cq;rw[isInt_at i a _ (by omega) f];simpa using mC f
 .intro j g k;show isInt i b[j]=a_;rw[isInt_at i a j (by simpa using g) (by omega)];exact ne_of_lt_idxOf k _
 .exact⟨.int (ns.idxOf i:Nat),H,I.tok _,⟨_,rfl⟩,q⟩
end
end _L
namespace _H
open PySem _L Spec PyProof.Rows Calls W
section
variable{X:Cx}{c:Call}{n:Nat}{a b e:dO}{pa pb p:P}{pos:Pos}
theorem uC:∀{K:PySem.W.Frag}{F:Hp}{ns:List Int}{ds:List D}{vs:List V},ds.mapM gB=aU ns->aF K F vs ds->vs=ns.map V.int|_,_,ns,[],vs,h,r=>by rw[r.fZ];cases h;rfl|K,F,ns,d::ds,vs,h,r=>by obtain⟨v,f,rfl,h1,g⟩:=r.cR;rw[mapM_cons]at h;cases d with
   |int i=>cases hm:ds.mapM gB with|none=>rw[hm]at h;cases h|some j=>rw[hm]at h;cases h;rw[Rep]at h1;rw[h1,uC hm g];rfl
   |_=>cases h
theorem dB.sql{K:PySem.W.Frag}{F H:Hp}{v:V}{ds:List D}(sm:aK F H)(h:dB K F H v (.lst ds)):∃a xs,v=.ref a/\eY K H a xs/\aF K F xs ds:=by
 rcases h with h|⟨a,xs,g,rfl,h1,f,i⟩;.rw[Rep]at h;obtain⟨a,xs,rfl,h1,f⟩:=h;exact⟨a,xs,rfl,aK.seq sm h1,f⟩
 .cases i;exact⟨a,xs,rfl,.inl (.inl h1),f⟩
theorem Ve{x:Str}{k i:Nat}{y m f:Pos}(hN:X.N[k]?=aU x)(hv:yr X.env.scope x)(he:SX X c e (.var i))(q:(m.endLine==f.line)=cq:=by rfl)(hs:cL [e] X.env=(a_,fi e X.env)::cL [] X.env:=by rfl)(s:kc (.Name x y) "index" X.env (fi (.Name x y) X.env)=fi (.Name x y) X.env:=by rfl)(u:((kf f (cL [e] X.env)).all (λx=>!x.1)&&(ri f (mN [] X.env)).all (λx=>x.1.isSome)&&decide ([e].length+([]:List lI).length+(if([]:List lI).isEmpty then 0 else 1)<30))=cq:=by rfl)(hd:(x==("__debug__":Str))=a_:=by decide)(z:(x==("__classdict__":Str))=a_:=by decide):SX X c (.Call (.Attribute (.Name x y) "index" m) [e] [] f) (.YZ k (.var i)):=by obtain⟨ti,A,B⟩:=he.bW;refine⟨eV (Ln plainAttrs_list PySem.F.slot_list_index PySem.F.type_list_index Lk (fO hN hv hd z) (cG A dX hs) s u q hs) ?_,λi h=>by cases h⟩;rintro σ H Q⟨F,ρ,r,ac,g,o,kk⟩;rw[_H.E29]at o;obtain⟨d0,ae,t,o⟩:=aj o;have C:=aD t;clear t;obtain⟨t,CW⟩:=C;subst CW;obtain⟨Y,E,Z,o⟩:=aj o;obtain⟨af,G⟩:=aD (show lift (pk ρ i) ρ=.ok Y E from Z);subst G;obtain⟨d2,ag,w,o⟩:=aj o;have C:=aD w;clear w;obtain⟨w,I⟩:=C;subst I;obtain⟨J,L⟩:=aD o;subst L;rw[t]at w;cases w;obtain⟨v,h1,pv⟩:=g.pk t;cases d0 with
 |lst ds=>obtain⟨l,xs,rfl,h2,h3⟩:=pv.sql g.sub;refine⟨.ref l,h1,.inl ⟨rfl,xs,h2⟩,B g Z λvi F2 H2 s2 pi=>?_⟩;cases Y with|int j=>obtain⟨ns,e4,e5⟩:=cg (show(ds.mapM gB).bind _=_ from J);obtain⟨⟨m1,m2⟩,e6⟩:=bf e5;subst e6;have iG:=uC e4 h3;subst iG;obtain⟨v',g1,M⟩:=s2.gs.pk t;rw[h1]at g1;cases g1;obtain⟨l',ah,el,O,U⟩:=M.sql s2.gs.sub;cases el;have W:=uC e4 U;subst W;exact⟨l,ns,j,rfl,by rw[pi.int],O,m2,m1,kk _ F2 H2 s2 (by show Rep X.K F2 _ _;rw[Rep])⟩|_=>cases J
 |_=>cases J
theorem aB.onF{K:PySem.W.Frag}{F H F1 k:Hp}{ρ f:List Sl}{σ g:_L.St}{q:cx}{o:HO}(s:aB K F ρ σ H F1 f g k)(h:H q=cr)(l:F1 q=cr)(ho:¬ Own f g q):aB K F ρ σ H (upd F1 q o) f g (upd k q o):=by
 have t:=s.Ci (o:=o) h l ho;have sm:aK F1 (upd F1 q o):=aK.cu l;refine⟨⟨λb u e=>?_,t.gs.len,λi b d e=>?_,λi t' ds e m=>?_,t.gs.dis⟩,λb u e=>sm b u (s.cQ b u e),λb n r=>?_,t.keep,t.wu,t.len,t.lk⟩
 . by_cases j:b=q;.subst j;rw[aH]at e ⊢;exact e
   .rw[aC j]at e ⊢;exact s.gs.sub b u e
 .obtain⟨v,h1,x⟩:=t.gs.val i b d e;exact⟨v,h1,x.mono sm⟩
 . obtain⟨a,xs,w,y,z,A⟩:=t.gs.own i t' ds e m;have:a≠q:=by rintro rfl;exact ho ⟨i,⟨t',ds,e,m⟩,w⟩
   exact⟨a,xs,w,y,by rw[aC this];exact z,A.mono sm⟩
 . by_cases j:b=q;.subst j;exact .inr (jd h)
   .rw[aC j]at r;exact s.yj b n r
set_option maxHeartbeats 800000 in
theorem JS{k e:Int}{t1 t2 p1 p2 p3}{E1 E2:dO}{q1 q2:P}(ha:SX X c E1 q1)(hb:SX X c E2 q2):SX X c (.Dict [aU (.Constant (.int k) t1 p1),aU E1] [.Constant (.int e) t2 p2,E2] p3) (.wj k e q1 q2):=by obtain⟨ta,J,L⟩:=ha.bW;obtain⟨tb,M,N⟩:=hb.bW;refine⟨?_,λi h=>by cases h⟩;intro C s σ H Q I h;obtain⟨F,ρ,r,ac,g,B,kk⟩:=h;rw[_H.E28]at B;obtain⟨x,ae,O,B⟩:=aj B;obtain⟨y,f,U,B⟩:=aj B;obtain⟨A,W⟩:=aD B;subst W;cases x with
 |int i=>cases y with|int j=>
     obtain⟨Y,e4⟩:i≠k/\r=.val (.dv [k,i] [.int e,.int j]):=by
      have A:(if i=k then cr else aU (R.val (.dv [k,i] [.int e,.int j])))=aU r:=A;split at A;.cases A
      .rename_i Z;cases A;exact⟨Z,rfl⟩
     subst e4;have em:mR [] [((dP k:Key),V.int e),((dP i:Key),V.int j)]=ent [k,i] [.int e,.int j]:=by show putK (putK [] (dP k) (V.int e)) (dP i) (V.int j)=_;simp[putK,ent,fI Y]
     have pe:=wK (X:=X) (pos:=p3) (oW (mU (i:=k) (j:=t1) (pos:=p1)) (mU (i:=e) (j:=t2) (pos:=p2)) (oW J M wR)) rfl rfl (by simp) (by simp);refine cA (pe C s σ H (λv H'=>∃q l m,v=.ref q/\H q=cr/\aB X.K F ρ σ H l f σ m/\l q=cr/\¬ Own f σ q/\H'=upd m q (Am [k,i] [.int e,.int j])) I ?_) λu s1⟨v,H1,I1,r1,q,l,m,O,Z,st,fq,nq,U⟩=>?_
     . intro q E;have fF:F q=cr:=by cases z:F q with|none=>rfl|some o=>rw[g.sub q o z]at E;cases E
       have G:¬ Own ρ σ q:=λ⟨i,⟨t,dt,z1,z2⟩,z3⟩=>by obtain⟨a,ys,w1,w2,_⟩:=g.own i t dt z1 z2;rw[z3]at w1;cases w1;rw[E]at w2;cases w2
       have t0:=(aB.refl g).Ci (o:=.dK []) E fF G;have back:∀{l f m},aB X.K F ρ σ (upd H q (.dK [])) l f σ m->l q=cr/\¬ Own f σ q/\m q=aU (.dK []):=λ{l f m}st=>by
        refine⟨?_,λow=>?_,st.keep q _ aH G⟩;.cases z:l q with|none=>rfl|some o=>
            rcases st.yj q fF (by rw[z];simp)with w|w;.exact absurd w G
            .rw[aH]at w;cases w
        . rcases st.wu q ow with w|w;.exact G w
          .rw[aH]at w;cases w
       refine L t0.gs O λvi F1 H1 s1 pi=>N s1.gs U λvj l m s2 pj=>?_;have st:=s1.trans s2;obtain⟨b1,b2,b3⟩:=back st;refine⟨b3,[(dP k,.int e),(dP i,.int j)],by rw[pi.int,pj.int];rfl,by simp,q,l,m,rfl,E,t0.trans st,b1,b2,?_⟩;rw[em];rfl
     subst O U;obtain⟨o,I2⟩:=Inv.Hf I1 (a:=q) (kvs:=ent [k,i] [.int e,.int j]) aH;rw[rC]at I2;refine⟨.ref q,_,I2,r1,kk _ (upd l q (.dw o (Am [k,i] [.int e,.int j]))) _ (st.onF Z fq nq) ?_⟩;show Rep X.K _ _ (.dv [k,i] [.int e,.int j]);rw[Rep];exact⟨q,o,[.int e,.int j],rfl,aH,.cons (bw _) (.cons (bw _) .nil),rfl⟩|_=>cases A
 |_=>cases A
end
end _H
namespace _L
open PySem Spec PyProof.Rows
section
variable{X:Cx}{a b c d:dO}{ta tb tc td:TE}{pos:Pos}
noncomputable def Qh(r g h:R2)(ta tb tc td:TE):TE:=λσ H Q=>ta σ H λx i=>tb σ i λy j=>r x y j λz e=>∃k,z=.bl k/\(if k=cq then tc σ e λw l=>g y w l λz f=>∃k,z=.bl k/\(if k=cq then td σ f λu m=>h w u m Q else Q (.bl a_) f)else Q (.bl a_) e)
theorem Gz{op g nT:nV}{r l m:R2}(ho:fL X (ec op) r)(i:fL X (ec g) l)(j:fL X (ec nT) m)(o:PE X a ta)(p:PE X b tb)(hc:PE X c tc)(hd:PE X d td)(q:sN [op,g,nT] [b,c,d]=a_:=by with_unfolding_all rfl):PE X (.Compare a [op,g,nT] [b,c,d] pos) (Qh r l m ta tb tc td):=by intro f s σ H Q I h;refine Compare_chain (cA (o f s σ H _ I h) λv s1⟨x,H1,I1,r1,q1⟩=>chain_link (cA (p f s1 σ H1 _ I1 q1) λu s2⟨y,H2,I2,r2',q2⟩=>cA (ho f s2 σ H2 x y v u _ I2 r1 r2' q2) λe s3⟨z,H3,I3,r3,k,ek,q3⟩=>?_)) q;subst ek;cases r3;refine ib ?_;cases k with|false=>exact ite_ff ⟨.bl a_,H3,I3,rfl,q3⟩|true=>refine ite_tt (chain_link (cA (hc f s3 σ H3 _ I3 q3) λw s4⟨n,H4,I4,r4,q4⟩=>cA (i f s4 σ H4 y n u w _ I4 r2' r4 q4) λe s5⟨z,H5,I5,r5,k,ek,q5⟩=>?_));subst ek;cases r5;refine ib ?_;cases k with|false=>exact ite_ff ⟨.bl a_,H5,I5,rfl,q5⟩|true=>exact ite_tt (chain_last (cA (hd f s5 σ H5 _ I5 q5) λt s6⟨A,H6,I6,r6,q6⟩=>j f s6 σ H6 n A w t Q I6 r4 r6 q6))
end
end _L
namespace _H
open PySem _L Spec PyProof.Rows
section
variable{X:Cx}{c:Call}{a b d f:dO}{pa pb pd pf:P}{pos:Pos}
theorem GX{o G W:Cm}{op p nT:nV}(ho:fL X (ec op) (rD X.K (mH o)))(I:fL X (ec p) (rD X.K (mH G)))(J:fL X (ec nT) (rD X.K (mH W)))(Z:SX X c a pa)(hb:SX X c b pb)(hd:SX X c d pd)(A:SX X c f pf)(hm:sN [op,p,nT] [b,d,f]=a_:=by with_unfolding_all rfl):SX X c (.Compare a [op,p,nT] [b,d,f] pos) (.p6 o G W pa pb pd pf):=by
 obtain⟨ta,tb,h1,h2,h3⟩:=Z.gq hb;obtain⟨td,h4,h5⟩:=hd.bW;obtain⟨tf,h6,h7⟩:=A.bW;refine⟨eV (Gz ho I J h1 h2 h4 h6 hm) ?_,λi h=>by cases h⟩;rintro σ H Q⟨F,ρ,r,ac,g,e,k⟩;rw[_H.E10]at e;obtain⟨y,ae,e1,e⟩:=aj e;obtain⟨t,af,m,e⟩:=aj e;have L:=aD m;clear m;obtain⟨m,M⟩:=L;subst M;have l:flat y.2=cq/\cm o y.1 y.2=aU t:=by
  split at m;.rename_i A;exact⟨A,m⟩
  .cases m
 obtain⟨l,m⟩:=l;refine h3 g e1 λv u F' H' s pv B=>⟨F',y.1,y.2,.val (.bl t),s.gs.sub,pv,B,by unfold mH;rw[m];rfl,λw N H2 x j=>?_⟩;have s2:=s.trans (x.stp s.gs);have j:Rep X.K N w (.bl t):=j;rw[Rep]at j;subst j;refine⟨t,rfl,?_⟩;cases t with|false=>rw[if_neg dr]at e ⊢;cases e;exact k _ N H2 s2 (show Rep X.K N _ _ from il _)|true=>
   rw[if_pos rfl]at e ⊢;obtain⟨z,ag,M,e⟩:=aj e;obtain⟨t2,ah,n,e⟩:=aj e;have L:=aD n;clear n;obtain⟨n,e5⟩:=L;subst e5;have C:flat z=cq/\cm G y.2 z=aU t2:=by
    split at n;.rename_i A;exact⟨A,n⟩
    .cases n
   obtain⟨C,n⟩:=C;refine h5 s2.gs M λw F3 H3 s3 E=>⟨F3,y.2,z,.val (.bl t2),s3.gs.sub,?_,E,by unfold mH;rw[n];rfl,λw' O H4 Y j=>?_⟩
   . have x1:=x.fs;have x2:=s3.cQ;rcases B with B|⟨_,_,_,_,_,_,h⟩;.exact .inl ((B.mono x1).mono x2)
     .rw[h]at l;cases l
   have s4:=s2.trans s3;have s5:=s4.trans (Y.stp s4.gs);have j:Rep X.K O w' (.bl t2):=j;rw[Rep]at j;subst j;refine⟨t2,rfl,?_⟩;cases t2 with|false=>rw[if_neg dr]at e ⊢;cases e;exact k _ O H4 s5 (show Rep X.K O _ _ from il _)|true=>
     rw[if_pos rfl]at e ⊢;obtain⟨q,ai,e6,e⟩:=aj e;obtain⟨e7,e8⟩:=aD e;subst e8;refine h7 s5.gs e6 λw2 F5 H5 s6 U=>⟨F5,z,q,r,s6.gs.sub,?_,U,e7,λw3 F6 H6 x6 j=>?_⟩
     . rcases E with E|⟨_,_,_,_,_,_,h⟩;.exact .inl ((E.mono Y.fs).mono s6.cQ)
       .rw[h]at C;cases C
     .have s7:=s5.trans s6;exact k w3 F6 H6 (s7.trans (x6.stp s7.gs)) (.later s7 (j.nC s7.gs))
end
end _H
namespace _H
open PySem
variable{b:Bool}
noncomputable def qJ(l:List Nat):Prop:=∀i j(hi:i<l.length)(a:j<l.length),i<j->l[i]<l[j]
theorem iR{l:List Nat}:qJ l↔l.Pairwise (·<·):=by rw[p4];exact Iff.rfl
theorem rO{xs:Array Nat}{j:Nat}(r:qJ xs.toList):∀(f lo hi:Nat),hi-lo<=f->lo<=hi->hi<=xs.size->(∀k(h:k<xs.size),k<lo->xs[k]<j)->(∀k(h:k<xs.size),hi<=k->j<=xs[k])->∃i,SetTable.below.go xs j f lo hi=i/\i<=xs.size/\(∀k(h:k<xs.size),k<i->xs[k]<j)/\(∀k(h:k<xs.size),i<=k->j<=xs[k])
 |0,lo,hi,h1,o,n,a,g=>⟨lo,rfl,by omega,a,λk h l=>g k h (by omega)⟩|f+1,lo,hi,h1,o,n,a,g=>by
   unfold SetTable.below.go;by_cases c:lo<hi
   . rw[if_pos c];have m:(lo+hi)/2<xs.size:=by omega
     have e:xs.getD ((lo+hi)/2) j=xs[(lo+hi)/2]:=by simp[i3,m]
     dsimp only;rw[e];by_cases d:xs[(lo+hi)/2]<j
     . rw[if_pos d];refine rO r f _ _ (by omega) (by omega) n (λk h l=>?_) g;by_cases q:k=(lo+hi)/2;.subst q;exact d
       .have:=r k ((lo+hi)/2) (by simpa using h) (by simpa using m) (by omega);simp only[hV]at this;omega
     . rw[if_neg d];refine rO r f _ _ (by omega) (by omega) (by omega) a (λk h l=>?_);by_cases q:k=(lo+hi)/2;.subst q;omega
       .have:=r ((lo+hi)/2) k (by simpa using m) (by simpa using h) (by omega);simp only[hV]at this;omega
   .rw[if_neg c];exact⟨lo,rfl,by omega,a,λk h l=>g k h (by omega)⟩
theorem below_at{xs:Array Nat}{j:Nat}(r:qJ xs.toList):eH xs j<=xs.size/\(∀k(h:k<xs.size),k<eH xs j->xs[k]<j)/\(∀k(h:k<xs.size),eH xs j<=k->j<=xs[k]):=by obtain⟨i,e,q⟩:=rO (j:=j) r xs.size 0 xs.size (by omega) (by omega) (by omega) (λk h a=>by omega) (λk h a=>by omega);rw[show eH xs j=i from e];exact q
theorem P0{xs:Array Nat}{j:Nat}(r:qJ xs.toList)(n:xs[eH xs j]?≠aU j):qJ (SetTable.insertAt xs (eH xs j) j).toList:=by
 obtain⟨h1,l,h⟩:=below_at (j:=j) r;rw[SetTable.toList_insertAt,iR];rw[iR]at r;have f:=r;rw[<-l6 (eH xs j) xs.toList,kS]at f;rw[kS];have hd:∀x∈xs.toList.drop (eH xs j),j<x:=λx m=>by
  obtain⟨k,g,rfl⟩:=se.mp m;rw[List.getElem_drop];have c:eH xs j+k<xs.size:=by simp at g;omega
  have q:=h (eH xs j+k) c (by omega);simp only[hV];refine Nat.lt_of_le_of_ne q λe=>n ?_;by_cases z:k=0;.subst z;rw[gk (by omega)];simpa using e.symm
  . have lt:eH xs j<xs.size:=by omega
    have o:=(iR.mpr r) (eH xs j) (eH xs j+k) (by simpa using lt) (by simpa using c) (by omega);have:=h _ lt (by omega);simp only[hV]at o;omega
 refine⟨f.1,kN.mpr ⟨hd,f.2.1⟩,λa p b hb=>?_⟩;have i:a<j:=by obtain⟨k,g,rfl⟩:=se.mp p;rw[List.getElem_take];simp at g;have:=l k (by omega) (by omega);simpa using this
 rcases da.mp hb with rfl|hb;.exact i
 .exact uS i (hd b hb)
noncomputable def Gg(b:Bool)(t:iC):Prop:=t.led=b/\t.dummies=#[]/\qJ t.place.toList
theorem Be(n:Nat):qJ (Array.range n).toList:=by rw[iR];simpa using qB
theorem n6{t:iC}(g:Gg b t)(n:Nat):Gg b (t.standIn n):=⟨g.1,rfl,Be n⟩
theorem aa0{t:iC}(g:Gg b t)(n:Nat):Gg b (t.orStandIn n):=by
 unfold SetTable.orStandIn;split;.exact g
 .exact n6 g n
theorem J4{t:iC}(g:Gg b t):Gg b {t with plain:=a_}:=g
theorem Dv(j:Nat):o_ #[] j=a_:=by simp[o_]
theorem zH{t:iC}{hs:Nat->Int}{h:Int}(hd:t.dummies=#[]):∀(f:Nat)(p:SetTable.Probe)(j:Nat)(o:Option Nat),p.dummy=cr->lC t hs h f p=aU (.empty j o)->o=cr/\t.slot j=.empty
 |0,p,j,o,e,q=>by simp[lC]at q|f+1,p,j,o,e,q=>by
   unfold lC at q;split at q;.rename_i hs;cases q;exact⟨e,hs⟩
   .rename_i a;unfold SetTable.slot at a;rw[hd,Dv]at a;dsimp only at a;split at a<;>simp at a
   . split at q;.cases q
     .exact zH hd f _ j o (by unfold SetTable.advance;split<;>exact e) q
theorem Vz{t:iC}(g:Gg b t)(es:Array (Int×b_))(h:Int)(x:b_):Gg b (layNew t es h x).2.1:=by unfold layNew;cases hf:t.freeSlot h with|none=>exact n6 g _|some a=>
   obtain⟨slot,k⟩:=a;have:t.slot slot=.empty:=by
    unfold SetTable.freeSlot at hf;split at hf;.rename_i j d c;obtain⟨f,i⟩:=zH g.2.1 _ _ j d rfl c;subst f;cases hf;exact i
    .cases hf
   dsimp only;refine aa0 (t:=(t.put slot).1) ⟨g.1,?_,?_⟩ _;.show(if o_ t.dummies slot then _ else t.dummies)=#[];rw[g.2.1,Dv];rfl
   .refine P0 g.2.2 λe=>?_;unfold SetTable.slot at this;dsimp only at this;rw[e]at this;simp at this
theorem Ia{t:iC}(g:Gg b t)(es:Array (Int×b_))(n:Nat):Gg b (oB t es n).2.1:=by
 unfold oB;split
 . rename_i t' f hr;dsimp only;split;.unfold SetTable.relaid SetTable.laid at hr;cases hc:SetTable.layClean (SetTable.sizeAbove n-1) (es.map (·.1))with|none=>rw[hc]at hr;cases hr|some owner=>rw[hc]at hr;cases hr;refine⟨g.1,rfl,?_⟩;rw[iR];dsimp only;rw[oD,List.pairwise_filterMap];refine qB.imp λ{a b}h=>?_;intro x c y e;cases ha:owner.getD a cr with|none=>rw[ha]at c;cases c|some u=>cases hb:owner.getD b cr with|none=>rw[hb]at e;cases e|some v=>rw[ha]at c;rw[hb]at e;cases c;cases e;exact h
   .exact n6 g _
 .exact n6 g _
theorem vY{a:Type}{nx:Nat->Nat}:∀(f k:Nat)(l:List a)(out:Array a),l.length=f->(oC nx f k l out).toList.Perm (out.toList++l)
 |0,k,l,out,h=>by rw[qk.mp h];simp[oC]|f+1,k,l,out,h=>by
   unfold oC;have c:nx k%l.length<l.length:=Nat.mod_lt _ (by omega);rw[eF c];refine(vY f (k+1) _ _ (by rw[sh];simp[c];omega)).trans ?_;rw[ut,fK];refine List.Perm.append_left _ ?_;rw[nE];have e:l=l.take (nx k%l.length)++l[nx k%l.length]::l.drop (nx k%l.length+1):=by rw[qE,l6]
   conv=>rhs;rw[e]
   rw[List.singleton_append];exact List.perm_middle.symm
theorem mQ{a:Type}(nx:Nat->Nat)(xs:Array a):(kB nx xs).toList.Perm xs.toList:=by have:=vY (nx:=nx) xs.size 0 xs.toList #[] (by simp);simpa[kB]using this
end _H
namespace _H
open PySem PyProof.Rows Spec
variable{ns:List Int}{h:eN}{Q:b_->cv->Prop}{n c:Nat}{os:List Nat}{ot:Obj}
inductive jH(prog:dF)(w:eJ)(b:Bool)(h:eN)(a:cx)(ks:List Int):Prop where|mk(o:Obj)(es:Array (Int×b_))(ep:Nat)(t:iC)(is:List Int)(ho:h.get? a=aU o)(hx:o.ExactSet)(hd:o.data=.set es ep t)(g:Gg b t)(hf:t.fits es.size=cq)(he:ElemsOf (i9 prog w) es.toList)(hi:fe (es.toList.map (·.2)) is)(hp:is.Perm ks)
section
variable{prog:dF}{w:eJ}{b:Bool}{h h':eN}{a:cx}{ks:List Int}{A:eM}{E:b_->cv->Prop}{s:cv}
theorem jH.at'(x:jH prog w b h a ks)(k:∀o,h.get? a=aU o->h'.get? a=aU o):jH prog w b h' a ks:=by obtain⟨o,es,ep,t,is,ho,r1,e,f,g,i,j,l⟩:=x;exact⟨o,es,ep,t,is,k o ho,r1,e,f,g,i,j,l⟩
theorem ints_app:∀{e vs:List b_}{ns f:List Int},fe e ns->fe vs f->fe (e++vs) (ns++f)|_,_,_,_,.nil,h=>h|_,_,_,_,.cons n t r,h=>.cons n t (ints_app r h)
theorem pZ{j vs:List b_}(p:j.Perm vs):∀{ns:List Int},fe vs ns->∃e,fe j e/\e.Perm ns:=by induction p with
 |nil=>intro ns h;exact⟨ns,h,.refl _⟩|cons x p k=>intro ns h;cases h with|cons n t r=>obtain⟨e,h1,f⟩:=k r;exact⟨n::e,.cons n t h1,f.cons n⟩
 |swap x y l=>intro ns h;cases h with|cons n t r=>cases r with|cons m u r=>exact⟨m::n::_,.cons m u (.cons n t r),.swap ..⟩
 |trans p q g i=>intro ns h;obtain⟨e,h1,f⟩:=i h;obtain⟨o,v,z⟩:=g h1;exact⟨o,v,z.trans f⟩
theorem iU{e:List b_}(h:fe e ns):e.length=ns.length:=by induction h with|nil=>rfl|cons n t r f=>simp[f]
theorem tX{k:Int}:∀{es:List (Int×b_)}{is:List Int},fe (es.map (·.2)) is->((∃e∈es,(i9 prog w).is k e.2=cq)↔k∈is)|[],_,.nil=>by simp|(j,v)::es,_,hi=>by generalize g:((j,v)::es).map (·.2)=m at hi;cases hi with|nil=>cases g|cons n t r=>
     obtain⟨i,l⟩:=og g;dsimp only at i;subst i;subst l;rw[da,<-tX r];constructor
     . rintro⟨e,he,f⟩;rcases da.mp he with rfl|he;.exact .inl ((i9 prog w).inj _ _ _ f (n5 _ _ _ _))
       .exact .inr ⟨e,he,f⟩
     . rintro(rfl|⟨e,he,f⟩);.exact⟨_,.head _,n5 _ _ _ _⟩
       .exact⟨e,.tail _ he,f⟩
theorem zL{o:Obj}{es e:Array (Int×b_)}{ep:Nat}{t t':iC}{is:List Int}(ho:h.get? a=aU o)(i:o.ExactSet)(hd:o.data=.set es ep t)(g:Gg b t')(k:t'.fits e.size=cq)(he:ElemsOf (i9 prog w) e.toList)(hi:fe (e.toList.map (·.2)) is)(l:is.Perm ks):∃f,(h.update a (m6 e t')).get? a=aU f/\f.ExactSet/\f.data=.set e (ep+1) t'/\jH prog w b (h.update a (m6 e t')) a ks:=by
 have j:(h.update a (m6 e t')).get? a=aU {o with data:=.set e (ep+1) t'}:=by rw[<-putSet_of e t' hd];exact g9 (m6 e t') ho (by rw[putSet_of e t' hd];rfl)
 exact⟨_,j,i,rfl,⟨_,e,ep+1,t',is,j,i,rfl,g,k,he,hi,l⟩⟩
theorem Aa{g:Bool->Sem Unit}(v:∀(b:Bool)(f:cv)(k:Unit->cv->Prop),k () f->cK (c_ prog w) A (g b) k E f){o:Obj}{es e:Array (Int×b_)}{ep:Nat}{t t2:iC}{is:List Int}(ho:s.heap.get? a=aU o)(x:o.ExactSet)(hd:o.data=.set es ep t)(l:Gg b t2)(y:t2.fits e.size=cq)(he:ElemsOf (i9 prog w) e.toList)(hi:fe (e.toList.map (·.2)) is)(m:is.Perm ks)(hz:e.size<=sizeLine){z:Bool}{Q:Option Bool->cv->Prop}(q:∀h',nm a s.heap h'->jH prog w b h' a ks->Q (aU cq) {s with heap:=h'}):cK (c_ prog w) A (storeSet a e t2>>=λ_=>if(!z&&t2.tooFull)=cq then(g (oB t2 e (iL e.size)).2.2>>=λ_=>storeSet a (oB t2 e (iL e.size)).1 (oB t2 e (iL e.size)).2.1>>=λ_=>fy (aU cq))else fy (aU cq)) Q E s:=by
 refine bx (wpAny_storeSet_of ho hd ?_ hz);obtain⟨J,p,B,r,C⟩:=zL (prog:=prog) (w:=w) ho x hd l y he hi m;have u:=gw s.heap a (m6 e t2);split;.have i:=relayAll_perm t2 e (iL e.size);have fr:=relayAll_fits t2 e (iL e.size);have j:=Ia l e (iL e.size);generalize oB t2 e (iL e.size)=R at i fr j;obtain⟨G,L,gv⟩:=R;dsimp only at i fr j;refine bx (v _ _ _ (bx (wpAny_storeSet_of p r (cw ?_) (by rw[<-eS,i.length_eq,eS];exact hz))));obtain⟨js,H,I⟩:=pZ (i.map (·.2)) hi;obtain⟨M,_,_,_,f4⟩:=zL (prog:=prog) (w:=w) p B r j fr (he.perm i) H (I.trans m);exact q _ (u.trans (gw _ a _)) f4
 .exact cw (q _ u C)
theorem Kw{k:Int}{g:Tok}{Q:Bool->cv->Prop}(x:jH prog w b s.heap a ks)(hz:ks.length+1<l9)(q:∀r h',nm a s.heap h'->jH prog w b h' a (yq ks k)->Q r {s with heap:=h'}):cK (c_ prog w) A (setAddHashed a (.int k g) ((i9 prog w).hash k)) Q E s:=by
 obtain⟨o,es,ep,t,is,ho,J,hd,U,M,he,hi,C⟩:=id x;have hsz:es.size=ks.length:=by rw[<-C.length_eq,<-iU hi,dy,eS]
 unfold setAddHashed setAddHashedIn;refine fT (bx (wpAny_setState_of ho hd M ?_));dsimp only;rw[byScan_of (knd:=i9 prog w) rfl (by omega) he,if_pos rfl];unfold setAddByScan;refine bx (bx (ky (bx (wpAny_setScan_of (n5 _ _ _ _) ho hd M he ?_))));cases hr:es.toList.findIdx? (λe=>(i9 prog w).is k e.2)with|some j=>dsimp only;obtain⟨W,X,_⟩:=List.findIdx?_eq_some_iff_getElem.mp hr;have p:k∈ks:=C.mem_iff.mp ((tX (prog:=prog) (w:=w) hi).mp ⟨_,ki W,X⟩);refine cw (cw ?_);have:=q a_ s.heap (Heap.SameBut.refl a s.heap) (by unfold yq;rw[if_pos (by simpa using p)];exact x);cases s;exact this|none=>
   dsimp only;have p:k∉ks:=λp=>by obtain⟨e,Y,Z⟩:=(tX (prog:=prog) (w:=w) hi).mpr (C.mem_iff.mpr p);have:=List.findIdx?_eq_none_iff.mp hr e Y;rw[Z]at this;cases this
   have e':yq ks k=ks++[k]:=by unfold yq;rw[if_neg (by simpa using p)]
   rw[e']at q;have l:=layNew_perm t es ((i9 prog w).hash k) (.int k g);have fr:=layNew_fits t es ((i9 prog w).hash k) (.int k g);have u:=Vz U es ((i9 prog w).hash k) (.int k g);generalize layNew t es ((i9 prog w).hash k) (.int k g)=L at l fr u;obtain⟨v,t1,wd,gv⟩:=L;dsimp only at l fr u ⊢;rw[ut]at l;have G:∀(b:Bool)(f:cv)(i:Unit->cv->Prop),i () f->cK (c_ prog w) A (match b with|true=>rule "set.scan.the-table-gave-way"|false=>fy ()) i E f:=λb f i m=>by
    cases b;.exact cw m
    .exact ky m
   have z:ElemsOf (i9 prog w) v.toList:=(he.push (k:=k) (x:=.int k g) (n5 _ _ _ _) rfl).perm l;have H:fe ((es.toList++[((i9 prog w).hash k,gu k g)]).map (·.2)) (is++[k]):=by rw[gc];exact ints_app hi (.cons k g .nil)
   obtain⟨js,N,j2⟩:=pZ (l.map (·.2)) H;have B:v.size<=sizeLine:=by rw[<-eS,l.length_eq,ez,eS,hsz];exact fits_of_scanBound (by simpa using hz)
   have O:js.Perm (ks++[k]):=j2.trans (C.append_right [k]);refine bx (G _ _ _ ?_);split
   . refine bx ?_;rw[hashByValue_scannable 8 rfl];refine cw ?_;refine Aa (λb f i m=>G b f i m) ho J hd (b:=b) ?_ ?_ z N O B λh' I y=>cw (q cq h' I y)
     . split;.exact u
       .exact J4 u
     . split;.exact fr
       .exact SetTable.fits_plain_off fr
   .refine bx (cw ?_);rw[if_pos rfl];exact Aa (λb f i m=>G b f i m) ho J hd u fr z N O B λh' I y=>cw (q cq h' I y)
end
theorem Bh:∀(ns ks:List Int),(ns.foldl yq ks).length<=ks.length+ns.length
 |[],ks=>by simp|n::ns,ks=>by
   have h1:=Bh ns (yq ks n);have a:(yq ks n).length<=ks.length+1:=by unfold yq;split<;>simp
   rw[lf,eI];omega
noncomputable abbrev jD(w:eJ):Bool:=w.params.followText "set-order"
noncomputable abbrev fS(b:Bool):Obj:={cls:=.type "set",dict:=cr,data:=.set #[] 0 (.fresh 0 0 b)}
section
variable{prog:dF}{w:eJ}{A:eM}{E:b_->cv->Prop}{s:cv}
theorem vN{a:cx}(e:h.get? a=aU (fS (!jD w))):jH prog w (!jD w) h a []:=⟨_,#[],0,_,[],e,⟨rfl,rfl,rfl⟩,rfl,⟨rfl,rfl,λi j hi=>by simp[SetTable.fresh]at hi⟩,rfl,λe he=>by simp at he,.nil,.refl _⟩
theorem zX(a:b_){Q₁:b_->cv->Prop}(h:Q₁ (.ref s.heap.objs.size) {s with heap:=s.heap.push (fS (!jD w))}):ku (c_ prog w) A (.call (.builtin "set.__new__") ⟨[.type "set",a],[]⟩) (wants Q₁ E) s:=by refine qh ?_;show cK _ A.in1 (do checkBuiltinCall "set.__new__" ⟨[.type "set",a],[]⟩;again (.builtin "set.__new__" ⟨[.type "set",a],[]⟩)) _ _ s;refine bx (uj (PySem.F.newCall_set_1 a) (cw ⟨im PySem.F.plain_set_new _,ga PySem.F.entry_set_new ?_⟩));rw[fw PySem.F.plain_set_new _];unfold gI.«set.__new__» Builtin.Frozenset.newClass;have b:=sub_set_self;obtain⟨e,g,d,f,os⟩:=s;dsimp only;wp_walk;refine jI (cw ?_);dsimp only;simp only[newObj];exact bx (wpAny_alloc (cw (cw h)))
theorem yz{R:t_->cv->Prop}{I:cx}{N j:List cx}{G:Array vk->Array vk->Prop}{P:Nat->b_->Prop}{St:Nat->cv->Prop}{b:Bool}(W:WalksS prog w A.in1 I N j G ns.length P St)(S:cx)(l:S∉N)(m:∀i v,P i v->∃t,v=.int (ns.getD i 0) t)(g:ns.length+1<l9):∀(k i:Nat)(s:cv),ns.length-i=k->i<=ns.length->St i s->jH prog w b s.heap S (fj (ns.take i))->(∀ a,Moved (S::j) G s a->jH prog w b a.heap S (fj ns)->R (.ok (.ret .none)) a)->
   ku (c_ prog w) A (.builtin "set.update.loop" ⟨[.ref S,.ref I],[]⟩) R s:=by have p:S∉j:=λh=>l (W.sub _ h);have sub:∀b∈j,b∈S::j:=λb g=>.tail _ g;intro k;induction k with|zero=>
   intro i s U hi hst z B;have C:i=ns.length:=by omega
   subst C;refine ga k6 ?_;rw[fw iF _];show cK _ A.in1 (k9 (.ref I)>>=_) _ _ s;refine bx (W.done s _ _ hst λa q=>?_);show cK _ A.in1 (ret eA) _ _ a;rw[List.take_length]at z;exact cw (B a (q.mono sub) (z.at' λo e=>q.heap S o p e))|succ k X=>
   intro i s U hi hst z B;have lt:i<ns.length:=by omega
   refine ga k6 ?_;rw[fw iF _];show cK _ A.in1 (k9 (.ref I)>>=_) _ _ s;refine bx (W.item i s _ _ lt hst λv a Y u q=>?_);obtain⟨t,rfl⟩:=m i v Y;have H:=z.at' λo e=>q.heap S o p e;show cK _ A.in1 (kX [gu (ns.getD i 0) t] (setAdd S (.int (ns.getD i 0) t))>>=_) _ _ a;refine bx (fT ?_);unfold setAdd;refine fT (bx ((i9 prog w).pyHash (k:=ns.getD i 0) (n5 _ _ _ _) ?_));have f:(fj (ns.take i)).length+1<l9:=by have:=Bh (ns.take i) [];unfold fj;rw[ls]at this;simp only[n4]at this;omega
   refine Kw (s:={a with toks:=a.toks+1}) H f λr h' O J=>?_;have L:jH prog w b h' S (fj (ns.take (i+1))):=by
    have e:ns.take (i+1)=ns.take i++[ns.getD i 0]:=by rw[List.take_add_one];simp[lt]
    unfold fj;rw[e,tT];exact J
   refine cw ⟨im iF _,X (i+1) _ (by omega) lt (W.frame _ a _ _ u (oI _) λb g o e=>?_) L λM x y=>?_⟩;.rw[O.2 b (λh:b=S=>l (by rw[<-h];exact g))];exact e
   .refine B M (Moved.trans W.gtrans ((q.mono sub).then_heap (oI _) λb o g e=>?_) x) y;rw[O.2 b (λh:b=S=>g (by rw[h];exact .head _))];exact e
set_option maxHeartbeats 3200000 in
theorem Ib{l:cx}{f:List b_}(hh:A.handled=cr)(hl:s.heap.IsList l f.toArray)(hi:fe f ns)(hb:ns.length+1<l9)(h:∀(h':eN)(H:Nat),jH prog w (!jD w) h' s.heap.objs.size (fj ns)->(∀b o,s.heap.get? b=aU o->h'.get? b=aU o)->Q (.ref s.heap.objs.size) {s with heap:=h',toks:=H}):cK (c_ prog w) A (call (.type "set") [.ref l]) Q E s:=by
 obtain⟨c,tl,ac⟩:=PySem.F.called_set.mro;have J:=PySem.F.called_set.made;have ae:=PySem.F.called_set.sub;refine wpAny_call (qh ?_);show cK _ _ (callAny (.type "set") _) _ _ _;refine cw ⟨Code.quiet_builtin _ (by decide+kernel),ga PySem.F.entry_type_call ?_⟩;rw[Around.under_plain (ui "set" [.ref l] []) rfl];have h1:=PySem.F.called_set.notType;have h2:=PySem.F.called_set.canCreate;have ai:=PySem.F.typeCall_set_1 (.ref l);repeat(any_goals(first|assumption|wp_step))
 refine kq (zX (.ref l) (E:=E) (Q₁:=λobj j=>obj=.ref s.heap.objs.size/\j={s with heap:=s.heap.push (fS (!jD w))}) ⟨rfl,rfl⟩) λr j hr=>?_;cases r with|error e=>exact hr|ok fl=>cases fl with
   |ret obj=>
     obtain⟨rfl,rfl⟩:=hr;have hS:(s.heap.push (fS (!jD w))).get? s.heap.objs.size=aU (fS (!jD w)):=dc _ rfl;have hT:o6 {s with heap:=s.heap.push (fS (!jD w))} (.ref s.heap.objs.size) "set":=⟨_,hS,rfl⟩;have al:=PySem.F.called_set.init.lookup;have am:=PySem.F.called_set.init.bind (.ref s.heap.objs.size);repeat(any_goals(first|assumption|wp_step))
     refine kq (u8 (R:=wants (λr k=>r=.none/\∃h' H,k={s with heap:=h',toks:=H}/\jH prog w (!jD w) h' s.heap.objs.size (fj ns)/\(∀b o,s.heap.get? b=aU o->h'.get? b=aU o)) E) PySem.F.called_set.init.plain PySem.F.entry_set_init (check_set_init_1 hT ?_)) λt k a=>?_
     . obtain⟨ol,u,x,nl,y⟩:=hl;obtain⟨af,m,L,g⟩:=ol;simp only at x y;subst x;subst y;have z:(s.heap.push (fS (!jD w))).get? l=aU {cls:=.type "list",dict:=m,data:=.seq f.toArray nl,slots:=g}:=dz u;have ag:=PySem.F.sub_list_set;have ah:=PySem.F.sub_list_frozenset;have ap:(eP "list"==eP "dict")=a_:=by decide
       have B:(s.heap.push (fS (!jD w))).IsList l f.toArray:=⟨_,z,rfl,nl,rfl⟩;unfold gI.«set.__init__» noKeywords lS;generalize M:mI=PI;wp_walk;subst M;refine ln B (bx (k8 ?_));have C:l<s.heap.objs.size:=dA u;have N:A.in1.in1.in1.handled=cr:=by simp[hh]
       have hz:(s.heap.push (fS (!jD w))).objs.size=s.heap.objs.size+1:=ia ..;have G:l≠(s.heap.push (fS (!jD w))).objs.size:=by rw[hz];exact dS (kb C)
       have O:s.heap.objs.size∉[(s.heap.push (fS (!jD w))).objs.size,l]:=by rw[hz];simp only[da,lr,or_false,not_or];exact⟨dS (n9 _),rh C⟩
       have U:f.toArray.size=ns.length:=by rw[cS];exact iU hi
       have W:=(Walks.list (prog:=prog) (w:=w) N _ l G f.toArray).toS;rw[U]at W;refine yz (b:=!jD w) W s.heap.objs.size O (λi v hv=>IntsAre.int_at hi i v (by simpa using hv)) hb (ns.length-0) 0 _ (by omega) (uL) ⟨⟨_,dc _ rfl,rfl,rfl⟩,B.push _⟩ (vN (dz hS)) λs' I p=>?_;obtain⟨h',g',d',X,Y⟩:=s';have eg:g'=s.gens:=I.gens;have ed:d'=s.drawn:=I.drawn;have eo:Y=s.os:=I.os;subst eg;subst ed;subst eo;show cK _ _ _ _ _ _;refine cw ?_;show cK _ _ (ret eA) _ _ _;refine cw ⟨rfl,h',X,rfl,p,λb o e=>?_⟩;have:=dA e;exact I.heap b o (by rw[hz];simp only[da,lr,or_false,not_or];exact⟨dS this,dS (kb this)⟩) (dz (dz e))
     .cases t with|error e=>exact a|ok q=>
         cases q with|ret r=>
           obtain⟨rfl,h',H,rfl,p,Z⟩:=a;repeat(any_goals(first|assumption|wp_step))
           exact h _ _ p Z|_=>exact a.elim
   |_=>exact hr.elim
end
section
variable{prog:dF}{w:eJ}{A:eM}{E:b_->cv->Prop}{s:cv}
set_option maxHeartbeats 3200000 in
theorem Gn{l:cx}{f:List b_}(hh:A.handled=cr)(hl:s.heap.IsTuple l f.toArray)(hi:fe f ns)(hb:ns.length+1<l9)(h:∀(h':eN)(H:Nat),jH prog w (!jD w) h' s.heap.objs.size (fj ns)->(∀b o,s.heap.get? b=aU o->h'.get? b=aU o)->Q (.ref s.heap.objs.size) {s with heap:=h',toks:=H}):cK (c_ prog w) A (call (.type "set") [.ref l]) Q E s:=by
 obtain⟨c,tl,ac⟩:=PySem.F.called_set.mro;have J:=PySem.F.called_set.made;have ae:=PySem.F.called_set.sub;refine wpAny_call (qh ?_);show cK _ _ (callAny (.type "set") _) _ _ _;refine cw ⟨Code.quiet_builtin _ (by decide+kernel),ga PySem.F.entry_type_call ?_⟩;rw[Around.under_plain (ui "set" [.ref l] []) rfl];have h1:=PySem.F.called_set.notType;have h2:=PySem.F.called_set.canCreate;have ai:=PySem.F.typeCall_set_1 (.ref l);repeat(any_goals(first|assumption|wp_step))
 refine kq (zX (.ref l) (E:=E) (Q₁:=λobj j=>obj=.ref s.heap.objs.size/\j={s with heap:=s.heap.push (fS (!jD w))}) ⟨rfl,rfl⟩) λr j hr=>?_;cases r with|error e=>exact hr|ok fl=>cases fl with
   |ret obj=>
     obtain⟨rfl,rfl⟩:=hr;have hS:(s.heap.push (fS (!jD w))).get? s.heap.objs.size=aU (fS (!jD w)):=dc _ rfl;have hT:o6 {s with heap:=s.heap.push (fS (!jD w))} (.ref s.heap.objs.size) "set":=⟨_,hS,rfl⟩;have al:=PySem.F.called_set.init.lookup;have am:=PySem.F.called_set.init.bind (.ref s.heap.objs.size);repeat(any_goals(first|assumption|wp_step))
     refine kq (u8 (R:=wants (λr k=>r=.none/\∃h' H,k={s with heap:=h',toks:=H}/\jH prog w (!jD w) h' s.heap.objs.size (fj ns)/\(∀b o,s.heap.get? b=aU o->h'.get? b=aU o)) E) PySem.F.called_set.init.plain PySem.F.entry_set_init (check_set_init_1 hT ?_)) λt k a=>?_
     . obtain⟨ol,u,x,nl,y⟩:=hl;obtain⟨af,m,L,g⟩:=ol;simp only at x y;subst x;subst y;have z:(s.heap.push (fS (!jD w))).get? l=aU {cls:=.type "tuple",dict:=m,data:=.seq f.toArray nl,slots:=g}:=dz u;have ag:isSubtype (.type "tuple") (.type "set")=fy a_:=by rw[ko];kernel_rfl
       have ah:isSubtype (.type "tuple") (.type "frozenset")=fy a_:=by rw[ko];kernel_rfl
       have ap:(eP "tuple"==eP "dict")=a_:=by decide
       have B:(s.heap.push (fS (!jD w))).IsTuple l f.toArray:=⟨_,z,rfl,nl,rfl⟩;unfold gI.«set.__init__» noKeywords lS;generalize M:mI=PI;wp_walk;subst M;refine iN B (bx (k8 ?_));have C:l<s.heap.objs.size:=dA u;have N:A.in1.in1.in1.handled=cr:=by simp[hh]
       have hz:(s.heap.push (fS (!jD w))).objs.size=s.heap.objs.size+1:=ia ..;have G:l≠(s.heap.push (fS (!jD w))).objs.size:=by rw[hz];exact dS (kb C)
       have O:s.heap.objs.size∉[(s.heap.push (fS (!jD w))).objs.size,l]:=by rw[hz];simp only[da,lr,or_false,not_or];exact⟨dS (n9 _),rh C⟩
       have U:f.toArray.size=ns.length:=by rw[cS];exact iU hi
       have W:=(Walks.tuple (prog:=prog) (w:=w) N _ l G f.toArray).toS;rw[U]at W;refine yz (b:=!jD w) W s.heap.objs.size O (λi v hv=>IntsAre.int_at hi i v (by simpa using hv)) hb (ns.length-0) 0 _ (by omega) (uL) ⟨⟨_,dc _ rfl,rfl,rfl⟩,B.at λo e=>dz e⟩ (vN (dz hS)) λs' I p=>?_;obtain⟨h',g',d',X,Y⟩:=s';have eg:g'=s.gens:=I.gens;have ed:d'=s.drawn:=I.drawn;have eo:Y=s.os:=I.os;subst eg;subst ed;subst eo;show cK _ _ _ _ _ _;refine cw ?_;show cK _ _ (ret eA) _ _ _;refine cw ⟨rfl,h',X,rfl,p,λb o e=>?_⟩;have:=dA e;exact I.heap b o (by rw[hz];simp only[da,lr,or_false,not_or];exact⟨dS this,dS (kb this)⟩) (dz (dz e))
     .cases t with|error e=>exact a|ok q=>
         cases q with|ret r=>
           obtain⟨rfl,h',H,rfl,p,Z⟩:=a;repeat(any_goals(first|assumption|wp_step))
           exact h _ _ p Z|_=>exact a.elim
   |_=>exact hr.elim
end
theorem bB:Slot "set_iterator" "__next__" "set_iterator.__next__":=.of (owner:="set_iterator") (n:="__next__") (by rw[kQ,i8];kernel_rfl) (by decide+kernel) (by decide+kernel) (by decide+kernel) (by first|exact .inl (by decide+kernel)|exact .inr (by decide+kernel)) (by rw[ko];kernel_rfl)
theorem eZ:entryFor table "set_iterator.__next__"=aU gI.«set_iterator.__next__»:=entryFor_of_tree (by kernel_rfl)
theorem v7:Manifest.owners.lookup (String.ofList ['r','o','t','a','r','e','t','i','_','t','e','s'].reverse)=aU Manifest.sig_set_iterator:=by kernel_rfl
theorem fV(a:b_):argsOk "set_iterator.__next__" ⟨[a],[]⟩:=by unfold argsOk;rw[signature?_of (id:="set_iterator.__next__") (n:=['_','_','t','x','e','n','_','_']) (o:=['r','o','t','a','r','e','t','i','_','t','e','s']) (by kernel_rfl) v7];kernel_rfl
theorem xK:entryFor table "set.__iter__"=aU gI.«frozenset.__iter__»:=entryFor_alias (id':="frozenset.__iter__") (by kernel_rfl) rfl (by decide+kernel) (by kernel_rfl)
theorem lY:Slot "set_iterator" "__iter__" "set_iterator.__iter__":=.of (owner:="set_iterator") (n:="__iter__") (by rw[kQ,i8];kernel_rfl) (by decide+kernel) (by decide+kernel) (by decide+kernel) (by first|exact .inl (by decide+kernel)|exact .inr (by decide+kernel)) (by rw[ko];kernel_rfl)
theorem uN(a:b_):argsOk "set_iterator.__iter__" ⟨[a],[]⟩:=by unfold argsOk;rw[signature?_of (id:="set_iterator.__iter__") (n:=['_','_','r','e','t','i','_','_']) (o:=['r','o','t','a','r','e','t','i','_','t','e','s']) (by kernel_rfl) v7];kernel_rfl
theorem rM:entryFor table "set_iterator.__iter__"=aU gI.«dict_keyiterator.__iter__»:=entryFor_alias (id':="dict_keyiterator.__iter__") (by kernel_rfl) rfl (by decide+kernel) (by kernel_rfl)
theorem wC:ml (.type "set") "__len__"=fy (aU (.builtin "set.__len__")):=by rw[kQ,i8];kernel_rfl
inductive gV(h:eN)(a:cx)(es:Array (Int×b_))(ep:Nat)(t:iC):Prop where|mk(o:Obj)(ho:h.get? a=aU o)(hx:o.ExactSet)(hd:o.data=.set es ep t)(hf:t.fits es.size=cq)
noncomputable def slotAt(t:iC):Nat->Int|0=>0|i+1=>(t.place.getD i 0:Int)+1
inductive yt(h:eN)(J a:cx)(f:b_)(i n ep:Nat):Prop where|mk(o:Obj)(ho:h.get? J=aU o)(hc:o.cls=.type "set_iterator")(hd:o.data=.fields #[f,.int i 0,.ref a,.int n 0,.int ep 0])
section
variable{prog:dF}{w:eJ}{A:eM}{E:b_->cv->Prop}{s:cv}{a J:cx}{es:Array (Int×b_)}{ep i:Nat}{t:iC}{f:b_}
theorem gV.at'{h':eN}(x:gV h a es ep t)(k:∀o,h.get? a=aU o->h'.get? a=aU o):gV h' a es ep t:=by obtain⟨o,ho,r1,b,e⟩:=x;exact⟨o,k o ho,r1,b,e⟩
theorem yt.at'{h':eN}(x:yt h J a f i n ep)(k:∀o,h.get? J=aU o->h'.get? J=aU o):yt h' J a f i n ep:=by obtain⟨o,ho,r1,b⟩:=x;exact⟨o,k o ho,r1,b⟩
theorem yt.ty(x:yt s.heap J a f i n ep):s.TypeIs (.ref J) "set_iterator":=by obtain⟨o,ho,r1,b⟩:=x;exact⟨o,ho,r1⟩
theorem gV.ty(x:gV s.heap a es ep t):s.TypeIs (.ref a) "set":=by obtain⟨o,ho,r1,b⟩:=x;exact⟨o,ho,r1.1⟩
theorem gO{Q:(Array (Int×b_)×Nat×iC)->cv->Prop}(r:gV s.heap a es ep t)(h:Q (es,ep,t) s):cK (c_ prog w) A (setState a) Q E s:=by obtain⟨o,ho,_,hd,b⟩:=r;exact wpAny_setState_of ho hd b h
theorem ji{Q:Array (Int×b_)->cv->Prop}(r:gV s.heap a es ep t)(h:Q es s):cK (c_ prog w) A (setEntries a) Q E s:=by obtain⟨o,ho,_,hd,b⟩:=r;exact wpAny_setEntries_of ho hd b h
theorem afP{b:Type}{m:Sem b}{Q e:b->cv->Prop}{M:sT}(h:cK M A m Q E s)(g:∀a s,Q a s->e a s):cK M A m e E s:=eK h g λ_ _ x=>x
theorem vB{Q:PySem.Fin->cv->Prop}(x:yt s.heap J a f i es.size ep)(r:gV s.heap a es ep t){slot:Int}{j:Tok}(k:f=.int slot j)(h:cK (c_ prog w) A (oq a slot.toNat i ep) (λo b=>(∀ x nx,o=aU (x,nx)->cK (c_ prog w) A (ox (.ref J) 0 (gy nx)>>=λ_=>ox (.ref J) 1 (gy ((i:Int)+1))>>=λ_=>ret x) Q E b)/\(o=cr->cK (c_ prog w) A (ox (.ref J) 2 .none>>=λ_=>tN (.type "StopIteration") []>>=λe=>raiseNew e) Q E b)) E s):cK (c_ prog w) A (gI.«set_iterator.__next__» ⟨[.ref J],[]⟩) Q E s:=by obtain⟨o,ho,hc,hd⟩:=id x;subst k;unfold gI.«set_iterator.__next__»;refine bx (cw (bx (wpAny_fieldsOf ho hd (bx (ji r ?_)))));dsimp only;rw[if_neg (by simp),ka,ka];refine bx (afP h λo b g=>?_);cases o with|none=>exact g.2 rfl|some p=>obtain⟨y,nx⟩:=p;exact g.1 y nx rfl
theorem sW{Q:PySem.Fin->cv->Prop}(x:yt s.heap J a f i es.size ep)(r:gV s.heap a es ep t){T:cx}(b:f=.ref T)(h1:s.heap.get? T=aU ot)(g:ot.data=.seq (os.map λ(i:Nat)=>gy (i:Int)).toArray c)(h:(∀ j,os[i]?=aU j->cK (c_ prog w) A (tI a j ep) (λx k=>cK (c_ prog w) A (ox (.ref J) 1 (gy ((i:Int)+1))>>=λ_=>ret x) Q E k) E s)/\(os[i]?=cr->cK (c_ prog w) A (ox (.ref J) 0 (gy 0)>>=λ_=>ox (.ref J) 2 .none>>=λ_=>tN (.type "StopIteration") []>>=λe=>raiseNew e) Q E s)):cK (c_ prog w) A (gI.«set_iterator.__next__» ⟨[.ref J],[]⟩) Q E s:=by
 obtain⟨o,ho,hc,hd⟩:=id x;subst b;unfold gI.«set_iterator.__next__»;refine bx (cw (bx (wpAny_fieldsOf ho hd (bx (ji r ?_)))));dsimp only;rw[if_neg (by simp),ka,ka];refine bx (qV h1 g ?_);have e:(os.map λ(i:Nat)=>gy (i:Int)).toArray[i]?=os[i]?.map λ(j:Nat)=>gy (j:Int):=by simp
 dsimp only;rw[e];cases q:os[i]?with|none=>exact h.2 q|some j=>simp only[kx,gy,ka];exact bx (h.1 j q)
theorem sJ{Q:PySem.Fin->cv->Prop}{E:b_->cv->Prop}(g:A.handled=cr)(h:∀h' e,(∀b o,s.heap.get? b=aU o->h'.get? b=aU o)->(h'.get? e).map (·.cls)=aU (.type "StopIteration")->E (.ref e) {s with heap:=h'}):cK (c_ prog w) A (tN (.type "StopIteration") []>>=λe=>(raiseNew e:Sem PySem.Fin)) Q E s:=by refine bx ?_;simp only[tN,newTuple];refine bx (ei ?_ (by size_fits));refine bx (m:=mS _ _) (uj (a:=eA) (by first|rfl|(simp only[mS];rfl)) (ei ?_ (by size_fits)));simp only[raiseNew];refine bx (wpAny_handled ?_);rw[g];refine bx (cw (wpAny_throw (h _ _ (λb o e=>dz (dz e)) ?_)));rw[dc _ rfl];rfl
theorem JR(ht:jD w=cq){Q:Option (b_×Nat)->cv->Prop}(r:gV s.heap a es ep t){slot:Nat}(h:Q (((kB (w.params.setOrder a ep) es)[i]?).map λe=>(e.2,slot)) s):cK (c_ prog w) A (oq a slot i ep) Q E s:=by unfold oq;refine bx (gO r ?_);unfold rd;refine bx (bx (jI (cw ?_)));dsimp only;rw[if_pos (show(c_ prog w).w.params.followText "set-order"=cq from ht),if_neg (by simp)];unfold setWalk;refine bx (bx (gO r ?_));unfold rd;refine bx (bx (jI (cw ?_)));dsimp only;rw[if_pos (show(c_ prog w).w.params.followText "set-order"=cq from ht)];refine bx (jI (cw (cw ?_)));exact h
theorem IV(ht:jD w=a_)(b:t.led=cq)(e:(!t.plain&&decide (es.size>1))=a_){Q:Option (b_×Nat)->cv->Prop}(r:gV s.heap a es ep t){slot:Nat}(h:Q (match es[eH t.place slot]?,t.place[eH t.place slot]?with|some (_,x),aU j=>aU (x,j+1)|_,_=>cr) s):cK (c_ prog w) A (oq a slot i ep) Q E s:=by unfold oq;refine bx (gO r ?_);unfold rd;refine bx (bx (jI (cw ?_)));dsimp only;rw[if_neg (by rw[show(c_ prog w).w.params.followText "set-order"=a_ from ht];simp)];show cK _ _ (if(!t.plain&&decide (es.size>1))=cq then _ else _) _ _ _;rw[if_neg (by rw[e];simp)];refine bx ?_;show cK _ _ (if(!t.led&&!es.isEmpty)=cq then _ else _) _ _ _;rw[if_neg (by rw[b];simp)];exact cw (cw h)
theorem Va{j:Nat}{e:Int×b_}(r:gV s.heap a es ep t)(he:es[j]?=aU e)(h:Q e.2 s):cK (c_ prog w) A (tI a j ep) Q E s:=by unfold tI;refine bx (gO r ?_);dsimp only;rw[if_neg (by simp),he];exact cw h
theorem qW{v:b_}{j n:Nat}{o:Obj}{vs:Array b_}(ho:h.get? J=aU o)(hc:o.cls=.type "set_iterator")(hd:o.data=.fields vs):∃b,(h.update J (Obj.mapFields (·.setIfInBounds j v))).get? J=aU b/\b.cls=.type "set_iterator"/\b.data=.fields (vs.setIfInBounds j v):=⟨_,g9 _ ho (sd (kT hd _)),(Obj.cls_mapFields ..).trans hc,by rw[kT hd]⟩
theorem zK{slot:Int}{nx:Nat}{v:b_}{Q:Option b_->cv->Prop}(x:yt s.heap J a (.int slot 0) i es.size ep)(r:gV s.heap a es ep t)(b:∀(A:eM)(E:b_->cv->Prop)(Q:Option (b_×Nat)->cv->Prop),Q (aU (v,nx)) s->cK (c_ prog w) A (oq a slot.toNat i ep) Q E s)(q:∀h',yt h' J a (.int (nx:Int) 0) (i+1) es.size ep->nm J s.heap h'->Q (aU v) {s with heap:=h'}):cK (c_ prog w) A (k9 (.ref J)) Q E s:=by
 unfold k9;refine bx (lP (fx (name:=hX "__next__") x.ty bB (fv bB x.ty eZ ?bd (fV _))));refine vB x r rfl (b _ _ _ ⟨λy p e=>?_,λe=>by cases e⟩);cases e;obtain⟨o,ho,hc,hd⟩:=x;obtain⟨u,p1,p2,p3⟩:=qW (n:=0) (v:=gy (nx:Int)) (j:=0) ho hc hd;obtain⟨g,k,l,m⟩:=qW (n:=0) (v:=gy ((i:Int)+1)) (j:=1) p1 p2 p3;refine bx (iq ho hd (by simp) (bx (iq p1 p3 (by simp) (cw ⟨_,rfl,cw (q _ ⟨g,k,l,?_⟩ ?_)⟩))));.rw[m];simp[gy]
 .exact(gw _ J _).trans (gw _ J _)
theorem Dq{slot:Int}{Q:Option b_->cv->Prop}(g:A.handled=cr)(x:yt s.heap J a (.int slot 0) i es.size ep)(r:gV s.heap a es ep t)(j:∀(A:eM)(E:b_->cv->Prop)(Q:Option (b_×Nat)->cv->Prop),Q cr s->cK (c_ prog w) A (oq a slot.toNat i ep) Q E s)(q:∀h',(∀b o,b≠J->s.heap.get? b=aU o->h'.get? b=aU o)->Q cr {s with heap:=h'}):cK (c_ prog w) A (k9 (.ref J)) Q E s:=by unfold k9;refine bx (lP (fx (name:=hX "__next__") x.ty bB (fv bB x.ty eZ ?bd (fV _))));refine vB x r rfl (j _ _ _ ⟨λy p e=>(by cases e),λ_=>?_⟩);obtain⟨o,ho,hc,hd⟩:=x;refine bx (iq ho hd (by simp) (sJ g λh' e k c=>?_));cases he:h'.get? e with|none=>rw[he]at c;cases c|some l=>rw[he]at c;refine bx (l8 (T:="StopIteration") (b:=cq) ⟨l,he,by simpa using c⟩ isSubtype_stop ?_);exact cw (q _ λb o m e=>k b o ((ew _ _ (fI m)).trans e))
theorem Gq{T:cx}{j:Nat}{v:Int×b_}{Q:Option b_->cv->Prop}(x:yt s.heap J a (.ref T) i es.size ep)(r:gV s.heap a es ep t)(h1:s.heap.get? T=aU ot)(g:ot.data=.seq (os.map λ(i:Nat)=>gy (i:Int)).toArray c)(b:os[i]?=aU j)(k:es[j]?=aU v)(q:∀h',yt h' J a (.ref T) (i+1) es.size ep->nm J s.heap h'->Q (aU v.2) {s with heap:=h'}):cK (c_ prog w) A (k9 (.ref J)) Q E s:=by unfold k9;refine bx (lP (fx (name:=hX "__next__") x.ty bB (fv bB x.ty eZ ?bd (fV _))));refine sW x r rfl h1 g ⟨λm e=>?_,λe=>by rw[b]at e;cases e⟩;rw[b]at e;cases e;obtain⟨o,ho,hc,hd⟩:=x;obtain⟨l,p1,p2,p3⟩:=qW (n:=0) (v:=gy ((i:Int)+1)) (j:=1) ho hc hd;refine Va r k (bx (iq ho hd (by simp) (cw ⟨_,rfl,cw (q _ ⟨l,p1,p2,?_⟩ (gw _ J _))⟩)));rw[p3];simp[gy]
theorem Jw{T:cx}{Q:Option b_->cv->Prop}(l:A.handled=cr)(x:yt s.heap J a (.ref T) i es.size ep)(r:gV s.heap a es ep t)(h1:s.heap.get? T=aU ot)(m:ot.data=.seq (os.map λ(i:Nat)=>gy (i:Int)).toArray c)(p:os[i]?=cr)(q:∀h',(∀b o,b≠J->s.heap.get? b=aU o->h'.get? b=aU o)->Q cr {s with heap:=h'}):cK (c_ prog w) A (k9 (.ref J)) Q E s:=by unfold k9;refine bx (lP (fx (name:=hX "__next__") x.ty bB (fv bB x.ty eZ ?bd (fV _))));refine sW x r rfl h1 m ⟨λy e=>(by rw[p]at e;cases e),λ_=>?_⟩;obtain⟨o,ho,hc,hd⟩:=x;obtain⟨z,p1,p2,p3⟩:=qW (n:=0) (v:=gy 0) (j:=0) ho hc hd;refine bx (iq ho hd (by simp) (bx (iq p1 p3 (by simp) (sJ l λh' e k c=>?_))));cases he:h'.get? e with|none=>rw[he]at c;cases c|some u=>rw[he]at c;refine bx (l8 (T:="StopIteration") (b:=cq) ⟨u,he,by simpa using c⟩ isSubtype_stop ?_);exact cw (q _ λb o g e=>k b o ((ew _ _ (fI g)).trans ((ew _ _ (fI g)).trans e)))
theorem tR(x:yt s.heap J a f i n ep)(h:Q (.ref J) s):cK (c_ prog w) A (mI (.ref J)) Q E s:=by refine wpAny_pyIter_slot x.ty lY (fv lY x.ty rM ?_ (uN _));show cK _ _ (ret (.ref J)) _ _ s;exact cw ⟨_,rfl,"set_iterator",_,x.ty,bB.lookup,h⟩
theorem uA(g:qJ t.place.toList)(hi:i<=t.place.size):eH t.place (slotAt t i).toNat=i:=by
 obtain⟨h1,l,m⟩:=below_at (j:=(slotAt t i).toNat) g;have o:∀k(h:k<t.place.size),k<i->t.place[k]<(slotAt t i).toNat:=λk h p=>by cases i with|zero=>omega|succ i=>
    have b:i<t.place.size:=by omega
    have e:slotAt t (i+1)=(t.place[i]:Int)+1:=by simp[slotAt,i3,b]
    rw[e];by_cases q:k=i;.subst q;omega
    .have:=g k i (by simpa using h) (by simpa using b) (by omega);simp only[hV]at this;omega
 have dn:∀k(h:k<t.place.size),i<=k->(slotAt t i).toNat<=t.place[k]:=λk h p=>by cases i with|zero=>simp[slotAt]|succ i=>
    have b:i<t.place.size:=by omega
    have e:slotAt t (i+1)=(t.place[i]:Int)+1:=by simp[slotAt,i3,b]
    rw[e];have:=g i k (by simpa using b) (by simpa using h) (by omega);simp only[hV]at this;omega
 rcases Nat.lt_trichotomy (eH t.place (slotAt t i).toNat) i with c|c|c;.have r:=o _ (by omega) c;have u:=m _ (by omega) (cI);omega
 .exact c
 . have b:i<t.place.size:=by omega
   have r:=dn i b (cI);have u:=l i b c;omega
theorem Wc(r:A.handled=cr)(ht:jD w=cq)(l:a≠J):vn prog w A J [J,a] [J] es.size (λi v=>((kB (w.params.setOrder a ep) es).toList.map (·.2))[i]?=aU v) (λi h=>yt h J a (.int 0 0) i es.size ep/\gV h a es ep t)where
 sub:=λb g=>by simp at g;simp[g]
 frame:=λ_ _ _ st m=>⟨st.1.at' λo e=>m J (by simp) o e,st.2.at' λo e=>m a (by simp) o e⟩;item:=λi s Q E hi st j=>by
  have hz:(kB (w.params.setOrder a ep) es).size=es.size:=by rw[<-eS,(mQ _ es).length_eq,eS]
  have e:(kB (w.params.setOrder a ep) es)[i]?=aU ((kB (w.params.setOrder a ep) es)[i]'(by omega)):=gk _;refine zK (nx:=0) (v:=((kB (w.params.setOrder a ep) es)[i]'(by omega)).2) st.1 st.2 (λA E Q q=>JR ht st.2 (by rw[e];exact q)) λh' x p=>?_;exact j _ h' s.toks (by rw[eL,lT,e];rfl) ⟨x,st.2.at' λo e=>(p.2 a l).trans e⟩ λb o g e=>(p.2 b λz=>g (by simp[z])).trans e
 done:=λs Q E st j=>by
  have hz:(kB (w.params.setOrder a ep) es).size=es.size:=by rw[<-eS,(mQ _ es).length_eq,eS]
  refine Dq r st.1 st.2 (λA E Q q=>JR ht st.2 (by rw[qo (by omega)];exact q)) λh' k=>?_;exact j h' s.toks λb o g e=>k b o (λz=>g (by simp[z])) e
 self:=λ_ _ _ _ st j=>tR st.1 j
theorem S5(C:A.handled=cr)(ht:jD w=a_)(r:t.led=cq)(u:(!t.plain&&decide (es.size>1))=a_)(g:qJ t.place.toList)(hz:t.place.size=es.size)(p:a≠J):vn prog w A J [J,a] [J] es.size (λi v=>(es.toList.map (·.2))[i]?=aU v) (λi h=>yt h J a (.int (slotAt t i) 0) i es.size ep/\gV h a es ep t)where
 sub:=λb j=>by simp at j;simp[j]
 frame:=λ_ _ _ st y=>⟨st.1.at' λo e=>y J (by simp) o e,st.2.at' λo e=>y a (by simp) o e⟩;item:=λi s Q E hi st l=>by
  have j:=uA g (i:=i) (by omega);have m:i<t.place.size:=by omega
  refine zK (nx:=t.place[i]+1) (v:=es[i].2) st.1 st.2 (λA E Q q=>IV ht r u st.2 (by rw[j,gk hi,gk m];exact q)) λh' x B=>?_;refine l _ h' s.toks (by simp[hi]) ⟨?_,st.2.at' λo e=>(B.2 a p).trans e⟩ λb o j e=>(B.2 b λz=>j (by simp[z])).trans e;have e:slotAt t (i+1)=((t.place[i]+1:Nat):Int):=by simp[slotAt,i3,m]
  rw[e];exact x
 done:=λs Q E st l=>by have j:=uA g (i:=es.size) (by omega);refine Dq C st.1 st.2 (λA E Q q=>IV ht r u st.2 (by rw[j,qo (cI)];exact q)) λh' k=>?_;exact l h' s.toks λb o j e=>k b o (λz=>j (by simp[z])) e
 self:=λ_ _ _ _ st l=>tR st.1 l
theorem VH{T:cx}(r:ot.data=.seq (os.map λ(i:Nat)=>gy (i:Int)).toArray c)(y:A.handled=cr)(ho:os.Perm (dE es.size))(m:a≠J)(B:T≠J):vn prog w A J [J,a,T] [J] es.size (λi v=>(os.map λj=>(es.getD j (0,.none)).2)[i]?=aU v) (λi h=>yt h J a (.ref T) i es.size ep/\gV h a es ep t/\h.get? T=aU ot)where
 sub:=λb g=>by simp at g;simp[g]
 frame:=λ_ _ _ st p=>⟨st.1.at' λo e=>p J (by simp) o e,st.2.1.at' λo e=>p a (by simp) o e,p T (by simp) _ st.2.2⟩;item:=λi s Q E hi st l=>by
  have C:os.length=es.size:=by rw[ho.length_eq,iP]
  have e:os[i]?=aU (os[i]'(by omega)):=eF _;have u:os[i]'(by omega)<es.size:=i4.mp (ho.mem_iff.mp (ki _));refine Gq st.1 st.2.1 st.2.2 r e (gk u) λh' x q=>?_;exact l _ h' s.toks (by rw[eL,e];simp[i3,u]) ⟨x,st.2.1.at' λo e=>(q.2 a m).trans e,(q.2 T B).trans st.2.2⟩ λb o g e=>(q.2 b λz=>g (by simp[z])).trans e
 done:=λs Q E st l=>by
  have C:os.length=es.size:=by rw[ho.length_eq,iP]
  refine Jw y st.1 st.2.1 st.2.2 r (rL (by omega)) λh' k=>?_;exact l h' s.toks λb o g e=>k b o (λz=>g (by simp[z])) e
 self:=λ_ _ _ _ st l=>tR st.1 l
end
section
variable{prog:dF}{w:eJ}{A:eM}{E:b_->cv->Prop}{s:cv}{a J:cx}{es:Array (Int×b_)}{ep i:Nat}{t:iC}{f:b_}
theorem Cu{src:Source}{Q:Nat->cv->Prop}(b:n≠0)(h:∀i d,i<n->Q i {s with drawn:=d}):cK (c_ prog w) A (choose src n) Q E s:=λ_ _ _=>⟨b,h _ _ (Nat.mod_lt _ (Nat.pos_of_ne_zero b))⟩
theorem Ac{g:Type}:∀(n:Nat)(xs:List g){s:cv}{Q:List g->cv->Prop},xs.length=n->(∀l d,l.Perm xs->Q l {s with drawn:=d})->cK (c_ prog w) A (drawOrder n xs) Q E s
 |0,xs,s,Q,b,h=>by unfold drawOrder;refine cw ?_;have:=h [] s.drawn (by rw[qk.mp b]);cases s;exact this|n+1,[],s,Q,b,h=>by cases b|n+1,x::xs,s,Q,b,h=>by
   unfold drawOrder;refine bx (Cu (by simp) λi d hi=>?_);rw[eF hi];refine bx (Ac n ((x::xs).eraseIdx i) (by rw[sh,if_pos hi];simpa using b) λl d' p=>cw ?_);refine h _ d' ((p.cons _).trans ?_);rw[nE];have e:x::xs=(x::xs).take i++(x::xs)[i]::(x::xs).drop (i+1):=by rw[qE,l6]
   conv=>rhs;rw[e]
   exact List.perm_middle.symm
inductive RL(prog:dF)(w:eJ)(h h':eN)(a:cx)(es:Array (Int×b_))(J:cx):Prop where|mk(fp:List cx)(its:List b_)(St:Nat->eN->Prop)(hp:its.Perm (es.toList.map (·.2)))(k:∀b o,h.get? b=aU o->h'.get? b=aU o)(W:∀A:eM,A.handled=cr->vn prog w A J fp [J] es.size (λi v=>its[i]?=aU v) St)(st:St 0 h')(hJ:h.objs.size<=J)(hf:∀b∈fp,b=a\/h.objs.size<=b)
theorem vo{f:b_}(r:gV s.heap a es ep t)(q:yt (s.heap.push {cls:=.type "set_iterator",data:=.fields #[f,.int 0 0,.ref a,.int es.size 0,.int ep 0]}) s.heap.objs.size a f 0 es.size ep->Q (.ref s.heap.objs.size) {s with heap:=s.heap.push {cls:=.type "set_iterator",data:=.fields #[f,.int 0 0,.ref a,.int es.size 0,.int ep 0]}}):cK (c_ prog w) A (setEpoch a>>=λep=>newFields "set_iterator" [f,gy 0,et a,gy (es.size:Int),gy (ep:Int)]>>=λr=>ret r) (λfin b=>∃v,fin=Fin.done (Flow.ret v)/\∃e r,b.TypeIs v e/\ml (eP e) (hX "__next__")=fy (aU r)/\Q v b) E s:=by obtain⟨o,ho,_,hd,g⟩:=id r;refine bx (wpAny_setEpoch_of ho hd g (bx ?_));unfold newFields;refine ei (cw ⟨_,rfl,"set_iterator",_,⟨_,dc _ rfl,rfl⟩,bB.lookup,?_⟩);exact q ⟨_,dc _ rfl,rfl,rfl⟩
theorem Kd(r:gV s.heap a es ep t)(y:t.led=!jD w)(g:qJ t.place.toList)(hz:es.size<=sizeLine)(q:∀h' J d,RL prog w s.heap h' a es J->Q (.ref J) {s with heap:=h',drawn:=d}):cK (c_ prog w) A (mI (.ref a)) Q E s:=by
 have k:a<s.heap.objs.size:=by obtain⟨o,ho,_⟩:=r;exact dA ho
 have u:t.place.size=es.size:=by obtain⟨o,ho,_,_,m⟩:=r;simp only[SetTable.fits,eR,beq_iff_eq]at m;exact m.1
 refine wpAny_pyIter_slot r.ty PySem.F.slot_set_iter (fv PySem.F.slot_set_iter r.ty xK ?bd (PySem.F.args_set_iter_1 _));unfold gI.«frozenset.__iter__» Builtin.Frozenset.slot0 Builtin.Frozenset.addrOf;refine bx (bx (cw (cw ?_)));unfold Builtin.Frozenset.sizeOf;refine bx (bx (ji r (cw ?_)));unfold setDrawn;refine bx (bx (gO r ?_));unfold rd;refine bx (bx (jI (cw (cw ?_))));show cK _ _ (if(!jD w&&(!t.plain&&decide (es.size>1)))=cq then _ else _) _ _ _;by_cases c:(!jD w&&(!t.plain&&decide (es.size>1)))=cq
 . rw[if_pos c];refine bx (Ac es.size _ iP λos d v=>bx (wpAny_newTuple ?_ (by rw[dy,v.length_eq,iP];exact hz)));refine vo (es:=es) (s:={s with heap:=_,drawn:=d}) (r.at' λo e=>dz e) λx=>?_;refine q _ _ d ⟨_,_,_,?_,λb o e=>dz (dz e),λA p=>VH (T:=s.heap.objs.size) (c:=0) rfl p v ?_ ?_,⟨x,(r.at' λo e=>dz (dz e)),dz (dc _ rfl)⟩,?_,?_⟩;.have:=v.map λj=>(es.getD j (0,eA)).2;refine this.trans (.of_eq ?_);refine lw (by simp) λi h1 C=>?_;simp at h1;simp[i3,h1]
   .rw[ia];exact dS (kb k)
   .rw[ia];exact dS (n9 _)
   .rw[ia];exact oI _
   . intro b l;rw[ia]at l;simp only[da,lr,or_false]at l;rcases l with rfl|rfl|rfl;.exact .inr (oI _)
     .exact .inl rfl
     .exact .inr (cI)
 . rw[if_neg c];refine bx (cw (vo (es:=es) r λx=>?_));have kp:∀b o,s.heap.get? b=aU o->(s.heap.push {cls:=.type "set_iterator",data:=.fields #[gy 0,.int 0 0,.ref a,.int es.size 0,.int ep 0]}).get? b=aU o:=λb o e=>dz e;have B:=q (s.heap.push {cls:=.type "set_iterator",data:=.fields #[gy 0,.int 0 0,.ref a,.int es.size 0,.int ep 0]}) s.heap.objs.size s.drawn;refine(show RL prog w s.heap (s.heap.push {cls:=.type "set_iterator",data:=.fields #[gy 0,.int 0 0,.ref a,.int es.size 0,.int ep 0]}) a es s.heap.objs.size->_ from λz=>by have:=B z;cases s;exact this) ?_;have m:∀b∈[s.heap.objs.size,a],b=a\/s.heap.objs.size<=b:=λb l=>by
    simp only[da,lr,or_false]at l;rcases l with rfl|rfl;.exact .inr (cI)
    .exact .inl rfl
   cases ht:jD w with|true=>exact⟨_,_,_,(mQ (w.params.setOrder a ep) es).map (·.2),kp,λA p=>Wc p ht (dS k),⟨x,r.at' λo e=>kp a o e⟩,cI,m⟩|false=>rw[ht]at c y;exact⟨_,_,_,.refl _,kp,λA p=>S5 p ht y (by simpa using c) g u (dS k),⟨x,r.at' λo e=>kp a o e⟩,cI,m⟩
theorem KZ(g:s.TypeIs (.ref a) "set"){Q:Bool->cv->Prop}(h:Q a_ s):cK (c_ prog w) A (mM (.ref a)) Q E s:=by unfold mM;refine bx (mw g wC ?_);generalize e:("set.__len__":String)=j;wp_delta;rw[show splitId j=aU ("set","__len__")from by subst e;decide+kernel];subst e;refine bx (l8 (T:="set") (b:=cq) g (by rw[ko];kernel_rfl) ?_);refine kP (λz=>absurd z (by decide)) (λ_=>kP (λ_=>bx (kn g (cw h))) (λz=>absurd (by decide+kernel) z))
theorem Bj{b:Array b_}{e:List b_}(h:ItemsOf (λi v=>e[i]?=aU v) b e.length):b.toList=e:=by refine ny λi=>?_;rw[lT];cases q:b[i]?with|none=>rw[Array.getElem?_eq_none_iff,h.1]at q;rw[rL q]|some v=>exact(h.2 i v q).symm
theorem CT{R:t_->cv->Prop}(Y:A.handled=cr)(r:gV s.heap a es ep t)(hl:t.led=!jD w)(g:qJ t.place.toList)(hz:es.size<=sizeLine)(S:cx)(C:S≠a)(res:b_)(p:Nat)(Z:s.heap.get? S=aU {cls:=.type "list",data:=.seq #[] p})(hR:∀h' O d G B,(∀b o,b≠S->s.heap.get? b=aU o->h'.get? b=aU o)->h'.get? S=aU {cls:=.type "list",dict:=cr,data:=.seq G B,slots:=#[]}->G.toList.Perm (es.toList.map (·.2))->R (.ok (.ret res)) {s with heap:=h',toks:=O,drawn:=d}):cK (c_ prog w) A.in1 (ja (.ref S) (.ref a) res) (λfin u=>match fin with|.done f=>R (.ok f) u|.again B=>B.quiet=cq/\ku (c_ prog w) A B R u) (λe u=>R (.error e) u) s:=by
 unfold ja;refine bx (kn (T:="set") r.ty ?_);have h1:qa (.ref S) (.ref a)=a_:=by simp[qa,C]
 have h2:(eP "set"==eP "list")=a_:=by decide
 have h3:(eP "set"==eP "tuple")=a_:=by decide
 simp only[h1,h2,h3,Bool.or_false,i7,if_false];refine bx (Kd r hl g hz λh' J d x=>?_);obtain⟨fp,U,St,hp,k,W,st,hJ,hf⟩:=x;have H:U.length=es.size:=by rw[hp.length_eq,dy,eS]
 have I:=dA Z;have L:S∉fp:=λz=>by
  rcases hf S z with e|e;.exact C e
  .exact absurd I (pV.mpr e)
 have ac:S≠J:=λe=>absurd I (pV.mpr (e▸hJ));have key:∀(h1:eN)(l O:Nat),St 0 h1->(∀b o,b≠S->s.heap.get? b=aU o->h1.get? b=aU o)->h1.get? S=aU {cls:=.type "list",data:=.seq #[] l}->ku (c_ prog w) A (.builtin "list.extend.loop" ⟨[.ref S,.ref J,res],[]⟩) R {s with heap:=h1,toks:=O,drawn:=d}:=by
  intro h1 l O hst hk j;refine u7 (W A.in1 Y).toS hz S L res es.size 0 _ #[] l rfl (uL) hst j (ItemsOf.nil _) λu M B hm X q=>?_;rw[Moved.eq_with hm];rw[<-H]at q;refine hR u.heap u.toks d M B (λb o v e=>hm.heap b o (λz=>?_) (hk b o v e)) X (by rw[Bj q];exact hp);rcases da.mp z with e'|z;.exact v e'
  .rw[d_.mp z]at e;exact absurd (dA e) (pV.mpr hJ)
 have j:=k S _ Z;refine bx (fT (KZ (s:={s with heap:=h',drawn:=d}) (by obtain⟨o,ho,hx,_⟩:=r;exact⟨o,k _ _ ho,hx.1⟩) ?_));refine kP (λ_=>?_) (λ_=>cw ⟨im PySem.F.plain_extend_loop _,key _ p _ st (λb o _ e=>k b o e) j⟩);refine bx (ky (bx ?_));show cK _ _ (sM S (·.push .none)>>=λ_=>sM S (·.pop)) _ _ _;refine bx (mv j rfl ?_);have m:=g9 (fU (·.push eA)) j rfl;refine mv (hz:=by seq_fits) m rfl ?_;have y:=g9 (fU (·.pop)) m rfl;refine cw ⟨im PySem.F.plain_extend_loop _,key _ _ _ ((W A Y).frame 0 _ _ st λb v o e=>?_) (λb o v e=>?_) y⟩;.have N:b≠S:=λh=>L (h▸v);exact(ew _ _ (fI N)).trans ((ew _ _ (fI N)).trans e)
 .exact(ew _ _ (fI v)).trans ((ew _ _ (fI v)).trans (k b o e))
theorem zZ{Q:List b_->cv->Prop}(y:A.handled=cr)(r:gV s.heap a es ep t)(z:t.led=!jD w)(g:qJ t.place.toList)(hz:es.size<=sizeLine)(B:∀h' m d j,(∀b o,s.heap.get? b=aU o->h'.get? b=aU o)->s.heap.objs.size<h'.objs.size->j.Perm (es.toList.map (·.2))->Q j {s with heap:=h',toks:=m,drawn:=d}):cK (c_ prog w) A (qv (.ref a)) Q E s:=by
 have p:a<s.heap.objs.size:=by obtain⟨o,ho,_⟩:=r;exact dA ho
 unfold qv;refine bx (k8 (ga PySem.F.entry_proto_collect ?_));rw[fw PySem.F.plain_proto_collect _];show cK _ A.in1 (tJ []>>=λl=>again (.builtin "list.__iadd__" ⟨[l,.ref a],[]⟩)) _ _ s;refine bx (ei (cw ⟨im PySem.F.plain_list_iadd _,ga PySem.F.entry_list_iadd ?_⟩));rw[fw PySem.F.plain_list_iadd _];show cK _ A.in1 (ja (.ref s.heap.objs.size) (.ref a) (.ref s.heap.objs.size)) _ _ _;refine CT (A:=A) (R:=λr u=>match r with
  |.ok (.ret v)=>cK (c_ prog w) A (match v with
   |.ref a=>do let o<-load a match o.data with|.seq xs _=>fy xs.toList|_=>lp "internal:collect"
   |_=>lp "internal:collect") Q E u|.ok _=>False|.error e=>E e u) (s:={s with heap:=s.heap.push {cls:=.type "list",data:=.seq #[]}}) y (r.at' λo e=>dz e) z g hz s.heap.objs.size (rh p) _ 0 (dc _ rfl) (λh' m d q G C x k=>?_);exact bx (q_ x (cw (B h' m d q.toList (λb o e=>C b o (dS (dA e)) (dz e)) (dA x) k)))
end
end _H
namespace _H
open PySem _L Spec PyProof.Rows Calls W
theorem U4{X:Cx}{a:List (cx×Obj)}{σ:_L.St}{H:Hp}{s:cv}(I:_L.Inv X a σ H s)(d:Drawn):_L.Inv X a σ H {s with drawn:=d}:=⟨I.ok,I.os,I.bare,I.base,I.loc,I.cell,I.free,I.lq,I.pin,I.hok,I.len⟩
noncomputable def sI(X:Cx)(l:cx)(ks:List Int):eN->Prop:=λh=>jH X.prog X.w (!jD X.w) h l ks
noncomputable def af6(X:Cx):List V->Hp->VK->Prop:=λxs H Q=>∃p ns,xs=[.ref p]/\(eY X.K H p (map V.int ns)\/iD X.K H p (map V.int ns))/\ns.length<64/\∀l,H l=cr->Q (.ref l) (upd H l (.ext (sI X l (fj ns))))
noncomputable def adM(X:Cx):List V->Hp->VK->Prop:=λxs H Q=>∃l ks,xs=[.ref l]/\H l=aU (.ext (sI X l ks))/\ks.length<64/\∀q,H q=cr->Q (.ref q) (upd H q (.lst (((qP (ks.map D.int)).map cz).map V.int)))
section
variable{X:Cx}{c:Call}{a:dO}{pa:P}{pos:Pos}
theorem aak(hc:X.calm=cq):dC X (.type "set") (af6 X):=by
 rintro h s σ H xs l Q I r⟨p,ns,rfl,hq,m,k⟩;obtain⟨u,rfl,i⟩:=r.one;cases i;rcases hq with hq|hq;.obtain⟨b,e,f,hz⟩:=I.list hq;refine Ib (I.ok.hd hc) f.isList (intsAre_of e) (by unfold l9;omega) λh' g hs kp=>?_;refine⟨.ref s.heap.objs.size,_,I.laid (t':=g) (o:=.ext (sI X s.heap.objs.size (fj ns))) (h':=h') kp (cI) ⟨hs,?_,λh1 j z k=>jH.at' z k⟩,rfl,k _ (I.hok.fresh (cI))⟩;obtain⟨o,_,_,_,_,ho,_⟩:=hs;exact⟨o,ho⟩
 .obtain⟨b,e,f,hz⟩:=I.tuple hq;refine Gn (I.ok.hd hc) f (intsAre_of e) (by unfold l9;omega) λh' g hs kp=>?_;refine⟨.ref s.heap.objs.size,_,I.laid (t':=g) (o:=.ext (sI X s.heap.objs.size (fj ns))) (h':=h') kp (cI) ⟨hs,?_,λh1 j z k=>jH.at' z k⟩,rfl,k _ (I.hok.fresh (cI))⟩;obtain⟨o,_,_,_,_,ho,_⟩:=hs;exact⟨o,ho⟩
theorem J1{ks:List Int}(h:ks.length<=16777216):sortable (ks.map D.int)=cq:=by simp only[sortable,dy,eR,k_,decide_eq_true_eq];refine⟨h,.inl ?_⟩;rw[gi];intro x b;obtain⟨i,_,rfl⟩:=de.mp b;rfl
theorem Ij{js ks:List Int}(h:js.length<=16777216)(p:js.Perm ks):qP (js.map D.int)=qP (ks.map D.int):=by have b:=J1 (ks:=ks) (by rw[<-p.length_eq];exact h);exact kZ b ((jZ _).trans (p.map D.int)) (sE _)
theorem Ql(hc:X.calm=cq):dC X (.builtin "sorted") (adM X):=by
 rintro v s σ H xs us Q I r⟨l,ks,rfl,C,hn,k⟩;obtain⟨u,rfl,E⟩:=r.one;cases E;obtain⟨⟨o,es,ep,t,is,ho,G,hd,x,J,he,hi,y⟩,_,_⟩:=(show bF X.prog X.w H s.heap l (.ext (sI X l ks))from I.hok l _ C);have i:es.size=ks.length:=by rw[<-y.length_eq,<-iU hi,dy,eS]
 refine pp kind_sorted plain_sorted entry_sorted (args_sorted1 _) ?_;unfold gI.«sorted»;refine bx (m:=checkCount "sorted" 1 1 _) (cw ?_);refine bx (zZ (A:=X.A.in1) (I.ok.hd hc) ⟨o,ho,G,hd,J⟩ x.1 x.2.2 (by rw[i,fh];omega) λh1 j d f kp hsz L=>?_);obtain⟨js,n,M⟩:=pZ L hi;have p:=M.trans y;have N:f.length=ks.length:=by rw[iU n,p.length_eq]
 refine bx (sk ?_ (by rw[fh];omega));have hsz:=l_ hsz;generalize B:(h1.push {cls:=.type "list",data:=.seq f.toArray}:eN)=h;have g:h.get? h1.objs.size=aU (kR "list" f.toArray 0):=by rw[<-B];exact dc _ rfl
 have O:∀b o,s.heap.get? b=aU o->h.get? b=aU o:=λb o e=>by rw[<-B];exact dz (kp b o e)
 have q:∀b o,s.heap.get? b=aU o->b≠h1.objs.size:=λb o e=>dS (dA (kp b o e));show cK _ _ _ _ _ {s with heap:=h,toks:=j,drawn:=d};refine bx (fT (fv slot_list_sort ⟨_,g,rfl⟩ entry_list_sort ?body (args_list_sort _)));case body=>
  refine G8 (s:={s with heap:=h,toks:=j,drawn:=d}) g n (by omega) λh' U out is W Y p2 l2 e=>⟨_,rfl,cw ⟨_,rfl,?_⟩⟩;have Z:∀b o,s.heap.get? b=aU o->h'.get? b=aU o:=λb o z=>W b o (q b o z) (O b o z);have e2:is.map V.int=((qP (ks.map D.int)).map cz).map V.int:=by rw[<-Ij (by rw[p.length_eq];omega) p,p2];simp[cz,iE]
  refine⟨.ref h1.objs.size,_,U4 (I.laid (t':=j) (o:=.lst (is.map V.int)) (h':=h') Z hsz ⟨by rw[dy,l2,<-iU n,fh];omega,out,U,ju Y,e⟩) d,rfl,?_⟩;rw[e2];exact k _ (I.hok.fresh hsz)
theorem DR{x y:Str}{p' p2 s:Pos}(A:x="sorted")(hy:y="set")(hc:X.calm=cq)(hg:Gl X x)(hm:X.mg x=cr)(B:Gl X y)(C:X.mg y=cr)(ha:SX X c a pa)(hs:cL [a] X.env=(a_,fi a X.env)::cL [] X.env:=by rfl):SX X c (.Call (.Name x p') [.Call (.Name y p2) [a] [] s] [] pos) (.blt .sset [pa]):=by
 subst A;subst hy;obtain⟨ta,h1,t⟩:=ha.bW;refine⟨eV (fG (Ql hc) hg hm boot_sorted (cG (iM (aak hc) B C (by decide+kernel) (cG h1 dX hs) (he:=hs)) dX)) ?_,λi h=>by cases h⟩;rintro σ H Q⟨F,ρ,r,ac,g,e,k⟩;rw[_H.E17]at e;obtain⟨d,ae,e1,f⟩:=aj e;have zz:=aD f;clear f;obtain⟨f,e3⟩:=zz;subst e3;refine t g e1 λv m j st U=>?_;obtain⟨ds,f,p,ys,rfl,hq,W⟩:∃ds:List D,(if ds.length<64/\ds.all gj=cq then aU (R.own (qP ((fj (ds.map cz)).map D.int)))else cr)=aU r/\∃p ys,v=.ref p/\(eY X.K j p ys\/iD X.K j p ys)/\aF X.K m ys ds:=by cases d with|lst ds=>obtain⟨p,ys,h1,E,t⟩:=U.lst st.gs.sub;exact⟨ds,f,p,ys,h1,.inl E,t⟩|tup ds=>obtain⟨p,ys,h1,E,t,_⟩:=U.tup st.gs.sub;exact⟨ds,f,p,ys,h1,.inr E,t⟩|_=>cases f
 obtain⟨⟨hn,ho⟩,he⟩:=bf f;subst he;rw[all_ints ho]at W;have ey:=gU W;subst ey;have G:(fj (ds.map cz)).length<64:=by have:=Bh (ds.map cz) [];unfold fj;simp only[n4,dy]at this;omega
 refine⟨p,ds.map cz,rfl,hq,by rw[dy];exact hn,λl I=>⟨l,fj (ds.map cz),rfl,aH ..,G,λq J=>?_⟩⟩;have L:Ext m j m (upd j l (.ext (sI X l (fj (ds.map cz))))):=⟨aK.cu I,.refl _,λb o e=>aK.cu I b o (st.gs.sub b o e),λ_ a b=>absurd a b⟩;refine zV (K:=X.K) (F:=m) L.sub (ds:=qP ((fj (ds.map cz)).map D.int)) ?_ J λw M N u rn=>?_;.have Y:qP ((fj (ds.map cz)).map D.int)=((qP ((fj (ds.map cz)).map D.int)).map cz).map D.int:=all_ints (by rw[gi];intro x A;obtain⟨i,_,rfl⟩:=de.mp ((jZ _).mem_iff.mp A);rfl);rw[Y];have:=pP (K:=X.K) (F:=m) ((qP ((fj (ds.map cz)).map D.int)).map cz);rw[<-Y]at this ⊢;exact this
 . have x3:Ext m j M N:=⟨L.hs.trans u.hs,u.fs,u.sub,λb n n'=>by
    have:=u.gr b n n';by_cases Z:b=l;.subst Z;rw[I];rfl
    .rw[aC Z]at this;exact this⟩;have O:cF X.K M N j w (.own (qP ((fj (ds.map cz)).map D.int))):=by obtain⟨b,xs,q1,q2,q3,q4,q5⟩:=rn;refine⟨b,xs,q1,q2,q3,q4,?_⟩;cases z:j b with|none=>rfl|some o=>rw[L.hs b o z]at q5;cases q5
   exact k w M N (st.trans (x3.stp st.gs)) (.later st (O.nC st.gs))
end
end _H
noncomputable section
set_option maxHeartbeats 4000000
namespace _T
open PySem _L Spec PyProof.Rows _H
local macro_rules|`(term|⇑$n)=>`(P.con (.int $n))
local macro_rules|`(term|↑$n)=>`(P.var $n)
set_option hygiene false
set_option hygiene true
local macro_rules|`(tactic|lia)=>`(tactic|with_reducible refine aO ?_ ?_)
set_option hygiene false
set_option hygiene true
local macro_rules|`(term|‹$l›)=>`((show(($l):List Str).Nodup by decide+kernel))
theorem hc:cq=cq:=rfl
theorem oi{b:Type}{a:b}{p:Prop}:a=a\/p:=.inl rfl
theorem aQ{X:Cx}{c:Call}{a:dO}{es:List dO}{b:P}{ps:List P}(e:SX X c a b)(hr:SG X c es ps)(h:nst a=cq):SG X c (a::es) (b::ps):=Ob e hr (jo h)
theorem cW{X:Cx}{c:Call}{a:dO}{es:List dO}{b:P}{ps:List P}(e:SX X c a b)(hr:SA X c es ps)(h:nst a=cq):SA X c (a::es) (b::ps):=Ga e hr (jo h)
variable{Pg:dF}{w:eJ}{K:PySem.W.Frag}{mg:Str->Option b_}{base:eN}{f:cx}{fd:i1}{k n:Nat}{c:Call}{cl:Nat->cx}
noncomputable def top(i:Nat):ft:=PySem.Challenge.pw_hourhaul_k84_whole_starts_beside_starts.main.body.getD i (.Pass ⟨0,0,0,0⟩)
noncomputable abbrev s0:ft:=top 4
noncomputable def b0:List S:=[.asg 2 (.idx (.idx ↑0 ⇑1) (.idx ↑1 ⇑0)),.ret (.M8 (.idx ↑1 ⇑1) (.tup [.idx ↑2 ⇑0,.idx ↑2 ⇑1]) (.tup [.idx ↑2 ⇑1,.idx ↑2 ⇑0]))]
noncomputable def f0:Fd:=⟨2,3,b0⟩
theorem sc0:aJ ["net","step","way"] ["net","step"] (az s0):={}
include cl in
theorem d0(a:gY K "step_places" "step_places" s0 f fd):(pH Pg w K mg base Jk (k+1) f fd ["net","step"] (Nq K 2 (λargs=>enter c n f0 args))):=by
 (refine aap a sc0 rfl rfl λcdv A outer s H E hr=>?_;have nd:=(sc0).nd);refine aO ?_ ?_;. ((with_reducible refine dZ (i:=2) ?_ ?_ ?_ ?_ ?_ ?_);exact nd;exact rfl;exact oi;rotate_left;rfl;exact oi;exact ao (ao (sv 0) aa) (ao (sv 1) aa))
 lia;. ((with_reducible refine U3 ?_);exact pW (jW (ao (sv 1) aa)) (dY (cW (ao (sv 2) aa) (cW (ao (sv 2) aa) aP rfl) rfl)) (dY (cW (ao (sv 2) aa) (cW (ao (sv 2) aa) aP rfl) rfl)))
 exact aq
noncomputable abbrev s1:ft:=top 5
noncomputable def b1:List S:=[.asg 2 (.idx (.idx (.idx ↑0 ⇑1) (.idx ↑1 ⇑0)) ⇑3),.ret (.M8 (.idx ↑1 ⇑1) ↑2 (.neg ↑2))]
noncomputable def f1:Fd:=⟨2,3,b1⟩
theorem sc1:aJ ["net","step","hours"] ["net","step"] (az s1):={}
include cl in
theorem d1(a:gY K "step_hours" "step_hours" s1 f fd):(pH Pg w K mg base Jk (k+1) f fd ["net","step"] (Nq K 2 (λargs=>enter c n f1 args))):=by
 (refine aap a sc1 rfl rfl λcdv A outer s H E hr=>?_;have nd:=(sc1).nd);refine aO ?_ ?_;. ((with_reducible refine dZ (i:=2) ?_ ?_ ?_ ?_ ?_ ?_);exact nd;exact rfl;exact oi;rotate_left;rfl;exact oi;exact ao (ao (ao (sv 0) aa) (ao (sv 1) aa)) aa)
 lia;. ((with_reducible refine U3 ?_);exact pW (jW (ao (sv 1) aa)) (sv 2) (BK (sv 2)))
 exact aq
noncomputable abbrev s2:ft:=top 6
noncomputable def b2:List S:=[.asg 3 (.idx ↑1 (.idx ↑2 ⇑0)),.ret (.M8 (.idx ↑2 ⇑1) (.bin .sub (.idx (.idx (.idx ↑0 ⇑1) (.idx ↑2 ⇑0)) ⇑2) ↑3) ↑3)]
noncomputable def f2:Fd:=⟨3,4,b2⟩
theorem sc2:aJ ["net","stream","step","loads"] ["net","stream","step"] (az s2):={}
include cl in
theorem d2(a:gY K "step_room" "step_room" s2 f fd):(pH Pg w K mg base Jk (k+1) f fd ["net","stream","step"] (Nq K 3 (λargs=>enter c n f2 args))):=by
 (refine aap a sc2 rfl rfl λcdv A outer s H E hr=>?_;have nd:=(sc2).nd);refine aO ?_ ?_;. ((with_reducible refine dZ (i:=3) ?_ ?_ ?_ ?_ ?_ ?_);exact nd;exact rfl;exact oi;rotate_left;rfl;exact oi;exact ao (sv 1) (ao (sv 2) aa))
 lia;. ((with_reducible refine U3 ?_);exact pW (jW (ao (sv 2) aa)) (au dG (ao (ao (ao (sv 0) aa) (ao (sv 2) aa)) aa) (sv 3)) (sv 3))
 exact aq
noncomputable abbrev s3:ft:=top 7
noncomputable def b3:List S:=[.ret (.blt .sum [.comp ↑1 1 [2] cq cr (.call 1 [↑0,↑2])])]
noncomputable def f3:Fd:=⟨2,2,b3⟩
theorem sc3:aJ ["net","steps"] ["net","steps"] (az s3):={}
include cl in
theorem d3(a:gY K "steps_hours" "steps_hours" s3 f fd)(fJ:mg "sum"=cr)(b:(aR Pg w K mg base k c 1 ("step_hours") 2)):(pH Pg w K mg base Jk (k+1) f fd ["net","steps"] (Nq K 2 (λargs=>enter c n f3 args))):=by
 (refine aap a sc3 rfl rfl λcdv A outer s H E hr=>?_;have nd:=(sc3).nd);refine aO ?_ ?_;. ((with_reducible refine U3 ?_);exact mJ rfl hc (by rfl) fJ (cB (N':=["net","steps","step"]) hc (qi rfl (by rfl)) (cJ (sv 1)) (λ_ _ _ _ _=>aL (i:=2) ‹["net","steps","step"]› rfl (df rfl) (dQ rfl)) (bh (cI)) (λ_ _ _ _ _=>cH) (λ_ _ _ _ _=>(dq b hr (aQ (sv 0) (aQ (sv 2) aA rfl) rfl)))))
 exact aq
noncomputable abbrev s4:ft:=top 8
noncomputable def b4:List S:=[.Mq 2 (.qC ⇑0 (.idx ↑0 ⇑0)) 1 [5] cq (.lst []),.Hy (.qC ⇑0 (.blt .len [.idx ↑0 ⇑1])) [3] cq [.Hy (.tup [.tup [↑3,.con (.bl cq)],.tup [↑3,.con (.bl a_)]]) [4] cq [.ifs (.cmp .gt (.call 2 [↑0,↑1,↑4]) ⇑0) [.Mr 2 (.idx (.call 0 [↑0,↑4]) ⇑0) ↑4] []]],.dw 2,.ret ↑2]
noncomputable def f4:Fd:=⟨2,5,b4⟩
theorem sc4:aJ ["net","stream","steps","number","step"] ["net","stream"] (az s4):={}
include cl in
theorem d4(a:gY K "open_steps" "open_steps" s4 f fd)(dH:mg "len"=cr)(aN:mg "range"=cr)(b:(aR Pg w K mg base k c 0 ("step_places") 2))(e:(aR Pg w K mg base k c 2 ("step_room") 3)):(pH Pg w K mg base Jk (k+1) f fd ["net","stream"] (Nq K 2 (λargs=>enter c n f4 args))):=by (refine aap a sc4 rfl rfl λcdv A outer s H E hr=>?_;have nd:=(sc4).nd);exact(by(refine Oj (i:=2) (N':=["net","stream","steps","number","step","place"]) (g:=j9 5) ?_ ?_ ?_ ?_ ?_ ?_ ?_ ?_ ?_ ?_ ?_ ?_ ?_ ?_);exact hc;exact nd;exact rfl;exact oi;exact qi rfl (by rfl);exact dm rfl (by rfl) aN (ao (sv 0) aa);exact (λ_ _ _ _ _=>aL (i:=5) ‹["net","stream","steps","number","step","place"]› rfl (df rfl) (dQ rfl));exact bh (cI);exact (λ_ _ _ _ _=>cH);exact (λ_ _ _ _ _=>(dh aP));(· (with_reducible refine Lh ?_ ?_);(· (with_reducible refine DG (g:=j9 3) ?_ ?_ ?_ ?_ ?_ ?_ ?_);exact er;exact hc;(· (with_reducible refine Kg ?_ ?_ ?_ ?_ ?_);exact rfl;rfl;exact aN;exact j7 rfl (by rfl) dH (ao (sv 0) aa);rfl);exact aL (i:=3) nd rfl oi oi;(· rw[pK];exact wF 3);(· (with_reducible refine rR ?_ ?_);(· (with_reducible refine DG (g:=j9 4) ?_ ?_ ?_ ?_ ?_ ?_ ?_);exact er;exact hc;exact NK (dY (cW (dY (cW (sv 3) (cW lX aP rfl) rfl)) (cW (dY (cW (sv 3) (cW lX aP rfl) rfl)) aP rfl) rfl));exact aL (i:=4) nd rfl oi oi;(· rw[pK];exact wF 4);(· (with_reducible refine rR ?_ ?_);(· (with_reducible refine VM ?_ ?_ ?_);exact bY m5 (dq e hr (aQ (sv 0) (aQ (sv 1) (aQ (sv 4) aA rfl) rfl) rfl)) aa (cT _);(· (with_reducible refine rR ?_ ?_);(· (with_reducible refine Mg (k:=2) ?_ ?_ ?_ ?_ ?_ ?_ ?_ ?_ ?_ ?_ ?_ ?_);exact rfl;(· first|exact df rfl|exact dQ (df rfl));exact ao (dq b hr (aQ (sv 0) (aQ (sv 4) aA rfl) rfl)) aa;exact sv 4;(· intro _ _;rfl);rfl;rfl;rfl;rfl;rfl;rfl;rfl);exact qX);exact qX);exact qX);(· intro _;rfl));exact qX);(· intro _;rfl));(· (with_reducible refine Qq ?_);(· lia;(· ((with_reducible refine U3 ?_);exact sv 2));exact aq)));rfl;(· intro _;rfl);exact oi)
noncomputable abbrev s5:ft:=top 9
noncomputable def b5:List S:=[.asg 3 (.call 4 [↑0,↑1]),.Hz 4,.jJ (.blt .keys [↑2]) [5] cq [.gA 4 ↑5 (.tup [.bin .Af ↑2 ↑5,⇑0,.con .non])],.asg 6 (.blt .YW [↑2]),.whl (.cmp .gt (.blt .len [↑6]) ⇑0) [.Hz 7,.jJ ↑6 [5] cq [.jJ (.idx ↑3 ↑5) [8] cq [.asg 9 (.idx (.call 0 [↑0,↑8]) ⇑1),.asg 10 (.tup [.bin .add (.idx (.R7 4 ↑5) ⇑0) (.call 1 [↑0,↑8]),.bin .add (.idx (.R7 4 ↑5) ⇑1) ⇑1]),.ifs (.or (.R8 4 ↑9 cq) (.cmp .lt ↑10 (.slice (.R7 4 ↑9) (.con .non) ⇑2))) [.gA 4 ↑9 (.bin .add ↑10 (.tup [↑8])),.gA 7 ↑9 (.con (.bl cq))] []]],.asg 6 (.blt .YW [.vw 7])],.ret ↑4]
noncomputable def f5:Fd:=⟨3,11,b5⟩
theorem sc5:aJ ["net","stream","begun","steps","come","place","row","changed","step","to","found"] ["net","stream","begun"] (az s5):={}
include cl in
theorem d5(a:gY K "shortest_come" "shortest_come" s5 f fd)(dH:mg "len"=cr)(m7:mg "list"=cr)(b:(aR Pg w K mg base k c 4 ("open_steps") 2))(e:(aR Pg w K mg base k c 1 ("step_hours") 2))(g:(aR Pg w K mg base k c 0 ("step_places") 2)):(pH Pg w K mg base Jk (k+1) f fd ["net","stream","begun"] (Nq K 3 (λargs=>enter c n f5 args))):=by
 (refine aap a sc5 rfl rfl λcdv A outer s H E hr=>?_;have nd:=(sc5).nd);refine aO ?_ ?_;. ((with_reducible refine dZ (i:=3) ?_ ?_ ?_ ?_ ?_ ?_);exact nd;exact rfl;exact oi;rotate_left;rfl;exact oi;exact dq b hr (aQ (sv 0) (aQ (sv 1) aA rfl) rfl))
 lia;.exact(FZ (i:=4) nd rfl oi (by rfl) (df rfl))
 lia;. ((with_reducible refine Ny (i:=5) ?_ ?_ ?_ ?_ ?_ ?_ ?_ ?_ ?_);exact er;exact hc;exact nd;exact rfl;exact oi;exact Qx (sv 2);rotate_left;(· intro _;rfl);exact oi);(· lia;exact rG (i:=4) (bV hr) rfl (by (first|exact df rfl|exact dQ (df rfl))) (sv 5) (dY (cW (nQ (bV hr) (sv 2) (sv 5) (λ_ _=>rfl)) (cW aa (cW tO aP rfl) rfl) rfl)) (by rfl);exact aq)
 lia;. ((with_reducible refine dZ (i:=6) ?_ ?_ ?_ ?_ ?_ ?_);exact nd;exact rfl;exact oi;rotate_left;rfl;exact oi;exact HY rfl hc (by rfl) m7 (sv 2))
 lia;.exact(Bb er (bY m5 (j7 rfl (by rfl) dH (sv 6)) aa (cT _)) (by lia;exact FZ (i:=7) nd rfl oi (by rfl) (df rfl);(· lia;(· ((with_reducible refine Ny (i:=5) ?_ ?_ ?_ ?_ ?_ ?_ ?_ ?_ ?_);exact er;exact hc;exact nd;exact rfl;exact oi;exact cJ (sv 6);rotate_left;(· intro _;rfl);exact oi);(· lia;(· ((with_reducible refine Ny (i:=8) ?_ ?_ ?_ ?_ ?_ ?_ ?_ ?_ ?_);exact er;exact hc;exact nd;exact rfl;exact oi;exact cJ (ao (sv 3) (sv 5));rotate_left;(· intro _;rfl);exact oi);(· lia;(· ((with_reducible refine dZ (i:=9) ?_ ?_ ?_ ?_ ?_ ?_);exact nd;exact rfl;exact oi;rotate_left;rfl;exact oi;exact ao (dq g hr (aQ (sv 0) (aQ (sv 8) aA rfl) rfl)) aa));(· lia;(· ((with_reducible refine dZ (i:=10) ?_ ?_ ?_ ?_ ?_ ?_);exact nd;exact rfl;exact oi;rotate_left;rfl;exact oi;exact dY (cW (au aW (ao (Cg (i:=4) (bV hr) rfl (by (first|exact df rfl|exact dQ (df rfl))) (sv 5) (λ_ _=>rfl)) aa) (dq e hr (aQ (sv 0) (aQ (sv 8) aA rfl) rfl))) (cW (au aW (ao (Cg (i:=4) (bV hr) rfl (by (first|exact df rfl|exact dQ (df rfl))) (sv 5) (λ_ _=>rfl)) aa) aa) aP rfl) rfl)));(· lia;(· (with_reducible refine jC ?_ ?_ ?_);exact SW.st (vh (Vb (i:=4) (dQ ⟨rfl,rfl⟩) (bV hr) rfl (by (first|exact df rfl|exact dQ (df rfl))) (sv 9) (by with_unfolding_all rfl)) (sS (bY (Iv (bV hr)) (sv 10) (yN (Cg (i:=4) (bV hr) rfl (by (first|exact df rfl|exact dQ (df rfl))) (sv 9) (λ_ _=>rfl)) Eu (Ex aa)) (cT _))));(· lia;exact rG (i:=4) (bV hr) rfl (by (first|exact df rfl|exact dQ (df rfl))) (sv 9) (au aW (sv 10) (dY (cW (sv 8) aP rfl))) (by rfl);(· lia;exact rG (i:=7) (bV hr) rfl (by (first|exact df rfl|exact dQ (df rfl))) (sv 9) lX (by rfl);exact aq));exact aq);exact aq))));exact aq));(· lia;(· ((with_reducible refine dZ (i:=6) ?_ ?_ ?_ ?_ ?_ ?_);exact nd;exact rfl;exact oi;rotate_left;rfl;exact oi;exact HY rfl hc (by rfl) m7 (JP (i:=7) rfl (by (first|exact df rfl|exact dQ (df rfl))))));exact aq))))
 lia;. ((with_reducible refine U3 ?_);exact sv 4)
 exact aq
noncomputable abbrev s6:ft:=top 10
noncomputable def b6:List S:=[.asg 3 (.lst []),.asg 4 ↑2,.whl (.cmp .QD (.idx (.bin .Af ↑1 ↑4) ⇑2) (.con .non)) [.asg 5 (.idx (.bin .Af ↑1 ↑4) ⇑2),.app 3 ↑5,.asg 4 (.idx (.call 0 [↑0,↑5]) ⇑0)],.ret (.blt .rvT [↑3])]
noncomputable def f6:Fd:=⟨3,6,b6⟩
theorem sc6:aJ ["net","come","place","steps","here","step"] ["net","come","place"] (az s6):={}
include cl in
theorem d6(a:gY K "steps_to" "steps_to" s6 f fd)(m8:mg "reversed"=cr)(bT:mg "tuple"=cr)(b:(aR Pg w K mg base k c 0 ("step_places") 2)):(pH Pg w K mg base Jk (k+1) f fd ["net","come","place"] (Nq K 3 (λargs=>enter c n f6 args))):=by
 (refine aap a sc6 rfl rfl λcdv A outer s H E hr=>?_;have nd:=(sc6).nd);refine aO ?_ ?_;. ((with_reducible refine dZ (i:=3) ?_ ?_ ?_ ?_ ?_ ?_);exact nd;exact rfl;exact oi;rotate_left;rfl;exact oi;exact dh aP)
 lia;. ((with_reducible refine dZ (i:=4) ?_ ?_ ?_ ?_ ?_ ?_);exact nd;exact rfl;exact oi;rotate_left;rfl;exact oi;exact sv 2)
 lia;.exact(Bb er (bY PL (ao (nQ (bV hr) (sv 1) (sv 4) (λ_ _=>rfl)) aa) tO (cT _)) (by lia;(· ((with_reducible refine dZ (i:=5) ?_ ?_ ?_ ?_ ?_ ?_);exact nd;exact rfl;exact oi;rotate_left;rfl;exact oi;exact ao (nQ (bV hr) (sv 1) (sv 4) (λ_ _=>rfl)) aa));(· lia;exact eU (k:=3) rfl (by (first|exact df rfl|exact dQ (df rfl))) (sv 5);(· lia;(· ((with_reducible refine dZ (i:=4) ?_ ?_ ?_ ?_ ?_ ?_);exact nd;exact rfl;exact oi;rotate_left;rfl;exact oi;exact ao (dq b hr (aQ (sv 0) (aQ (sv 5) aA rfl) rfl)) aa));exact aq))))
 lia;. ((with_reducible refine U3 ?_);exact Av rfl rfl hc (by rfl) bT (by rfl) m8 (sv 3))
 exact aq
noncomputable abbrev s7:ft:=top 11
noncomputable def b7:List S:=[.asg 3 (.blt .list [↑0]),.jJ ↑1 [4,5] a_ [.Mm 3 ↑4 a_ (.M8 ↑5 ↑2 (.neg ↑2))],.ret ↑3]
noncomputable def f7:Fd:=⟨3,6,b7⟩
theorem sc7:aJ ["stream","steps","loads","changed","number","forth"] ["stream","steps","loads"] (az s7):={}
include cl in
theorem d7(a:gY K "stream_with" "stream_with" s7 f fd)(m7:mg "list"=cr):(pH Pg w K mg base Jk (k+1) f fd ["stream","steps","loads"] (Nq K 3 (λargs=>enter c n f7 args))):=by
 (refine aap a sc7 rfl rfl λcdv A outer s H E hr=>?_;have nd:=(sc7).nd);refine aO ?_ ?_;. ((with_reducible refine dZ (i:=3) ?_ ?_ ?_ ?_ ?_ ?_);exact nd;exact rfl;exact oi;rotate_left;rfl;exact oi;exact Qi rfl (by rfl) m7 (sv 0))
 lia;.exact(uc er hc (cJ (sv 1)) (mZ hc (cN (aL (i:=4) nd rfl oi oi) (cN (aL (i:=5) nd rfl oi oi) jc))) (xg rfl (iu _ _ (iu _ _ qU 5) 4)) (by lia;exact Nm (k:=3) (sub:=a_) Ou rfl (by (first|exact df rfl|exact dQ (df rfl))) (sv 4) (pW (jW (sv 5)) (sv 2) (BK (sv 2)));exact aq))
 lia;. ((with_reducible refine U3 ?_);exact sv 3)
 exact aq
noncomputable abbrev s8:ft:=top 12
noncomputable def b8:List S:=[.asg 1 (.bin .sub (.idx ↑0 ⇑0) ⇑1),.asg 2 (.bin .mul (.lst [⇑0]) (.blt .len [.idx ↑0 ⇑1])),.asg 3 (.lst []),.asg 4 (.call 5 [↑0,↑2,.CV 0 0]),.whl (.bin .din ↑1 ↑4) [.asg 5 (.call 6 [↑0,↑4,↑1]),.asg 6 (.blt .Mi [.comp ↑5 1 [7] cq cr (.call 2 [↑0,↑2,↑7])]),.app 3 (.tup [↑5,↑6]),.asg 2 (.call 7 [↑2,↑5,↑6]),.asg 4 (.call 5 [↑0,↑2,.CV 0 0])],.ret ↑3]
noncomputable def f8:Fd:=⟨1,7,b8⟩
theorem sc8:aJ ["net","end","stream","chains","come","steps","loads"] ["net"] (az s8):={}
include cl in
theorem d8(b:gY K "chains_to_end" "chains_to_end" s8 f fd)(dH:mg "len"=cr)(dI:mg "min"=cr)(a:(aR Pg w K mg base k c 5 ("shortest_come") 3))(e:(aR Pg w K mg base k c 2 ("step_room") 3))(g:(aR Pg w K mg base k c 6 ("steps_to") 3))(h:(aR Pg w K mg base k c 7 ("stream_with") 3)):(pH Pg w K mg base Jk (k+1) f fd ["net"] (Nq K 1 (λargs=>enter c n f8 args))):=by
 (refine aap b sc8 rfl rfl λcdv A outer s H E hr=>?_;have nd:=(sc8).nd);refine aO ?_ ?_;. ((with_reducible refine dZ (i:=1) ?_ ?_ ?_ ?_ ?_ ?_);exact nd;exact rfl;exact oi;rotate_left;rfl;exact oi;exact au dG (ao (sv 0) aa) aa)
 lia;. (with_reducible refine dZ (i:=2) ?_ ?_ ?_ ?_ ?_ ?_);exact nd;exact rfl;exact dQ rfl;rotate_left;rfl;exact oi;exact au dU (dh (cW aa aP rfl)) (j7 rfl (by rfl) dH (ao (sv 0) aa))
 lia;. ((with_reducible refine dZ (i:=3) ?_ ?_ ?_ ?_ ?_ ?_);exact nd;exact rfl;exact oi;rotate_left;rfl;exact oi;exact dh aP)
 lia;. ((with_reducible refine dZ (i:=4) ?_ ?_ ?_ ?_ ?_ ?_);exact nd;exact rfl;exact oi;rotate_left;rfl;exact oi;exact dq a hr (aQ (sv 0) (aQ (sv 2) (aQ FQ aA rfl) rfl) rfl))
 lia;.exact(Bb er (Lj (bV hr) (sv 1) (sv 4) (by with_unfolding_all rfl)) (by lia;(· ((with_reducible refine dZ (i:=5) ?_ ?_ ?_ ?_ ?_ ?_);exact nd;exact rfl;exact oi;rotate_left;rfl;exact oi;exact dq g hr (aQ (sv 0) (aQ (sv 4) (aQ (sv 1) aA rfl) rfl) rfl)));(· lia;(· ((with_reducible refine dZ (i:=6) ?_ ?_ ?_ ?_ ?_ ?_);exact nd;exact rfl;exact oi;rotate_left;rfl;exact oi;exact O1 rfl hc (by rfl) dI (cB (N':=["net","end","stream","chains","come","steps","loads","step"]) hc (qi rfl (by rfl)) (cJ (sv 5)) (λ_ _ _ _ _=>aL (i:=7) ‹["net","end","stream","chains","come","steps","loads","step"]› rfl (df rfl) (dQ rfl)) (bh (cI)) (λ_ _ _ _ _=>cH) (λ_ _ _ _ _=>(dq e hr (aQ (sv 0) (aQ (sv 2) (aQ (sv 7) aA rfl) rfl) rfl))))));(· lia;exact eU (k:=3) rfl (by (first|exact df rfl|exact dQ (df rfl))) (dY (cW (sv 5) (cW (sv 6) aP rfl) rfl));(· lia;(· (with_reducible refine dZ (i:=2) ?_ ?_ ?_ ?_ ?_ ?_);exact nd;exact rfl;exact dQ rfl;rotate_left;rfl;exact oi;exact dq h hr (aQ (sv 2) (aQ (sv 5) (aQ (sv 6) aA rfl) rfl) rfl));(· lia;(· ((with_reducible refine dZ (i:=4) ?_ ?_ ?_ ?_ ?_ ?_);exact nd;exact rfl;exact oi;rotate_left;rfl;exact oi;exact dq a hr (aQ (sv 0) (aQ (sv 2) (aQ FQ aA rfl) rfl) rfl)));exact aq))))))
 lia;. ((with_reducible refine U3 ?_);exact sv 3)
 exact aq
noncomputable abbrev s9:ft:=top 13
noncomputable def b9:List S:=[.asg 2 (.lst []),.asg 3 ↑1,.jJ ↑0 [4,5] a_ [.asg 6 (.blt .min2 [↑3,↑5]),.app 2 (.tup [↑4,↑6]),.aug 3 cq ↑6],.ifs (.cmp .gt ↑3 ⇑0) [.bad] [],.ret ↑2]
noncomputable def f9:Fd:=⟨2,7,b9⟩
theorem sc9:aJ ["pairs","rate","cut","left","first","loads","taken"] ["pairs","rate"] (az s9):={}
include cl in
theorem d9(a:gY K "cut_to_rate" "cut_to_rate" s9 f fd)(dI:mg "min"=cr):(pH Pg w K mg base Jk (k+1) f fd ["pairs","rate"] (Nq K 2 (λargs=>enter c n f9 args))):=by
 (refine aap a sc9 rfl rfl λcdv A outer s H E hr=>?_;have nd:=(sc9).nd);refine aO ?_ ?_;. ((with_reducible refine dZ (i:=2) ?_ ?_ ?_ ?_ ?_ ?_);exact nd;exact rfl;exact oi;rotate_left;rfl;exact oi;exact dh aP)
 lia;. ((with_reducible refine dZ (i:=3) ?_ ?_ ?_ ?_ ?_ ?_);exact nd;exact rfl;exact oi;rotate_left;rfl;exact oi;exact sv 1)
 lia;.exact(uc er hc (cJ (sv 0)) (mZ hc (cN (aL (i:=4) nd rfl oi oi) (cN (aL (i:=5) nd rfl oi oi) jc))) (xg rfl (iu _ _ (iu _ _ qU 5) 4)) (by lia;(· ((with_reducible refine dZ (i:=6) ?_ ?_ ?_ ?_ ?_ ?_);exact nd;exact rfl;exact oi;rotate_left;rfl;exact oi;exact lR rfl hc (by rfl) dI (cW (sv 3) (cW (sv 5) aP rfl) rfl)));(· lia;exact eU (k:=2) rfl (by (first|exact df rfl|exact dQ (df rfl))) (dY (cW (sv 4) (cW (sv 6) aP rfl) rfl));(· lia;exact Wn (i:=3) (sub:=cq) N7 nd rfl oi (sv 6) (df rfl);exact aq))))
 lia;. (with_reducible refine jC ?_ ?_ ?_);exact bY m5 (sv 3) aa (cT _);(· lia;exact Wg;exact aq);exact aq
 lia;. ((with_reducible refine U3 ?_);exact sv 2)
 exact aq
noncomputable abbrev pJ:ft:=top 15
noncomputable def b10:List S:=[.Mp 1 a_,.jJ (.call 8 [↑0]) [2,3] a_ [.asg 4 (.call 3 [↑0,↑2]),.dput 1 ↑4 (.bin .add (.YX 1 ↑4 ⇑0) ↑3)],.ret (.blt .Ml [.vw 1])]
noncomputable def f10:Fd:=⟨1,5,b10⟩
theorem adx:aJ ["net","bends","steps","loads","length"] ["net"] (az pJ):={}
include cl in
theorem d10(a:gY K "bends_of" "bends_of" pJ f fd)(dR:mg "sorted"=cr)(b:(aR Pg w K mg base k c 8 ("chains_to_end") 1))(e:(aR Pg w K mg base k c 3 ("steps_hours") 2)):(pH Pg w K mg base Jk (k+1) f fd ["net"] (Nq K 1 (λargs=>enter c n f10 args))):=by
 (refine aap a adx rfl rfl λcdv A outer s H E hr=>?_;have nd:=(adx).nd);refine aO ?_ ?_;.exact(Pr (i:=1) nd rfl oi (by rfl) (df rfl))
 lia;.exact(uc er hc (cJ (dq b hr (aQ (sv 0) aA rfl))) (mZ hc (cN (aL (i:=2) nd rfl oi oi) (cN (aL (i:=3) nd rfl oi oi) jc))) (xg rfl (iu _ _ (iu _ _ qU 3) 2)) (by lia;(· ((with_reducible refine dZ (i:=4) ?_ ?_ ?_ ?_ ?_ ?_);exact nd;exact rfl;exact oi;rotate_left;rfl;exact oi;exact dq e hr (aQ (sv 0) (aQ (sv 2) aA rfl) rfl)));(· lia;exact Nj (i:=1) (bV hr) rfl (by (first|exact df rfl|exact dQ (df rfl))) (sv 4) (au aW (Sw (i:=1) (bV hr) rfl (by (first|exact df rfl|exact dQ (df rfl))) (sv 4) aa ⟨rfl,rfl,rfl,rfl⟩) (sv 3)) (by rfl);exact aq)))
 lia;. ((with_reducible refine U3 ?_);exact O6 rfl hc (by rfl) dR rfl (JP (i:=1) rfl (by (first|exact df rfl|exact dQ (df rfl)))))
 exact aq
noncomputable abbrev Ce:ft:=top 17
noncomputable def b11:List S:=[.asg 2 (.blt .sum [.comp (.idx ↑0 ⇑1) 1 [6] cq cr (.idx ↑6 ⇑3)]),.Ms 3 0 0,.jJ (.qC ⇑1 (.idx ↑0 ⇑0)) [4] cq [.gA 3 ↑4 ↑2],.asg 5 (.call 5 [↑0,↑1,.vw 3]),.ret (.comp (.qC ⇑0 (.idx ↑0 ⇑0)) 1 [6] cq cr (.idx (.bin .Af ↑5 ↑6) ⇑0))]
noncomputable def f11:Fd:=⟨2,6,b11⟩
theorem afG:aJ ["net","stream","late","begun","place","come"] ["net","stream"] (az Ce):={}
include cl in
theorem d11(a:gY K "found_clocks" "found_clocks" Ce f fd)(aN:mg "range"=cr)(fJ:mg "sum"=cr)(b:(aR Pg w K mg base k c 5 ("shortest_come") 3)):(pH Pg w K mg base Jk (k+1) f fd ["net","stream"] (Nq K 2 (λargs=>enter c n f11 args))):=by
 (refine aap a afG rfl rfl λcdv A outer s H E hr=>?_;have nd:=(afG).nd);refine aO ?_ ?_;. ((with_reducible refine dZ (i:=2) ?_ ?_ ?_ ?_ ?_ ?_);exact nd;exact rfl;exact oi;rotate_left;rfl;exact oi;exact mJ rfl hc (by rfl) fJ (cB (N':=["net","stream","late","begun","place","come","way"]) hc (qi rfl (by rfl)) (cJ (ao (sv 0) aa)) (λ_ _ _ _ _=>aL (i:=6) ‹["net","stream","late","begun","place","come","way"]› rfl (df rfl) (dQ rfl)) (bh (cI)) (λ_ _ _ _ _=>cH) (λ_ _ _ _ _=>(ao (sv 6) aa))))
 lia;.exact(PB (i:=3) nd rfl oi (by rfl) (df rfl))
 lia;. ((with_reducible refine Ny (i:=4) ?_ ?_ ?_ ?_ ?_ ?_ ?_ ?_ ?_);exact er;exact hc;exact nd;exact rfl;exact oi;exact Pk rfl (by rfl) aN aa (ao (sv 0) aa);rotate_left;(· intro _;rfl);exact oi);(· lia;exact rG (i:=3) (bV hr) rfl (by (first|exact df rfl|exact dQ (df rfl))) (sv 4) (sv 2) (by rfl);exact aq)
 lia;. (with_reducible refine dZ (i:=5) ?_ ?_ ?_ ?_ ?_ ?_);exact nd;exact rfl;exact dQ rfl;rotate_left;rfl;exact oi;exact dq b hr (aQ (sv 0) (aQ (sv 1) (aQ (JP (i:=3) rfl (by (first|exact df rfl|exact dQ (df rfl)))) aA rfl) rfl) rfl)
 lia;. ((with_reducible refine U3 ?_);exact cB (N':=["net","stream","late","begun","place#4","come","place"]) hc (qi rfl (by rfl)) (dm rfl (by rfl) aN (ao (sv 0) aa)) (λ_ _ _ _ _=>aL (i:=6) ‹["net","stream","late","begun","place#4","come","place"]› rfl (df rfl) (dQ rfl)) (bh (cI)) (λ_ _ _ _ _=>cH) (λ_ _ _ _ _=>(ao (nQ (bV hr) (sv 5) (sv 6) (λ_ _=>rfl)) aa)))
 exact aq
noncomputable abbrev s12:ft:=top 18
noncomputable def b12:List S:=[.asg 2 (.bin .mul (.lst [⇑0]) (.blt .len [.idx ↑0 ⇑1])),.jJ (.call 9 [.call 8 [↑0],↑1]) [3,4] a_ [.asg 2 (.call 7 [↑2,↑3,↑4])],.ret (.tup [↑2,.call 11 [↑0,↑2]])]
noncomputable def f12:Fd:=⟨2,5,b12⟩
theorem aej:aJ ["net","rate","stream","steps","loads"] ["net","rate"] (az s12):={}
include cl in
theorem d12(a:gY K "light_stream" "light_stream" s12 f fd)(dH:mg "len"=cr)(b:(aR Pg w K mg base k c 8 ("chains_to_end") 1))(e:(aR Pg w K mg base k c 9 ("cut_to_rate") 2))(g:(aR Pg w K mg base k c 11 ("found_clocks") 2))(h:(aR Pg w K mg base k c 7 ("stream_with") 3)):(pH Pg w K mg base Jk (k+1) f fd ["net","rate"] (Nq K 2 (λargs=>enter c n f12 args))):=by
 (refine aap a aej rfl rfl λcdv A outer s H E hr=>?_;have nd:=(aej).nd);refine aO ?_ ?_;. ((with_reducible refine dZ (i:=2) ?_ ?_ ?_ ?_ ?_ ?_);exact nd;exact rfl;exact oi;rotate_left;rfl;exact oi;exact au dU (dh (cW aa aP rfl)) (j7 rfl (by rfl) dH (ao (sv 0) aa)))
 lia;.exact(uc er hc (cJ (dq e hr (aQ (dq b hr (aQ (sv 0) aA rfl)) (aQ (sv 1) aA rfl) rfl))) (mZ hc (cN (aL (i:=3) nd rfl oi oi) (cN (aL (i:=4) nd rfl oi oi) jc))) (xg rfl (iu _ _ (iu _ _ qU 4) 3)) (by lia;(· ((with_reducible refine dZ (i:=2) ?_ ?_ ?_ ?_ ?_ ?_);exact nd;exact rfl;exact oi;rotate_left;rfl;exact oi;exact dq h hr (aQ (sv 2) (aQ (sv 3) (aQ (sv 4) aA rfl) rfl) rfl)));exact aq))
 lia;. ((with_reducible refine U3 ?_);exact dY (cW (sv 2) (cW (dq g hr (aQ (sv 0) (aQ (sv 2) aA rfl) rfl)) aP rfl) rfl))
 exact aq
noncomputable abbrev s13:ft:=top 20
noncomputable def b13:List S:=[.ret (.comp (.call 10 [↑0]) 1 [2] cq (aU (.cmp .le (.idx ↑2 ⇑0) ↑1)) ↑2)]
noncomputable def f13:Fd:=⟨2,2,b13⟩
theorem aeF:aJ ["net","last"] ["net","last"] (az s13):={}
include cl in
theorem d13(a:gY K "bends_by" "bends_by" s13 f fd)(b:(aR Pg w K mg base k c 10 ("bends_of") 1)):(pH Pg w K mg base Jk (k+1) f fd ["net","last"] (Nq K 2 (λargs=>enter c n f13 args))):=by
 (refine aap a aeF rfl rfl λcdv A outer s H E hr=>?_;have nd:=(aeF).nd);refine aO ?_ ?_;. ((with_reducible refine U3 ?_);exact cB (N':=["net","last","bend"]) hc (qi rfl (by rfl)) (cJ (dq b hr (aQ (sv 0) aA rfl))) (λ_ _ _ _ _=>aL (i:=2) ‹["net","last","bend"]› rfl (df rfl) (dQ rfl)) (bh (cI)) (λ_ _ _ _ _=>ig (bY iz (ao (sv 2) aa) (sv 1) (cT _))) (λ_ _ _ _ _=>(sv 2)))
 exact aq
noncomputable abbrev s14:ft:=top 21
noncomputable def b14:List S:=[.ret (.blt .sum [.comp ↑0 2 [2,3] a_ (aU (.cmp .le ↑2 ↑1)) (.bin .mul ↑3 (.bin .add (.bin .sub ↑1 ↑2) ⇑1))])]
noncomputable def f14:Fd:=⟨2,2,b14⟩
theorem afK:aJ ["bends","last"] ["bends","last"] (az s14):={}
include cl in
theorem d14(a:gY K "most_of" "most_of" s14 f fd)(fJ:mg "sum"=cr):(pH Pg w K mg base Jk (k+1) f fd ["bends","last"] (Nq K 2 (λargs=>enter c n f14 args))):=by
 (refine aap a afK rfl rfl λcdv A outer s H E hr=>?_;have nd:=(afK).nd);refine aO ?_ ?_;. ((with_reducible refine U3 ?_);exact mJ rfl hc (by rfl) fJ (cB (N':=["bends","last","length","loads"]) hc (qi rfl (by rfl)) (cJ (sv 0)) (λ_ _ _ _ _=>mZ hc (cN (aL (i:=2) ‹["bends","last","length","loads"]› rfl (df rfl) (dQ rfl)) (cN (aL (i:=3) ‹["bends","last","length","loads"]› rfl (df rfl) (dQ rfl)) jc))) (wD rfl (iK (show 2<=2 by decide) (iK (show 2<=3 by decide) xJ))) (λ_ _ _ _ _=>ig (bY iz (sv 2) (sv 1) (cT _))) (λ_ _ _ _ _=>(au dU (sv 3) (au aW (au dG (sv 1) (sv 2)) aa)))))
 exact aq
noncomputable abbrev s15:ft:=top 22
noncomputable def b15:List S:=[.ret (.call 14 [.call 10 [↑0],↑1])]
noncomputable def f15:Fd:=⟨2,2,b15⟩
theorem ael:aJ ["net","last"] ["net","last"] (az s15):={}
include cl in
theorem d15(a:gY K "most_by" "most_by" s15 f fd)(b:(aR Pg w K mg base k c 10 ("bends_of") 1))(e:(aR Pg w K mg base k c 14 ("most_of") 2)):(pH Pg w K mg base Jk (k+1) f fd ["net","last"] (Nq K 2 (λargs=>enter c n f15 args))):=by
 (refine aap a ael rfl rfl λcdv A outer s H E hr=>?_;have nd:=(ael).nd);refine aO ?_ ?_;. ((with_reducible refine U3 ?_);exact dq e hr (aQ (dq b hr (aQ (sv 0) aA rfl)) (aQ (sv 1) aA rfl) rfl))
 exact aq
noncomputable abbrev s16:ft:=top 23
noncomputable def b16:List S:=[.ret (.blt .sum [.comp (.call 13 [↑0,↑1]) 2 [2,3] a_ cr ↑3])]
noncomputable def f16:Fd:=⟨2,2,b16⟩
theorem aeH:aJ ["net","last"] ["net","last"] (az s16):={}
include cl in
theorem d16(a:gY K "rate_by" "rate_by" s16 f fd)(fJ:mg "sum"=cr)(b:(aR Pg w K mg base k c 13 ("bends_by") 2)):(pH Pg w K mg base Jk (k+1) f fd ["net","last"] (Nq K 2 (λargs=>enter c n f16 args))):=by
 (refine aap a aeH rfl rfl λcdv A outer s H E hr=>?_;have nd:=(aeH).nd);refine aO ?_ ?_;. ((with_reducible refine U3 ?_);exact mJ rfl hc (by rfl) fJ (cB (N':=["net","last","length","loads"]) hc (qi rfl (by rfl)) (cJ (dq b hr (aQ (sv 0) (aQ (sv 1) aA rfl) rfl))) (λ_ _ _ _ _=>mZ hc (cN (aL (i:=2) ‹["net","last","length","loads"]› rfl (df rfl) (dQ rfl)) (cN (aL (i:=3) ‹["net","last","length","loads"]› rfl (df rfl) (dQ rfl)) jc))) (wD rfl (iK (show 2<=2 by decide) (iK (show 2<=3 by decide) xJ))) (λ_ _ _ _ _=>cH) (λ_ _ _ _ _=>(sv 3))))
 exact aq
noncomputable abbrev s17:ft:=top 24
noncomputable def b17:List S:=[.ret (.idx (.call 12 [↑0,.call 16 [↑0,↑1]]) ⇑0)]
noncomputable def f17:Fd:=⟨2,2,b17⟩
theorem aeZ:aJ ["net","last"] ["net","last"] (az s17):={}
include cl in
theorem d17(a:gY K "stream_by" "stream_by" s17 f fd)(b:(aR Pg w K mg base k c 12 ("light_stream") 2))(e:(aR Pg w K mg base k c 16 ("rate_by") 2)):(pH Pg w K mg base Jk (k+1) f fd ["net","last"] (Nq K 2 (λargs=>enter c n f17 args))):=by
 (refine aap a aeZ rfl rfl λcdv A outer s H E hr=>?_;have nd:=(aeZ).nd);refine aO ?_ ?_;. ((with_reducible refine U3 ?_);exact ao (dq b hr (aQ (sv 0) (aQ (dq e hr (aQ (sv 0) (aQ (sv 1) aA rfl) rfl)) aA rfl) rfl)) aa)
 exact aq
noncomputable abbrev s18:ft:=top 25
noncomputable def b18:List S:=[.asg 2 (.bin .add ↑1 ⇑1),.asg 3 (.call 5 [↑0,.call 17 [↑0,↑1],.wj 0 0 (.bin .sub (.idx ↑0 ⇑0) ⇑1) ↑2]),.ret (.comp (.qC ⇑0 (.idx ↑0 ⇑0)) 1 [4] cq cr (.M8 (.bin .din ↑4 ↑3) (.blt .min2 [.idx (.bin .Af ↑3 ↑4) ⇑0,↑2]) ↑2))]
noncomputable def f18:Fd:=⟨2,4,b18⟩
theorem afU:aJ ["net","last","after","come"] ["net","last"] (az s18):={}
include cl in
theorem d18(a:gY K "closed_hours" "closed_hours" s18 f fd)(dI:mg "min"=cr)(aN:mg "range"=cr)(b:(aR Pg w K mg base k c 5 ("shortest_come") 3))(e:(aR Pg w K mg base k c 17 ("stream_by") 2)):(pH Pg w K mg base Jk (k+1) f fd ["net","last"] (Nq K 2 (λargs=>enter c n f18 args))):=by
 (refine aap a afU rfl rfl λcdv A outer s H E hr=>?_;have nd:=(afU).nd);refine aO ?_ ?_;. (with_reducible refine dZ (i:=2) ?_ ?_ ?_ ?_ ?_ ?_);exact nd;exact rfl;exact dQ rfl;rotate_left;rfl;exact oi;exact au aW (sv 1) aa
 lia;. (with_reducible refine dZ (i:=3) ?_ ?_ ?_ ?_ ?_ ?_);exact nd;exact rfl;exact dQ rfl;rotate_left;rfl;exact oi;exact dq b hr (aQ (sv 0) (aQ (dq e hr (aQ (sv 0) (aQ (sv 1) aA rfl) rfl)) (aQ (JS (au dG (ao (sv 0) aa) aa) (sv 2)) aA rfl) rfl) rfl)
 lia;. ((with_reducible refine U3 ?_);exact cB (N':=["net","last","after","come","place"]) hc (qi rfl (by rfl)) (dm rfl (by rfl) aN (ao (sv 0) aa)) (λ_ _ _ _ _=>aL (i:=4) ‹["net","last","after","come","place"]› rfl (df rfl) (dQ rfl)) (bh (cI)) (λ_ _ _ _ _=>cH) (λ_ _ _ _ _=>(pW (Lj (bV hr) (sv 4) (sv 3) (by with_unfolding_all rfl)) (lR rfl hc (by rfl) dI (cW (ao (nQ (bV hr) (sv 3) (sv 4) (λ_ _=>rfl)) aa) (cW (sv 2) aP rfl) rfl)) (sv 2))))
 exact aq
noncomputable abbrev s19:ft:=top 26
noncomputable def b19:List S:=[.ifs (.or (.cmp .ne (.blt .len [↑2]) (.idx ↑0 ⇑0)) (.or (.cmp .ne (.idx ↑2 ⇑0) ⇑0) (.cmp .ne (.idx ↑2 (.neg ⇑1)) (.bin .add ↑1 ⇑1)))) [.ret (.con (.bl a_))] [],.ret (.blt .all [.comp ↑2 1 [3] cq cr (.chain .le .le ⇑0 ↑3 (.bin .add ↑1 ⇑1))])]
noncomputable def f19:Fd:=⟨3,3,b19⟩
theorem agh:aJ ["net","last","closed"] ["net","last","closed"] (az s19):={}
include cl in
theorem d19(a:gY K "closed_right" "closed_right" s19 f fd)(wz:mg "all"=cr)(dH:mg "len"=cr):(pH Pg w K mg base Jk (k+1) f fd ["net","last","closed"] (Nq K 3 (λargs=>enter c n f19 args))):=by
 (refine aap a agh rfl rfl λcdv A outer s H E hr=>?_;have nd:=(agh).nd);refine aO ?_ ?_;. (with_reducible refine jC ?_ ?_ ?_);exact SW.st (vh (bY (ux (bV hr)) (j7 rfl (by rfl) dH (sv 2)) (ao (sv 0) aa) (cT _)) (vh (bY (ux (bV hr)) (ao (sv 2) aa) aa (cT _)) (sS (bY (ux (bV hr)) (ao (sv 2) (BK aa)) (au aW (sv 1) aa) (cT _)))));(· lia;(· ((with_reducible refine U3 ?_);exact lX));exact aq);exact aq
 lia;. ((with_reducible refine U3 ?_);exact JZ rfl hc (by rfl) wz (cB (N':=["net","last","closed","hour"]) hc (qi rfl (by rfl)) (cJ (sv 2)) (λ_ _ _ _ _=>aL (i:=3) ‹["net","last","closed","hour"]› rfl (df rfl) (dQ rfl)) (bh (cI)) (λ_ _ _ _ _=>cH) (λ_ _ _ _ _=>(Jc iz iz aa (sv 3) (au aW (sv 1) aa)))))
 exact aq
noncomputable abbrev s20:ft:=top 27
noncomputable def b20:List S:=[.ret (.blt .max2 [⇑0,.bin .sub (.bin .sub (.idx ↑1 (.idx ↑0 ⇑1)) (.idx ↑1 (.idx ↑0 ⇑0))) (.idx ↑0 ⇑3)])]
noncomputable def f20:Fd:=⟨2,2,b20⟩
theorem aeL:aJ ["way","closed"] ["way","closed"] (az s20):={}
include cl in
theorem d20(a:gY K "closed_gap" "closed_gap" s20 f fd)(dJ:mg "max"=cr):(pH Pg w K mg base Jk (k+1) f fd ["way","closed"] (Nq K 2 (λargs=>enter c n f20 args))):=by
 (refine aap a aeL rfl rfl λcdv A outer s H E hr=>?_;have nd:=(aeL).nd);refine aO ?_ ?_;. ((with_reducible refine U3 ?_);exact lJ rfl hc (by rfl) dJ (cW aa (cW (au dG (au dG (ao (sv 1) (ao (sv 0) aa)) (ao (sv 1) (ao (sv 0) aa))) (ao (sv 0) aa)) aP rfl) rfl))
 exact aq
noncomputable abbrev s21:ft:=top 28
noncomputable def b21:List S:=[.ifs (.not (.call 19 [↑0,↑1,↑2])) [.ret (.con .non)] [],.ret (.blt .sum [.comp (.idx ↑0 ⇑1) 1 [3] cq cr (.bin .mul (.idx ↑3 ⇑2) (.call 20 [↑3,↑2]))])]
noncomputable def f21:Fd:=⟨3,3,b21⟩
theorem afa:aJ ["net","last","closed"] ["net","last","closed"] (az s21):={}
include cl in
theorem d21(a:gY K "closed_sum" "closed_sum" s21 f fd)(fJ:mg "sum"=cr)(b:(aR Pg w K mg base k c 20 ("closed_gap") 2))(e:(aR Pg w K mg base k c 19 ("closed_right") 3)):(pH Pg w K mg base Jk (k+1) f fd ["net","last","closed"] (Nq K 3 (λargs=>enter c n f21 args))):=by
 (refine aap a afa rfl rfl λcdv A outer s H E hr=>?_;have nd:=(afa).nd);refine aO ?_ ?_;. (with_reducible refine jC ?_ ?_ ?_);exact pX (jW (dq e hr (aQ (sv 0) (aQ (sv 1) (aQ (sv 2) aA rfl) rfl) rfl)));(· lia;(· ((with_reducible refine U3 ?_);exact tO));exact aq);exact aq
 lia;. ((with_reducible refine U3 ?_);exact mJ rfl hc (by rfl) fJ (cB (N':=["net","last","closed","way"]) hc (qi rfl (by rfl)) (cJ (ao (sv 0) aa)) (λ_ _ _ _ _=>aL (i:=3) ‹["net","last","closed","way"]› rfl (df rfl) (dQ rfl)) (bh (cI)) (λ_ _ _ _ _=>cH) (λ_ _ _ _ _=>(au dU (ao (sv 3) aa) (dq b hr (aQ (sv 3) (aQ (sv 2) aA rfl) rfl))))))
 exact aq
noncomputable abbrev s22:ft:=top 30
noncomputable def b22:List S:=[.asg 2 (.comp (.qC ⇑0 (.idx ↑0 ⇑0)) 1 [3] cq (aU (.cmp .wg ↑3 ↑1)) ↑3),.ret (.comp (.qC ⇑0 (.idx ↑0 ⇑0)) 1 [3] cq cr (.M8 (.cmp .inn ↑3 ↑1) ⇑0 (.bin .add (.YZ 2 ↑3) ⇑1)))]
noncomputable def f22:Fd:=⟨2,3,b22⟩
theorem adC:aJ ["net","starts","others"] ["net","starts"] (az s22):={}
include cl in
theorem d22(a:gY K "joined_places" "joined_places" s22 f fd)(aN:mg "range"=cr):(pH Pg w K mg base Jk (k+1) f fd ["net","starts"] (Nq K 2 (λargs=>enter c n f22 args))):=by
 (refine aap a adC rfl rfl λcdv A outer s H E hr=>?_;have nd:=(adC).nd);refine aO ?_ ?_;. (with_reducible refine dZ (i:=2) ?_ ?_ ?_ ?_ ?_ ?_);exact nd;exact rfl;exact dQ rfl;rotate_left;rfl;exact oi;exact cB (N':=["net","starts","others","place"]) hc (qi rfl (by rfl)) (dm rfl (by rfl) aN (ao (sv 0) aa)) (λ_ _ _ _ _=>aL (i:=3) ‹["net","starts","others","place"]› rfl (df rfl) (dQ rfl)) (bh (cI)) (λ_ _ _ _ _=>ig (bY pM (sv 3) (sv 1) (by with_unfolding_all rfl))) (λ_ _ _ _ _=>(sv 3))
 lia;. ((with_reducible refine U3 ?_);exact cB (N':=["net","starts","others","place"]) hc (qi rfl (by rfl)) (dm rfl (by rfl) aN (ao (sv 0) aa)) (λ_ _ _ _ _=>aL (i:=3) ‹["net","starts","others","place"]› rfl (df rfl) (dQ rfl)) (bh (cI)) (λ_ _ _ _ _=>cH) (λ_ _ _ _ _=>(pW (bY rA (sv 3) (sv 1) (by with_unfolding_all rfl)) aa (au aW (Ve (k:=2) rfl (by (first|exact df rfl|exact dQ (df rfl))) (sv 3)) aa))))
 exact aq
noncomputable abbrev s23:ft:=top 31
noncomputable def b23:List S:=[.asg 2 (.call 22 [↑0,↑1]),.asg 3 (.comp (.idx ↑0 ⇑1) 1 [4] cq cr (.tup [.idx ↑2 (.idx ↑4 ⇑0),.idx ↑2 (.idx ↑4 ⇑1),.idx ↑4 ⇑2,.idx ↑4 ⇑3])),.ret (.tup [.bin .add (.blt .Mj [↑2]) ⇑1,.blt .tuple [.comp ↑3 1 [4] cq (aU (.cmp .ne (.idx ↑4 ⇑0) (.idx ↑4 ⇑1))) ↑4]])]
noncomputable def f23:Fd:=⟨2,4,b23⟩
theorem afz:aJ ["net","starts","joined","ways"] ["net","starts"] (az s23):={}
include cl in
theorem d23(a:gY K "joined_net" "joined_net" s23 f fd)(dJ:mg "max"=cr)(bT:mg "tuple"=cr)(b:(aR Pg w K mg base k c 22 ("joined_places") 2)):(pH Pg w K mg base Jk (k+1) f fd ["net","starts"] (Nq K 2 (λargs=>enter c n f23 args))):=by
 (refine aap a afz rfl rfl λcdv A outer s H E hr=>?_;have nd:=(afz).nd);refine aO ?_ ?_;. (with_reducible refine dZ (i:=2) ?_ ?_ ?_ ?_ ?_ ?_);exact nd;exact rfl;exact dQ rfl;rotate_left;rfl;exact oi;exact dq b hr (aQ (sv 0) (aQ (sv 1) aA rfl) rfl)
 lia;.exact(lM (i:=3) (N':=["net","starts","joined","ways","way"]) hc nd rfl oi (qi rfl (by rfl)) (cJ (ao (sv 0) aa)) (λ_ _ _ _ _=>aL (i:=4) ‹["net","starts","joined","ways","way"]› rfl (df rfl) (dQ rfl)) (bh (cI)) (λ_ _ _ _ _=>cH) (λ_ _ _ _ _=>(dY (cW (ao (sv 2) (ao (sv 4) aa)) (cW (ao (sv 2) (ao (sv 4) aa)) (cW (ao (sv 4) aa) (cW (ao (sv 4) aa) aP rfl) rfl) rfl) rfl))) (by rfl) (by intro _;rfl) (df rfl))
 lia;. ((with_reducible refine U3 ?_);exact dY (cW (au aW (Qo rfl hc (by rfl) dJ (sv 2)) aa) (cW (gQ rfl (by rfl) bT (cB (N':=["net","starts","joined","ways","way"]) hc (qi rfl (by rfl)) (cJ (sv 3)) (λ_ _ _ _ _=>aL (i:=4) ‹["net","starts","joined","ways","way"]› rfl (df rfl) (dQ rfl)) (bh (cI)) (λ_ _ _ _ _=>ig (bY (ux (bV hr)) (ao (sv 4) aa) (ao (sv 4) aa) (cT _))) (λ_ _ _ _ _=>(sv 4)))) aP rfl) rfl))
 exact aq
noncomputable abbrev s24:ft:=top 32
noncomputable def b24:List S:=[.ret (.call 15 [.call 23 [↑0,↑1],↑2])]
noncomputable def Yz:Fd:=⟨3,3,b24⟩
theorem af4:aJ ["net","starts","last"] ["net","starts","last"] (az s24):={}
include cl in
theorem d24(a:gY K "most_from" "most_from" s24 f fd)(b:(aR Pg w K mg base k c 23 ("joined_net") 2))(e:(aR Pg w K mg base k c 15 ("most_by") 2)):(pH Pg w K mg base Jk (k+1) f fd ["net","starts","last"] (Nq K 3 (λargs=>enter c n Yz args))):=by
 (refine aap a af4 rfl rfl λcdv A outer s H E hr=>?_;have nd:=(af4).nd);refine aO ?_ ?_;. ((with_reducible refine U3 ?_);exact dq e hr (aQ (dq b hr (aQ (sv 0) (aQ (sv 1) aA rfl) rfl)) (aQ (sv 2) aA rfl) rfl))
 exact aq
noncomputable abbrev s25:ft:=top 33
noncomputable def b25:List S:=[.asg 3 (.call 18 [.call 23 [↑0,↑1],↑2]),.ret (.comp (.call 22 [↑0,↑1]) 1 [4] cq cr (.idx ↑3 ↑4))]
noncomputable def f25:Fd:=⟨3,4,b25⟩
theorem afL:aJ ["net","starts","last","closed"] ["net","starts","last"] (az s25):={}
include cl in
theorem d25(a:gY K "closed_from" "closed_from" s25 f fd)(b:(aR Pg w K mg base k c 18 ("closed_hours") 2))(e:(aR Pg w K mg base k c 23 ("joined_net") 2))(g:(aR Pg w K mg base k c 22 ("joined_places") 2)):(pH Pg w K mg base Jk (k+1) f fd ["net","starts","last"] (Nq K 3 (λargs=>enter c n f25 args))):=by
 (refine aap a afL rfl rfl λcdv A outer s H E hr=>?_;have nd:=(afL).nd);refine aO ?_ ?_;. (with_reducible refine dZ (i:=3) ?_ ?_ ?_ ?_ ?_ ?_);exact nd;exact rfl;exact dQ rfl;rotate_left;rfl;exact oi;exact dq b hr (aQ (dq e hr (aQ (sv 0) (aQ (sv 1) aA rfl) rfl)) (aQ (sv 2) aA rfl) rfl)
 lia;. ((with_reducible refine U3 ?_);exact cB (N':=["net","starts","last","closed","place"]) hc (qi rfl (by rfl)) (cJ (dq g hr (aQ (sv 0) (aQ (sv 1) aA rfl) rfl))) (λ_ _ _ _ _=>aL (i:=4) ‹["net","starts","last","closed","place"]› rfl (df rfl) (dQ rfl)) (bh (cI)) (λ_ _ _ _ _=>cH) (λ_ _ _ _ _=>(ao (sv 3) (sv 4))))
 exact aq
noncomputable abbrev s26:ft:=top 34
noncomputable def b26:List S:=[.ifs (.or (.cmp .ne (.blt .len [↑3]) (.idx ↑0 ⇑0)) (.not (.blt .all [.comp ↑1 1 [5] cq cr (.cmp .eq (.idx ↑3 ↑5) ⇑0)]))) [.ret (.con .non)] [],.asg 4 (.comp (.enm ↑3) 2 [5,6] a_ (aU (.cmp .wg ↑5 ↑1)) ↑6),.ret (.call 21 [.call 23 [↑0,↑1],↑2,.bin .add (.lst [⇑0]) ↑4])]
noncomputable def f26:Fd:=⟨4,5,b26⟩
theorem aey:aJ ["net","starts","last","closed","others"] ["net","starts","last","closed"] (az s26):={}
include cl in
theorem d26(a:gY K "from_sum" "from_sum" s26 f fd)(wz:mg "all"=cr)(lz:mg "enumerate"=cr)(dH:mg "len"=cr)(b:(aR Pg w K mg base k c 21 ("closed_sum") 3))(e:(aR Pg w K mg base k c 23 ("joined_net") 2)):(pH Pg w K mg base Jk (k+1) f fd ["net","starts","last","closed"] (Nq K 4 (λargs=>enter c n f26 args))):=by
 (refine aap a aey rfl rfl λcdv A outer s H E hr=>?_;have nd:=(aey).nd);refine aO ?_ ?_;. (with_reducible refine jC ?_ ?_ ?_);exact SW.st (vh (bY (ux (bV hr)) (j7 rfl (by rfl) dH (sv 3)) (ao (sv 0) aa) (cT _)) (sS (pX (jW (JZ rfl hc (by rfl) wz (cB (N':=["net","starts","last","closed","others","place"]) hc (qi rfl (by rfl)) (cJ (sv 1)) (λ_ _ _ _ _=>aL (i:=5) ‹["net","starts","last","closed","others","place"]› rfl (df rfl) (dQ rfl)) (bh (cI)) (λ_ _ _ _ _=>cH) (λ_ _ _ _ _=>(BV (V5 (bV hr)) (ao (sv 3) (sv 5)) aa (cT _)))))))));(· lia;(· ((with_reducible refine U3 ?_);exact tO));exact aq);exact aq
 lia;.exact(lM (i:=4) (N':=["net","starts","last","closed","others","place","hour"]) hc nd rfl oi (qi rfl (by rfl)) (U9 rfl (by rfl) lz (sv 3)) (λ_ _ _ _ _=>mZ hc (cN (aL (i:=5) ‹["net","starts","last","closed","others","place","hour"]› rfl (df rfl) (dQ rfl)) (cN (aL (i:=6) ‹["net","starts","last","closed","others","place","hour"]› rfl (df rfl) (dQ rfl)) jc))) (wD rfl (iK (show 5<=5 by decide) (iK (show 5<=6 by decide) xJ))) (λ_ _ _ _ _=>ig (bY pM (sv 5) (sv 1) (by with_unfolding_all rfl))) (λ_ _ _ _ _=>(sv 6)) (by rfl) (by intro _;rfl) (df rfl))
 lia;. ((with_reducible refine U3 ?_);exact dq b hr (aQ (dq e hr (aQ (sv 0) (aQ (sv 1) aA rfl) rfl)) (aQ (sv 2) (aQ (au aW (dh (cW aa aP rfl)) (sv 4)) aA rfl) rfl) rfl))
 exact aq
noncomputable abbrev s27:ft:=top 36
noncomputable def b27:List S:=[.ret (.lst [.blt .max2 [⇑0,.bin .sub ↑0 (.bin .pow ⇑10 ⇑18)],.bin .mod ↑0 (.bin .pow ⇑10 ⇑18),⇑0])]
noncomputable def f27:Fd:=⟨1,1,b27⟩
theorem afj:aJ ["cell"] ["cell"] (az s27):={}
include cl in
theorem d27(a:gY K "_law_pool" "_law_pool" s27 f fd)(dJ:mg "max"=cr):(pH Pg w K mg base Jk (k+1) f fd ["cell"] (Nq K 1 (λargs=>enter c n f27 args))):=by
 (refine aap a afj rfl rfl λcdv A outer s H E hr=>?_;have nd:=(afj).nd);refine aO ?_ ?_;. ((with_reducible refine U3 ?_);exact dh (cW (lJ rfl hc (by rfl) dJ (cW aa (cW (au dG (sv 0) (au jt aa aa)) aP rfl) rfl)) (cW (au fW (sv 0) (au jt aa aa)) (cW aa aP rfl) rfl) rfl))
 exact aq
noncomputable abbrev s28:ft:=top 37
noncomputable def b28:List S:=[.ifs (.cmp .gt (.idx ↑0 ⇑0) ⇑0) [.asg 2 (.bin .mod (.idx ↑0 ⇑0) ↑1),.Hx 0 ⇑0 (.bin .fdiv (.idx ↑0 ⇑0) ↑1),.ret ↑2] [],.Hx 0 ⇑2 (.bin .add (.idx ↑0 ⇑2) ⇑1),.asg 3 (.bin .mod (.bin .add (.idx ↑0 ⇑1) (.bin .mul ⇑7919 (.idx ↑0 ⇑2))) ⇑1000000007),.asg 4 (.bin .mod (.bin .mul (.bin .add ↑3 ⇑11) (.bin .add ↑3 ⇑48271)) ⇑998244353),.ret (.bin .mod (.bin .fdiv (.bin .mod (.bin .mul ↑4 ↑4) ⇑2147483647) ⇑8) ↑1)]
noncomputable def f28:Fd:=⟨2,5,b28⟩
theorem afh:aJ ["pool","base","digit","near","stir"] ["pool","base"] (az s28):={}
include cl in
theorem d28(a:gY K "_law_next" "_law_next" s28 f fd):(pH Pg w K mg base Jk (k+1) f fd ["pool","base"] (Nq K 2 (λargs=>enter c n f28 args))):=by
 (refine aap a afh rfl rfl λcdv A outer s H E hr=>?_;have nd:=(afh).nd);refine aO ?_ ?_;. (with_reducible refine jC ?_ ?_ ?_);exact bY m5 (ao (sv 0) aa) aa (cT _);(· lia;(· ((with_reducible refine dZ (i:=2) ?_ ?_ ?_ ?_ ?_ ?_);exact nd;exact rfl;exact oi;rotate_left;rfl;exact oi;exact au fW (ao (sv 0) aa) (sv 1)));(· lia;exact xM (k:=0) rfl (by (first|exact df rfl|exact dQ (df rfl))) aa (au zT (ao (sv 0) aa) (sv 1));(· lia;(· ((with_reducible refine U3 ?_);exact sv 2));exact aq)));exact aq
 lia;.exact(xM (k:=0) rfl (by (first|exact df rfl|exact dQ (df rfl))) aa (au aW (ao (sv 0) aa) aa))
 lia;. ((with_reducible refine dZ (i:=3) ?_ ?_ ?_ ?_ ?_ ?_);exact nd;exact rfl;exact oi;rotate_left;rfl;exact oi;exact au fW (au aW (ao (sv 0) aa) (au dU aa (ao (sv 0) aa))) aa)
 lia;. ((with_reducible refine dZ (i:=4) ?_ ?_ ?_ ?_ ?_ ?_);exact nd;exact rfl;exact oi;rotate_left;rfl;exact oi;exact au fW (au dU (au aW (sv 3) aa) (au aW (sv 3) aa)) aa)
 lia;. ((with_reducible refine U3 ?_);exact au fW (au zT (au fW (au dU (sv 4) (sv 4)) aa) aa) (sv 1))
 exact aq
noncomputable abbrev s29:ft:=top 38
noncomputable def b29:List S:=[.ret (.bin .mod (.bin .add (.bin .mul (.call 28 [↑0,⇑1000000]) ⇑1000000) (.call 28 [↑0,⇑1000000])) ↑1)]
noncomputable def f29:Fd:=⟨2,2,b29⟩
theorem aeD:aJ ["pool","base"] ["pool","base"] (az s29):={}
include cl in
theorem d29(b:gY K "_law_wide" "_law_wide" s29 f fd)(a:(aR Pg w K mg base k c 28 ("_law_next") 2)):(pH Pg w K mg base Jk (k+1) f fd ["pool","base"] (Nq K 2 (λargs=>enter c n f29 args))):=by
 (refine aap b aeD rfl rfl λcdv A outer s H E hr=>?_;have nd:=(aeD).nd);refine aO ?_ ?_;. ((with_reducible refine U3 ?_);exact au fW (au aW (au dU (dq a hr (aQ (sv 0) (aQ aa aA rfl) rfl)) aa) (dq a hr (aQ (sv 0) (aQ aa aA rfl) rfl))) (sv 1))
 exact aq
noncomputable abbrev s30:ft:=top 39
noncomputable def b30:List S:=[.asg 4 (.bin .add ⇑2 (.call 28 [↑0,⇑5])),.asg 5 (.lst []),.jJ (.qC ⇑0 (.idx (.lst [↑1,.call 28 [↑0,.bin .add ↑1 ⇑1]]) (.call 28 [↑0,⇑2]))) [6] cq [.asg 7 (.call 28 [↑0,↑4]),.asg 8 (.bin .mod (.bin .add (.bin .add ↑7 ⇑1) (.call 28 [↑0,.bin .sub ↑4 ⇑1])) ↑4),.ifs (.cmp .gt (.call 28 [↑0,⇑4]) ⇑0) [.par 7 8 (.blt .min2 [↑7,↑8]) (.blt .max2 [↑7,↑8])] [],.app 5 (.tup [↑7,↑8,.call 29 [↑0,↑2],.bin .add ⇑1 (.call 29 [↑0,↑3])])],.ret (.tup [↑4,.blt .tuple [↑5]])]
noncomputable def f30:Fd:=⟨4,9,b30⟩
theorem adD:aJ ["pool","most","rooms","hours","many","ways","k","one","other"] ["pool","most","rooms","hours"] (az s30):={}
include cl in
theorem d30(e:gY K "_law_net" "_law_net" s30 f fd)(dJ:mg "max"=cr)(dI:mg "min"=cr)(aN:mg "range"=cr)(bT:mg "tuple"=cr)(a:(aR Pg w K mg base k c 28 ("_law_next") 2))(b:(aR Pg w K mg base k c 29 ("_law_wide") 2)):(pH Pg w K mg base Jk (k+1) f fd ["pool","most","rooms","hours"] (Nq K 4 (λargs=>enter c n f30 args))):=by
 (refine aap e adD rfl rfl λcdv A outer s H E hr=>?_;have nd:=(adD).nd);refine aO ?_ ?_;. ((with_reducible refine dZ (i:=4) ?_ ?_ ?_ ?_ ?_ ?_);exact nd;exact rfl;exact oi;rotate_left;rfl;exact oi;exact au aW aa (dq a hr (aQ (sv 0) (aQ aa aA rfl) rfl)))
 lia;. ((with_reducible refine dZ (i:=5) ?_ ?_ ?_ ?_ ?_ ?_);exact nd;exact rfl;exact oi;rotate_left;rfl;exact oi;exact dh aP)
 lia;. ((with_reducible refine Ny (i:=6) ?_ ?_ ?_ ?_ ?_ ?_ ?_ ?_ ?_);exact er;exact hc;exact nd;exact rfl;exact oi;exact dm rfl (by rfl) aN (ao (dh (cW (sv 1) (cW (dq a hr (aQ (sv 0) (aQ (au aW (sv 1) aa) aA rfl) rfl)) aP rfl) rfl)) (dq a hr (aQ (sv 0) (aQ aa aA rfl) rfl)));rotate_left;(· intro _;rfl);exact oi);(· lia;(· ((with_reducible refine dZ (i:=7) ?_ ?_ ?_ ?_ ?_ ?_);exact nd;exact rfl;exact oi;rotate_left;rfl;exact oi;exact dq a hr (aQ (sv 0) (aQ (sv 4) aA rfl) rfl)));(· lia;(· ((with_reducible refine dZ (i:=8) ?_ ?_ ?_ ?_ ?_ ?_);exact nd;exact rfl;exact oi;rotate_left;rfl;exact oi;exact au fW (au aW (au aW (sv 7) aa) (dq a hr (aQ (sv 0) (aQ (au dG (sv 4) aa) aA rfl) rfl))) (sv 4)));(· lia;(· (with_reducible refine jC ?_ ?_ ?_);exact bY m5 (dq a hr (aQ (sv 0) (aQ aa aA rfl) rfl)) aa (cT _);(· lia;exact Wo (i:=7) (j:=8) hc nd rfl rfl (by decide) rfl rfl (lR rfl hc (by rfl) dI (cW (sv 7) (cW (sv 8) aP rfl) rfl)) (lJ rfl hc (by rfl) dJ (cW (sv 7) (cW (sv 8) aP rfl) rfl));exact aq);exact aq);(· lia;exact eU (k:=5) rfl (by (first|exact df rfl|exact dQ (df rfl))) (dY (cW (sv 7) (cW (sv 8) (cW (dq b hr (aQ (sv 0) (aQ (sv 2) aA rfl) rfl)) (cW (au aW aa (dq b hr (aQ (sv 0) (aQ (sv 3) aA rfl) rfl))) aP rfl) rfl) rfl) rfl));exact aq))))
 lia;. ((with_reducible refine U3 ?_);exact dY (cW (sv 4) (cW (gQ rfl (by rfl) bT (sv 5)) aP rfl) rfl))
 exact aq
noncomputable abbrev s31:ft:=top 40
noncomputable def b31:List S:=[.ret (.blt .tuple [.comp (.qC ⇑0 (.bin .sub ↑1 ⇑1)) 1 [2] cq (aU (.cmp .gt (.call 28 [↑0,⇑3]) ⇑0)) ↑2])]
noncomputable def f31:Fd:=⟨2,2,b31⟩
theorem adw:aJ ["pool","many"] ["pool","many"] (az s31):={}
include cl in
theorem d31(a:gY K "_law_starts" "_law_starts" s31 f fd)(aN:mg "range"=cr)(bT:mg "tuple"=cr)(b:(aR Pg w K mg base k c 28 ("_law_next") 2)):(pH Pg w K mg base Jk (k+1) f fd ["pool","many"] (Nq K 2 (λargs=>enter c n f31 args))):=by
 (refine aap a adw rfl rfl λcdv A outer s H E hr=>?_;have nd:=(adw).nd);refine aO ?_ ?_;. ((with_reducible refine U3 ?_);exact gQ rfl (by rfl) bT (cB (N':=["pool","many","place"]) hc (qi rfl (by rfl)) (dm rfl (by rfl) aN (au dG (sv 1) aa)) (λ_ _ _ _ _=>aL (i:=2) ‹["pool","many","place"]› rfl (df rfl) (dQ rfl)) (bh (cI)) (λ_ _ _ _ _=>ig (bY m5 (dq b hr (aQ (sv 0) (aQ aa aA rfl) rfl)) aa (cT _))) (λ_ _ _ _ _=>(sv 2))))
 exact aq
noncomputable abbrev s32:ft:=top 41
noncomputable def b32:List S:=[.asg 1 (.idx (.lst [⇑2,⇑4,⇑30,.bin .add (.bin .pow ⇑10 ⇑9) ⇑1]) (.call 28 [↑0,⇑4])),.asg 2 (.idx (.lst [⇑2,⇑3,⇑5,.bin .pow ⇑10 ⇑6]) (.call 28 [↑0,⇑4])),.ret (.call 30 [↑0,⇑12,↑1,↑2])]
noncomputable def f32:Fd:=⟨1,3,b32⟩
theorem ae7:aJ ["pool","rooms","hours"] ["pool"] (az s32):={}
include cl in
theorem d32(b:gY K "_law_drawn" "_law_drawn" s32 f fd)(e:(aR Pg w K mg base k c 30 ("_law_net") 4))(a:(aR Pg w K mg base k c 28 ("_law_next") 2)):(pH Pg w K mg base Jk (k+1) f fd ["pool"] (Nq K 1 (λargs=>enter c n f32 args))):=by
 (refine aap b ae7 rfl rfl λcdv A outer s H E hr=>?_;have nd:=(ae7).nd);refine aO ?_ ?_;. ((with_reducible refine dZ (i:=1) ?_ ?_ ?_ ?_ ?_ ?_);exact nd;exact rfl;exact oi;rotate_left;rfl;exact oi;exact ao (dh (yc [2,4,30] rfl (cW (au aW (au jt aa aa) aa) aP rfl))) (dq a hr (aQ (sv 0) (aQ aa aA rfl) rfl)))
 lia;. ((with_reducible refine dZ (i:=2) ?_ ?_ ?_ ?_ ?_ ?_);exact nd;exact rfl;exact oi;rotate_left;rfl;exact oi;exact ao (dh (yc [2,3,5] rfl (cW (au jt aa aa) aP rfl))) (dq a hr (aQ (sv 0) (aQ aa aA rfl) rfl)))
 lia;. ((with_reducible refine U3 ?_);exact dq e hr (aQ (sv 0) (aQ aa (aQ (sv 1) (aQ (sv 2) aA rfl) rfl) rfl) rfl))
 exact aq
noncomputable abbrev s33:ft:=top 42
noncomputable def b33:List S:=[.asg 4 (.lst []),.jJ (.qC ⇑0 (.bin .sub ↑1 ⇑1)) [5] cq [.app 4 (.bin .mul (.call 29 [↑0,.bin .add ↑3 ⇑2]) (.blt .int [.cmp .wg ↑5 ↑2]))],.ret (.bin .add ↑4 (.lst [.bin .add ↑3 ⇑1]))]
noncomputable def f33:Fd:=⟨4,6,b33⟩
theorem aeJ:aJ ["pool","many","starts","last","found","place"] ["pool","many","starts","last"] (az s33):={}
include cl in
theorem d33(a:gY K "_law_any_closed" "_law_any_closed" s33 f fd)(Mw:mg "int"=cr)(aN:mg "range"=cr)(b:(aR Pg w K mg base k c 29 ("_law_wide") 2)):(pH Pg w K mg base Jk (k+1) f fd ["pool","many","starts","last"] (Nq K 4 (λargs=>enter c n f33 args))):=by
 (refine aap a aeJ rfl rfl λcdv A outer s H E hr=>?_;have nd:=(aeJ).nd);refine aO ?_ ?_;. ((with_reducible refine dZ (i:=4) ?_ ?_ ?_ ?_ ?_ ?_);exact nd;exact rfl;exact oi;rotate_left;rfl;exact oi;exact dh aP)
 lia;. ((with_reducible refine Ny (i:=5) ?_ ?_ ?_ ?_ ?_ ?_ ?_ ?_ ?_);exact er;exact hc;exact nd;exact rfl;exact oi;exact dm rfl (by rfl) aN (au dG (sv 1) aa);rotate_left;(· intro _;rfl);exact oi);(· lia;exact eU (k:=4) rfl (by (first|exact df rfl|exact dQ (df rfl))) (au dU (dq b hr (aQ (sv 0) (aQ (au aW (sv 3) aa) aA rfl) rfl)) (Oe rfl (by rfl) Mw (BV pM (sv 5) (sv 2) (by with_unfolding_all rfl))));exact aq)
 lia;. ((with_reducible refine U3 ?_);exact au aW (sv 4) (dh (cW (au aW (sv 3) aa) aP rfl)))
 exact aq
noncomputable abbrev s34:ft:=top 43
noncomputable def b34:List S:=[.asg 4 (.call 25 [↑0,↑1,↑3]),.asg 5 (.call 25 [↑0,↑2,↑3]),.asg 6 (.comp (.qC ⇑0 (.idx ↑0 ⇑0)) 1 [12] cq cr (.blt .min2 [.idx ↑4 ↑12,.idx ↑5 ↑12])),.asg 7 (.comp (.qC ⇑0 (.idx ↑0 ⇑0)) 1 [12] cq cr (.blt .max2 [.idx ↑4 ↑12,.idx ↑5 ↑12])),.asg 8 (.blt .tuple [.blt .sset [.bin .add ↑1 ↑2]]),.asg 9 (.blt .tuple [.comp ↑1 1 [12] cq (aU (.cmp .inn ↑12 ↑2)) ↑12]),.asg 10 (.lst [.call 26 [↑0,↑8,↑3,↑6],.call 26 [↑0,↑9,↑3,↑7]]),.asg 11 (.lst [.call 26 [↑0,↑1,↑3,↑4],.call 26 [↑0,↑2,↑3,↑5]]),.ifs (.cmp .inn (.con .non) (.bin .add ↑10 ↑11)) [.ret (.con (.bl a_))] [],.ret (.cmp .le (.blt .sum [↑10]) (.blt .sum [↑11]))]
noncomputable def f34:Fd:=⟨4,12,b34⟩
theorem adL:aJ ["net","one","other","last","here","there","low","high","both","common","sums","own"] ["net","one","other","last"] (az s34):={}
include cl in
theorem d34(e:gY K "_law_two_closed" "_law_two_closed" s34 f fd)(dJ:mg "max"=cr)(dI:mg "min"=cr)(aN:mg "range"=cr)(uJ:mg "set"=cr)(dR:mg "sorted"=cr)(fJ:mg "sum"=cr)(bT:mg "tuple"=cr)(b:(aR Pg w K mg base k c 25 ("closed_from") 3))(a:(aR Pg w K mg base k c 26 ("from_sum") 4)):(pH Pg w K mg base Jk (k+1) f fd ["net","one","other","last"] (Nq K 4 (λargs=>enter c n f34 args))):=by
 (refine aap e adL rfl rfl λcdv A outer s H E hr=>?_;have nd:=(adL).nd);refine aO ?_ ?_;. (with_reducible refine dZ (i:=4) ?_ ?_ ?_ ?_ ?_ ?_);exact nd;exact rfl;exact dQ rfl;rotate_left;rfl;exact oi;exact dq b hr (aQ (sv 0) (aQ (sv 1) (aQ (sv 3) aA rfl) rfl) rfl)
 lia;. (with_reducible refine dZ (i:=5) ?_ ?_ ?_ ?_ ?_ ?_);exact nd;exact rfl;exact dQ rfl;rotate_left;rfl;exact oi;exact dq b hr (aQ (sv 0) (aQ (sv 2) (aQ (sv 3) aA rfl) rfl) rfl)
 lia;.exact(lM (i:=6) (N':=["net","one","other","last","here","there","low","high","both","common","sums","own","place"]) hc nd rfl oi (qi rfl (by rfl)) (dm rfl (by rfl) aN (ao (sv 0) aa)) (λ_ _ _ _ _=>aL (i:=12) ‹["net","one","other","last","here","there","low","high","both","common","sums","own","place"]› rfl (df rfl) (dQ rfl)) (bh (cI)) (λ_ _ _ _ _=>cH) (λ_ _ _ _ _=>(lR rfl hc (by rfl) dI (cW (ao (sv 4) (sv 12)) (cW (ao (sv 5) (sv 12)) aP rfl) rfl))) (by rfl) (by intro _;rfl) (df rfl))
 lia;.exact(lM (i:=7) (N':=["net","one","other","last","here","there","low","high","both","common","sums","own","place"]) hc nd rfl oi (qi rfl (by rfl)) (dm rfl (by rfl) aN (ao (sv 0) aa)) (λ_ _ _ _ _=>aL (i:=12) ‹["net","one","other","last","here","there","low","high","both","common","sums","own","place"]› rfl (df rfl) (dQ rfl)) (bh (cI)) (λ_ _ _ _ _=>cH) (λ_ _ _ _ _=>(lJ rfl hc (by rfl) dJ (cW (ao (sv 4) (sv 12)) (cW (ao (sv 5) (sv 12)) aP rfl) rfl))) (by rfl) (by intro _;rfl) (df rfl))
 lia;. ((with_reducible refine dZ (i:=8) ?_ ?_ ?_ ?_ ?_ ?_);exact nd;exact rfl;exact oi;rotate_left;rfl;exact oi;exact gQ rfl (by rfl) bT (DR rfl rfl hc (by rfl) dR (by rfl) uJ (au aW (sv 1) (sv 2))))
 lia;. ((with_reducible refine dZ (i:=9) ?_ ?_ ?_ ?_ ?_ ?_);exact nd;exact rfl;exact oi;rotate_left;rfl;exact oi;exact gQ rfl (by rfl) bT (cB (N':=["net","one","other","last","here","there","low","high","both","common","sums","own","place"]) hc (qi rfl (by rfl)) (cJ (sv 1)) (λ_ _ _ _ _=>aL (i:=12) ‹["net","one","other","last","here","there","low","high","both","common","sums","own","place"]› rfl (df rfl) (dQ rfl)) (bh (cI)) (λ_ _ _ _ _=>ig (bY rA (sv 12) (sv 2) (by with_unfolding_all rfl))) (λ_ _ _ _ _=>(sv 12))))
 lia;. ((with_reducible refine dZ (i:=10) ?_ ?_ ?_ ?_ ?_ ?_);exact nd;exact rfl;exact oi;rotate_left;rfl;exact oi;exact dh (cW (dq a hr (aQ (sv 0) (aQ (sv 8) (aQ (sv 3) (aQ (sv 6) aA rfl) rfl) rfl) rfl)) (cW (dq a hr (aQ (sv 0) (aQ (sv 9) (aQ (sv 3) (aQ (sv 7) aA rfl) rfl) rfl) rfl)) aP rfl) rfl))
 lia;. ((with_reducible refine dZ (i:=11) ?_ ?_ ?_ ?_ ?_ ?_);exact nd;exact rfl;exact oi;rotate_left;rfl;exact oi;exact dh (cW (dq a hr (aQ (sv 0) (aQ (sv 1) (aQ (sv 3) (aQ (sv 4) aA rfl) rfl) rfl) rfl)) (cW (dq a hr (aQ (sv 0) (aQ (sv 2) (aQ (sv 3) (aQ (sv 5) aA rfl) rfl) rfl) rfl)) aP rfl) rfl))
 lia;. (with_reducible refine jC ?_ ?_ ?_);exact bY rA tO (au aW (sv 10) (sv 11)) (by with_unfolding_all rfl);(· lia;(· ((with_reducible refine U3 ?_);exact lX));exact aq);exact aq
 lia;. ((with_reducible refine U3 ?_);exact BV iz (mJ rfl hc (by rfl) fJ (sv 10)) (mJ rfl hc (by rfl) fJ (sv 11)) (cT _))
 exact aq
noncomputable abbrev s35:ft:=top 44
noncomputable def b35:List S:=[.asg 3 (.comp (.qC ⇑0 ⇑4) 1 [5] cq cr (.call 24 [↑0,↑1,.bin .add ↑2 ↑5])),.asg 4 (.comp (.qC ⇑0 ⇑3) 1 [5] cq cr (.bin .sub (.idx ↑3 (.bin .add ↑5 ⇑1)) (.idx ↑3 ↑5))),.ret (.p6 .le .le .le ⇑0 (.idx ↑4 ⇑0) (.idx ↑4 ⇑1) (.idx ↑4 ⇑2))]
noncomputable def f35:Fd:=⟨3,5,b35⟩
theorem adU:aJ ["net","starts","last","tops","gains"] ["net","starts","last"] (az s35):={}
include cl in
theorem d35(a:gY K "_law_growing" "_law_growing" s35 f fd)(aN:mg "range"=cr)(b:(aR Pg w K mg base k c 24 ("most_from") 3)):(pH Pg w K mg base Jk (k+1) f fd ["net","starts","last"] (Nq K 3 (λargs=>enter c n f35 args))):=by
 (refine aap a adU rfl rfl λcdv A outer s H E hr=>?_;have nd:=(adU).nd);refine aO ?_ ?_;. (with_reducible refine dZ (i:=3) ?_ ?_ ?_ ?_ ?_ ?_);exact nd;exact rfl;exact dQ rfl;rotate_left;rfl;exact oi;exact cB (N':=["net","starts","last","tops","gains","k"]) hc (qi rfl (by rfl)) (dm rfl (by rfl) aN aa) (λ_ _ _ _ _=>aL (i:=5) ‹["net","starts","last","tops","gains","k"]› rfl (df rfl) (dQ rfl)) (bh (cI)) (λ_ _ _ _ _=>cH) (λ_ _ _ _ _=>(dq b hr (aQ (sv 0) (aQ (sv 1) (aQ (au aW (sv 2) (sv 5)) aA rfl) rfl) rfl)))
 lia;.exact(lM (i:=4) (N':=["net","starts","last","tops","gains","k"]) hc nd rfl oi (qi rfl (by rfl)) (dm rfl (by rfl) aN aa) (λ_ _ _ _ _=>aL (i:=5) ‹["net","starts","last","tops","gains","k"]› rfl (df rfl) (dQ rfl)) (bh (cI)) (λ_ _ _ _ _=>cH) (λ_ _ _ _ _=>(au dG (ao (sv 3) (au aW (sv 5) aa)) (ao (sv 3) (sv 5)))) (by rfl) (by intro _;rfl) (df rfl))
 lia;. ((with_reducible refine U3 ?_);exact GX iz iz iz aa (ao (sv 4) aa) (ao (sv 4) aa) (ao (sv 4) aa))
 exact aq
noncomputable abbrev s36:ft:=top 45
noncomputable def b36:List S:=[.asg 2 (.bin .mul (.lst [⇑0]) ↑1),.jJ (.qC ⇑0 (.blt .len [↑0])) [3] cq [.Hx 2 (.bin .mod ↑3 ↑1) (.bin .add (.bin .mul (.idx ↑2 (.bin .mod ↑3 ↑1)) ⇑1000003) (.idx ↑0 ↑3))],.ret (.slice ↑2 (.con .non) (.blt .max2 [⇑1,.blt .min2 [.blt .len [↑0],↑1]]))]
noncomputable def f36:Fd:=⟨2,4,b36⟩
theorem afx:aJ ["script","most","cells","k"] ["script","most"] (az s36):={}
include cl in
theorem d36(a:gY K "_law_folded" "_law_folded" s36 f fd)(dH:mg "len"=cr)(dJ:mg "max"=cr)(dI:mg "min"=cr)(aN:mg "range"=cr):(pH Pg w K mg base Jk (k+1) f fd ["script","most"] (Nq K 2 (λargs=>enter c n f36 args))):=by
 (refine aap a afx rfl rfl λcdv A outer s H E hr=>?_;have nd:=(afx).nd);refine aO ?_ ?_;. ((with_reducible refine dZ (i:=2) ?_ ?_ ?_ ?_ ?_ ?_);exact nd;exact rfl;exact oi;rotate_left;rfl;exact oi;exact au dU (dh (cW aa aP rfl)) (sv 1))
 lia;. ((with_reducible refine Ny (i:=3) ?_ ?_ ?_ ?_ ?_ ?_ ?_ ?_ ?_);exact er;exact hc;exact nd;exact rfl;exact oi;exact dm rfl (by rfl) aN (j7 rfl (by rfl) dH (sv 0));rotate_left;(· intro _;rfl);exact oi);(· lia;exact xM (k:=2) rfl (by (first|exact df rfl|exact dQ (df rfl))) (au fW (sv 3) (sv 1)) (au aW (au dU (ao (sv 2) (au fW (sv 3) (sv 1))) aa) (ao (sv 0) (sv 3)));exact aq)
 lia;. ((with_reducible refine U3 ?_);exact yN (sv 2) Eu (Ex (lJ rfl hc (by rfl) dJ (cW aa (cW (lR rfl hc (by rfl) dI (cW (j7 rfl (by rfl) dH (sv 0)) (cW (sv 1) aP rfl) rfl)) aP rfl) rfl))))
 exact aq
noncomputable abbrev s37:ft:=top 46
noncomputable def b37:List S:=[.jJ (.call 36 [↑0,⇑8]) [1] cq [.asg 2 (.call 27 [↑1]),.asg 3 (.call 32 [↑2]),.asg 4 (.call 31 [↑2,.idx ↑3 ⇑0]),.asg 5 (.call 31 [↑2,.idx ↑3 ⇑0]),.asg 6 (.lst [.call 28 [↑2,⇑4],.call 28 [↑2,⇑13],.call 29 [↑2,.bin .pow ⇑10 ⇑8]]),.app 6 (.bin .sub (.bin .sub (.bin .mul ⇑2 (.bin .pow ⇑10 ⇑18)) ⇑3) (.call 29 [↑2,.bin .pow ⇑10 ⇑12])),.asg 7 (.idx ↑6 (.call 28 [↑2,⇑4])),.asg 8 (.blt .tuple [.blt .sset [.bin .add ↑4 ↑5]]),.asg 9 (.blt .tuple [.comp ↑4 1 [13] cq (aU (.cmp .inn ↑13 ↑5)) ↑13]),.asg 10 (.comp (.lst [↑9,↑4,↑5,↑8]) 1 [13] cq cr (.call 24 [↑3,↑13,↑7])),.ifs (.or (.not (.cmp .le (.idx ↑10 ⇑0) (.blt .min2 [.idx ↑10 ⇑1,.idx ↑10 ⇑2]))) (.not (.cmp .le (.blt .max2 [.idx ↑10 ⇑1,.idx ↑10 ⇑2]) (.idx ↑10 ⇑3)))) [.ret (.con (.bl a_))] [],.ifs (.or (.cmp .gt (.bin .add (.idx ↑10 ⇑0) (.idx ↑10 ⇑3)) (.bin .add (.idx ↑10 ⇑1) (.idx ↑10 ⇑2))) (.not (.call 35 [↑3,↑4,↑7]))) [.ret (.con (.bl a_))] [],.ifs (.not (.call 34 [↑3,↑4,↑5,↑7])) [.ret (.con (.bl a_))] [],.jJ (.qC ⇑0 ⇑3) [11] cq [.asg 12 (.call 33 [↑2,.idx ↑3 ⇑0,↑4,↑7]),.ifs (.cmp .lt (.call 26 [↑3,↑4,↑7,↑12]) (.idx ↑10 ⇑1)) [.ret (.con (.bl a_))] []]],.ret (.con (.bl cq))]
noncomputable def f37:Fd:=⟨1,13,b37⟩
theorem aeP:aJ ["script","cell","pool","net","one","other","some","last","both","common","tops","k","closed"] ["script"] (az s37):={}
include cl in
theorem d37(g:gY K "law" "law" s37 f fd)(dJ:mg "max"=cr)(dI:mg "min"=cr)(aN:mg "range"=cr)(uJ:mg "set"=cr)(dR:mg "sorted"=cr)(bT:mg "tuple"=cr)(h:(aR Pg w K mg base k c 33 ("_law_any_closed") 4))(j:(aR Pg w K mg base k c 32 ("_law_drawn") 1))(l:(aR Pg w K mg base k c 36 ("_law_folded") 2))(m:(aR Pg w K mg base k c 35 ("_law_growing") 3))(a:(aR Pg w K mg base k c 28 ("_law_next") 2))(o:(aR Pg w K mg base k c 27 ("_law_pool") 1))(b:(aR Pg w K mg base k c 31 ("_law_starts") 2))(p:(aR Pg w K mg base k c 34 ("_law_two_closed") 4))(e:(aR Pg w K mg base k c 29 ("_law_wide") 2))(q:(aR Pg w K mg base k c 26 ("from_sum") 4))(r:(aR Pg w K mg base k c 24 ("most_from") 3)):(pH Pg w K mg base Jk (k+1) f fd ["script"] (Nq K 1 (λargs=>enter c n f37 args))):=by
 (refine aap g aeP rfl rfl λcdv A outer s H E hr=>?_;have nd:=(aeP).nd);refine aO ?_ ?_;. ((with_reducible refine Ny (i:=1) ?_ ?_ ?_ ?_ ?_ ?_ ?_ ?_ ?_);exact er;exact hc;exact nd;exact rfl;exact oi;exact cJ (dq l hr (aQ (sv 0) (aQ aa aA rfl) rfl));rotate_left;(· intro _;rfl);exact oi);(· lia;(· ((with_reducible refine dZ (i:=2) ?_ ?_ ?_ ?_ ?_ ?_);exact nd;exact rfl;exact oi;rotate_left;rfl;exact oi;exact dq o hr (aQ (sv 1) aA rfl)));(· lia;(· (with_reducible refine dZ (i:=3) ?_ ?_ ?_ ?_ ?_ ?_);exact nd;exact rfl;exact dQ rfl;rotate_left;rfl;exact oi;exact dq j hr (aQ (sv 2) aA rfl));(· lia;(· ((with_reducible refine dZ (i:=4) ?_ ?_ ?_ ?_ ?_ ?_);exact nd;exact rfl;exact oi;rotate_left;rfl;exact oi;exact dq b hr (aQ (sv 2) (aQ (ao (sv 3) aa) aA rfl) rfl)));(· lia;(· (with_reducible refine dZ (i:=5) ?_ ?_ ?_ ?_ ?_ ?_);exact nd;exact rfl;exact dQ rfl;rotate_left;rfl;exact oi;exact dq b hr (aQ (sv 2) (aQ (ao (sv 3) aa) aA rfl) rfl));(· lia;(· ((with_reducible refine dZ (i:=6) ?_ ?_ ?_ ?_ ?_ ?_);exact nd;exact rfl;exact oi;rotate_left;rfl;exact oi;exact dh (cW (dq a hr (aQ (sv 2) (aQ aa aA rfl) rfl)) (cW (dq a hr (aQ (sv 2) (aQ aa aA rfl) rfl)) (cW (dq e hr (aQ (sv 2) (aQ (au jt aa aa) aA rfl) rfl)) aP rfl) rfl) rfl)));(· lia;exact eU (k:=6) rfl (by (first|exact df rfl|exact dQ (df rfl))) (au dG (au dG (au dU aa (au jt aa aa)) aa) (dq e hr (aQ (sv 2) (aQ (au jt aa aa) aA rfl) rfl)));(· lia;(· (with_reducible refine dZ (i:=7) ?_ ?_ ?_ ?_ ?_ ?_);exact nd;exact rfl;exact dQ rfl;rotate_left;rfl;exact oi;exact ao (sv 6) (dq a hr (aQ (sv 2) (aQ aa aA rfl) rfl)));(· lia;(· ((with_reducible refine dZ (i:=8) ?_ ?_ ?_ ?_ ?_ ?_);exact nd;exact rfl;exact oi;rotate_left;rfl;exact oi;exact gQ rfl (by rfl) bT (DR rfl rfl hc (by rfl) dR (by rfl) uJ (au aW (sv 4) (sv 5)))));(· lia;(· ((with_reducible refine dZ (i:=9) ?_ ?_ ?_ ?_ ?_ ?_);exact nd;exact rfl;exact oi;rotate_left;rfl;exact oi;exact gQ rfl (by rfl) bT (cB (N':=["script","cell","pool","net","one","other","some","last","both","common","tops","k","closed","place"]) hc (qi rfl (by rfl)) (cJ (sv 4)) (λ_ _ _ _ _=>aL (i:=13) ‹["script","cell","pool","net","one","other","some","last","both","common","tops","k","closed","place"]› rfl (df rfl) (dQ rfl)) (bh (cI)) (λ_ _ _ _ _=>ig (bY rA (sv 13) (sv 5) (by with_unfolding_all rfl))) (λ_ _ _ _ _=>(sv 13)))));(· lia;exact lM (i:=10) (N':=["script","cell","pool","net","one","other","some","last","both","common","tops","k","closed","starts"]) hc nd rfl oi (qi rfl (by rfl)) (cJ (dh (cW (sv 9) (cW (sv 4) (cW (sv 5) (cW (sv 8) aP rfl) rfl) rfl) rfl))) (λ_ _ _ _ _=>aL (i:=13) ‹["script","cell","pool","net","one","other","some","last","both","common","tops","k","closed","starts"]› rfl (df rfl) (dQ rfl)) (bh (cI)) (λ_ _ _ _ _=>cH) (λ_ _ _ _ _=>(dq r hr (aQ (sv 3) (aQ (sv 13) (aQ (sv 7) aA rfl) rfl) rfl))) (by rfl) (by intro _;rfl) (df rfl);(· lia;(· (with_reducible refine jC ?_ ?_ ?_);exact SW.st (vh (pX (bY iz (ao (sv 10) aa) (lR rfl hc (by rfl) dI (cW (ao (sv 10) aa) (cW (ao (sv 10) aa) aP rfl) rfl)) (cT _))) (sS (pX (bY iz (lJ rfl hc (by rfl) dJ (cW (ao (sv 10) aa) (cW (ao (sv 10) aa) aP rfl) rfl)) (ao (sv 10) aa) (cT _)))));(· lia;(· ((with_reducible refine U3 ?_);exact lX));exact aq);exact aq);(· lia;(· (with_reducible refine jC ?_ ?_ ?_);exact SW.st (vh (bY m5 (au aW (ao (sv 10) aa) (ao (sv 10) aa)) (au aW (ao (sv 10) aa) (ao (sv 10) aa)) (cT _)) (sS (pX (jW (dq m hr (aQ (sv 3) (aQ (sv 4) (aQ (sv 7) aA rfl) rfl) rfl))))));(· lia;(· ((with_reducible refine U3 ?_);exact lX));exact aq);exact aq);(· lia;(· (with_reducible refine jC ?_ ?_ ?_);exact pX (jW (dq p hr (aQ (sv 3) (aQ (sv 4) (aQ (sv 5) (aQ (sv 7) aA rfl) rfl) rfl) rfl)));(· lia;(· ((with_reducible refine U3 ?_);exact lX));exact aq);exact aq);(· lia;(· ((with_reducible refine Ny (i:=11) ?_ ?_ ?_ ?_ ?_ ?_ ?_ ?_ ?_);exact er;exact hc;exact nd;exact rfl;exact oi;exact dm rfl (by rfl) aN aa;rotate_left;(· intro _;rfl);exact oi);(· lia;(· ((with_reducible refine dZ (i:=12) ?_ ?_ ?_ ?_ ?_ ?_);exact nd;exact rfl;exact oi;rotate_left;rfl;exact oi;exact dq h hr (aQ (sv 2) (aQ (ao (sv 3) aa) (aQ (sv 4) (aQ (sv 7) aA rfl) rfl) rfl) rfl)));(· lia;(· (with_reducible refine jC ?_ ?_ ?_);exact bY (Iv (bV hr)) (dq q hr (aQ (sv 3) (aQ (sv 4) (aQ (sv 7) (aQ (sv 12) aA rfl) rfl) rfl) rfl)) (ao (sv 10) aa) (cT _);(· lia;(· ((with_reducible refine U3 ?_);exact lX));exact aq);exact aq);exact aq)));exact aq))))))))))))))
 lia;. ((with_reducible refine U3 ?_);exact lX)
 exact aq
end _T
end
noncomputable section
namespace _T
open PySem _L Spec PyProof.Rows _H
noncomputable def Γ:Tab:=λi=>[f0,f1,f2,f3,f4,f5,f6,f7,f8,f9,f10,f11,f12,f13,f14,f15,f16,f17,f18,f19,f20,f21,f22,f23,Yz,f25,f26,f27,f28,f29,f30,f31,f32,f33,f34,f35,f36,f37][i]?
end _T
end
noncomputable section
namespace _T
open _H
variable{w n j N l:Nat}{z m a b g p i k:Int}{Q:R->List Sl->Prop}{ch ns cl A B:List Int}{F q:Int->Int}{ρ:List Sl}{kvs r:List (Int×Int)}
noncomputable abbrev big:Int:=1606938044258990275541962092341162602522202993782792835301376
theorem cO{x y:Int}(h0:0<m)(c:m<big)(k:∀d x z:Int,0<=d->d<m->Q (.val (.int d)) [.own cq [.int x,.int y,.int z],.val a_ (.int m)]):(run Γ w (n+1) 28 [.own cq [.int x,.int y,.int z],.val a_ (.int m)]).sat Q:=by
 have e:m<1606938044258990275541962092341162602522202993782792835301376:=c;refine aM (d:=f28) rfl rfl (by decide) ?_;(first|apply ak|apply G9);simp[f28];constructor;.intro _;(first|apply ak|apply G9);simp[h0];apply ak;simp[h0,e,jE];apply ak;simp;exact k _ _ _ (oT _ (by omega)) (m_ _ h0)
 . intro _;(first|apply ak|apply G9);simp[jE];apply ak;simp;generalize o:(y+7919*(z+1))%1000000007=q;have s:0<=q/\q<1000000007:=by omega
   have f:-18446744073709551616<q+11/\q+11<18446744073709551616:=by omega
   (first|apply ak|apply G9);simp[f];generalize hs:(q+11)*(q+48271)%998244353=st;have h:-18446744073709551616<st/\st<18446744073709551616:=by omega
   (first|apply ak|apply G9);simp[h,h0];exact k _ _ _ (oT _ (by omega)) (m_ _ h0)
theorem Kl{x:Int}(k:∀a b c:Int,Q (.own [.int a,.int b,.int c]) [.val a_ (.int x)]):(run Γ w (n+1) 27 [.val a_ (.int x)]).sat Q:=by refine aM (d:=f27) rfl rfl (by decide) ?_;(first|apply ak|apply G9);simp[f27];exact k _ _ _
structure Wy where(s t r h:Int)
variable{ws:List Wy}{v:Wy}
noncomputable def Wy.d(w:Wy):D:=.tup [.int w.s,.int w.t,.int w.r,.int w.h]
structure Wy.Ok(m:Int)(w:Wy):Prop where
 s0:0<=w.s
 s1:w.s<m
 t0:0<=w.t
 t1:w.t<m
 ne:w.s≠w.t
 r0:0<=w.r
 r1:w.r<=1000000000
 h0:1<=w.h
 h1:w.h<=1000000
theorem other(h1:0<=a)(c:a<m)(f:0<=b)(o:b<m-1):0<=(a+1+b)%m/\(a+1+b)%m<m/\(a+1+b)%m≠a:=by
 by_cases h:a+1+b<m;.rw[Int.emod_eq_of_lt (by omega) h];omega
 . have e:(a+1+b)%m=a+1+b-m:=by rw[<-Int.sub_emod_right,Int.emod_eq_of_lt (by omega) (by omega)]
   rw[e];omega
noncomputable def aV(m:Int)(ws:List Wy):D:=.tup [.int m,.tup (ws.map Wy.d)]
structure cX(m:Int)(ws:List Wy):Prop where
 m0:2<=m
 m1:m<=7
 len:ws.length<=12
 ok:∀w∈ws,w.Ok m
@[simp]theorem aho{m:Int}{ws:List Wy}:M4 (aV m ws) (.int 0)=aU (.val (.int m)):=rfl
@[simp]theorem ahb{m:Int}{ws:List Wy}:M4 (aV m ws) (.int 1)=aU (.val (.tup (ws.map Wy.d))):=rfl
noncomputable def gf(j:Nat)(f:Bool):D:=.tup [.int j,.bl f]
noncomputable def frm(v:Wy)(f:Bool):Int:=if f then v.s else v.t
noncomputable def too(v:Wy)(f:Bool):Int:=if f then v.t else v.s
theorem mO{f:Bool}(e:ws[j]?=aU v)(k:Q (.val (.tup [.int (frm v f),.int (too v f)])) [.val a_ (aV m ws),.val a_ (gf j f)]):(run Γ w (n+1) 0 [.val a_ (aV m ws),.val a_ (gf j f)]).sat Q:=by refine aM (d:=f0) rfl rfl (by decide) ?_;(first|apply ak|apply G9);simp[f0,gf,jy e];apply ak;cases f with|true=>simp[Wy.d];exact k|false=>simp[Wy.d];exact k
noncomputable def hsp(v:Wy)(f:Bool):Int:=if f then v.h else-v.h
theorem vL{f:Bool}(e:ws[j]?=aU v)(k:Q (.val (.int (hsp v f))) [.val a_ (aV m ws),.val a_ (gf j f)]):(run Γ w (n+1) 1 [.val a_ (aV m ws),.val a_ (gf j f)]).sat Q:=by refine aM (d:=f1) rfl rfl (by decide) ?_;(first|apply ak|apply G9);simp[f1,gf,jy e,Wy.d];apply ak;cases f with|true=>simp;exact k|false=>simp;exact k
noncomputable def Rg(s:Sl)(fs:List Int):Prop:=s=.val a_ (.lst (fs.map D.int))\/∃b,s=.own b (fs.map D.int)
noncomputable def oh(v:Wy)(g:Int)(f:Bool):Int:=if f then v.r-g else g
theorem vX{f:Bool}{s:Sl}{fs:List Int}(hs:Rg s fs)(e:ws[j]?=aU v)(c:fs[j]?=aU g)(k:Q (.val (.int (oh v g f))) [.val a_ (aV m ws),s,.val a_ (gf j f)]):(run Γ w (n+1) 2 [.val a_ (aV m ws),s,.val a_ (gf j f)]).sat Q:=by refine aM (d:=f2) rfl rfl (by decide) ?_;(first|apply ak|apply G9);rcases hs with rfl|⟨b,rfl⟩;all_goals simp[f2,gf,jy c];apply ak;cases f with|true=>simp[jy e,Wy.d];exact k|false=>simp;exact k
@[simp]theorem abL{c:Call}{n x k:Nat}{src h:P}{is:List Nat}{one:Bool}{ρ:List Sl}:ex c n (.Mq x src k is one h) ρ=(srcOf (isVar src) (ev c src) ρ).bind λds e=>if ds.length<=lim then(gR is one (ev c h) ds [] (e++cE k .aX)).bind λo f=>(lift (put (bA ρ (isVar src) (f.take e.length)) x (.hold o)) ρ).bind λs _=>.ok .next s else .stuck:=(rfl)
@[simp]theorem acr{c:Call}{n:Nat}{src:P}{is:List Nat}{one:Bool}{body:List S}{ρ:List Sl}:ex c n (.Hy src is one body) ρ=(ev c src ρ).bind λr e=>(lift (items r.d) e).bind λds e=>jl is one (iG c n body) ds e:=(rfl)
@[simp]theorem adV{c:Call}{n x:Nat}{ρ:List Sl}:ex c n (.dw x) ρ=match ρ[x]?with|some (.hold e)=>.ok .next (ρ.set x (.val a_ (.lst (e.map D.lst))))|_=>.stuck:=(rfl)
@[simp]theorem abC{c:Call}{n x:Nat}{i e:P}{ρ:List Sl}:ex c n (.Mr x i e) ρ=(bW (isVar i) (ev c i) ρ).bind λk ρ=>(lift (wH ρ x k) ρ).bind λ_ ρ=>(ev c e ρ).bind λr ρ=>Gs ρ x ((jA ρ x).bind λf=>(gB k).bind λk=>kJ f k λrow=>if row.length<lim then aU (row++[r.d])else cr):=(rfl)
@[simp]theorem acI{a:Sl}{l:List Sl}{x:Nat}:jA (a::l) x=match(a::l)[x]?with|some (.hold c)=>aU c|_=>cr:=rfl
@[simp]theorem Yd{ρ:List Sl}{x:Nat}{c:List (List D)}:Gs ρ x (aU c)=.ok .next (ρ.set x (.hold c)):=rfl
@[simp]theorem aeB{a:Sl}{l:List Sl}{x:Nat}{k:Int}:wH (a::l) x (.int k)=match(a::l)[x]?with|some (.hold c)=>rowAt c k|_=>cr:=by unfold wH jA;cases h:(a::l)[x]?with|none=>rfl|some s=>cases s<;>rfl
theorem tH{is:List Nat}{one:Bool}{o:Ev}(J:List Sl->Prop)(g:D->List D){Q:List (List D)->List Sl->Prop}:∀{ds:List D}{c:List (List D)}{ρ:List Sl},J ρ->(∀d,d∈ds->∀ρ,J ρ->∃f,cP ρ is one d=aU f/\(o f).sat λr s=>r=.own (g d)/\J s)->(∀ρ,J ρ->Q (c++ds.map g) ρ)->(gR is one o ds c ρ).sat Q|[],c,ρ,j,h,k=>by rw[Iz];simpa using k ρ j|d::r,c,ρ,j,h,k=>by obtain⟨f,e,h1⟩:=h d (by simp) ρ j;rw[Ks,e];show((o f).bind _).sat Q;rw[bU];refine h1.imp λx s⟨y,j3⟩=>?_;subst y;exact tH J g j3 (λd' t=>h d' (by simp[t])) λu C=>by simpa using k u C
@[simp]theorem af3{c:Call}{x:Nat}{k:P}{ρ:List Sl}:ev c (.R7 x k) ρ=match ρ[x]?with
 |some (.cU _)=>(bW (isVar k) (ev c k) ρ).bind λe ρ=>match ρ[x]?with|some (.cU kvs)=>lift ((gB e).bind λk=>(mD kvs k).map .val) ρ|_=>.stuck
 |_=>.stuck:=(rfl)
noncomputable def pY(kvs:List (Int×D))(k:Int):Bool:=(kvs.map (·.1)).contains k
noncomputable def Hu(kvs:List (Int×D)):List Int:=kvs.map (·.1)
noncomputable def dsV(kvs:List (Int×D)):List D:=kvs.map (·.2)
@[simp]theorem aeq{c:Call}{x:Nat}{k:P}{neg:Bool}{ρ:List Sl}:ev c (.R8 x k neg) ρ=(bW (isVar k) (ev c k) ρ).bind λe ρ=>match ρ[x]?with|some (.cU kvs)=>lift ((gB e).map λk=>.val (.bl (if neg then !pY kvs k else pY kvs k))) ρ|_=>.stuck:=(rfl)
@[simp]theorem abV{c:Call}{k e:Int}{ρ:List Sl}:ev c (.CV k e) ρ=.ok (.val (.dv [k] [.int e])) ρ:=(rfl)
@[simp]theorem ahO{c:Call}{x:Nat}{ρ:List Sl}:ev c (.vw x) ρ=match ρ[x]?with|some (.ie m)=>.ok (.val (.dN m)) (ρ.set x (.val a_ (.dN m)))|some (.cU kvs)=>.ok (.val (.dv (Hu kvs) (dsV kvs))) (ρ.set x (.val a_ (.dv (Hu kvs) (dsV kvs))))|some (.own b ds)=>.ok (.val (.lst ds)) (ρ.set x (.val b (.lst ds)))|some (.val _ d)=>.ok (.val d) ρ|_=>.stuck:=(rfl)
@[simp]theorem ab6{c:Call}{n x:Nat}{ρ:List Sl}:ex c n (.Hz x) ρ=match ρ[x]?with|some .aX=>.ok .next (ρ.set x (.cU []))|some (.cU _)=>.ok .next (ρ.set x (.cU []))|some (.val a_ _)=>.ok .next (ρ.set x (.cU []))|_=>.stuck:=(rfl)
@[simp]theorem ace{c:Call}{n x:Nat}{k e:P}{ρ:List Sl}:ex c n (.gA x k e) ρ=(ev c e ρ).bind λr ρ=>match ρ[x]?with
 |some (.cU _)=>(bW (isVar k) (ev c k) ρ).bind λf ρ=>match ρ[x]?,f with|some (.cU kvs),.int k=>if kvs.length<lim then .ok .next (ρ.set x (.cU (gA kvs k r.d)))else .stuck|_,_=>.stuck
 |_=>.stuck:=(rfl)
@[simp]theorem acC{c:Call}{n x:Nat}{i e:P}{sub:Bool}{ρ:List Sl}:ex c n (.Mm x i sub e) ρ=(lift (HQ ρ x) ρ).bind λ_ ρ=>(bW (isVar i) (ev c i) ρ).bind λk ρ=>(lift (HQ ρ x) ρ).bind λl ρ=>(lift ((gB k).bind λi=>at' l i) ρ).bind λa ρ=>(bW (isVar e) (ev c e) ρ).bind λb ρ=>match a,b,ρ[x]?,k with
 |.int u,.int v,aU (.own f ds),.int k=>match jE ds.length k with|some j=>.ok .next (ρ.set x (.own f (ds.set j (.int (if sub then u-v else u+v)))))|none=>.stuck
 |_,_,_,_=>.stuck:=(rfl)
@[simp]theorem YG{x:Nat}{k:P}:isVar (.R7 x k)=cr:=rfl
@[simp]theorem Yg{x:Nat}{k:P}{b:Bool}:isVar (.R8 x k b)=cr:=rfl
@[simp]theorem aaN{x:Nat}:isVar (.vw x)=cr:=rfl
@[simp]theorem Vx{k e:Int}:isVar (.CV k e)=cr:=rfl
@[simp]theorem afE{kvs:List (Int×D)}:fr (.cU kvs)=a_:=rfl
@[simp]theorem acg{r:List (List D)}:fr (.hold r)=a_:=rfl
@[simp]theorem aaP:nT .Af=Ez:=rfl
@[simp]theorem abI:nT .din=zF a_:=rfl
@[simp]theorem Zo{ks:List Int}{ds:List D}{k:Int}:Ez (.dv ks ds) (.int k)=(mD (ks.zip ds) k).map .val:=rfl
@[simp]theorem ac1{ks:List Int}{ds:List D}{k:Int}:zF a_ (.int k) (.dv ks ds)=aU (.val (.bl (ks.contains k))):=rfl
@[simp]theorem YF{ks:List Int}{ds:List D}:blt .keys [.dv ks ds]=aU (.val (.tup (ks.map D.int))):=rfl
@[simp]theorem acH{ks:List Int}{ds:List D}:blt .YW [.dv ks ds]=if ks.length<=16777216 then aU (.own (ks.map D.int))else cr:=rfl
@[simp]theorem abN{ds:List D}:blt .rvT [.lst ds]=aU (.val (.tup ds.reverse)):=rfl
@[simp]theorem Xq{kvs:List (Int×D)}{x:Option Sl}:eG (.cU kvs) x=.cU kvs:=by cases x<;>rfl
@[simp]theorem Th{r:List (List D)}{x:Option Sl}:eG (.hold r) x=.hold r:=by cases x<;>rfl
structure HN(m:Int)(ws:List Wy):Prop where
 m0:2<=m
 m1:m<=7
 len:ws.length<=12
 ok:∀w∈ws,(0<=w.s/\w.s<m)/\(0<=w.t/\w.t<m)/\0<=w.h
theorem HN.of(h:cX m ws):HN m ws:=⟨h.m0,h.m1,h.len,λw c=>by have:=h.ok w c;exact⟨⟨this.s0,this.s1⟩,⟨this.t0,this.t1⟩,by have:=this.h0;omega⟩⟩
noncomputable abbrev aB:=Nat×Bool
variable{s:aB}{x:Nat×(Option aB×Int)}{o:Option aB×Int}{c:List aB}{cs:List (List aB×Int)}
noncomputable def sD(s:aB):D:=gf s.1 s.2
noncomputable def jP(ws:List Wy)(fs:List Int)(p:Int)(s:aB):Bool:=match ws[s.1]?,fs[s.1]?with|some v,aU g=>decide (frm v s.2=p)&&decide (0<oh v g s.2)|_,_=>a_
theorem mK{fs:List Int}(e:ws[s.1]?=aU v)(f:fs[s.1]?=aU g):jP ws fs p s=(decide (frm v s.2=p)&&decide (0<oh v g s.2)):=by unfold jP;rw[e,f]
noncomputable def jK(ws:List Wy)(fs:List Int)(M:Nat)(l:List aB):List (List aB):=(dE M).map λ(p:Nat)=>l.filter (jP ws fs (p:Int))
noncomputable def rD(l:List (List aB)):List (List D):=l.map λr=>r.map sD
noncomputable def iB(N:Nat):List aB:=(dE N).flatMap λj=>[(j,cq),(j,a_)]
theorem vq:iB (N+1)=(iB N++[(N,cq)])++[(N,a_)]:=by simp[iB,range_succ]
theorem zW:(iB N).length=2*N:=by induction N with|zero=>rfl|succ N e=>rw[vq];simp[e];omega
theorem S7(h:HN m ws)(e:ws[j]?=aU v)(f:Bool):0<=frm v f/\frm v f<m:=by have:=h.ok v (eh e);cases f<;>simp only[frm]<;>simp<;>omega
theorem Km(h:HN m ws)(e:ws[j]?=aU v)(f:Bool):0<=too v f/\too v f<m:=by have:=h.ok v (eh e);cases f<;>simp only[too]<;>simp<;>omega
theorem Lf{fs:List Int}{M:Nat}{l:List aB}(e:ws[s.1]?=aU v)(f:fs[s.1]?=aU g)(h:¬ 0<oh v g s.2):jK ws fs M (l++[s])=jK ws fs M l:=by unfold jK;refine hB λp _=>?_;rw[nS];simp[mK e f,h]
theorem PX{fs:List Int}{l:List aB}(e:ws[s.1]?=aU v)(t:fs[s.1]?=aU g)(h:0<oh v g s.2)(u:0<=frm v s.2/\frm v s.2<m)(G:l.length<1000):(∃row,rowAt (rD (jK ws fs m.toNat l)) (frm v s.2)=aU row)/\kJ (rD (jK ws fs m.toNat l)) (frm v s.2) (λrow=>if row.length<lim then aU (row++[sD s])else cr)=aU (rD (jK ws fs m.toNat (l++[s]))):=by
 have f:(rD (jK ws fs m.toNat l)).length=m.toNat:=by simp[rD,jK]
 have y:jE (rD (jK ws fs m.toNat l)).length (frm v s.2)=aU (frm v s.2).toNat:=by unfold jE;rw[f,if_pos u.1,if_pos (by omega)]
 have C:(rD (jK ws fs m.toNat l))[(frm v s.2).toNat]?=aU ((l.filter (jP ws fs (frm v s.2))).map sD):=by simp[rD,jK,show(frm v s.2).toNat<m.toNat by omega,hY u.1]
 refine⟨⟨_,by unfold rowAt;rw[y];exact C⟩,?_⟩;unfold kJ;rw[y];show((rD (jK ws fs m.toNat l))[(frm v s.2).toNat]?).bind _=_;rw[C];have E:((l.filter (jP ws fs (frm v s.2))).map sD).length<lim:=by have:=jS (jP ws fs (frm v s.2)) l;rw[dy];show _<16777216;omega
 show Option.map _ (if _ then _ else _)=_;rw[if_pos E];show aU _=aU _;congr 1;refine lw (by simp[rD,jK]) λi H I=>?_;rw[List.getElem_set];by_cases c:(frm v s.2).toNat=i
 . rw[if_pos c];have:(i:Int)=frm v s.2:=by omega
   simp[rD,jK,this,nS,mK e t,h]
 . rw[if_neg c];have:¬ frm v s.2=(i:Int):=by omega
   simp[rD,jK,nS,mK e t,this]
inductive JOp(m:Int)(ws:List Wy)(fs:List Int)(s:Sl)(i:Nat)(ρ:List Sl):Prop where|mk(s3 s4:Sl)(q0:ρ=[.val a_ (aV m ws),s,.hold (rD (jK ws fs m.toNat (iB i))),s3,s4])(q1:fr s3=cq)(q2:fr s4=cq)
inductive JOq(m:Int)(ws:List Wy)(fs:List Int)(s:Sl)(i:Nat)(r:List D)(ρ:List Sl):Prop where|mk(l us:List aB)(s4:Sl)(q0:ρ=[.val a_ (aV m ws),s,.hold (rD (jK ws fs m.toNat l)),.val a_ (.int i),s4])(q1:fr s4=cq)(q2:r=us.map sD)(q3:l++us=iB (i+1))(q4:∀u∈us,u.1=i)
inductive F1n(a b c d e:Sl)(ρ:List Sl):Prop where|mk(s:Sl)(q0:ρ=[a,b,c,d,e,s])(q1:fr s=cq)
theorem Jp{s:Sl}{fs:List Int}(hs:Rg s fs)(h:HN m ws)(X:fs.length=ws.length)(k:Q (.val (.lst ((rD (jK ws fs m.toNat (iB ws.length))).map D.lst))) [.val a_ (aV m ws),s]):(run Γ w (n+2) 4 [.val a_ (aV m ws),s]).sat Q:=by
 have Y:=h.len;have m0:=h.m0;have m1:=h.m1;refine aM (d:=f4) rfl rfl (by decide) ?_;refine fC (λρ=>ρ=[.val a_ (aV m ws),s,.hold (rD (jK ws fs m.toNat (iB 0))),.aX,.aX]) ?_ ?_
 . simp[f4,show m<=1000000000 by omega,show-1000000000<=m by omega];refine⟨λ_=>?_,by omega⟩;rw[bU];refine tH (F1n _ _ _ _ _) (λ_=>[]) ⟨.aX,rfl,rfl⟩ ?_ ?_;.rintro d hd _⟨M,rfl,t⟩;simp[t];exact⟨_,rfl,rfl⟩
   .rintro _⟨M,rfl,t⟩;simp[rD,jK,iB]
 rintro _ rfl;refine fC (JOp m ws fs s ws.length) ?_ ?_
 . simp[show(ws.length:Int)<=1000000000 by omega];refine iQ (JOp m ws fs s) ?_ ?_ ⟨.aX,.aX,rfl,rfl,rfl⟩
   . rintro i _ hi⟨s3,s4,rfl,G,f⟩;have H:i<fs.length:=by omega
     have y:ws[i]?=aU ws[i]:=by simp[hi]
     have I:fs[i]?=aU fs[i]:=by simp[H]
     generalize ws[i]=v at*;generalize fs[i]=g at*;simp[G];apply ak;simp;refine dj (JOq m ws fs s i) ?_ ?_ ⟨iB i,[(i,cq),(i,a_)],s4,rfl,f,rfl,by rw[vq];simp,by simp⟩;.rintro d r _⟨l,e,s4,rfl,f,hr,C,hu⟩;cases e with|nil=>cases hr|cons u e=>
         obtain⟨rfl,rfl⟩:d=sD u/\r=e.map sD:=by simpa using hr
         obtain rfl:=hu u (by simp);have E:(l++[u])++e=iB (u.1+1):=by rw[fK];exact C
         have J:l.length<1000:=by have:=congrArg me C;rw[zW]at this;simp at this;omega
         simp[f];apply ak;rcases hs with rfl|⟨b,rfl⟩;all_goals
          simp[sD];refine vX (by first|exact .inl rfl|exact .inr ⟨_,rfl⟩) y I ?_;simp;refine⟨λho=>?_,λho=>?_⟩;.obtain⟨⟨row,O⟩,U⟩:=PX (ws:=ws) (fs:=fs) (l:=l) y I ho (S7 h y u.2) J;(first|apply ak|apply G9);simp;refine mO y ?_;simp[O];have W:kJ (rD (jK ws fs m.toNat l)) (frm v u.2) (λrow=>if row.length<lim then aU (row++[gf u.1 u.2])else cr)=_:=U;rw[W];simp;exact⟨l++[u],e,_,rfl,rfl,rfl,E,λx L=>hu x (by simp[L])⟩
          .exact⟨l++[u],e,_,by rw[Lf y I (by omega)],rfl,rfl,E,λx L=>hu x (by simp[L])⟩
     . rintro _⟨l,e,s4,rfl,f,hr,C,hu⟩;have:e=[]:=by cases e with|nil=>rfl|cons _ _=>cases hr
       subst this;rw[gN]at C;subst C;simp;exact⟨_,_,rfl,rfl,f⟩
   .rintro _⟨s3,s4,rfl,G,f⟩;exact⟨rfl,_,_,rfl,G,f⟩
 rintro _⟨s3,s4,rfl,G,f⟩;(first|apply ak|apply G9);simp;apply ak;simp;exact k
noncomputable abbrev En:=Int×Nat×(Option aB×Int)
variable{es wA:List En}
noncomputable def oS:Option aB->D|none=>.non|some s=>sD s
noncomputable def Al(e:En):D:=.tup [.int e.2.2.2,.int (e.2.1:Int),oS e.2.2.1]
noncomputable def en(e:En):Int×D:=(e.1,Al e)
noncomputable def iT(es:List En):D:=.dv (es.map (·.1)) (es.map Al)
noncomputable def BW(p:Int):Int×D:=(p,.bl cq)
@[simp]theorem T9{l:List Int}:Hu (l.map BW)=l:=by simp[Hu,BW,iE]
theorem BP{l:List En}:Hu (l.map en)=l.map (·.1):=by simp[Hu,en,iE]
theorem tZ{l:List En}:pY (l.map en) p=cq↔∃n o,(p,n,o)∈l:=by show(Hu (l.map en)).contains p=cq↔_;rw[BP];simp
theorem kin_no{l:List En}(h:¬ ∃n o,(p,n,o)∈l):pY (l.map en) p=a_:=by cases e:pY (l.map en) p with|false=>rfl|true=>exact absurd (tZ.mp e) h
theorem wN{t:Type}{p:Int}{x y:t}:∀{l:List (Int×t)},(l.map (·.1)).Nodup->(p,x)∈l->(p,y)∈l->x=y
 |[],_,h,_=>by cases h|e::l,f,h1,h2=>by
   rw[dl,fk]at f;rcases da.mp h1 with h1|h1<;>rcases da.mp h2 with h2|h2;.rw[<-h2]at h1;cases h1;rfl
   .exact absurd (de.mpr ⟨_,h2,by rw[<-h1]⟩) f.1
   .exact absurd (de.mpr ⟨_,h1,by rw[<-h2]⟩) f.1
   .exact wN f.2 h1 h2
theorem rB{p:Int}{x:Nat×(Option aB×Int)}:∀{l:List En},(l.map (·.1)).Nodup->(p,x)∈l->mD (l.map en) p=aU (Al (p,x))
 |[],_,h=>by cases h|e::l,f,h=>by
   have t:=f;rw[dl,fk]at f;unfold mD;rw[dl,hQ];by_cases c:e.1=p;.obtain⟨q,y⟩:=e;cases c;have:=wN t h (by simp:(q,y)∈(q,y)::l);subst this;simp[en]
   . have h':(p,x)∈l:=by
      rcases da.mp h with h|h;.exact absurd (by rw[<-h]) c
      .exact h
     simp[en,c];have:=rB f.2 h';unfold mD at this;simpa[en]using this
theorem oU{kvs:List (Int×D)}{d:D}(h:pY kvs p=a_):gA kvs p d=kvs++[(p,d)]:=by
 unfold gA;rw[if_neg];intro f;obtain⟨x,t,e⟩:=m3.mp f;have:pY kvs p=cq:=by show(kvs.map (·.1)).contains p=cq;rw[kD];exact de.mpr ⟨x,t,by simpa using e⟩
 rw[this]at h;cases h
theorem yJ{kvs:List (Int×D)}{d:D}(h:pY kvs p=cq):gA kvs p d=kvs.map λe=>if e.1=p then(p,d)else e:=by
 unfold gA;rw[if_pos]
 . refine hB λe _=>?_;by_cases c:e.1=p;.simp[c]
   .simp[c]
 .have h':(kvs.map (·.1)).contains p=cq:=h;rw[kD]at h';obtain⟨x,f,e⟩:=de.mp h';exact m3.mpr ⟨x,f,by simpa using e⟩
noncomputable def zm(p:Int)(x:Nat×(Option aB×Int))(e:En):En:=if e.1=p then(p,x)else e
noncomputable def qF(es:List En)(p:Int)(x:Nat×(Option aB×Int)):List En:=if p∈es.map (·.1)then es.map (zm p x)else es++[(p,x)]
noncomputable def sU(ch:List Int)(p:Int):List Int:=if p∈ch then ch else ch++[p]
theorem Qw:gA (es.map en) p (Al (p,x))=(qF es p x).map en:=by
 have f:pY (es.map en) p=cq↔p∈es.map (·.1):=by show(Hu (es.map en)).contains p=cq↔_;rw[BP,kD]
 unfold qF;by_cases c:p∈es.map (·.1)
 . rw[if_pos c,yJ (f.mpr c),ej,ej];refine hB λe _=>?_;show(if e.1=p then _ else _)=en (zm p x e);unfold zm;by_cases z:e.1=p;.rw[if_pos z,if_pos z];rfl
   .rw[if_neg z,if_neg z]
 .rw[if_neg c,oU (by cases e:pY (es.map en) p with|false=>rfl|true=>exact absurd (f.mp e) c)];simp[en]
theorem Nb:gA (ch.map BW) p (.bl cq)=(sU ch p).map BW:=by
 have f:pY (ch.map BW) p=cq↔p∈ch:=by show(Hu (ch.map BW)).contains p=cq↔_;rw[T9,kD]
 unfold sU;by_cases c:p∈ch
 . rw[if_pos c,yJ (f.mpr c),ej];refine hB λe _=>?_;show(if e=p then _ else _)=BW e;by_cases z:e=p;.rw[if_pos z,z];rfl
   .rw[if_neg z]
 .rw[if_neg c,oU (by cases e:pY (ch.map BW) p with|false=>rfl|true=>exact absurd (f.mp e) c)];simp[BW]
theorem za{q:Int}:q∈sU ch p↔q∈ch\/q=p:=by
 unfold sU;split;.exact⟨.inl,λh=>h.elim id λe=>by rw[e];assumption⟩
 .simp
theorem Dy(h:ch.Nodup):(sU ch p).Nodup:=by
 unfold sU;split;.exact h
 .rename_i f;rw[mo];exact⟨h,by simp,λa t b u e=>f (by rw[<-d_.mp u,<-e];exact t)⟩
theorem Ho:(qF es p x).map (·.1)=sU (es.map (·.1)) p:=by
 unfold qF sU;split
 . rw[ej];refine hB λe _=>?_;show(zm p x e).1=e.1;unfold zm;split;.rename_i h;exact h.symm
   .rfl
 .simp
theorem gK{q:Int}{y:Nat×(Option aB×Int)}:(q,y)∈qF es p x↔(q=p/\y=x)\/(q≠p/\(q,y)∈es):=by
 unfold qF;split
 . rename_i f;obtain⟨G,t,u⟩:=de.mp f;rw[de];constructor
   . rintro⟨e,he,h⟩;unfold zm at h;split at h;.cases h;exact .inl ⟨rfl,rfl⟩
     .rename_i C;subst h;exact .inr ⟨C,he⟩
   . rintro(⟨rfl,rfl⟩|⟨h1,E⟩);.exact⟨G,t,by unfold zm;rw[if_pos u]⟩
     .exact⟨_,E,by unfold zm;rw[if_neg h1]⟩
 . rename_i f;rw[fE,d_];constructor
   . rintro(h|h);.refine .inr ⟨λe=>f ?_,h⟩;rw[<-e];exact de.mpr ⟨_,h,rfl⟩
     .cases h;exact .inl ⟨rfl,rfl⟩
   . rintro(⟨rfl,rfl⟩|⟨_,E⟩);.exact .inr rfl
     .exact .inl E
theorem oG{f:Type}[BEq f][LawfulBEq f]:∀{l l2:List f},l.Nodup->(∀a∈l,a∈l2)->l.length<=l2.length
 |[],_,_,_=>uL|a::l,l2,y,hs=>by
   have t:=hs a (by simp);have e:=fk.mp y;have:=oG (l:=l) (l2:=l2.erase a) e.2 λb u=>by
    have h:b≠a:=by rintro rfl;exact e.1 u
    exact(List.mem_erase_of_ne h).mpr (hs b (by simp[u]))
   rw[List.length_erase_of_mem t]at this;have:=List.length_pos_of_mem t;simp only[eI];omega
theorem six{l:List Int}(m1:m<=7)(e:l.Nodup)(h:∀p∈l,0<=p/\p<m):l.length<=7:=by
 have:=oG (l2:=[0,1,2,3,4,5,6]) e λq f=>by
  have:=h q f;have:q=0\/q=1\/q=2\/q=3\/q=4\/q=5\/q=6:=by omega
  simpa using this
 simpa using this
theorem mX{fs:List Int}(h:jP ws fs p s=cq):∃v g,ws[s.1]?=aU v/\fs[s.1]?=aU g/\frm v s.2=p/\0<oh v g s.2:=by
 unfold jP at h;split at h;.rename_i v g e f;simp at h;exact⟨v,g,e,f,h.1,h.2⟩
 .cases h
theorem zu(h:s.1<N):s∈iB N:=by unfold iB;rw[List.mem_flatMap];refine⟨s.1,by simp[h],?_⟩;obtain⟨j,f⟩:=s;cases f<;>simp
noncomputable def iy(ws:List Wy)(b:Int):List aB->Int->Prop|[],a=>a=b|s::c,a=>∃v,ws[s.1]?=aU v/\frm v s.2=a/\iy ws b c (too v s.2)
noncomputable def hst(ws:List Wy)(s:aB):Int:=match ws[s.1]?with|some v=>hsp v s.2|none=>0
theorem iw(e:ws[s.1]?=aU v):hst ws s=hsp v s.2:=by unfold hst;rw[e]
noncomputable def bO(ws:List Wy):List aB->Int|[]=>0|s::c=>hst ws s+bO ws c
theorem lF{ws:List Wy}{c2:List aB}:∀{c1:List aB},bO ws (c1++c2)=bO ws c1+bO ws c2|[]=>by simp[bO]|s::c=>by rw[lx,bO,lF,bO];omega
noncomputable def uV(ws:List Wy)(fs:List Int)(c:List aB):Prop:=∀s∈c,∃v,ws[s.1]?=aU v/\jP ws fs (frm v s.2) s=cq
theorem iy.app{ws:List Wy}{b q:Int}{c2:List aB}(f:iy ws b c2 q):∀{c1:List aB}{a:Int},iy ws q c1 a->iy ws b (c1++c2) a|[],a,h=>by have:a=q:=h;rw[this];exact f|s::c,a,⟨v,e,t,h⟩=>⟨v,e,t,iy.app f h⟩
theorem Ei{ws:List Wy}{b:Int}{c2:List aB}:∀{c1:List aB}{a:Int},iy ws b (c1++c2) a->∃q,iy ws q c1 a/\iy ws b c2 q|[],a,h=>⟨a,rfl,h⟩|s::c,a,⟨v,e,f,h⟩=>by obtain⟨q,h1,t⟩:=Ei (c1:=c) h;exact⟨q,⟨v,e,f,h1⟩,t⟩
noncomputable def Pt(ws:List Wy)(fs:List Int)(F:Int->Int):Prop:=∀(s:aB)(v:Wy),ws[s.1]?=aU v->jP ws fs (frm v s.2) s=cq->F (too v s.2)<=F (frm v s.2)+hsp v s.2
theorem iZ{ws:List Wy}{fs:List Int}{F:Int->Int}(h:Pt ws fs F){b:Int}:∀{c:List aB}{a:Int},iy ws b c a->uV ws fs c->F b<=F a+bO ws c|[],a,f,_=>by have:a=b:=f;rw[this,bO];omega|s::c,a,⟨v,e,y,f⟩,ho=>by have h1:=iZ h f λu hu=>ho u (dV _ hu);obtain⟨E,t,o⟩:=ho s (by simp);rw[e]at t;cases t;have C:=h s v e o;rw[y]at C;rw[bO,iw e];omega
noncomputable def ur(ws:List Wy)(s:aB):Int:=match ws[s.1]?with|some v=>too v s.2|none=>0
noncomputable def rT(ws:List Wy):List aB->Int->List Int|[],a=>[a]|s::c,a=>a::rT ws c (ur ws s)
theorem FW{ws:List Wy}:∀{c:List aB}{a:Int},(rT ws c a).length=c.length+1|[],_=>rfl|s::c,a=>by rw[rT,eI,FW];rfl
theorem LC{m:Int}{ws:List Wy}{b:Int}(h:HN m ws):∀{c:List aB}{a:Int},iy ws b c a->0<=a/\a<m->∀q∈rT ws c a,0<=q/\q<m
 |[],a,_,f,q,hq=>by rw[rT,d_]at hq;rw[hq];exact f|s::c,a,⟨v,e,u,t⟩,f,q,hq=>by
   rw[rT,da]at hq;rcases hq with rfl|hq;.exact f
   . have:ur ws s=too v s.2:=by unfold ur;rw[e]
     rw[this]at hq;exact LC h t (Km h e s.2) q hq
theorem Du{ws:List Wy}{b q:Int}:∀{c:List aB}{a:Int},iy ws b c a->q∈rT ws c a->∃c1 c2,c=c1++c2/\iy ws q c1 a/\iy ws b c2 q
 |[],a,h,hq=>by rw[rT,d_]at hq;exact⟨[],[],rfl,hq.symm,by rw[hq];exact h⟩|s::c,a,h,hq=>by
   rw[rT,da]at hq;rcases hq with rfl|hq;.exact⟨[],s::c,rfl,rfl,h⟩
   . obtain⟨v,e,f,t⟩:=h;have:ur ws s=too v s.2:=by unfold ur;rw[e]
     rw[this]at hq;obtain⟨c1,c2,rfl,h1,u⟩:=Du t hq;exact⟨s::c1,c2,rfl,⟨v,e,f,h1⟩,u⟩
theorem DW{ws:List Wy}{b:Int}:∀{c:List aB}{a:Int},iy ws b c a->¬(rT ws c a).Nodup->∃c1 c2 c3 q,c=c1++(c2++c3)/\0<c2.length/\iy ws q c1 a/\iy ws q c2 q/\iy ws b c3 q
 |[],a,_,f=>absurd (by simp[rT]) f|s::c,a,⟨v,e,t,u⟩,f=>by
   have C:ur ws s=too v s.2:=by unfold ur;rw[e]
   rw[rT,C,fk]at f;by_cases y:a∈rT ws c (too v s.2);.obtain⟨c1,c2,rfl,h1,h⟩:=Du u y;exact⟨[],s::c1,c2,a,rfl,by simp,rfl,⟨v,e,t,h1⟩,h⟩
   .obtain⟨c1,c2,c3,q,rfl,h0,h1,h,E⟩:=DW u λz=>f ⟨y,z⟩;exact⟨s::c1,c2,c3,q,rfl,h0,⟨v,e,t,h1⟩,h,E⟩
noncomputable def Le(h:Int)(n:Nat)(h':Int)(e:Nat):Prop:=h<h'\/(h=h'/\n<=e)
theorem Le.refl{h:Int}:Le h n h n:=.inr ⟨rfl,cI⟩
theorem Le.trans{c:Int}{k:Nat}(h1:Le a k b l)(e:Le b l c n):Le a k c n:=by unfold Le at*;omega
theorem Le.add{k:Nat}(x:Int)(h1:Le a k b l):Le (a+x) (k+1) (b+x) (l+1):=by unfold Le at*;omega
theorem short{fs:List Int}(y:HN m ws)(h:Pt ws fs F)(C:0<=a/\a<m):∀(n:Nat){c:List aB},c.length<=n->iy ws b c a->uV ws fs c->∃e,iy ws b e a/\uV ws fs e/\e.length<=6/\Le (bO ws e) e.length (bO ws c) c.length/\(rT ws e a).Nodup:=by
 intro n;have done:∀{c:List aB},iy ws b c a->(rT ws c a).Nodup->c.length<=6:=λf t=>by have:=six y.m1 t (LC y f C);rw[FW]at this;omega
 induction n with|zero=>intro c hc f ho;have:c=[]:=ip (by omega);subst this;exact⟨[],f,ho,by simp,.refl,by simp[rT]⟩|succ n E=>
   intro c hc f ho;by_cases t:(rT ws c a).Nodup;.exact⟨c,f,ho,done f t,.refl,t⟩
   .obtain⟨c1,c2,c3,q,rfl,h0,h1,G,H⟩:=DW f t;have u:uV ws fs c2:=λs hs=>ho s (by simp[hs]);have hr:=iZ h G u;simp only[ez]at hc;obtain⟨e,I,J,L,M,O⟩:=E (c:=c1++c3) (by simp only[ez];omega) (iy.app H h1) λs hs=>ho s (by rcases fE.mp hs with hs|hs<;>simp[hs]);refine⟨e,I,J,L,M.trans ?_,O⟩;rw[lF,lF,lF];simp only[ez];unfold Le;omega
structure Hl(m:Int)(ws:List Wy)(fs:List Int)(bs:List (Int×Int))(es:List En):Prop where
 nd:(es.map (·.1)).Nodup
 inm:∀p l o,(p,l,o)∈es->0<=p/\p<m
 z:(0,0,(cr,0))∈es
 wk:∀p l o,(p,l,o)∈es->∃a b c,(a,b)∈bs/\iy ws p c a/\uV ws fs c/\c.length=l/\b+bO ws c=o.2
 stp:∀p l o,(p,l,o)∈es->(o.1=cr/\(p,o.2)∈bs/\l=0)\/∃(s:aB)(v:Wy)(l':Nat)(o':Option aB×Int),o.1=aU s/\ws[s.1]?=aU v/\too v s.2=p/\jP ws fs (frm v s.2) s=cq/\(frm v s.2,l',o')∈es/\Le (o'.2+hsp v s.2) (l'+1) o.2 l
theorem Hl.len{fs:List Int}{bs:List (Int×Int)}(h:Hl m ws fs bs es)(m1:m<=7):es.length<=7:=by
 have:=six m1 h.nd λp e=>by obtain⟨⟨p,l,o⟩,he,rfl⟩:=de.mp e;exact h.inm p l o he
 simpa using this
theorem jX{l:List En}{a b:Nat}{u:Option aB×Int}(e:(l.map (·.1)).Nodup)(h1:(p,a,o)∈l)(f:(p,b,u)∈l):a=b/\o=u:=by have:=wN e h1 f;cases this;exact⟨rfl,rfl⟩
noncomputable def At(es:List En)(p h:Int)(n:Nat):Prop:=∃l o,(p,l,o)∈es/\Le o.2 l h n
theorem At.le{h h':Int}{e:Nat}(a:At es p h n)(z:Le h n h' e):At es p h' e:=by obtain⟨l,o,h1,f⟩:=a;exact⟨l,o,h1,f.trans z⟩
structure Wh(m:Int)(ws:List Wy)(fs:List Int)(bs:List (Int×Int))(n:Nat)(R:List Int)(es:List En):Prop where
 cm:Hl m ws fs bs es
 row:∀p∈R,∃l o,(p,l,o)∈es
 nr:R.Nodup
 wl:∀a b c p,(a,b)∈bs->iy ws p c a->uV ws fs c->c.length<=n->At es p (b+bO ws c) c.length
 cl:∀l o(s:aB)v,ws[s.1]?=aU v->frm v s.2∉R->(frm v s.2,l,o)∈es->jP ws fs (frm v s.2) s=cq->At es (too v s.2) (o.2+hsp v s.2) (l+1)few:7<=n->R=[]
structure In(m:Int)(ws:List Wy)(fs:List Int)(bs:List (Int×Int))(n:Nat)(R:List Int)(wA:List En)(K:aB->Prop)(es:List En)(ch:List Int):Prop where
 wh:Wh m ws fs bs n R wA
 cm:Hl m ws fs bs es
 le:∀p l o,(p,l,o)∈wA->At es p o.2 l
 out:∀p l o,p∉ch->(p,l,o)∈es->(p,l,o)∈wA
 chg:∀p∈ch,∃l o,(p,l,o)∈es
 nc:ch.Nodup
 dn:∀s,K s->∀v,ws[s.1]?=aU v->∀l o,(frm v s.2,l,o)∈wA->At es (too v s.2) (o.2+hsp v s.2) (l+1)few:6<=n->ch=[]
theorem In.row{m:Int}{ws:List Wy}{fs:List Int}{bs:List (Int×Int)}{n:Nat}{R:List Int}{wA:List En}{K:aB->Prop}{es:List En}{ch:List Int}(h:In m ws fs bs n R wA K es ch){p:Int}(e:p∈R):∃l o,(p,l,o)∈es:=by obtain⟨l,o,z⟩:=h.wh.row p e;obtain⟨l,o,z,_⟩:=h.le _ _ _ z;exact⟨l,o,z⟩
theorem In.keep{fs:List Int}{bs:List (Int×Int)}{R:List Int}{K:aB->Prop}(h:In m ws fs bs n R wA K es ch)(e:ws[s.1]?=aU v)(t:(frm v s.2,l,o)∈es)(y:At es (too v s.2) (o.2+hsp v s.2) (l+1)):In m ws fs bs n R wA (λu=>K u\/u=s) es ch:=by
 refine⟨h.wh,h.cm,h.le,h.out,h.chg,h.nc,λu hu=>?_,h.few⟩;rcases hu with hu|rfl;.exact h.dn u hu
 .intro G f H I h0;rw[e]at f;cases f;obtain⟨J,L,C,E⟩:=h.le _ _ _ h0;obtain⟨rfl,rfl⟩:=jX h.cm.nd t C;exact y.le (E.add _)
theorem In.put{fs:List Int}{bs:List (Int×Int)}{R:List Int}{K:aB->Prop}(h:In m ws fs bs n R wA K es ch)(M:HN m ws)(hF:Pt ws fs F)(hb:∀a b,(a,b)∈bs->0<=a/\a<m)(hZ:∀a b c,(a,b)∈bs->iy ws 0 c a->uV ws fs c->0<=b+bO ws c)(e:ws[s.1]?=aU v)(O:(frm v s.2,l,o)∈es)(ho:jP ws fs (frm v s.2) s=cq)(U:¬ At es (too v s.2) (o.2+hsp v s.2) (l+1)):In m ws fs bs n R wA (λu=>K u\/u=s) (qF es (too v s.2) (l+1,(aU s,o.2+hsp v s.2))) (sU ch (too v s.2)):=by
 have m0:=M.m0;obtain⟨G,b0,c,c0,c1,c2,c3,c4⟩:=h.cm.wk _ _ _ O;have I:iy ws (too v s.2) (c++[s]) G:=iy.app (c2:=[s]) ⟨v,e,rfl,rfl⟩ c1;have W:uV ws fs (c++[s]):=λu hu=>by
  rcases fE.mp hu with hu|hu;.exact c2 u hu
  .rw[d_.mp hu];exact⟨v,e,ho⟩
 have w3:(c++[s]).length=l+1:=by simp[c3]
 have X:b0+bO ws (c++[s])=o.2+hsp v s.2:=by rw[lF,<-c4,bO,bO,iw e];omega
 have t:(too v s.2,l+1,(aU s,o.2+hsp v s.2))∈qF es (too v s.2) (l+1,(aU s,o.2+hsp v s.2)):=gK.mpr (.inl ⟨rfl,rfl⟩);have mono:∀{q l2 f},(q,l2,f)∈es->At (qF es (too v s.2) (l+1,(aU s,o.2+hsp v s.2))) q f.2 l2:=λ{q l2 f}z=>by
  by_cases c:q=too v s.2;.subst c;refine⟨_,_,t,?_⟩;have:¬ Le f.2 l2 (o.2+hsp v s.2) (l+1):=λy=>U ⟨_,_,z,y⟩;unfold Le at this ⊢;simp only;omega
  .exact⟨l2,f,gK.mpr (.inr ⟨c,z⟩),.refl⟩
 have Sh:∀{q h n},At es q h n->At (qF es (too v s.2) (l+1,(aU s,o.2+hsp v s.2))) q h n:=λ⟨l2,f,H,Y⟩=>(mono H).le Y;refine⟨h.wh,⟨by rw[Ho];exact Dy h.cm.nd,λp l o z=>?_,?_,λp l2 f z=>?_,λp l2 f z=>?_⟩,λp l o z=>Sh (h.le p l o z),λp l o hc z=>?_,λp hc=>?_,Dy h.nc,λu hu=>?_,λh5=>?_⟩
 . rcases gK.mp z with⟨rfl,_⟩|⟨_,z⟩;.exact Km M e s.2
   .exact h.cm.inm p l o z
 .refine gK.mpr (.inr ⟨λz=>U ?_,h.cm.z⟩);have:=hZ G b0 _ c0 (by rw[<-z]at I;exact I) W;rw[X]at this;rw[<-z];exact⟨_,_,h.cm.z,by unfold Le;simp only;omega⟩
 . rcases gK.mp z with⟨rfl,y⟩|⟨_,z⟩;.cases y;exact⟨G,b0,_,c0,I,W,w3,X⟩
   .exact h.cm.wk p l2 f z
 . rcases gK.mp z with⟨rfl,y⟩|⟨_,z⟩;.cases y;obtain⟨l',o',C,E⟩:=mono O;exact .inr ⟨s,v,l',o',rfl,e,rfl,ho,C,E.add _⟩
   . rcases h.cm.stp p l2 f z with z|⟨s',J,l',o',H,z3,z4,z5,z6,z7⟩;.exact .inl z
     .obtain⟨Z,o3,C,E⟩:=mono z6;exact .inr ⟨s',J,Z,o3,H,z3,z4,z5,C,(E.add _).trans z7⟩
 . rw[za,not_or]at hc;rcases gK.mp z with⟨rfl,_⟩|⟨_,z⟩;.exact absurd rfl hc.2
   .exact h.out p l o hc.1 z
 . rcases za.mp hc with hc|rfl;.obtain⟨l2,f,z⟩:=h.chg p hc;obtain⟨Z,o3,z,_⟩:=mono z;exact⟨Z,o3,z⟩
   .exact⟨_,_,t⟩
 . rcases hu with hu|rfl;.exact λJ L l0 o0 h0=>Sh (h.dn u hu J L l0 o0 h0)
   .intro J L l0 o0 h0;rw[e]at L;cases L;obtain⟨l1,o1,C,E⟩:=h.le _ _ _ h0;obtain⟨rfl,rfl⟩:=jX h.cm.nd O C;exact⟨_,_,t,E.add _⟩
 .obtain⟨c',C,E,q3,q4,_⟩:=short M hF (hb G b0 c0) _ (cI) I W;obtain⟨l1,o1,H,Y⟩:=h.wh.wl G b0 c' _ c0 C E (by omega);rw[w3]at q4;refine absurd ((h.le _ _ _ H).le (Y.trans ?_)) U;rw[<-X];unfold Le at q4 ⊢;omega
noncomputable def bE(p:Int×Int):En:=(p.1,0,(cr,p.2))
theorem Wh.start{fs:List Int}{bs:List (Int×Int)}(y:∀a b,(a,b)∈bs->0<=a/\a<m)(h0:(0,0)∈bs)(u:(bs.map (·.1)).Nodup):Wh m ws fs bs 0 (bs.map (·.1)) (bs.map bE):=by
 have C:(bs.map bE).map (·.1)=bs.map (·.1):=by rw[ej];rfl
 have un:∀{p l o},(p,l,o)∈bs.map bE->l=0/\o.1=cr/\(p,o.2)∈bs:=λ{p l o}z=>by obtain⟨⟨a,b⟩,h1,e⟩:=de.mp z;cases e;exact⟨rfl,rfl,h1⟩
 have to:∀{a b},(a,b)∈bs->(a,0,(cr,b))∈bs.map bE:=λh=>de.mpr ⟨_,h,rfl⟩;refine⟨⟨by rw[C];exact u,λp l o z=>y _ _ (un z).2.2,to h0,λp l o z=>?_,λp l o z=>.inl ⟨(un z).2.1,(un z).2.2,(un z).1⟩⟩,λp f=>?_,u,λa b c p t f _ hc=>?_,λl o s v _ E z=>?_,λh=>by omega⟩;.exact⟨p,o.2,[],(un z).2.2,rfl,λs hs=>(by cases hs),(un z).1.symm,by rw[bO];omega⟩
 .obtain⟨⟨a,b⟩,h1,rfl⟩:=de.mp f;exact⟨_,_,to h1⟩
 .cases c with|nil=>have:a=p:=f;subst this;exact⟨0,(cr,b),to t,by unfold Le bO;simp⟩|cons _ _=>simp at hc
 .exact absurd (de.mpr ⟨_,(un z).2.2,rfl⟩) E
theorem Wh.to{fs:List Int}{bs:List (Int×Int)}{R:List Int}(h:Wh m ws fs bs n R es):In m ws fs bs n R es (λ_=>False) es []:=⟨h,h.cm,λp l o z=>⟨l,o,z,.refl⟩,λp l o _ z=>z,λp e=>(by cases e),.nil,λs hs=>hs.elim,λ_=>rfl⟩
theorem In.out'{fs:List Int}{bs:List (Int×Int)}{R:List Int}(h:In m ws fs bs n R wA (λs=>∃p∈R,jP ws fs p s=cq) es ch):Wh m ws fs bs (n+1) ch es:=by
 have f:∀{p h' k},At wA p h' k->At es p h' k:=λ⟨l,o,y,C⟩=>(h.le _ _ _ y).le C;have H:∀(s:aB)v l o,ws[s.1]?=aU v->(frm v s.2,l,o)∈wA->jP ws fs (frm v s.2) s=cq->At es (too v s.2) (o.2+hsp v s.2) (l+1):=λs v l o e z ho=>by
  by_cases c:frm v s.2∈R;.exact h.dn s ⟨_,c,ho⟩ v e l o z
  .exact f (h.wh.cl l o s v e c z ho)
 refine⟨h.cm,h.chg,h.nc,λa b c p t I ho hc=>?_,λl o s v e hc z hs=>H s v l o e (h.out _ _ _ hc z) hs,λO=>h.few (by omega)⟩;rcases rN c with rfl|⟨E,s,rfl⟩;.exact f (h.wh.wl a b [] p t I ho (uL))
 . rw[rV]at*;obtain⟨q,h1,v,e,rfl,G⟩:=Ei I;have G:too v s.2=p:=G;subst G;obtain⟨U,J,L⟩:=ho s (by simp);rw[e]at J;cases J;simp only[ez,eI,n4]at hc;obtain⟨l,o,y,C⟩:=h.wh.wl a b E _ t h1 (λu hu=>ho u (by simp[hu])) (by omega);refine(H s v l o e y L).le ?_;have:=C.add (hsp v s.2);have M:bO ws (E++[s])=bO ws E+hsp v s.2:=by rw[lF,bO,bO,iw e];omega
   rw[M,<-Int.add_assoc];simpa using this
structure tE(m:Int)(ws:List Wy)(fs:List Int)(bs:List (Int×Int))(es:List En):Prop where
 cm:Hl m ws fs bs es
 cl:∀l o(s:aB)v,ws[s.1]?=aU v->(frm v s.2,l,o)∈es->jP ws fs (frm v s.2) s=cq->At es (too v s.2) (o.2+hsp v s.2) (l+1)bg:∀a b,(a,b)∈bs->At es a b 0
theorem Wh.fin{fs:List Int}{bs:List (Int×Int)}(h:Wh m ws fs bs n [] es):tE m ws fs bs es:=⟨h.cm,λl o s v e z ho=>h.cl l o s v e (by simp) z ho,λa b f=>by have:=h.wl a b [] a f rfl (λs hs=>by cases hs) (uL);simpa[bO]using this⟩
noncomputable abbrev Cme(m:Int)(ws:List Wy)(fs:List Int)(es:List En):Prop:=Hl m ws fs [(0,0)] es
noncomputable abbrev jb(m:Int)(ws:List Wy)(fs:List Int)(es:List En):Prop:=tE m ws fs [(0,0)] es
theorem In.imp{fs:List Int}{bs:List (Int×Int)}{R:List Int}{K e:aB->Prop}(h:In m ws fs bs n R wA K es ch)(z:∀s,e s->K s):In m ws fs bs n R wA e es ch:=⟨h.wh,h.cm,h.le,h.out,h.chg,h.nc,λs hs=>h.dn s (z s hs),h.few⟩
theorem V2{fs:List Int}{l:List aB}(e:0<=p/\p<m):at' ((rD (jK ws fs m.toNat l)).map D.lst) p=aU (.lst ((l.filter (jP ws fs p)).map sD)):=by rw[su e.1 (by simp[rD,jK];omega)];simp[rD,jK,show p.toNat<m.toNat by omega,hY e.1]
@[simp]theorem cut3{a b c:D}:QS (.tup [a,b,c]) (part (.con .non) .non) (part (.con (.int 2)) (.int 2))=aU (.val (.tup [a,b])):=rfl
theorem VF{j:Int}:cm .lt (.tup [.int a,.int i]) (.tup [.int b,.int j])=aU (bz [a,i] [b,j]):=rfl
theorem lex_lt{i:Nat}:bz [a,(i:Int)] [b,(j:Int)]=cq↔¬ Le b j a i:=by unfold Le;simp[bz];omega
noncomputable def vm(bs:List (Int×Int)):Sl:=.val a_ (.dv (bs.map (·.1)) (bs.map λp=>.int p.2))
noncomputable abbrev bg:Sl:=vm [(0,0)]
inductive JC2(m:Int)(ws:List Wy)(fs:List Int)(bs:List (Int×Int))(a0 a1 a2 a3 a6:Sl)(n:Nat)(R:List Int)(wA:List En)(pre:List Int)(p:Int)(r:List D)(ρ:List Sl):Prop where|mk(es:List En)(ch:List Int)(bZ us:List aB)(s8 s9 pJ:Sl)(q0:ρ=[a0,a1,a2,a3,.cU (es.map en),.val a_ (.int p),a6,.cU (ch.map BW),s8,s9,pJ])(q1:A3 (fr s8=cq) (fr s9=cq) (fr pJ=cq))(q2:r=us.map sD)(q3:bZ++us=(iB ws.length).filter (jP ws fs p))(q4:In m ws fs bs n R wA (λs=>(∃q∈pre,jP ws fs q s=cq)\/s∈bZ) es ch)
inductive JC1(m:Int)(ws:List Wy)(fs:List Int)(bs:List (Int×Int))(a0 a1 a2 a3 a6:Sl)(n:Nat)(R:List Int)(wA:List En)(r:List D)(ρ:List Sl):Prop where|mk(es:List En)(ch pre qs:List Int)(s5 s8 s9 pJ:Sl)(q0:ρ=[a0,a1,a2,a3,.cU (es.map en),s5,a6,.cU (ch.map BW),s8,s9,pJ])(q1:A4 (fr s5=cq) (fr s8=cq) (fr s9=cq) (fr pJ=cq))(q2:r=qs.map D.int)(q3:pre++qs=R)(q4:In m ws fs bs n R wA (λs=>∃q∈pre,jP ws fs q s=cq) es ch)
inductive JCw(m:Int)(ws:List Wy)(fs:List Int)(bs:List (Int×Int))(a0 a1 a2 a3:Sl)(M:Nat)(ρ:List Sl):Prop where|mk(n:Nat)(R:List Int)(es:List En)(s5 s7 s8 s9 pJ:Sl)(q0:ρ=[a0,a1,a2,a3,.cU (es.map en),s5,.own a_ (R.map D.int),s7,s8,s9,pJ])(q1:A4 (fr s5=cq) (fr s8=cq) (fr s9=cq) (fr pJ=cq))(q2:(s7=.aX\/∃d,s7=.val a_ d))(q3:Wh m ws fs bs n R es)(q4:8<=n+M)
inductive JC0(a0 a1 a2 a3:Sl)(bs:List (Int×Int))(r:List D)(ρ:List Sl):Prop where|mk(bZ us:List (Int×Int))(s5:Sl)(q0:ρ=[a0,a1,a2,a3,.cU ((bZ.map bE).map en),s5,.aX,.aX,.aX,.aX,.aX])(q1:fr s5=cq)(q2:r=(us.map (·.1)).map D.int)(q3:bZ++us=bs)
theorem Ew{a b:Int}:∀{bs:List (Int×Int)},(bs.map (·.1)).Nodup->(a,b)∈bs->mD ((bs.map (·.1)).zip (bs.map λp=>D.int p.2)) a=aU (.int b)
 |[],_,h=>by cases h|p::bs,e,h=>by
   rw[dl,fk]at e;unfold mD;rw[dl,dl,List.zip_cons_cons,hQ];rcases da.mp h with h|h;.subst h;simp
   .have f:p.1≠a:=λz=>e.1 (by rw[z];exact de.mpr ⟨_,h,rfl⟩);have:=Ew e.2 h;unfold mD at this;simpa[f]using this
theorem pq{s:Sl}{fs:List Int}{bs:List (Int×Int)}(hw:100<=w)(hF:Pt ws fs F)(hb:∀a b,(a,b)∈bs->0<=a/\a<m)(h0:(0,0)∈bs)(J:(bs.map (·.1)).Nodup)(hZ:∀a b c,(a,b)∈bs->iy ws 0 c a->uV ws fs c->0<=b+bO ws c)(hs:Rg s fs)(h:HN m ws)(hf:fs.length=ws.length)(k:∀es,tE m ws fs bs es->Q (.val (iT es)) [.val a_ (aV m ws),s,vm bs]):(run Γ w (n+3) 5 [.val a_ (aV m ws),s,vm bs]).sat Q:=by
 have hn:=h.len;have m0:=h.m0;have m1:=h.m1;refine aM (d:=f5) rfl rfl (by decide) ?_;refine fC (λρ=>ρ=[.val a_ (aV m ws),s,vm bs,.val a_ (.lst ((rD (jK ws fs m.toNat (iB ws.length))).map D.lst)),.aX,.aX,.aX,.aX,.aX,.aX,.aX]) ?_ ?_;.have aw:=hs;rcases hs with rfl|⟨b,rfl⟩;all_goals simp[f5,vm];refine Jp (by first|exact .inl rfl|exact .inr ⟨_,rfl⟩) h hf ?_;simp
 rintro _ rfl;generalize hA:((rD (jK ws fs m.toNat (iB ws.length))).map D.lst)=A;have ax:bs.length<=7:=by
  have:=six m1 J λp hp=>by obtain⟨⟨a,b⟩,h1,rfl⟩:=de.mp hp;exact hb a b h1
  simpa using this
 apply ak;simp;apply ak;simp[vm];refine dj (JC0 (.val a_ (aV m ws)) s (vm bs) (.val a_ (.lst A)) bs) ?_ ?_ ⟨[],bs,.aX,rfl,rfl,by rw[ej],rfl⟩;.rintro d r _⟨G,C,s5,rfl,U,hr,hd⟩;cases C with|nil=>cases hr|cons u C=>
     obtain⟨rfl,rfl⟩:d=.int u.1/\r=(C.map (·.1)).map D.int:=by simpa using hr
     have al:(G++[u])++C=bs:=by rw[fK];exact hd
     have hg:=Ew (a:=u.1) (b:=u.2) J (by rw[<-hd];simp);have hk:pY ((G.map bE).map en) u.1=a_:=kin_no λ⟨l,o,z⟩=>by obtain⟨⟨a,b⟩,h1,e⟩:=de.mp z;cases e;rw[<-hd,gc,mo]at J;exact J.2.2 u.1 (de.mpr ⟨_,h1,rfl⟩) u.1 (by simp) rfl
     have hp:gA ((G.map bE).map en) u.1 (.tup [.int u.2,.int 0,.non])=((G++[u]).map bE).map en:=by rw[oU hk,gc,gc];rfl
     have ay:G.length<=bs.length:=by rw[<-hd];simp
     simp[U];apply ak;rw[ej]at hp;simp[vm,hg];refine⟨λ_=>⟨G++[u],C,.val a_ (.int u.1),by rw[hp],rfl,(ej ..).symm,al⟩,by show _<16777216;omega⟩
 rintro _⟨G,C,s5,rfl,U,hr,hd⟩;have:C=[]:=by cases C with|nil=>rfl|cons _ _=>cases hr
 subst this;rw[gN]at hd;obtain rfl:bs=G:=hd.symm;simp;apply ak;simp[vm,show bs.length<=16777216 by omega];apply ak;simp;rw[show map (en ∘ bE) bs=(bs.map bE).map en from(ej ..).symm,show map (D.int ∘ λx=>x.1) bs=(bs.map (·.1)).map D.int from(ej ..).symm];refine kE (JCw m ws fs bs _ _ _ _) ?_ (k:=w) (m:=50) (by omega) ⟨0,bs.map (·.1),bs.map bE,s5,.aX,.aX,.aX,.aX,rfl,⟨U,rfl,rfl,rfl⟩,.inl rfl,Wh.start hb h0 J,by omega⟩;rintro M _⟨n',R,es,s5,s7,s8,s9,pJ,rfl,⟨U,W,X,E⟩,h7,hW,hM⟩;by_cases hR:R=[];.subst hR;simp;apply ak;simp;have:=k es hW.fin;simp[iE,en];exact this
 . have am:0<R.length:=by cases R with|nil=>exact absurd rfl hR|cons _ _=>simp
   simp[am];refine fC (λρ=>ρ=[.val a_ (aV m ws),s,vm bs,.val a_ (.lst A),.cU (es.map en),s5,.own a_ (R.map D.int),.cU [],s8,s9,pJ]) ?_ ?_
   . rcases h7 with rfl|⟨d,rfl⟩;.simp[vm]
     .simp[vm]
   rintro _ rfl;(first|apply ak|apply G9);simp;refine dj (JC1 m ws fs bs _ _ _ _ _ n' R es) ?_ ?_ ⟨es,[],[],R,s5,s8,s9,pJ,rfl,⟨U,W,X,E⟩,rfl,rfl,hW.to.imp λs hs=>by obtain⟨q,hq,_⟩:=hs;cases hq⟩;.rintro d r _⟨f,ch,pre,qs,s5,s8,s9,pJ,rfl,⟨U,W,X,E⟩,hr,L,t⟩;cases qs with|nil=>cases hr|cons p qs=>
       obtain⟨rfl,rfl⟩:d=.int p/\r=qs.map D.int:=by simpa using hr
       have af:p∈R:=by rw[<-L];simp
       have ap:0<=p/\p<m:=by obtain⟨l,o,ho⟩:=t.row af;exact t.cm.inm _ _ _ ho
       have Z:=V2 (ws:=ws) (fs:=fs) (l:=iB ws.length) ap;rw[hA]at Z;simp[U];apply ak;simp[Z];refine dj (JC2 m ws fs bs _ _ _ _ _ n' R es pre p) ?_ ?_ ⟨f,ch,[],_,s8,s9,pJ,rfl,⟨W,X,E⟩,rfl,rfl,t.imp λs hs=>by rcases hs with hs|hs;exact hs;cases hs⟩;.rintro d r _⟨f,ch,G,C,s8,s9,pJ,rfl,⟨W,X,E⟩,hr,O,t⟩;cases C with|nil=>cases hr|cons u C=>
           obtain⟨rfl,rfl⟩:d=sD u/\r=C.map sD:=by simpa using hr
           have hu:jP ws fs p u=cq:=by
            have:u∈(iB ws.length).filter (jP ws fs p):=by rw[<-O];simp
            exact(hU.mp this).2
           obtain⟨v,g,e1,e2,e3,e4⟩:=mX hu;have ag:(G++[u])++C=(iB ws.length).filter (jP ws fs p):=by rw[fK];exact O
           obtain⟨I,op,ac⟩:=t.row af;subst e3;have gp:=rB t.cm.nd ac;have av:=t.cm.len m1;have ar:ch.length<=7:=six m1 t.nc λq hq=>by obtain⟨l,o,z⟩:=t.chg q hq;exact t.cm.inm _ _ _ z
           have ah:∀s,((∃q∈pre,jP ws fs q s=cq)\/s∈G++[u])->((∃q∈pre,jP ws fs q s=cq)\/s∈G)\/s=u:=λs hs=>by
            rcases hs with hs|hs;.exact .inl (.inl hs)
            . rcases fE.mp hs with hs|hs;.exact .inl (.inr hs)
              .exact .inr (by simpa using hs)
           simp[W];apply ak;simp[sD];refine mO e1 ?_;simp[X];apply ak;simp[gp,Al];refine vL e1 ?_;simp[gp,Al,E];apply ak;have keep:At f (too v u.2) (op.2+hsp v u.2) (I+1)->JC2 m ws fs bs (.val a_ (aV m ws)) s (vm bs) (.val a_ (.lst A)) (.lent (R.map D.int)) n' R es pre (frm v u.2) (C.map sD) [.val a_ (aV m ws),s,vm bs,.val a_ (.lst A),.cU (f.map en),.val a_ (.int (frm v u.2)),.lent (R.map D.int),.cU (ch.map BW),.val a_ (gf u.1 u.2),.val a_ (.int (too v u.2)),.val a_ (.tup [.int (op.2+hsp v u.2),.int ((I:Int)+1)])]:=λH=>⟨f,ch,G++[u],C,_,_,_,rfl,⟨rfl,rfl,rfl⟩,rfl,ag,(t.keep e1 ac H).imp ah⟩;have ai:¬ At f (too v u.2) (op.2+hsp v u.2) (I+1)->JC2 m ws fs bs (.val a_ (aV m ws)) s (vm bs) (.val a_ (.lst A)) (.lent (R.map D.int)) n' R es pre (frm v u.2) (C.map sD) [.val a_ (aV m ws),s,vm bs,.val a_ (.lst A),.cU ((qF f (too v u.2) (I+1,(aU u,op.2+hsp v u.2))).map en),.val a_ (.int (frm v u.2)),.lent (R.map D.int),.cU ((sU ch (too v u.2)).map BW),.val a_ (gf u.1 u.2),.val a_ (.int (too v u.2)),.val a_ (.tup [.int (op.2+hsp v u.2),.int ((I:Int)+1)])]:=λH=>⟨_,_,G++[u],C,_,_,_,rfl,⟨rfl,rfl,rfl⟩,rfl,ag,(t.put h hF hb hZ e1 ac hu H).imp ah⟩;have p1:gA (f.map en) (too v u.2) (.tup [.int (op.2+hsp v u.2),.int ((I:Int)+1),gf u.1 u.2])=(qF f (too v u.2) (I+1,(aU u,op.2+hsp v u.2))).map en:=by rw[<-Qw];simp[Al,oS,sD]
           have p2:gA (ch.map BW) (too v u.2) (.bl cq)=(sU ch (too v u.2)).map BW:=Nb;by_cases hq:∃l o,(too v u.2,l,o)∈f
           . obtain⟨l,o,Y⟩:=hq;have gt:=rB t.cm.nd Y;have kt:pY (f.map en) (too v u.2)=cq:=tZ.mpr ⟨l,o,Y⟩;have ae:=lex_lt (a:=op.2+hsp v u.2) (i:=I+1) (b:=o.2) (j:=l);rw[show((I+1:Nat):Int)=(I:Int)+1 by omega]at ae;simp[kt,gt,Al,VF];refine⟨λz=>?_,λz=>?_⟩
             . have H:¬ At f (too v u.2) (op.2+hsp v u.2) (I+1):=λ⟨l2,o2,y1,y2⟩=>by obtain⟨rfl,rfl⟩:=jX t.cm.nd Y y1;exact ae.mp z y2
               (first|apply ak|apply G9);simp[p1];refine⟨by decide,λ_=>?_,by show _<16777216;omega⟩;(first|apply ak|apply G9);simp[p2];refine⟨λ_=>ai H,by show _<16777216;omega⟩
             . have H:At f (too v u.2) (op.2+hsp v u.2) (I+1):=by
                refine⟨l,o,Y,?_⟩;by_cases y:Le o.2 l (op.2+hsp v u.2) (I+1);.exact y
                .rw[ae.mpr y]at z;cases z
               exact keep H
           .have kt:pY (f.map en) (too v u.2)=a_:=kin_no hq;simp[kt];apply ak;simp[p1];refine⟨by decide,λ_=>?_,by show _<16777216;omega⟩;(first|apply ak|apply G9);simp[p2];exact⟨λ_=>ai λ⟨l2,o2,y1,_⟩=>hq ⟨l2,o2,y1⟩,by show _<16777216;omega⟩
       . rintro _⟨f,ch,G,C,s8,s9,pJ,rfl,⟨W,X,E⟩,hr,O,t⟩;have:C=[]:=by cases C with|nil=>rfl|cons _ _=>cases hr
         subst this;rw[gN]at O;simp;refine⟨f,ch,pre++[p],qs,_,_,_,_,rfl,⟨rfl,W,X,E⟩,rfl,by rw[fK];exact L,t.imp λs hs=>?_⟩;obtain⟨q,hq,hs⟩:=hs;rcases fE.mp hq with hq|hq;.exact .inl ⟨q,hq,hs⟩
         . obtain rfl:q=p:=by simpa using hq
           refine .inr ?_;rw[O];obtain⟨v,g,e1,_⟩:=mX hs;exact hU.mpr ⟨zu (fB e1).1,hs⟩
   . rintro _⟨f,ch,pre,qs,s5,s8,s9,pJ,rfl,⟨U,W,X,E⟩,hr,L,t⟩;have:qs=[]:=by cases qs with|nil=>rfl|cons _ _=>cases hr
     subst this;rw[gN]at L;subst L;have ar:ch.length<=7:=six m1 t.nc λq hq=>by obtain⟨l,o,z⟩:=t.chg q hq;exact t.cm.inm _ _ _ z
     have hO:=t.out';have aE:n'<7:=by
      by_cases c:7<=n';.exact absurd (hW.few c) hR
      .omega
     simp;apply ak;simp[show ch.length<=16777216 by omega];exact⟨M-1,by omega,n'+1,ch,f,_,_,_,_,_,rfl,⟨U,W,X,E⟩,.inr ⟨_,rfl⟩,hO,by omega⟩
theorem zY{s:Sl}{fs:List Int}(t:100<=w)(f:Pt ws fs F)(hs:Rg s fs)(h:HN m ws)(u:fs.length=ws.length)(k:∀es,jb m ws fs es->Q (.val (iT es)) [.val a_ (aV m ws),s,bg]):(run Γ w (n+3) 5 [.val a_ (aV m ws),s,bg]).sat Q:=by
 have m0:=h.m0;have one:∀{a b:Int},(a,b)∈[((0:Int),(0:Int))]->a=0/\b=0:=λe=>by have:=d_.mp e;cases this;exact⟨rfl,rfl⟩
 refine pq t f (λa b e=>by obtain⟨rfl,rfl⟩:=one e;omega) (by simp) (by simp) (λa b c e y ho=>?_) hs h u k;obtain⟨rfl,rfl⟩:=one e;have:=iZ f y ho;omega
theorem jb.all{m:Int}{ws:List Wy}{fs:List Int}{es:List En}(h:jb m ws fs es){b:Int}:∀{c:List aB}{a:Int}{l:Nat}{o:Option aB×Int},iy ws b c a->uV ws fs c->(a,l,o)∈es->At es b (o.2+bO ws c) (l+c.length)|[],a,l,o,f,_,z=>by have:a=b:=f;subst this;exact⟨l,o,z,by unfold Le bO;simp⟩|s::c,a,l,o,⟨v,e,y,f⟩,ho,z=>by subst y;obtain⟨J,t,C⟩:=ho s (by simp);rw[e]at t;cases t;obtain⟨L,M,E,O⟩:=h.cl l o s v e z C;obtain⟨l2,G,H,I⟩:=jb.all h f (λu hu=>ho u (dV _ hu)) E;refine⟨l2,G,H,I.trans ?_⟩;rw[bO,iw e,eI];unfold Le at*;omega
theorem jb.l5{fs:List Int}(h:jb m ws fs es)(f:HN m ws)(t:Pt ws fs F)(z:(p,l,o)∈es):l<=6:=by
 have m0:=f.m0;obtain⟨a,b,c,e,c1,c2,c3,c4⟩:=h.cm.wk p l o z;obtain⟨rfl,rfl⟩:a=0/\b=0:=by have:=d_.mp e;cases this;exact⟨rfl,rfl⟩
 obtain⟨H,u,y,I,C,_⟩:=short f t ⟨by omega,by omega⟩ _ (cI) c1 c2;obtain⟨l2,J,E,G⟩:=h.all u y h.cm.z;obtain⟨rfl,rfl⟩:=jX h.cm.nd z E;rw[Int.zero_add]at c4;rw[c3,c4]at C;unfold Le at*;simp only at G;omega
theorem jb.on{fs:List Int}(h:jb m ws fs es)(z:(p,l,o)∈es):(o=(cr,0)/\p=0/\l=0)\/∃(s:aB)(v:Wy)(f:Nat)(e:Option aB×Int),o=(aU s,e.2+hsp v s.2)/\l=f+1/\ws[s.1]?=aU v/\too v s.2=p/\jP ws fs (frm v s.2) s=cq/\(frm v s.2,f,e)∈es:=by
 rcases h.cm.stp p l o z with⟨h1,t,rfl⟩|⟨s,v,f,e,h1,u,rfl,y,C,G⟩
 . obtain⟨rfl,_⟩:p=0/\o.2=0:=by have:=d_.mp t;exact⟨congrArg Prod.fst this,congrArg Prod.snd this⟩
   exact .inl ⟨(jX h.cm.nd z h.cm.z).2,rfl,rfl⟩
 . obtain⟨l2,H,E,I⟩:=h.cl f e s v u C y;obtain⟨rfl,rfl⟩:=jX h.cm.nd z E;refine .inr ⟨s,v,f,e,?_,?_,u,rfl,y,C⟩;.exact Prod.ext_iff.mpr ⟨h1,by show _=e.2+hsp v s.2;unfold Le at*;omega⟩
   .unfold Le at*;omega
structure Q3(ws:List Wy)(fs:List Int)(es:List En)(p:Int)(L:Nat)(H:Int)(a:Int)(l:Nat)(h:Int)(c:List aB):Prop where
 Mx:iy ws p c a
 jK:uV ws fs c
 nd:(c.map (·.1)).Nodup
 lv:∀s∈c,∀v,ws[s.1]?=aU v->∃l1 o1 o2,(frm v s.2,l1,o1)∈es/\(too v s.2,l1+1,o2)∈es/\l<=l1
 len:c.length+l=L
 hrs:bO ws c+h=H
theorem lL{f g:Bool}(h:g≠f):frm v g=too v f/\too v g=frm v f:=by cases f<;>cases g<;>first|exact absurd rfl h|exact⟨rfl,rfl⟩
theorem Q3.cons{m:Int}{ws:List Wy}{fs:List Int}{es:List En}{p:Int}{L l:Nat}{H x:Int}{c:List aB}{s:aB}{v:Wy}{o J:Option aB×Int}(hc:Cme m ws fs es)(h:Q3 ws fs es p L H (too v s.2) (l+1) (x+hsp v s.2) c)(e:ws[s.1]?=aU v)(h1:(too v s.2,l+1,o)∈es)(C:(frm v s.2,l,J)∈es)(ho:jP ws fs (frm v s.2) s=cq):Q3 ws fs es p L H (frm v s.2) l x (s::c):=by
 refine⟨⟨v,e,rfl,h.Mx⟩,λu hu=>?_,?_,λu hu x ex=>?_,by have:=h.len;simp only[eI];omega,by have:=h.hrs;rw[bO,iw e];omega⟩
 . rcases da.mp hu with rfl|hu;.exact⟨v,e,ho⟩
   .exact h.jK u hu
 . rw[dl,fk];refine⟨λM=>?_,h.nd⟩;obtain⟨t,ht,O⟩:=de.mp M;obtain⟨E,G,I,f,y,U⟩:=h.lv t ht v (by rw[O];exact e);by_cases z:t.2=s.2;.rw[z]at f;have:=(jX hc.nd f C).1;omega
   .rw[(lL z).2]at y;have:=(jX hc.nd y C).1;omega
 . rcases da.mp hu with rfl|hu;.rw[e]at ex;cases ex;exact⟨l,_,_,C,h1,cI⟩
   .obtain⟨E,G,I,f,y,U⟩:=h.lv u hu x ex;exact⟨E,G,I,f,y,by omega⟩
theorem sX(e:(es.map (·.1)).Nodup)(h:(p,x)∈es):mD ((es.map (·.1)).zip (es.map Al)) p=aU (Al (p,x)):=by
 have:(es.map (·.1)).zip (es.map Al)=es.map en:=by rw[List.zip_map'];rfl
 rw[this];exact rB e h
inductive JSt(m:Int)(ws:List Wy)(fs:List Int)(es:List En)(p:Int)(L:Nat)(H:Int)(a0 a1 a2:Sl)(M:Nat)(ρ:List Sl):Prop where|mk(a:Int)(l:Nat)(o:Option aB×Int)(c:List aB)(s5:Sl)(q0:ρ=[a0,a1,a2,.own a_ (c.reverse.map sD),.val a_ (.int a),s5])(q1:fr s5=cq)(q2:(a,l,o)∈es)(q3:Q3 ws fs es p L H a l o.2 c)(q4:l<=M)
theorem Hg{L:Nat}{fs:List Int}(I:100<=w)(h:jb m ws fs es)(J:L<=6)(E:(p,L,o)∈es)(k:∀c,Q3 ws fs es p L o.2 0 0 0 c->Q (.val (.tup (c.map sD))) [.val a_ (aV m ws),.val a_ (iT es),.val a_ (.int p)]):(run Γ w (n+2) 6 [.val a_ (aV m ws),.val a_ (iT es),.val a_ (.int p)]).sat Q:=by
 refine aM (d:=f6) rfl rfl (by decide) ?_;(first|apply ak|apply G9);simp[f6];apply ak;simp;apply ak;simp;refine kE (JSt m ws fs es p L o.2 _ _ _) ?_ (k:=w) (m:=L) (by omega) ⟨p,L,o,[],.aX,rfl,rfl,E,⟨rfl,λs hs=>(by cases hs),by simp,by simp,by simp,by rw[bO];omega⟩,cI⟩;rintro M _⟨a,l,O,c,s5,rfl,G,f,hc,U⟩;have t:=sX h.cm.nd f;rcases h.on f with⟨rfl,rfl,rfl⟩|⟨s,v,y,H,rfl,rfl,e,rfl,ho,C⟩;.simp[iT,t,Al,oS];(first|apply ak|apply G9);simp;exact k c hc
 . simp[iT,t,Al,oS,sD,gf];(first|apply ak|apply G9);simp[t,Al,oS,G];apply ak;have u:c.length<16777216:=by have:=hc.len;omega
   simp[u];apply ak;simp[sD];refine mO e ?_;simp;exact⟨y,by omega,frm v s.2,y,H,s::c,.val a_ (gf s.1 s.2),by simp[iT,sD],rfl,C,hc.cons h.cm e f C ho,cI⟩
noncomputable def sg(x:Int)(f:Bool):Int:=if f then x else-x
noncomputable def kI(x:Int)(fs:List Int)(s:aB):List Int:=fs.set s.1 ((fs[s.1]?.getD 0)+sg x s.2)
noncomputable def aug(x:Int)(fs:List Int)(c:List aB):List Int:=c.foldl (kI x) fs
@[simp]theorem yL{x:Int}{fs:List Int}{s:aB}:(kI x fs s).length=fs.length:=by simp[kI]
theorem oX{x:Int}:∀{c:List aB}{fs:List Int},(aug x fs c).length=fs.length|[],_=>rfl|s::c,fs=>by show(aug x (kI x fs s) c).length=_;rw[oX,yL]
theorem ou{x:Int}{j:Nat}:∀{c:List aB}{fs:List Int},j∉c.map (·.1)->(aug x fs c)[j]?=fs[j]?|[],_,_=>rfl|s::c,fs,h=>by rw[dl,da,not_or]at h;show(aug x (kI x fs s) c)[j]?=_;rw[ou h.2];unfold kI;rw[fo (λz=>h.1 z.symm)]
theorem wQ{x:Int}:∀{c:List aB}{fs:List Int}{s:aB}{g:Int},(c.map (·.1)).Nodup->s∈c->fs[s.1]?=aU g->(aug x fs c)[s.1]?=aU (g+sg x s.2)
 |[],_,_,_,_,h,_=>by cases h|t::c,fs,s,g,f,h,e=>by
   rw[dl,fk]at f;show(aug x (kI x fs t) c)[s.1]?=_;have u:=(fB e).1;rcases da.mp h with rfl|h;.rw[ou f.1];unfold kI;rw[cy u,e];rfl
   .refine wQ f.2 h ?_;unfold kI;rw[fo (λz=>f.1 (by rw[z];exact de.mpr ⟨s,h,rfl⟩))];exact e
inductive JWt(x:Int)(fs:List Int)(c:List aB)(a0 a1 a2:Sl)(r:List D)(ρ:List Sl):Prop where|mk(bZ us:List aB)(s4 s5:Sl)(q0:ρ=[a0,a1,a2,.own a_ ((aug x fs bZ).map D.int),s4,s5])(q1:fr s4=cq)(q2:fr s5=cq)(q3:r=us.map sD)(q4:bZ++us=c)
theorem yS{s:Sl}{x:Int}{fs:List Int}(hs:Rg s fs)(hc:∀s∈c,s.1<fs.length)(k:Q (.own ((aug x fs c).map D.int)) [s,.val a_ (.tup (c.map sD)),.val a_ (.int x)]):(run Γ w (n+1) 7 [s,.val a_ (.tup (c.map sD)),.val a_ (.int x)]).sat Q:=by
 refine aM (d:=f7) rfl rfl (by decide) ?_;refine fC (λρ=>ρ=[s,.val a_ (.tup (c.map sD)),.val a_ (.int x),.own a_ (fs.map D.int),.aX,.aX]) ?_ ?_;.rcases hs with rfl|⟨b,rfl⟩;all_goals simp[f7]
 rintro _ rfl;(first|apply ak|apply G9);simp;refine dj (JWt x fs c _ _ _) ?_ ?_ ⟨[],c,.aX,.aX,rfl,rfl,rfl,rfl,rfl⟩;.rintro d r _⟨e,h,s4,s5,rfl,C,E,hr,hd⟩;cases h with|nil=>cases hr|cons u h=>
     obtain⟨rfl,rfl⟩:d=sD u/\r=h.map sD:=by simpa using hr
     have hu:u.1<(aug x fs e).length:=by rw[oX];exact hc u (by rw[<-hd];simp)
     have y:(aug x fs e)[u.1]?=aU (aug x fs e)[u.1]:=by simp[hu]
     have G:jE (aug x fs e).length (u.1:Int)=aU u.1:=by unfold jE;rw[if_pos (by omega),if_pos (by omega)];simp
     have he:aug x fs (e++[u])=(aug x fs e).set u.1 ((aug x fs e)[u.1]+sg x u.2):=by unfold aug;rw[tT];show kI x (aug x fs e) u=_;unfold kI;rw[y];rfl
     have t:(e++[u])++h=c:=by rw[fK];exact hd
     generalize(aug x fs e)[u.1]=g at*;simp[sD,gf,C,E];apply ak;obtain⟨j,f⟩:=u;cases f with|true=>simp[jy y,G];exact⟨e++[(j,cq)],h,_,_,by rw[he,map_set];rfl,rfl,rfl,rfl,t⟩|false=>simp[jy y,G];exact⟨e++[(j,a_)],h,_,_,by rw[he,map_set];rfl,rfl,rfl,rfl,t⟩
 . rintro _⟨e,h,s4,s5,rfl,C,E,hr,hd⟩;have:h=[]:=by cases h with|nil=>rfl|cons _ _=>cases hr
   subst this;rw[gN]at hd;subst hd;simp;apply ak;simp;exact k
noncomputable def Gb(F:Int->Int)(D:Int):List En->Int->Int|[],p=>F p+D|e::es,p=>if e.1=p then e.2.2.2 else Gb F D es p
theorem gP{F:Int->Int}{D p:Int}{l:Nat}{o:Option aB×Int}:∀{es:List En},(es.map (·.1)).Nodup->(p,l,o)∈es->Gb F D es p=o.2
 |[],_,h=>by cases h|e::es,f,h=>by
   rw[dl,fk]at f;rw[Gb];rcases da.mp h with rfl|h;.rw[if_pos rfl]
   .rw[if_neg (λz=>f.1 (by rw[z];exact de.mpr ⟨_,h,rfl⟩))];exact gP f.2 h
theorem nF{F:Int->Int}{D p:Int}:∀{es:List En},(¬ ∃l o,(p,l,o)∈es)->Gb F D es p=F p+D|[],_=>rfl|e::es,h=>by rw[Gb,if_neg (λz=>h ⟨e.2.1,e.2.2,by rw[<-z];simp⟩)];exact nF λ⟨l,o,z⟩=>h ⟨l,o,dV _ z⟩
theorem Fo(F:Int->Int):∀(es:List En),∃D,∀p l o,(p,l,o)∈es->o.2<=F p+D
 |[]=>⟨0,λ_ _ _ h=>by cases h⟩|e::es=>by
   obtain⟨D,h⟩:=Fo F es;refine⟨max D (e.2.2.2-F e.1),λp l o z=>?_⟩;rcases da.mp z with rfl|z;.simp only;omega
   .have:=h p l o z;omega
theorem jb.pt{fs:List Int}{D:Int}(h:jb m ws fs es)(f:Pt ws fs F)(t:∀p l o,(p,l,o)∈es->o.2<=F p+D):Pt ws fs (Gb F D es):=λs v e ho=>by
 by_cases c:∃l o,(frm v s.2,l,o)∈es;.obtain⟨l,o,c⟩:=c;obtain⟨l2,u,c2,c3⟩:=h.cl l o s v e c ho;rw[gP h.cm.nd c,gP h.cm.nd c2];unfold Le at c3;omega
 . rw[nF c];have h1:=f s v e ho;by_cases c2:∃l o,(too v s.2,l,o)∈es;.obtain⟨l2,u,c2⟩:=c2;rw[gP h.cm.nd c2];have:=t _ _ _ c2;omega
   .rw[nF c2];omega
theorem LR{fs:List Int}{G:Int->Int}(d:Int)(f:Pt ws fs F)(h:Pt ws fs G):Pt ws fs (λp=>min (F p) (G p+d)):=λs v e ho=>by have h1:=f s v e ho;have t:=h s v e ho;simp only;omega
theorem vI{ws:List Wy}{fs:List Int}{F:Int->Int}(h:Pt ws fs F){b:Int}:∀{c:List aB}{a:Int},iy ws b c a->uV ws fs c->F b=F a+bO ws c->∀s∈c,∀v,ws[s.1]?=aU v->F (too v s.2)=F (frm v s.2)+hsp v s.2
 |[],_,_,_,_,s,hs,_,_=>by cases hs|s::c,a,⟨v,e,t,y⟩,ho,he,u,hu,x,ex=>by
   have f:uV ws fs c:=λu hu=>ho u (dV _ hu);have h1:=iZ h y f;obtain⟨G,C,o⟩:=ho s (by simp);rw[e]at C;cases C;have E:=h s v e o;rw[t]at E;rw[bO,iw e]at he;rcases da.mp hu with rfl|hu;.rw[e]at ex;cases ex;rw[t];omega
   .exact vI h y f (by omega) u hu x ex
theorem ue{fs:List Int}{x:Int}{t:aB}(hc:uV ws fs c)(e:ws[t.1]?=aU v)(h:jP ws (aug x fs c) (frm v t.2) t=cq):jP ws fs (frm v t.2) t=cq\/∃s∈c,s.1=t.1/\t.2≠s.2:=by
 by_cases z:t.1∈c.map (·.1)
 . obtain⟨s,hs,es⟩:=de.mp z;by_cases q:t.2=s.2;.have:t=s:=Prod.ext_iff.mpr ⟨es.symm,q⟩;subst this;obtain⟨u,f,o⟩:=hc t hs;rw[e]at f;cases f;exact .inl o
   .exact .inr ⟨s,hs,es,q⟩
 .refine .inl ?_;unfold jP at h ⊢;rwa[ou z]at h
theorem Pt.aug{ws:List Wy}{fs:List Int}{F:Int->Int}(h:Pt ws fs F){a b x:Int}{c:List aB}(f:iy ws b c a)(ho:uV ws fs c)(he:F b=F a+bO ws c):Pt ws (aug x fs c) F:=λt v e o=>by
 rcases ue ho e o with o|⟨u,hu,y,ne⟩;.exact h t v e o
 . have:=vI h f ho he u hu v (by rw[y];exact e);rw[(lL ne).1,(lL ne).2];have:hsp v t.2=-hsp v u.2:=by cases h1:t.2<;>cases h2:u.2<;>simp[hsp]<;>(rw[h1,h2]at ne;exact absurd rfl ne)
   omega
noncomputable def eX(G:Wy->Int):List Wy->List Int->Int|v::ws,g::fs=>G v*g+eX G ws fs|_,_=>0
noncomputable def jV(H:Wy->Int):List Wy->Int|[]=>0|v::ws=>H v+jV H ws
theorem xF{G H:Wy->Int}:∀{ws:List Wy}{fs:List Int},fs.length=ws.length->(∀(j:Nat)v g,ws[j]?=aU v->fs[j]?=aU g->G v*g<=H v)->eX G ws fs<=jV H ws|[],[],_,_=>fm _|[],_::_,h,_=>by simp at h|_::_,[],h,_=>by simp at h|v::ws,g::fs,h,k=>by have h1:=k 0 v g rfl rfl;have t:=xF (G:=G) (H:=H) (ws:=ws) (fs:=fs) (by simpa using h) λj v g e f=>k (j+1) v g (by simpa using e) (by simpa using f);rw[eX,jV];omega
theorem Ji{G H:Wy->Int}:∀{ws:List Wy}{fs:List Int},fs.length=ws.length->(∀(j:Nat)v g,ws[j]?=aU v->fs[j]?=aU g->H v<=G v*g)->jV H ws<=eX G ws fs|[],[],_,_=>fm _|[],_::_,h,_=>by simp at h|_::_,[],h,_=>by simp at h|v::ws,g::fs,h,k=>by have h1:=k 0 v g rfl rfl;have t:=Ji (G:=G) (H:=H) (ws:=ws) (fs:=fs) (by simpa using h) λj v g e f=>k (j+1) v g (by simpa using e) (by simpa using f);rw[eX,jV];omega
theorem DQ{G:Wy->Int}{v:Wy}{g y:Int}:∀{j:Nat}{ws:List Wy}{fs:List Int},ws[j]?=aU v->fs[j]?=aU g->eX G ws (fs.set j (g+y))=eX G ws fs+G v*y|_,[],_,e,_=>by simp at e|_,_::_,[],_,e=>by simp at e|0,u::ws,f::fs,h,t=>by simp at h t;subst h t;rw[List.set_cons_zero,eX,eX,tP];omega|j+1,u::ws,f::fs,h,t=>by rw[List.set_cons_succ,eX,eX,DQ (j:=j) (by simpa using h) (by simpa using t)];omega
noncomputable def gap(k:Int)(q:Int->Int)(v:Wy):Int:=q v.t-q v.s-k*v.h
theorem Jg{x:Int}{f:Bool}:gap k q v*sg x f=x*(q (too v f)-q (frm v f)-k*hsp v f):=by cases f with|true=>show(q v.t-q v.s-k*v.h)*x=x*(q v.t-q v.s-k*v.h);exact uI _ _|false=>show(q v.t-q v.s-k*v.h)*(-x)=x*(q v.s-q v.t-k*(-v.h));rw[mul_neg,mul_neg k,show q v.s-q v.t- -(k*v.h)=-(q v.t-q v.s-k*v.h)by omega,mul_neg,uI]
theorem qR{k x:Int}{q:Int->Int}{ws:List Wy}{b:Int}:∀{c:List aB}{fs:List Int}{a:Int},fs.length=ws.length->iy ws b c a->eX (gap k q) ws (aug x fs c)=eX (gap k q) ws fs+x*(q b-q a-k*bO ws c)
 |[],fs,a,_,h=>by have:a=b:=h;subst this;show _=_+x*(q a-q a-k*0);simp;rfl|s::c,fs,a,t,⟨v,e,y,C⟩=>by
   show eX (gap k q) ws (aug x (kI x fs s) c)=_;have f:s.1<fs.length:=by rw[t];exact(fB e).1
   have u:fs[s.1]?=aU fs[s.1]:=by simp[f]
   rw[qR (by rw[yL];exact t) C];have:kI x fs s=fs.set s.1 (fs[s.1]+sg x s.2):=by unfold kI;rw[u];rfl
   rw[this,DQ e u,Jg,y,Int.add_assoc,<-tP,bO,iw e,tP k];congr 2;omega
structure M5(ws:List Wy)(fs:List Int):Prop where
 len:fs.length=ws.length
 ok:∀(j:Nat)v g,ws[j]?=aU v->fs[j]?=aU g->0<=g/\g<=v.r
theorem M5.aug{ws:List Wy}{fs:List Int}{c:List aB}{x:Int}(h:M5 ws fs)(C:(c.map (·.1)).Nodup)(E:0<x)(hc:∀s∈c,∃v g,ws[s.1]?=aU v/\fs[s.1]?=aU g/\x<=oh v g s.2):M5 ws (aug x fs c):=by
 refine⟨by rw[oX];exact h.len,λj v g f e=>?_⟩;by_cases z:j∈c.map (·.1);.obtain⟨s,hs,rfl⟩:=de.mp z;obtain⟨G,g',t,u,y⟩:=hc s hs;rw[f]at t;cases t;rw[wQ C hs u]at e;cases e;have:=h.ok _ _ _ f u;cases hf:s.2<;>rw[hf]at y<;>simp[oh,sg]at y ⊢<;>omega
 .rw[ou z]at e;exact h.ok _ _ _ f e
noncomputable def dD(q:Int->Int)(v:Wy):Int:=v.r*max 0 (q v.t-q v.s-v.h)
noncomputable def cC(q:Int->Int)(ws:List Wy):Int:=jV (dD q) ws
theorem PJ:gap 1 q v=q v.t-q v.s-v.h:=by unfold gap;omega
theorem Dt{fs:List Int}(h:M5 ws fs):eX (gap 1 q) ws fs<=cC q ws:=xF h.len λj v g e f=>by
 have:=h.ok _ _ _ e f;rw[PJ];unfold dD;generalize q v.t-q v.s-v.h=y;by_cases c:0<=y;.rw[Int.max_eq_right c,uI];exact Int.mul_le_mul_of_nonneg_right this.2 c
 .rw[uK (by omega),uH];exact Int.mul_nonpos_of_nonpos_of_nonneg (by omega) this.1
theorem Dh{fs:List Int}(h:M5 ws fs)(u:Pt ws fs q):cC q ws=eX (gap 1 q) ws fs:=by
 refine Int.le_antisymm (Ji h.len λj v g e f=>?_) (Dt h);have G:=h.ok _ _ _ e f;have E:0<v.r-g->q v.t<=q v.s+v.h:=λz=>u (j,cq) v e (by rw[mK (s:=(j,cq)) e f];simp[frm,oh];omega);have C:0<g->q v.s<=q v.t+-v.h:=λz=>u (j,a_) v e (by rw[mK (s:=(j,a_)) e f];simp[frm,oh];omega);rw[PJ];unfold dD;generalize H:q v.t-q v.s-v.h=y;by_cases c:g=v.r
 . subst c;by_cases c0:0<v.r;.have:=C c0;rw[Int.max_eq_right (by omega),uI];exact fm _
   . have:v.r=0:=by omega
     rw[this];simp
 . have:=E (by omega);rw[uK (by omega),uH];by_cases c0:0<g;.have:=C c0;rw[show y=0 by omega];simp
   .rw[show g=0 by omega];simp
noncomputable def qu(fs:List Int)(x:List aB×Int):List Int:=aug x.2 fs x.1
noncomputable def flow(N:Nat)(cs:List (List aB×Int)):List Int:=cs.foldl qu (cE N 0)
theorem uy{x:List aB×Int}:flow N (cs++[x])=aug x.2 (flow N cs) x.1:=by unfold flow;rw[tT];rfl
noncomputable def bK(H:List aB×Int->Int):List (List aB×Int)->Int|[]=>0|x::cs=>H x+bK H cs
theorem j4{H:List aB×Int->Int}{x:List aB×Int}:∀{cs:List (List aB×Int)},bK H (cs++[x])=bK H cs+H x|[]=>by simp[bK]|y::cs=>by rw[lx,bK,bK,j4];omega
theorem ir{H K:List aB×Int->Int}:∀{cs:List (List aB×Int)},(∀x∈cs,H x=K x)->bK H cs=bK K cs|[],_=>rfl|x::cs,h=>by rw[bK,bK,h x (by simp),ir λy e=>h y (by simp[e])]
noncomputable def WK(ws:List Wy)(T:Int)(x:List aB×Int):Int:=if bO ws x.1<=T then x.2*(T-bO ws x.1+1)else 0
noncomputable def val(ws:List Wy)(T:Int)(cs:List (List aB×Int)):Int:=bK (WK ws T) cs
structure jB(m:Int)(ws:List Wy)(T v:Int):Prop where
 ex:∃q:Int->Int,q 0=0/\q (m-1)=T+1/\cC q ws=v
 le:∀q:Int->Int,q 0=0->q (m-1)=T+1->v<=cC q ws
theorem yR{T:Int}{fs:List Int}{G:Int->Int}(fit:M5 ws fs)(dt:∀k q,eX (gap k q) ws fs=bK (λx=>x.2*(q (m-1)-q 0-k*bO ws x.1)) cs)(y:∀x∈cs,bO ws x.1<=T+1)(C:Pt ws fs G)(h:G 0=0)(t:G (m-1)=T+1):jB m ws T (val ws T cs):=by
 have u:∀q:Int->Int,q 0=0->q (m-1)=T+1->eX (gap 1 q) ws fs=val ws T cs:=λq e f=>by
  rw[dt,e,f];refine ir λx E=>?_;have:=y x E;unfold WK;split;.congr 1;omega
  .rw[show T+1-0-1*bO ws x.1=0 by omega,uH]
 exact⟨⟨G,h,t,by rw[Dh fit C,u G h t]⟩,λq e f=>by rw[<-u q e f];exact Dt fit⟩
structure An(m:Int)(ws:List Wy)(cs:List (List aB×Int))(fs:List Int)(F:Int->Int)(d:Int):Prop where
 fit:M5 ws fs
 pt:Pt ws fs F
 z:F 0=0
 e:F (m-1)=d
 d0:0<=d
 nn:(∀v∈ws,1<=v.h)->1<=d/\∀x∈cs,1<=bO ws x.1
 ch:∀x∈cs,bO ws x.1<=d/\0<x.2/\∀s∈x.1,s.1<ws.length
 dt:∀k q,eX (gap k q) ws fs=bK (λx=>x.2*(q (m-1)-q 0-k*bO ws x.1)) cs
 lst:∀T,0<=T->T+1<=d->jB m ws T (val ws T cs)
theorem t8{G:Wy->Int}:∀{ws:List Wy}{n:Nat},eX G ws (cE n 0)=0|[],n=>by unfold eX;rfl|v::ws,0=>rfl|v::ws,n+1=>by rw[ix,eX,t8];simp
theorem wB(h:(cE n (0:Int))[j]?=aU g):g=0:=(List.mem_replicate.mp (eh h)).2
noncomputable def F01(b p:Int):Int:=if p=0 then 0 else b
theorem An.zero(m0:2<=m)(y:∀v∈ws,0<=v.h)(hr:∀v∈ws,0<=v.r):∃b,An m ws [] (cE ws.length 0) (F01 b) b:=by
 have fit:M5 ws (cE ws.length 0):=⟨by simp,λj v g f t=>by rw[wB t];exact⟨fm _,hr v (eh f)⟩⟩;have pt:∀b:Int,0<=b->(∀v∈ws,b<=v.h)->Pt ws (cE ws.length 0) (F01 b):=λb b0 C s v e ho=>by obtain⟨G,g,f,t,_,u⟩:=mX ho;rw[e]at f;cases f;have:=wB t;subst this;have:=C v (eh e);cases hf:s.2<;>rw[hf]at u<;>simp[oh,hsp,F01]at u ⊢;split<;>split<;>omega
 have dt:∀k q,eX (gap k q) ws (cE ws.length 0)=bK (λx=>x.2*(q (m-1)-q 0-k*bO ws x.1)) []:=λk q=>by rw[t8];rfl
 have f:∀b,F01 b (m-1)=b:=λb=>by unfold F01;rw[if_neg (by omega)]
 by_cases c:∀v∈ws,1<=v.h;.exact⟨1,fit,pt 1 (by omega) c,rfl,f 1,by omega,λ_=>⟨fm _,by simp⟩,by simp,dt,λT h1 E=>yR fit dt (by simp) (pt 1 (by omega) c) rfl (by rw[f];omega)⟩
 .exact⟨0,fit,pt 0 (by omega) y,rfl,f 0,by omega,λz=>absurd z c,by simp,dt,λT h1 E=>by omega⟩
theorem An.at{d T:Int}{fs:List Int}{G:Int->Int}(h:An m ws cs fs F d)(e:d<=T+1)(f:Pt ws fs G)(t:G 0=0)(u:G (m-1)=T+1):jB m ws T (val ws T cs):=yR h.fit h.dt (λx y=>Int.le_trans (h.ch x y).1 e) f t u
theorem An.more{d:Int}{fs:List Int}{x:Int}(h:An m ws cs fs F d)(f:jb m ws fs es)(t:(m-1,l,o)∈es)(hc:Q3 ws fs es (m-1) l o.2 0 0 0 c)(u:0<x)(hr:∀s∈c,∃v g,ws[s.1]?=aU v/\fs[s.1]?=aU g/\x<=oh v g s.2):∃H,An m ws (cs++[(c,x)]) (aug x fs c) H o.2:=by
 obtain⟨D,I⟩:=Fo F es;have C:=f.pt h.pt I;have L:bO ws c=o.2:=by have:=hc.hrs;omega
 have E:Gb F D es 0=0:=gP f.cm.nd f.cm.z;have G:Gb F D es (m-1)=o.2:=gP f.cm.nd t;have hd:d<=o.2:=by have:=iZ h.pt hc.Mx hc.jK;rw[h.e,h.z]at this;omega
 refine⟨Gb F D es,h.fit.aug hc.nd u hr,C.aug hc.Mx hc.jK (by rw[E,G];omega),E,G,by have:=h.d0;omega,λz=>⟨by have:=(h.nn z).1;omega,λy hy=>?_⟩,λy hy=>?_,λk q=>?_,λT h0 h1=>?_⟩
 . rcases fE.mp hy with hy|hy;.exact(h.nn z).2 y hy
   .rw[d_.mp hy];show 1<=bO ws c;have:=(h.nn z).1;omega
 . rcases fE.mp hy with hy|hy;.have:=h.ch y hy;exact⟨by omega,this.2⟩
   .rw[d_.mp hy];refine⟨by show bO ws c<=_;omega,u,λs hs=>?_⟩;obtain⟨v,g,e,_⟩:=hr s hs;exact(fB e).1
 .rw[qR h.fit.len hc.Mx,j4,h.dt]
 . have J:val ws T (cs++[(c,x)])=val ws T cs:=by unfold val;rw[j4];show _+(if bO ws c<=T then _ else 0)=_;rw[if_neg (by omega)];omega
   rw[J];by_cases q:T+1<=d;.exact h.lst T h0 q
   . refine h.at (by omega) (LR (T+1-d) C h.pt) ?_ ?_;.have:=h.z;omega
     .have:=h.e;omega
theorem An.least{d T:Int}{fs:List Int}(h:An m ws cs fs F d)(f:jb m ws fs es)(t:¬ ∃l o,(m-1,l,o)∈es)(h0:0<=T):jB m ws T (val ws T cs):=by
 by_cases q:T+1<=d;.exact h.lst T h0 q
 . obtain⟨D,u⟩:=Fo F es;have y:=f.pt (D:=max D (T+1-d)) h.pt λp l o z=>by have:=u p l o z;omega
   have C:Gb F (max D (T+1-d)) es 0=0:=gP f.cm.nd f.cm.z;have E:Gb F (max D (T+1-d)) es (m-1)=F (m-1)+max D (T+1-d):=nF t;refine h.at (by omega) (LR (T+1-d) y h.pt) ?_ ?_;.have:=h.z;omega
   .have:=h.e;omega
noncomputable def HX(v:Wy)(f:Bool):Int:=7*hsp v f+1
noncomputable def QL(ws:List Wy)(fs:List Int)(P:Int->Int):Prop:=∀(s:aB)(v:Wy),ws[s.1]?=aU v->jP ws fs (frm v s.2) s=cq->P (too v s.2)<=P (frm v s.2)+HX v s.2
noncomputable def Aq(ws:List Wy)(c:List aB):Int:=7*bO ws c+c.length
theorem sG(e:ws[s.1]?=aU v):Aq ws (s::c)=HX v s.2+Aq ws c:=by unfold Aq HX;rw[bO,iw e,eI];omega
theorem CQ{ws:List Wy}{fs:List Int}{P:Int->Int}(h:QL ws fs P){b:Int}:∀{c:List aB}{a:Int},iy ws b c a->uV ws fs c->P b<=P a+Aq ws c|[],a,f,_=>by have:a=b:=f;rw[this];simp[Aq,bO]|s::c,a,⟨v,e,y,f⟩,ho=>by have h1:=CQ h f λu hu=>ho u (dV _ hu);obtain⟨E,t,o⟩:=ho s (by simp);rw[e]at t;cases t;have C:=h s v e o;rw[y]at C;rw[sG e];omega
theorem vg{ws:List Wy}{fs:List Int}{P:Int->Int}(h:QL ws fs P){b:Int}:∀{c:List aB}{a:Int},iy ws b c a->uV ws fs c->P b=P a+Aq ws c->∀s∈c,∀v,ws[s.1]?=aU v->P (too v s.2)=P (frm v s.2)+HX v s.2
 |[],_,_,_,_,s,hs,_,_=>by cases hs|s::c,a,⟨v,e,t,y⟩,ho,he,u,hu,x,ex=>by
   have f:uV ws fs c:=λu hu=>ho u (dV _ hu);have h1:=CQ h y f;obtain⟨G,C,o⟩:=ho s (by simp);rw[e]at C;cases C;have E:=h s v e o;rw[t]at E;rw[sG e]at he;rcases da.mp hu with rfl|hu;.rw[e]at ex;cases ex;rw[t];omega
   .exact vg h y f (by omega) u hu x ex
noncomputable def tgt(ws:List Wy)(fs:List Int)(P:Int->Int)(s:aB):Bool:=match ws[s.1]?with|some v=>jP ws fs (frm v s.2) s&&decide (P (too v s.2)=P (frm v s.2)+HX v s.2)|none=>a_
theorem Kf{fs:List Int}{P:Int->Int}(e:ws[s.1]?=aU v):tgt ws fs P s=(jP ws fs (frm v s.2) s&&decide (P (too v s.2)=P (frm v s.2)+HX v s.2)):=by unfold tgt;rw[e]
noncomputable def K7(ws:List Wy)(fs:List Int)(P:Int->Int):Nat:=((iB ws.length).filter (tgt ws fs P)).length
theorem FN{fs:List Int}{P:Int->Int}(h:ws.length<=12):K7 ws fs P<=24:=by have:=jS (tgt ws fs P) (iB ws.length);rw[zW]at this;unfold K7;omega
theorem Kq{p q:aB->Bool}(h:∀t,q t=cq->p t=cq):∀(l:List aB),(l.filter q).length<=(l.filter p).length|[]=>cI|t::l=>by have e:=Kq h l;cases hq:q t with|true=>simp[hq,h t hq,e]|false=>cases hp:p t with|true=>simp[hq,hp];omega|false=>simp[hq,hp,e]
theorem Js{p q:aB->Bool}{s:aB}(h:∀t,q t=cq->p t=cq)(e:p s=cq)(f:q s=a_):∀{l:List aB},s∈l->(l.filter q).length<(l.filter p).length
 |[],hs=>by cases hs|t::l,hs=>by
   have le:=Kq h l;rcases da.mp hs with rfl|hs;.simp[e,f];omega
   .have u:=Js h e f hs;cases hq2:q t with|true=>simp[hq2,h t hq2,u]|false=>cases hp2:p t with|true=>simp[hq2,hp2];omega|false=>simp[hq2,hp2,u]
theorem K3{fs:List Int}(f:(c.map (·.1)).Nodup)(hs:s∈c)(e:ws[s.1]?=aU v)(h:fs[s.1]?=aU g):jP ws (aug (oh v g s.2) fs c) p s=a_:=by
 rw[mK e (wQ f hs h)];have:oh v (g+sg (oh v g s.2) s.2) s.2=0:=by cases s.2<;>simp[oh,sg]<;>omega
 rw[this];simp
theorem QL.aug{ws:List Wy}{fs:List Int}{P:Int->Int}(h:QL ws fs P){a b:Int}{c:List aB}{s:aB}{v:Wy}{g:Int}(G:iy ws b c a)(ho:uV ws fs c)(H:(c.map (·.1)).Nodup)(he:P b=P a+Aq ws c)(hs:s∈c)(e:ws[s.1]?=aU v)(I:fs[s.1]?=aU g):QL ws (aug (oh v g s.2) fs c) P/\K7 ws (aug (oh v g s.2) fs c) P<K7 ws fs P:=by
 have y:=vg h G ho he;have back:∀(t u:aB)(x:Wy),u∈c->u.1=t.1->t.2≠u.2->ws[t.1]?=aU x->P (too x t.2)<P (frm x t.2)+HX x t.2:=λt u x hu f ne ex=>by
  have h1:=y u hu x (by rw[f];exact ex);rw[(lL ne).1,(lL ne).2];have C:hsp x t.2=-hsp x u.2:=by cases h1:t.2<;>cases C:u.2<;>simp[hsp]<;>(rw[h1,C]at ne;exact absurd rfl ne)
  unfold HX at*;omega
 refine⟨λt x ex o=>?_,?_⟩
 . rcases ue ho ex o with o|⟨u,hu,f,ne⟩;.exact h t x ex o
   .have:=back t u x hu f ne ex;omega
 . obtain⟨J,E,o⟩:=ho s hs;rw[e]at E;cases E;refine Js (s:=s) (λt ht=>?_) (by rw[Kf e,o,y s hs v e];simp) (by rw[Kf e,K3 H hs e I];rfl) (zu (fB e).1);unfold tgt at ht ⊢;split at ht
   . rename_i x ex;simp only[eR,decide_eq_true_eq]at ht ⊢;refine⟨?_,ht.2⟩;rcases ue ho ex ht.1 with o|⟨u,hu,f,ne⟩;.exact o
     .have:=back t u x hu f ne ex;omega
   .cases ht
noncomputable abbrev QQ:=List (Option Bool)
noncomputable def lU:List Wy->QQ->Int|v::ws,aU f::es=>HX v f+lU ws es|_::ws,cr::es=>lU ws es|_,_=>0
noncomputable def GD(N:Nat):List aB->QQ|[]=>cE N cr|s::c=>(GD N c).set s.1 (aU s.2)
theorem xX{N:Nat}:∀{c:List aB},(GD N c).length=N|[]=>by simp[GD]|s::c=>by rw[GD,List.length_set,xX]
theorem DN{N j:Nat}:∀{c:List aB},j<N->j∉c.map (·.1)->(GD N c)[j]?=aU cr|[],h,_=>by simp[GD,h]|s::c,h,e=>by rw[dl,da,not_or]at e;rw[GD,fo (λz=>e.1 z.symm)];exact DN h e.2
theorem zp{v:Wy}{f:Bool}:∀{j:Nat}{ws:List Wy}{es:QQ},ws[j]?=aU v->es[j]?=aU cr->lU ws (es.set j (aU f))=lU ws es+HX v f|_,[],_,e,_=>by simp at e|_,_::_,[],_,e=>by simp at e|0,u::ws,x::es,h,t=>by simp at h t;subst h t;rw[List.set_cons_zero,lU,lU];omega|j+1,u::ws,x::es,h,t=>by have y:=zp (f:=f) (j:=j) (ws:=ws) (es:=es) (by simpa using h) (by simpa using t);rw[List.set_cons_succ];cases x with|none=>rw[lU,lU,y]|some g=>rw[lU,lU,y];omega
theorem vQ:∀{ws:List Wy}{n:Nat},lU ws (cE n cr)=0|[],n=>by unfold lU;rfl|v::ws,0=>rfl|v::ws,n+1=>by rw[ix,lU,vQ]
theorem xQ{ws:List Wy}{b:Int}:∀{c:List aB}{a:Int},iy ws b c a->(c.map (·.1)).Nodup->lU ws (GD ws.length c)=Aq ws c|[],_,_,_=>by rw[GD,vQ];simp[Aq,bO]|s::c,a,⟨v,e,_,h⟩,f=>by rw[dl,fk]at f;rw[GD,zp e (DN (fB e).1 f.1),xQ h f.2,sG e];omega
noncomputable def uR:Nat->List QQ|0=>[[]]|n+1=>(uR n).map (cr::·)++((uR n).map (aU cq::·)++(uR n).map (aU a_::·))
theorem rP:∀{n:Nat},(uR n).length=3^n|0=>rfl|n+1=>by rw[uR,ez,ez,dy,dy,dy,rP,Nat.pow_succ];omega
theorem um:∀{e:QQ},e∈uR e.length|[]=>by simp[uR]|x::e=>by have h:=um (e:=e);rw[eI,uR,fE,fE];cases x with|none=>exact .inl (de.mpr ⟨e,h,rfl⟩)|some f=>cases f with|true=>exact .inr (.inl (de.mpr ⟨e,h,rfl⟩))|false=>exact .inr (.inr (de.mpr ⟨e,h,rfl⟩))
structure Qs(m:Int)(ws:List Wy)(k:Nat)(fs:List Int)(P:Int->Int)(lam:Int)(seen:List QQ):Prop where
 pt:QL ws fs P
 z:P 0=0
 e:P (m-1)=lam
 nd:seen.Nodup
 sl:∀e∈seen,e.length=ws.length/\lU ws e<=lam
 cnt:k+K7 ws fs P<=25*(seen.length+1)
theorem Qs.few{f:Int}{k:Nat}{fs:List Int}{P:Int->Int}{seen:List QQ}(h:Qs m ws k fs P f seen)(t:ws.length<=12):k<=13286050:=by
 have h1:=oG (l2:=uR ws.length) h.nd λe he=>by rw[<-(h.sl e he).1];exact um
 rw[rP]at h1;have u:3^ws.length<=3^12:=sC (by decide) t;have y:(3:Nat)^12=531441:=by decide
 have:=h.cnt;omega
theorem Qs.zero(u:ws.length<=12)(y:∀v∈ws,0<=v.h):Qs m ws 0 (cE ws.length 0) (λ_=>0) 0 []:=by refine⟨λs v e ho=>?_,rfl,rfl,.nil,by simp,by have:=FN (fs:=cE ws.length 0) (P:=λ_=>0) u;simp;omega⟩;obtain⟨E,g,f,C,_,t⟩:=mX ho;rw[e]at f;cases f;have:=wB C;subst this;have:=y v (eh e);cases hf:s.2<;>rw[hf]at t<;>simp[oh,HX,hsp]at t ⊢;omega
noncomputable def MF(F:Int->Int)(D:Int):List En->Int->Int|[],p=>F p+D|e::es,p=>if e.1=p then 7*e.2.2.2+(e.2.1:Int)else MF F D es p
theorem o8{F:Int->Int}{D p:Int}{l:Nat}{o:Option aB×Int}:∀{es:List En},(es.map (·.1)).Nodup->(p,l,o)∈es->MF F D es p=7*o.2+l
 |[],_,h=>by cases h|e::es,f,h=>by
   rw[dl,fk]at f;rw[MF];rcases da.mp h with rfl|h;.rw[if_pos rfl]
   .rw[if_neg (λz=>f.1 (by rw[z];exact de.mpr ⟨_,h,rfl⟩))];exact o8 f.2 h
theorem xZ{F:Int->Int}{D p:Int}:∀{es:List En},(¬ ∃l o,(p,l,o)∈es)->MF F D es p=F p+D|[],_=>rfl|e::es,h=>by rw[MF,if_neg (λz=>h ⟨e.2.1,e.2.2,by rw[<-z];simp⟩)];exact xZ λ⟨l,o,z⟩=>h ⟨l,o,dV _ z⟩
theorem JH(F:Int->Int):∀(es:List En),∃D,∀p l o,(p,l,o)∈es->7*o.2+(l:Int)<=F p+D
 |[]=>⟨0,λ_ _ _ h=>by cases h⟩|e::es=>by
   obtain⟨D,h⟩:=JH F es;refine⟨max D (7*e.2.2.2+(e.2.1:Int)-F e.1),λp l o z=>?_⟩;rcases da.mp z with rfl|z;.simp only;omega
   .have:=h p l o z;omega
theorem jb.pts{fs:List Int}{P:Int->Int}{D:Int}(h:jb m ws fs es)(f:HN m ws)(t:Pt ws fs F)(u:QL ws fs P)(y:∀p l o,(p,l,o)∈es->7*o.2+(l:Int)<=P p+D):QL ws fs (MF P D es):=λs v e ho=>by
 by_cases c:∃l o,(frm v s.2,l,o)∈es;.obtain⟨l,o,c⟩:=c;obtain⟨l2,C,c2,c3⟩:=h.cl l o s v e c ho;rw[o8 h.cm.nd c,o8 h.cm.nd c2];have:=h.l5 f t c2;unfold Le at c3;unfold HX;omega
 . rw[xZ c];have h1:=u s v e ho;by_cases c2:∃l o,(too v s.2,l,o)∈es;.obtain⟨l2,C,c2⟩:=c2;rw[o8 h.cm.nd c2];have:=y _ _ _ c2;omega
   .rw[xZ c2];omega
theorem Qs.more{f:Int}{k:Nat}{fs:List Int}{P:Int->Int}{seen:List QQ}(h:Qs m ws k fs P f seen)(C:HN m ws)(J:Pt ws fs F)(t:jb m ws fs es)(u:(m-1,l,o)∈es)(hc:Q3 ws fs es (m-1) l o.2 0 0 0 c)(hs:s∈c)(e:ws[s.1]?=aU v)(E:fs[s.1]?=aU g):∃L M O,Qs m ws (k+1) (aug (oh v g s.2) fs c) L M O:=by
 have U:bO ws c=o.2:=by have:=hc.hrs;omega
 have W:c.length=l:=by have:=hc.len;omega
 have X:Aq ws c=7*o.2+l:=by unfold Aq;rw[U,W]
 have Y:f<=Aq ws c:=by have:=CQ h.pt hc.Mx hc.jK;rw[h.e,h.z]at this;omega
 by_cases q:f=Aq ws c;.have y:=h.pt.aug hc.Mx hc.jK hc.nd (by rw[h.e,h.z];omega) hs e E;exact⟨P,f,seen,y.1,h.z,h.e,h.nd,h.sl,by have:=h.cnt;omega⟩
 . obtain⟨D,Z⟩:=JH P es;have hP:=t.pts C J h.pt Z;have G:MF P D es 0=0:=by rw[o8 t.cm.nd t.cm.z];rfl
   have H:MF P D es (m-1)=Aq ws c:=by rw[o8 t.cm.nd u,X]
   have y:=hP.aug hc.Mx hc.jK hc.nd (by rw[G,H];omega) hs e E;have I:=xQ hc.Mx hc.nd;refine⟨MF P D es,Aq ws c,seen++[GD ws.length c],y.1,G,H,?_,λx hx=>?_,?_⟩;.rw[mo];refine⟨h.nd,by simp,λa ha b hb ab=>?_⟩;have:=(h.sl a ha).2;rw[ab,d_.mp hb,I]at this;omega
   . rcases fE.mp hx with hx|hx;.have:=h.sl x hx;exact⟨this.1,by omega⟩
     .rw[d_.mp hx];exact⟨xX,by rw[I];exact fm _⟩
   .have h1:=FN (fs:=fs) (P:=MF P D es) C.len;have h2:=h.cnt;rw[ez,kC];omega
noncomputable def cD(x:List aB×Int):D:=.tup [.tup (x.1.map sD),.int x.2]
theorem Ub(h:ns≠[]):∃i,ns.min?=aU i/\i∈ns/\∀j∈ns,i<=j:=by cases e:ns.min? with|none=>rw[List.min?_eq_none_iff]at e;exact absurd e h|some i=>have:=rq.mp e;exact⟨i,rfl,this.1,this.2⟩
noncomputable def Z1:D->aB|.tup [.int j,.bl f]=>(j.toNat,f)|_=>(0,cq)
@[simp]theorem K1{s:aB}:Z1 (sD s)=s:=rfl
noncomputable def QM(ws:List Wy)(fs:List Int)(s:aB):Int:=match ws[s.1]?,fs[s.1]?with|some v,aU g=>oh v g s.2|_,_=>0
noncomputable def rmD(ws:List Wy)(fs:List Int)(d:D):D:=.int (QM ws fs (Z1 d))
@[simp]theorem aal{es:List En}{p:Int}:zF a_ (.int p) (iT es)=aU (.val (.bl (pY (es.map en) p))):=by show aU (R.val (.bl ((es.map (·.1)).contains p)))=aU (R.val (.bl ((Hu (es.map en)).contains p)));rw[BP]
noncomputable def Chk(m:Int)(ws:List Wy)(x:List aB×Int):Prop:=x.1.length<=6/\(∀s∈x.1,s.1<ws.length)/\iy ws (m-1) x.1 0/\(x.1.map (·.1)).Nodup
structure Stg(m:Int)(ws:List Wy)(bZ:List (List aB×Int))(x:List aB×Int):Prop where
 iv:∃F d,An m ws bZ (flow ws.length bZ) F d
 ht:∃F,Pt ws (flow ws.length bZ) F/\F 0=0/\F (m-1)=bO ws x.1
 op:uV ws (flow ws.length bZ) x.1
 rm:∀s∈x.1,∃v g,ws[s.1]?=aU v/\(flow ws.length bZ)[s.1]?=aU g/\x.2<=oh v g s.2
theorem An.ht{d:Int}{fs:List Int}(h:An m ws cs fs F d)(f:jb m ws fs es)(t:(m-1,l,o)∈es)(hc:Q3 ws fs es (m-1) l o.2 0 0 0 c):(∃F,Pt ws fs F/\F 0=0/\F (m-1)=bO ws c)/\d<=bO ws c:=by
 obtain⟨D,u⟩:=Fo F es;have y:bO ws c=o.2:=by have:=hc.hrs;omega
 refine⟨⟨Gb F D es,f.pt h.pt u,gP f.cm.nd f.cm.z,by rw[gP f.cm.nd t,y]⟩,?_⟩;have:=iZ h.pt hc.Mx hc.jK;rw[h.e,h.z]at this;omega
noncomputable def Gy(m:Int)(ws:List Wy)(cs:List (List aB×Int)):Prop:=cs.Pairwise (λa b=>bO ws a.1<=bO ws b.1)/\∀f x e,cs=f++x::e->Stg m ws f x
theorem Gy.snoc{y:List aB×Int}(h:Gy m ws cs)(h1:∀x∈cs,bO ws x.1<=bO ws y.1)(u:Stg m ws cs y):Gy m ws (cs++[y]):=by
 refine⟨?_,λt x f e=>?_⟩;.rw[kS];exact⟨h.1,by simp,λa C b E=>by rw[d_.mp E];exact h1 a C⟩
 . rcases rN f with rfl|⟨r,z,rfl⟩;.obtain⟨G,H⟩:=List.append_inj' e rfl;cases H;subst G;exact u
   . rw[rV]at e;have I:cs++[y]=(t++x::r)++[z]:=by rw[e];simp
     exact h.2 t x r (List.append_inj' I rfl).1
structure Ends(m:Int)(ws:List Wy)(cs:List (List aB×Int))(fs:List Int)(F:Int->Int)(d:Int)(es:List En):Prop where
 fl:fs=flow ws.length cs
 iv:An m ws cs fs F d
 cm:jb m ws fs es
 no:¬ ∃l o,(m-1,l,o)∈es
 ck:∀x∈cs,Chk m ws x
 st:Gy m ws cs
inductive FcE(a0 a1 a2 a3 a4 a5 a6:Sl)(ρ:List Sl):Prop where|mk(s:Sl)(q0:ρ=[a0,a1,a2,a3,a4,a5,a6,s])(q1:fr s=cq)
inductive JE(m:Int)(ws:List Wy)(M:Nat)(ρ:List Sl):Prop where|mk(cs:List (List aB×Int))(fs:List Int)(es:List En)(F:Int->Int)(d:Int)(s5 s6:Sl)(q0:ρ=[.val a_ (aV m ws),.val a_ (.int (m-1)),.own a_ (fs.map D.int),.own a_ (cs.map cD),.val a_ (iT es),s5,s6])(q1:(fr s5=cq/\fr s6=cq))(q2:fs=flow ws.length cs)(q3:An m ws cs fs F d)(q4:jb m ws fs es)(q5:(∃P lam seen,Qs m ws cs.length fs P lam seen))(q6:cs.length+M=13286050)(q7:(∀x∈cs,Chk m ws x))(q8:Gy m ws cs)
theorem zx(hw:13286250<=w)(h:HN m ws)(hr:∀v∈ws,0<=v.r)(k:∀cs fs F d es,cs.length<=13286050->Ends m ws cs fs F d es->Q (.own (cs.map cD)) [.val a_ (aV m ws)]):(run Γ w (n+4) 8 [.val a_ (aV m ws)]).sat Q:=by
 have hn:=h.len;have m0:=h.m0;have m1:=h.m1;refine aM (d:=f8) rfl rfl (by decide) ?_;(first|apply ak|apply G9);simp[f8];refine fC (λρ=>ρ=[.val a_ (aV m ws),.val a_ (.int (m-1)),.own a_ ((flow ws.length []).map D.int),.aX,.aX,.aX,.aX]) ?_ ?_;.simp[flow];show _<=16777216;omega
 rintro _ rfl;have hh:∀v∈ws,0<=v.h:=λv hv=>(h.ok v hv).2.2;obtain⟨b0,I0⟩:∃b,An m ws [] (flow ws.length []) (F01 b) b:=An.zero m0 hh hr;(first|apply ak|apply G9);simp;apply ak;simp;refine zY (by omega) I0.pt (.inr ⟨cq,rfl⟩) h I0.fit.len λes f=>?_;simp;apply ak;simp;refine kE (JE m ws) ?_ (k:=w) (m:=13286050) (by omega) ⟨[],flow ws.length [],es,F01 b0,b0,.aX,.aX,rfl,⟨rfl,rfl⟩,rfl,I0,f,⟨_,_,_,Qs.zero hn hh⟩,by simp,by simp,by simp,λbZ x ay e=>by cases bZ<;>cases e⟩;rintro M _⟨cs,fs,es,F,d,s5,s6,rfl,⟨h5,h6⟩,H,I,f,⟨P,aE,seen,hS⟩,hM,O,hst⟩;have ac:=I.fit.len;by_cases hq:∃l o,(m-1,l,o)∈es
 . obtain⟨l,o,t⟩:=hq;have kt:pY (es.map en) (m-1)=cq:=tZ.mpr ⟨l,o,t⟩;have ae:=f.l5 h I.pt t;simp[kt];apply ak;simp;refine Hg (by omega) f ae t λc hc=>?_;simp[h5];apply ak;have af:c.length<=6:=by have:=hc.len;omega
   have QK:∀s∈c,∃v g,ws[s.1]?=aU v/\fs[s.1]?=aU g/\0<oh v g s.2:=λs hs=>by obtain⟨v,e,o⟩:=hc.jK s hs;obtain⟨v',g,C,G,_,e4⟩:=mX o;exact⟨v',g,C,G,e4⟩
   simp[show c.length<=16777216 by omega];refine bC (FcE _ _ _ _ _ _ _) (rmD ws fs) ⟨.aX,rfl,rfl⟩ ?_ ?_;.rintro d hd _⟨s',rfl,U⟩;obtain⟨s,hs,rfl⟩:=de.mp hd;obtain⟨v,g,C,G,_⟩:=QK s hs;simp[U,sD];refine vX (.inr ⟨cq,rfl⟩) C G ?_;simp;refine⟨?_,_,rfl,rfl⟩;show D.int (QM ws fs (Z1 (sD s)))=_;rw[K1];unfold QM;rw[C,G]
   rintro _⟨s',rfl,U⟩;have W:(c.map sD).map (rmD ws fs)=(c.map (QM ws fs)).map D.int:=by rw[ej,ej];rfl
   rw[W];have ag:c≠[]:=by rintro rfl;have:(0:Int)=m-1:=hc.Mx;omega
   obtain⟨x,ah,ai,al⟩:=Ub (ns:=c.map (QM ws fs)) (by simpa using ag);obtain⟨s,hs,am⟩:=de.mp ai;obtain⟨v,g,C,G,e3⟩:=QK s hs;have ap:oh v g s.2=x:=by rw[<-am];unfold QM;rw[C,G]
   have ar:0<x:=by omega
   have J:∀s∈c,∃v g,ws[s.1]?=aU v/\fs[s.1]?=aU g/\x<=oh v g s.2:=λu hu=>by obtain⟨v,g,C,G,_⟩:=QK u hu;refine⟨v,g,C,G,?_⟩;have:=al _ (de.mpr ⟨u,hu,rfl⟩);unfold QM at this;rw[C,G]at this;exact this
   have X:∀s∈c,s.1<ws.length:=λu hu=>by obtain⟨v,g,C,_⟩:=QK u hu;exact(fB C).1
   obtain⟨F',L⟩:=I.more f t hc ar J;have Y:Gy m ws (cs++[(c,x)]):=by obtain⟨g1,g2⟩:=I.ht f t hc;refine hst.snoc (λy hy=>Int.le_trans (I.ch y hy).1 g2) ?_;have Z:=I;rw[H]at Z g1 J;exact⟨⟨_,_,Z⟩,g1,by rw[<-H];exact hc.jK,J⟩
   have E:=hS.more h I.pt f t hc hs C G;rw[ap]at E;obtain⟨P',Xc,My,E⟩:=E;have aI:=E.few hn;generalize c.map (QM ws fs)=ns at*;simp[fH,ah,h6];apply ak;simp[show cs.length<16777216 by omega];apply ak;simp;refine yS (.inr ⟨cq,rfl⟩) (λu hu=>by rw[ac];exact X u hu) ?_;simp;apply ak;have av:aug x fs c=flow ws.length (cs++[(c,x)]):=by rw[uy,<-H]
   simp;refine zY (by omega) L.pt (.inr ⟨cq,rfl⟩) h L.fit.len λaw ax=>?_;simp;refine⟨M-1,by omega,cs++[(c,x)],aug x fs c,aw,F',o.2,.val a_ (.tup (c.map sD)),.val a_ (.int x),by simp[cD],⟨rfl,rfl⟩,av,L,ax,⟨P',Xc,My,by rw[ez];exact E⟩,by simp;omega,λy hy=>?_,Y⟩;rcases fE.mp hy with hy|hy;.exact O y hy
   . obtain rfl:y=(c,x):=by simpa using hy
     exact⟨af,X,hc.Mx,hc.nd⟩
 .have kt:pY (es.map en) (m-1)=a_:=kin_no hq;simp[kt];apply ak;simp;exact k cs fs F d es (by omega) ⟨H,I,f,hq,O,hst⟩
theorem Td{c:Call}{x:Nat}{k d:P}:ev c (.YX x k d) ρ=match ρ[x]?with
 |some (.ie _)=>(bW (isVar k) (ev c k) ρ).bind λe ρ=>(bW (isVar d) (ev c d) ρ).bind λf ρ=>match ρ[x]?with|some (.ie m)=>lift ((m.get e).bind λo=>(gB f).map λv=>.val (.int (o.getD v))) ρ|_=>.stuck
 |_=>.stuck:=(rfl)
theorem Pa{c:Call}{x:Nat}:ex c n (.Mp x a_) ρ=match ρ[x]?with|some .aX=>.ok .next (ρ.set x (.ie (.k [])))|_=>.stuck:=(rfl)
theorem Nf{c:Call}{x:Nat}{k e:P}:ex c n (.dput x k e) ρ=(ev c e ρ).bind λr ρ=>match ρ[x]?with
 |some (.ie _)=>(bW (isVar k) (ev c k) ρ).bind λf ρ=>match ρ[x]?,r with
   |some (.ie m),.val (.int v)=>match m.put f v with|some h=>.ok .next (ρ.set x (.ie h))|none=>.stuck
   |_,_=>.stuck
 |_=>.stuck:=(rfl)
@[simp]theorem YK{x:Nat}{k d:P}:isVar (.YX x k d)=cr:=rfl
@[simp]theorem Y8{kvs:List (Int×Int)}:blt .Ml [.dN (.k kvs)]=if kvs.length<=16777216/\kvs.Pairwise (λa b=>a.1<b.1)then aU (.own (kvs.map kO))else cr:=rfl
theorem S6:(Dc.get (.k kvs) (.int i))=aU ((kvs.find? λe=>decide (e.1=i)).map (·.2)):=rfl
theorem ZX{v:Int}(h:kvs.length<lim):Dc.put (.k kvs) (.int i) v=aU (.k (putD kvs i v)):=by show(if _ then _ else _)=_;rw[if_pos h]
noncomputable def hsD(ws:List Wy)(d:D):D:=.int (hst ws (Z1 d))
theorem Eb{ws:List Wy}:∀{c:List aB},(c.map (hst ws)).sum=bO ws c|[]=>rfl|s::c=>by rw[dl,rc,Eb,bO]
inductive F2s(a b:Sl)(ρ:List Sl):Prop where|mk(s:Sl)(q0:ρ=[a,b,s])(q1:fr s=cq)
theorem Ba(hc:∀s∈c,s.1<ws.length)(C:c.length<=1000)(k:Q (.val (.int (bO ws c))) [.val a_ (aV m ws),.val a_ (.tup (c.map sD))]):(run Γ w (n+2) 3 [.val a_ (aV m ws),.val a_ (.tup (c.map sD))]).sat Q:=by
 refine aM (d:=f3) rfl rfl (by decide) ?_;(first|apply ak|apply G9);simp[f3,show c.length<=16777216 by omega];refine bC (F2s _ _) (hsD ws) ⟨.aX,rfl,rfl⟩ ?_ ?_
 . rintro d hd _⟨y,rfl,f⟩;obtain⟨s,hs,rfl⟩:=de.mp hd;have u:=hc s hs;have e:ws[s.1]?=aU ws[s.1]:=by simp[u]
   simp[f,sD];refine vL e ?_;simp;refine⟨?_,_,rfl,rfl⟩;show D.int (hst ws (Z1 (sD s)))=_;rw[K1,iw e]
 rintro _⟨y,rfl,f⟩;have h:(c.map sD).map (hsD ws)=(c.map (hst ws)).map D.int:=by rw[ej,ej];rfl
 rw[h];have t:=Eb (ws:=ws) (c:=c);generalize c.map (hst ws)=ns at*;simp[fH,t];exact k
noncomputable def gv(kvs:List (Int×Int))(k:Int):Int:=((kvs.find? λe=>decide (e.1=k)).map (·.2)).getD 0
noncomputable def Lin(W:Int->Int->Int):Prop:=∀k a b,W k (a+b)=W k a+W k b
noncomputable def uM(W:Int->Int->Int):List (Int×Int)->Int|[]=>0|kv::r=>W kv.1 kv.2+uM W r
theorem Dz{W:Int->Int->Int}{b:List (Int×Int)}:∀{a:List (Int×Int)},uM W (a++b)=uM W a+uM W b|[]=>by simp[uM]|x::a=>by rw[lx,uM,uM,Dz];omega
theorem Em{k v:Int}:∀{r:List (Int×Int)},k∉r.map (·.1)->(r.map λe=>if e.1=k then(e.1,v)else e)=r|[],_=>rfl|x::r,h=>by rw[dl,da,not_or]at h;rw[dl,Em h.2,if_neg (λz=>h.1 z.symm)]
theorem Ff{W:Int->Int->Int}(u:Lin W){k x:Int}:∀{r:List (Int×Int)},(r.map (·.1)).Nodup->k∈r.map (·.1)->uM W (r.map λe=>if e.1=k then(e.1,gv r k+x)else e)=uM W r+W k x
 |[],_,h=>by cases h|y::r,f,h=>by
   rw[dl,fk]at f;by_cases c:y.1=k
   . have t:gv (y::r) k=y.2:=by unfold gv;rw[hQ];simp[c]
     rw[t,dl,if_pos c,Em (by rw[<-c];exact f.1),uM,uM];show W y.1 (y.2+x)+_=_;rw[u,c];omega
   . have t:gv (y::r) k=gv r k:=by unfold gv;rw[hQ];simp[c]
     have C:k∈r.map (·.1):=by
      rcases da.mp h with h|h;.exact absurd h.symm c
      .exact h
     rw[t,dl,if_neg c,uM,uM,Ff u f.2 C];omega
theorem Uc(h:k∉r.map (·.1)):gv r k=0:=by
 unfold gv;rw[List.find?_eq_none.mpr];.rfl
 .intro x f;simp;intro e;exact h (de.mpr ⟨x,f,e⟩)
theorem aam(h:∀f∈r,0<f.2):0<=gv r k:=by unfold gv;cases e:r.find? λf=>decide (f.1=k)with|none=>simp|some x=>have:=h x (List.mem_of_find?_eq_some e);simp;omega
theorem xf{x:Int}(t:(r.map (·.1)).Nodup):((putD r k (gv r k+x)).map (·.1)).Nodup/\(putD r k (gv r k+x)).length<=r.length+1/\(∀f∈putD r k (gv r k+x),f=(k,gv r k+x)\/f∈r)/\∀W,Lin W->uM W (putD r k (gv r k+x))=uM W r+W k x:=by
 have C:(r.any λf=>decide (f.1=k))=cq↔k∈r.map (·.1):=by rw[m3,de];exact⟨λ⟨y,h1,u⟩=>⟨y,h1,by simpa using u⟩,λ⟨y,h1,u⟩=>⟨y,h1,by simpa using u⟩⟩
 unfold putD;by_cases c:k∈r.map (·.1)
 . rw[if_pos (C.mpr c)];have e:(r.map λf=>if f.1=k then(f.1,gv r k+x)else f).map (·.1)=r.map (·.1):=by rw[ej];refine hB λy _=>?_;show(if y.1=k then _ else _:Int×Int).1=y.1;split<;>rfl
   refine⟨by rw[e];exact t,by simp,λf h=>?_,λW E=>Ff E t c⟩;obtain⟨y,G,rfl⟩:=de.mp h;by_cases z:y.1=k;.rw[if_pos z,z];exact .inl rfl
   .rw[if_neg z];exact .inr G
 . rw[if_neg λz=>c (C.mp z),Uc c,Int.zero_add];refine⟨?_,by simp,λf h=>?_,λW _=>?_⟩;.rw[gc,mo];exact⟨t,by simp,λa H b I e=>c (by
      have:b=k:=by simpa using I
      rw[<-this,<-e];exact H)⟩
   . rcases fE.mp h with hj|hj;.exact .inr hj
     .exact .inl (d_.mp hj)
   .rw[Dz];simp[uM]
theorem U5{v:Int}(h:r.Pairwise (λa b=>a.1<b.1))(t:∀u∈r,u.1<=k):(putD r k v).Pairwise (λa b=>a.1<b.1):=by
 unfold putD;split;.rw[oD];refine h.imp λ{a b}e=>?_;split<;>split<;>exact e
 .rename_i y;rw[kS];refine⟨h,by simp,λa f b C=>?_⟩;have h1:=t a f;have E:a.1≠k:=λz=>y (m3.mpr ⟨a,f,by simpa using z⟩);rw[d_.mp C];show a.1<k;omega
noncomputable def S8:D->Int×Int|.tup [.int a,.int b]=>(a,b)|_=>(0,0)
@[simp]theorem ahG{a b:Int}:S8 (.tup [.int a,.int b])=(a,b):=rfl
structure QZ(ws:List Wy)(cs:List (List aB×Int))(kvs:List (Int×Int)):Prop where
 nd:(kvs.map (·.1)).Nodup
 len:kvs.length<=cs.length
 nn:∀kv∈kvs,1<=kv.1/\0<kv.2
 key:∀kv∈kvs,∃x∈cs,kv.1=bO ws x.1
 so:kvs.Pairwise (λa b=>a.1<b.1)sm:∀W,Lin W->uM W kvs=bK (λx=>W (bO ws x.1) x.2) cs
theorem QZ.put(h:QZ ws cs kvs){x:List aB×Int}(h0:1<=bO ws x.1)(h1:0<x.2)(E:∀y∈cs,bO ws y.1<=bO ws x.1):QZ ws (cs++[x]) (putD kvs (bO ws x.1) (gv kvs (bO ws x.1)+x.2)):=by
 obtain⟨p1,p2,p3,G⟩:=xf (k:=bO ws x.1) (x:=x.2) h.nd;have H:=h.len;refine⟨p1,by simp;omega,λt f=>?_,λt f=>?_,U5 h.so λt f=>?_,λW C=>?_⟩
 . rcases p3 t f with e|e;.have:=aam (k:=bO ws x.1) λt f=>(h.nn t f).2;rw[e];exact⟨h0,by show 0<_+_;omega⟩
   .exact h.nn t e
 . rcases p3 t f with e|e;.exact⟨x,by simp,by rw[e]⟩
   .obtain⟨y,u,e⟩:=h.key t e;exact⟨y,by simp[u],e⟩
 .obtain⟨y,u,e⟩:=h.key t f;rw[e];exact E y u
 .rw[G W C,h.sm W C,j4]
theorem Ly{ws:List Wy}{b:Int}(h0:∀v∈ws,0<=v.h)(f:∀v∈ws,v.h<=1000000):∀{c:List aB}{a:Int},iy ws b c a->bO ws c<=1000000*(c.length:Int)
 |[],_,_=>by simp[bO]|s::c,a,⟨v,e,_,t⟩=>by
   have h1:=Ly h0 f t;have u:=f v (eh e);have y:=h0 v (eh e);have C:hst ws s<=1000000:=by rw[iw e];unfold hsp;split<;>omega
   rw[bO,eI];omega
theorem QZ.few(h:QZ ws cs kvs)(u:∀x∈cs,Chk m ws x)(y:ws.length<=12):kvs.length<=531441:=by
 have h1:=oG (l2:=(uR ws.length).map λe=>lU ws e/7) h.nd λk f=>by obtain⟨C,t,rfl⟩:=de.mp f;obtain⟨x,E,e⟩:=h.key C t;obtain⟨c1,c2,c3,c4⟩:=u x E;refine de.mpr ⟨GD ws.length x.1,by have:=um (e:=GD ws.length x.1);rwa[xX]at this,?_⟩;rw[xQ c3 c4,e];unfold Aq;omega
 rw[dy,dy,rP]at h1;have G:3^ws.length<=3^12:=sC (by decide) y;have H:(3:Nat)^12=531441:=by decide
 omega
inductive JBn(m:Int)(ws:List Wy)(cs:List (List aB×Int))(r:List D)(ρ:List Sl):Prop where|mk(bZ us:List (List aB×Int))(kvs:List (Int×Int))(s2 s3 s4:Sl)(q0:ρ=[.val a_ (aV m ws),.ie (.k kvs),s2,s3,s4])(q1:A3 (fr s2=cq) (fr s3=cq) (fr s4=cq))(q2:r=us.map cD)(q3:bZ++us=cs)(q4:QZ ws bZ kvs)
theorem vf(Z:13286250<=w)(h:cX m ws)(k:∀cs fs F d es kvs,kvs.length<=531441->Ends m ws cs fs F d es->QZ ws cs kvs->kvs.Pairwise (λa b=>a.1<b.1)->(∀I∈kvs,I.1<=6000000)->Q (.own (kvs.map kO)) [.val a_ (aV m ws)]):(run Γ w (n+5) 10 [.val a_ (aV m ws)]).sat Q:=by
 refine aM (d:=f10) rfl rfl (by decide) ?_;(first|apply ak|apply G9);simp[f10,Pa];apply ak;simp;refine zx Z (HN.of h) (λv E=>(h.ok v E).r0) λcs fs F d es hl t=>?_;simp;refine dj (JBn m ws cs) ?_ ?_ ⟨[],cs,[],.aX,.aX,.aX,rfl,⟨rfl,rfl,rfl⟩,rfl,rfl,⟨by simp,by simp,by simp,by simp,by simp,λW _=>rfl⟩⟩;.rintro d r _⟨G,C,kvs,s2,s3,s4,rfl,⟨J,U,X⟩,hr,hd,f⟩;cases C with|nil=>cases hr|cons u C=>
     obtain⟨rfl,rfl⟩:d=cD u/\r=C.map cD:=by simpa using hr
     have hu:u∈cs:=by rw[<-hd];simp
     have H:=t.ck u hu;have ac:G.length<=cs.length:=by rw[<-hd];simp
     have L:=f.len;have M:(G++[u])++C=cs:=by rw[fK];exact hd
     simp[cD,J,U];apply ak;simp;refine Ba H.2.1 (by have:=H.1;omega) ?_;simp[X];apply ak;simp[Nf,Td,S6];rw[ZX (by show _<16777216;omega)];simp;refine⟨G++[u],C,_,_,_,_,rfl,⟨rfl,rfl,rfl⟩,rfl,M,f.put ((t.iv.nn λv E=>(h.ok v E).h0).2 u hu) (t.iv.ch u hu).2.1 λy hy=>?_⟩;have hst:=t.st.1;rw[<-hd,kS]at hst;exact hst.2.2 y hy u (by simp)
 . rintro _⟨G,C,kvs,s2,s3,s4,rfl,⟨J,U,X⟩,hr,hd,f⟩;have:C=[]:=by cases C with|nil=>rfl|cons _ _=>cases hr
   subst this;rw[gN]at hd;subst hd;have L:=f.len;simp;apply ak;simp[show kvs.length<=16777216 by omega,f.so];refine k G fs F d es kvs (f.few t.ck (HN.of h).len) t f f.so λI O=>?_;obtain⟨x,Y,e⟩:=f.key I O;have h1:=Ly (λv E=>((HN.of h).ok v E).2.2) (λv E=>(h.ok v E).h1) (t.ck x Y).2.2.1;have J:=(t.ck x Y).1;rw[e];omega
noncomputable def vt(T k v:Int):Int:=if k<=T then v*(T-k+1)else 0
noncomputable def gt(T k v:Int):Int:=if k<=T then v else 0
theorem Sy{T:Int}:Lin (vt T):=λk a b=>by
 unfold vt;split;.exact Int.add_mul ..
 .rfl
theorem Vj{T:Int}:Lin (gt T):=λk a b=>by unfold gt;split<;>rfl
noncomputable def cM(m:Int)(ws:List Wy)(cs:List (List aB×Int)):Prop:=(∀v∈ws,1<=v.h)/\∃fs F d es,Ends m ws cs fs F d es
noncomputable def Rt(ws:List Wy)(cs:List (List aB×Int))(T:Int):Int:=bK (λx=>gt T (bO ws x.1) x.2) cs
noncomputable def WW(cs:List (List aB×Int)):Int:=bK (λx=>x.2) cs
theorem jB.uniq{T v e:Int}(h:jB m ws T v)(h':jB m ws T e):v=e:=by obtain⟨q,f,t,u⟩:=h.ex;obtain⟨r,r0,r1,y⟩:=h'.ex;have:=h.le r r0 r1;have:=h'.le q f t;omega
theorem cM.least{m:Int}{ws:List Wy}{cs:List (List aB×Int)}(h:cM m ws cs){T:Int}(h0:0<=T):jB m ws T (val ws T cs):=by obtain⟨f,fs,F,d,es,e⟩:=h;exact e.iv.least e.cm e.no h0
theorem zG{H K:List aB×Int->Int}:∀{cs:List (List aB×Int)},bK (λx=>H x-K x) cs=bK H cs-bK K cs|[]=>rfl|x::cs=>by rw[bK,bK,bK,zG];omega
theorem xG{H K:List aB×Int->Int}:∀{cs:List (List aB×Int)},(∀x∈cs,H x<=K x)->bK H cs<=bK K cs|[],_=>fm _|x::cs,h=>by have h1:=h x (by simp);have f:=xG (H:=H) (K:=K) (cs:=cs) λy e=>h y (by simp[e]);rw[bK,bK];omega
theorem pD{T:Int}:Rt ws cs T=val ws T cs-val ws (T-1) cs:=by
 unfold Rt val;rw[<-zG];refine ir λx _=>?_;show gt T (bO ws x.1) x.2=vt T (bO ws x.1) x.2-vt (T-1) (bO ws x.1) x.2;unfold gt vt;by_cases c:bO ws x.1<=T-1;.rw[if_pos (by omega),if_pos (by omega),if_pos c,<-Int.mul_sub,show T-bO ws x.1+1-(T-1-bO ws x.1+1)=1 by omega,mul_one]
 . by_cases c2:bO ws x.1<=T;.rw[if_pos c2,if_pos c2,if_neg c,show T-bO ws x.1+1=1 by omega,mul_one];omega
   .rw[if_neg c2,if_neg c2,if_neg c];rfl
theorem cM.nn{m:Int}{ws:List Wy}{cs:List (List aB×Int)}(h:cM m ws cs):∀x∈cs,1<=bO ws x.1/\0<x.2:=by obtain⟨e,fs,F,d,es,f⟩:=h;exact λx t=>⟨(f.iv.nn e).2 x t,(f.iv.ch x t).2.1⟩
theorem cM.cV(h:cM m ws cs){T:Int}(h0:T<=0):val ws T cs=0:=by
 have:val ws T cs=bK (λ_=>0) cs:=ir λx e=>by have:=(h.nn x e).1;show vt T (bO ws x.1) x.2=0;unfold vt;rw[if_neg (by omega)]
 rw[this];clear this h;induction cs with|nil=>rfl|cons x cs f=>rw[bK,f];rfl
theorem cM.val_eq{e:List (List aB×Int)}(h:cM m ws cs)(h':cM m ws e)(T:Int):val ws T cs=val ws T e:=by
 by_cases c:0<=T;.exact(h.least c).uniq (h'.least c)
 .rw[h.cV (by omega),h'.cV (by omega)]
theorem cM.Ri{e:List (List aB×Int)}(h:cM m ws cs)(h':cM m ws e)(T:Int):Rt ws cs T=Rt ws e T:=by rw[pD,pD,h.val_eq h',h.val_eq h']
theorem cM.mono(h:cM m ws cs){T U:Int}(f:T<=U):Rt ws cs T<=Rt ws cs U:=xG λx e=>by have:=(h.nn x e).2;unfold gt;split<;>split<;>omega
theorem cM.aaI(h:cM m ws cs){T:Int}:Rt ws cs T<=WW cs:=xG λx e=>by have:=(h.nn x e).2;unfold gt;split<;>omega
theorem cM.RB(h:cM m ws cs){T:Int}:0<=Rt ws cs T:=by
 have h1:=h.mono (T:=min T 0) (U:=T) (by omega);have:Rt ws cs (min T 0)=0:=by rw[pD,h.cV (by omega),h.cV (by omega)];rfl
 omega
noncomputable def moD(T:Int)(d:D):Option D:=if(S8 d).1<=T then aU (.int ((S8 d).2*(T-(S8 d).1+1)))else cr
theorem Ir{T:Int}:∀(kvs:List (Int×Int)),∃ns:List Int,(kvs.map kO).filterMap (moD T)=ns.map D.int/\ns.sum=uM (vt T) kvs
 |[]=>⟨[],rfl,rfl⟩|kv::r=>by
   obtain⟨ns,h1,f⟩:=Ir (T:=T) r;have e:moD T (kO kv)=if kv.1<=T then aU (.int (kv.2*(T-kv.1+1)))else cr:=rfl;rw[dl,je,h1,uM,<-f,e];unfold vt;by_cases c:kv.1<=T;.rw[if_pos c,if_pos c];exact⟨_::ns,rfl,by rw[rc]⟩
   .rw[if_neg c,if_neg c];exact⟨ns,rfl,by omega⟩
inductive F2t(a b:Sl)(ρ:List Sl):Prop where|mk(s:Sl)(t:Sl)(q0:ρ=[a,b,s,t])(q1:fr s=cq)(q2:fr t=cq)
theorem Bg{T:Int}{s:Sl}(hs:s=.own a_ (kvs.map kO)\/s=.val a_ (.lst (kvs.map kO)))(C:kvs.length<=16000000)(h0:∀f∈kvs,1<=f.1/\0<f.2)(E:T<=4000000000000000000)(k:Q (.val (.int (uM (vt T) kvs))) [s,.val a_ (.int T)]):(run Γ w (n+1) 14 [s,.val a_ (.int T)]).sat Q:=by refine aM (d:=f14) rfl rfl (by decide) ?_;(first|apply ak|apply G9);rcases hs with rfl|rfl;all_goals
  simp[f14,show kvs.length<=16777216 by omega];refine fP (F2t _ _) (moD T) ⟨.aX,.aX,rfl,rfl,rfl⟩ ?_ ?_
  . rintro d hd _⟨s,t,rfl,hs,ht⟩;obtain⟨f,h,rfl⟩:=de.mp hd;have:=(h0 f h).1;have e:moD T (kO f)=if f.1<=T then aU (.int (f.2*(T-f.1+1)))else cr:=rfl;by_cases c:f.1<=T
    . rw[if_pos c]at e;have u:p7 (.int f.2) (.int (T-f.1+1))=aU (.val (.int (f.2*(T-f.1+1)))):=by show(if _ then _ else _)=_;rw[if_pos];right;omega
      rw[e];simp[hs,ht,kO,c,u];exact⟨_,_,rfl,rfl,rfl⟩
    .rw[if_neg c]at e;rw[e];simp[hs,ht,kO,c];exact⟨_,_,rfl,rfl,rfl⟩
  .rintro _⟨s,t,rfl,hs,ht⟩;obtain⟨ns,h1,y⟩:=Ir (T:=T) kvs;rw[h1];simp[fH,y];exact k
theorem tK{T:Int}(f:13286250<=w)(h:cX m ws)(t:T<=4000000000000000000)(k:∀cs,cM m ws cs->Q (.val (.int (val ws T cs))) [.val a_ (aV m ws),.val a_ (.int T)]):(run Γ w (n+6) 15 [.val a_ (aV m ws),.val a_ (.int T)]).sat Q:=by refine aM (d:=f15) rfl rfl (by decide) ?_;(first|apply ak|apply G9);simp[f15];refine vf f h λcs fs F d es kvs C u e _ _=>?_;simp;refine Bg (.inl rfl) (by omega) e.nn t ?_;simp;rw[e.sm _ Sy];exact k cs ⟨λv y=>(h.ok v y).h0,fs,F,d,es,u⟩
noncomputable def byD(T:Int)(d:D):Option D:=if(S8 d).1<=T then aU d else cr
noncomputable def uW(T:Int)(kvs:List (Int×Int)):List (Int×Int):=kvs.filter λe=>decide (e.1<=T)
theorem J6{T:Int}:∀{kvs:List (Int×Int)},(kvs.map kO).filterMap (byD T)=(uW T kvs).map kO
 |[]=>rfl|kv::r=>by
   have e:byD T (kO kv)=if kv.1<=T then aU (kO kv)else cr:=rfl;rw[dl,je,J6,e];unfold uW;rw[List.filter_cons];by_cases c:kv.1<=T;.rw[if_pos c,if_pos (by simpa using c)];rfl
   .rw[if_neg c,if_neg (by simpa using c)]
theorem Ds{T:Int}:∀{kvs:List (Int×Int)},((uW T kvs).map (·.2)).sum=uM (gt T) kvs
 |[]=>rfl|kv::r=>by
   have e:=Ds (T:=T) (kvs:=r);unfold uW at e ⊢;rw[List.filter_cons,uM];unfold gt at*;by_cases c:kv.1<=T;.rw[if_pos (by simpa using c),if_pos c,dl,rc,e]
   .rw[if_neg (by simpa using c),if_neg c,e];omega
theorem zg{T:Int}(t:13286250<=w)(h:cX m ws)(k:∀cs kvs,kvs.length<=531441->cM m ws cs->QZ ws cs kvs->Q (.own ((uW T kvs).map kO)) [.val a_ (aV m ws),.val a_ (.int T)]):(run Γ w (n+6) 13 [.val a_ (aV m ws),.val a_ (.int T)]).sat Q:=by
 refine aM (d:=f13) rfl rfl (by decide) ?_;(first|apply ak|apply G9);simp[f13];refine vf t h λcs fs F d es kvs u y C _ _=>?_;simp[show kvs.length<=16777216 by omega];refine fP (F2s _ _) (byD T) ⟨.aX,rfl,rfl⟩ ?_ ?_
 . rintro d hd _⟨s,rfl,hs⟩;obtain⟨f,E,rfl⟩:=de.mp hd;have e:byD T (kO f)=if f.1<=T then aU (kO f)else cr:=rfl;by_cases c:f.1<=T;.rw[if_pos c]at e;rw[e];simp[hs,kO,c];exact⟨_,rfl,rfl⟩
   .rw[if_neg c]at e;rw[e];simp[hs,kO,c];exact⟨_,rfl,rfl⟩
 .rintro _⟨s,rfl,hs⟩;rw[J6];simp;exact k cs kvs u ⟨λv G=>(h.ok v G).h0,fs,F,d,es,y⟩ C
noncomputable def TX(d:D):D:=.int (S8 d).2
theorem Bw{T:Int}(C:13286250<=w)(h:cX m ws)(k:∀cs,cM m ws cs->Q (.val (.int (Rt ws cs T))) [.val a_ (aV m ws),.val a_ (.int T)]):(run Γ w (n+7) 16 [.val a_ (aV m ws),.val a_ (.int T)]).sat Q:=by
 refine aM (d:=f16) rfl rfl (by decide) ?_;(first|apply ak|apply G9);simp[f16];refine zg C h λcs kvs I E G=>?_;have f:(uW T kvs).length<=16777216:=by have:=jS (λu:Int×Int=>decide (u.1<=T)) kvs;unfold uW;omega
 simp[f];refine bC (F2t _ _) TX ⟨.aX,.aX,rfl,rfl,rfl⟩ ?_ ?_;.rintro d hd _⟨s,t,rfl,hs,ht⟩;obtain⟨u,H,rfl⟩:=de.mp hd;simp[hs,ht,kO,TX];exact⟨_,_,rfl,rfl,rfl⟩
 . rintro _⟨s,t,rfl,hs,ht⟩;have e:((uW T kvs).map kO).map TX=((uW T kvs).map (·.2)).map D.int:=by rw[ej,ej];rfl
   rw[e];have y:=Ds (T:=T) (kvs:=kvs);rw[G.sm _ Vj]at y;generalize(uW T kvs).map (·.2)=ns at*;simp[fH,y];exact k cs E
noncomputable def nj:List (List aB×Int)->Int->List (List aB×Int)|[],_=>[]|x::r,q=>(x.1,min q x.2)::nj r (q-min q x.2)
noncomputable def Rj:List (List aB×Int)->Int->Int|[],q=>q|x::r,q=>Rj r (q-min q x.2)
theorem DK:∀{l:List (List aB×Int)}{q:Int}{y:List aB×Int},y∈nj l q->∃x∈l,y.1=x.1
 |[],_,_,h=>by cases h|x::r,q,y,h=>by
   rw[nj,da]at h;rcases h with rfl|h;.exact⟨x,by simp,rfl⟩
   .obtain⟨z,hz,e⟩:=DK h;exact⟨z,by simp[hz],e⟩
theorem RW:∀{l:List (List aB×Int)}{q:Int},(∀x∈l,0<x.2)->0<=q->q<=WW l->Rj l q=0
 |[],q,_,h0,h1=>by have h1:q<=0:=h1;rw[Rj];omega|x::r,q,h,h0,h1=>by
   have u:=h x (by simp);have h1:q<=x.2+WW r:=h1;have hr:0<=WW r:=by
    have:∀(l:List (List aB×Int)),(∀x∈l,0<x.2)->0<=WW l:=λl=>by induction l with|nil=>intro _;exact fm _|cons y l f=>intro e;have C:=f λz hz=>e z (by simp[hz]);have E:=e y (by simp);show 0<=y.2+WW l;omega
    exact this r λz hz=>h z (by simp[hz])
   rw[Rj];exact RW (λy t=>h y (by simp[t])) (by omega) (by omega)
inductive JCu(a0 a1:Sl)(N:Nat)(out:List (List aB×Int))(z:Int)(r:List D)(ρ:List Sl):Prop where|mk(us bZ:List (List aB×Int))(q:Int)(s4 s5 s6:Sl)(q0:ρ=[a0,a1,.own a_ (bZ.map cD),.val a_ (.int q),s4,s5,s6])(q1:A3 (fr s4=cq) (fr s5=cq) (fr s6=cq))(q2:r=us.map cD)(q3:bZ++nj us q=out)(q4:Rj us q=z)(q5:bZ.length+us.length=N)
theorem Gx{q:Int}(G:cs.length<=16000000)(hz:Rj cs q=0)(k:Q (.own ((nj cs q).map cD)) [.own a_ (cs.map cD),.val a_ (.int q)]):(run Γ w (n+1) 9 [.own a_ (cs.map cD),.val a_ (.int q)]).sat Q:=by
 refine aM (d:=f9) rfl rfl (by decide) ?_;(first|apply ak|apply G9);simp[f9];apply ak;simp;apply ak;simp;refine dj (JCu _ _ cs.length (nj cs q) 0) ?_ ?_ ⟨cs,[],q,.aX,.aX,.aX,rfl,⟨rfl,rfl,rfl⟩,rfl,rfl,hz,by simp⟩;.rintro d r _⟨e,f,q,s4,s5,s6,rfl,⟨h,t,y⟩,hr,ho,hz,C⟩;cases e with|nil=>cases hr|cons u e=>
     obtain⟨rfl,rfl⟩:d=cD u/\r=e.map cD:=by simpa using hr
     rw[nj]at ho;rw[Rj]at hz;rw[eI]at C;simp[cD,h,t];apply ak;simp[y];apply ak;simp[show f.length<16777216 by omega];apply ak;simp;have E:(if u.2<q then u.2 else q)=min q u.2:=by split<;>omega
     rw[E];exact⟨e,f++[(u.1,min q u.2)],q-min q u.2,_,_,_,by rw[gc];rfl,⟨rfl,rfl,rfl⟩,rfl,by rw[fK];exact ho,hz,by simp;omega⟩
 . rintro _⟨e,f,q,s4,s5,s6,rfl,⟨h,t,y⟩,hr,ho,hz,C⟩;have:e=[]:=by cases e with|nil=>rfl|cons _ _=>cases hr
   subst this;rw[nj,gN]at ho;rw[Rj]at hz;subst ho;subst hz;simp;apply ak;simp;apply ak;simp;exact k
theorem JN{fs:List Int}:∀{c:List aB},aug 0 fs c=fs
 |[]=>rfl|s::c=>by
   show aug 0 (kI 0 fs s) c=fs;have:kI 0 fs s=fs:=by
    unfold kI;have h0:sg 0 s.2=0:=by cases s.2<;>rfl
    rw[h0,rX];refine ny λi=>?_;rw[oN];split
    . rename_i e;subst e;split;.rename_i h;simp[h]
      .rename_i h;simp at h;simp[h]
    .rfl
   rw[this,JN]
structure HS(m:Int)(ws:List Wy)(ts:List (List aB×Int))(fs:List Int):Prop where
 fit:M5 ws fs
 ht:∃F,Pt ws fs F/\F 0=0
 dt:∀k q,eX (gap k q) ws fs=bK (λx=>x.2*(q (m-1)-q 0-k*bO ws x.1)) ts
theorem JG:∀{l:List (List aB×Int)}{fs:List Int}{H:List aB×Int->Int},(∀x∈l,0<x.2)->(∀c,H (c,0)=0)->(nj l 0).foldl qu fs=fs/\bK H (nj l 0)=0
 |[],_,_,_,_=>⟨rfl,rfl⟩|x::r,fs,H,h,f=>by
   have E:=h x (by simp);have t:=JG (l:=r) (fs:=fs) (λy u=>h y (by simp[u])) f;have e:nj (x::r) 0=(x.1,0)::nj r 0:=by rw[nj,show min 0 x.2=0 by omega,Int.sub_self]
   rw[e,lf,bK,f,t.2];have C:qu fs (x.1,0)=fs:=JN;rw[C];exact⟨t.1,rfl⟩
theorem p8{H:List aB×Int->Int}{b:List (List aB×Int)}:∀{a:List (List aB×Int)},bK H (a++b)=bK H a+bK H b|[]=>by simp[bK]|x::a=>by rw[lx,bK,bK,p8];omega
theorem Ends.light{d:Int}{fs:List Int}(C:Ends m ws cs fs F d es):∀(f t:List (List aB×Int))(q:Int),t++f=cs->0<=q->HS m ws (t++nj f q) ((nj f q).foldl qu (flow ws.length t)):=by
 have pos:∀x∈cs,0<x.2:=λx J=>(C.iv.ch x J).2.1;have E:∀t f,t++f=cs->HS m ws t (flow ws.length t):=λt f e=>by cases f with|nil=>rw[gN]at e;subst e;rw[<-C.fl];exact⟨C.iv.fit,⟨F,C.iv.pt,C.iv.z⟩,C.iv.dt⟩|cons x r=>have s:=C.st.2 t x r e.symm;obtain⟨L,d0,iv⟩:=s.iv;exact⟨iv.fit,⟨L,iv.pt,iv.z⟩,iv.dt⟩
 have zero:∀(f G:List (List aB×Int))(gs:List Int),(∀x∈f,0<x.2)->HS m ws G gs->HS m ws (G++nj f 0) ((nj f 0).foldl qu gs):=λf G gs M h=>by have hz:=λH O=>JG (l:=f) (fs:=gs) (H:=H) M O;rw[(hz (λ_=>0) λ_=>rfl).1];refine⟨h.fit,h.ht,λk q=>?_⟩;rw[p8,(hz (λx=>x.2*(q (m-1)-q 0-k*bO ws x.1)) λc=>by simp).2,h.dt,rX]
 intro f;induction f with|nil=>intro t q e _;rw[nj,gN];exact E t [] e|cons x r U=>
   intro t q e Y;have J:=pos x (by rw[<-e];simp);have hr:∀y∈r,0<y.2:=λy W=>pos y (by rw[<-e];simp[W]);rw[nj];by_cases c:x.2<=q
   . have I:min q x.2=x.2:=by omega
     rw[I];have:=U (t++[x]) (q-x.2) (by rw[fK];exact e) (by omega);rw[fK,uy]at this;exact this
   . have I:min q x.2=q:=by omega
     rw[I,Int.sub_self,lf];have s:=C.st.2 t x r e.symm;have ck:=C.ck x (by rw[<-e];simp);obtain⟨F1,p1,p2,p3⟩:=s.ht;obtain⟨L,d0,iv⟩:=s.iv;have g:HS m ws (t++[(x.1,q)]) (qu (flow ws.length t) (x.1,q)):=by
      show HS m ws _ (aug q (flow ws.length t) x.1);refine⟨?_,⟨F1,p1.aug ck.2.2.1 s.op (by rw[p2,p3];omega),p2⟩,λk Z=>?_⟩
      . by_cases z:q=0;.subst z;rw[JN];exact iv.fit
        .refine iv.fit.aug ck.2.2.2 (by omega) λu hu=>?_;obtain⟨v,g,h1,X,h3⟩:=s.rm u hu;exact⟨v,g,h1,X,by omega⟩
      .rw[qR iv.fit.len ck.2.2.1,iv.dt,j4]
     have:=zero r _ _ hr g;rw[fK]at this;exact this
theorem Mf{ws:List Wy}{T:Int}:∀{cs:List (List aB×Int)},cs.Pairwise (λa b=>bO ws a.1<=bO ws b.1)->(∀x∈cs,0<x.2)->0<=Rt ws cs T/\bK (λx=>x.2*(T+1-bO ws x.1)) (nj cs (Rt ws cs T))=val ws T cs
 |[],_,_=>⟨fm _,rfl⟩|x::r,f,h=>by
   have H:=h x (by simp);have f:=kN.mp f;obtain⟨I,e⟩:=Mf (T:=T) f.2 λy hy=>h y (by simp[hy]);have t:Rt ws (x::r) T=gt T (bO ws x.1) x.2+Rt ws r T:=rfl;have u:val ws T (x::r)=vt T (bO ws x.1) x.2+val ws T r:=rfl;by_cases c:bO ws x.1<=T
   . have C:gt T (bO ws x.1) x.2=x.2:=by unfold gt;rw[if_pos c]
     have E:vt T (bO ws x.1) x.2=x.2*(T+1-bO ws x.1):=by unfold vt;rw[if_pos c];congr 1;omega
     rw[t,u,C,E,nj,show min (x.2+Rt ws r T) x.2=x.2 by omega,show x.2+Rt ws r T-x.2=Rt ws r T by omega,bK,e];exact⟨by omega,rfl⟩
   . have z:∀y∈x::r,¬ bO ws y.1<=T:=λy hy=>by
      rcases da.mp hy with rfl|hy;.exact c
      .have:=f.1 y hy;omega
     have r0:Rt ws (x::r) T=0:=by
      have:Rt ws (x::r) T=bK (λ_=>0) (x::r):=ir λy hy=>by unfold gt;rw[if_neg (z y hy)]
      rw[this];have:∀l:List (List aB×Int),bK (λ_=>0) l=0:=λl=>by induction l with|nil=>rfl|cons y l e=>rw[bK,e];rfl
      exact this _
     have G:val ws T (x::r)=0:=by
      have:val ws T (x::r)=bK (λ_=>0) (x::r):=ir λy hy=>by unfold WK;rw[if_neg (z y hy)]
      rw[this];have:∀l:List (List aB×Int),bK (λ_=>0) l=0:=λl=>by induction l with|nil=>rfl|cons y l e=>rw[bK,e];rfl
      exact this _
     rw[r0,G];exact⟨fm _,(JG (fs:=[]) h λc=>by simp).2⟩
noncomputable def late(ws:List Wy):Int:=jV (λv=>v.h) ws
theorem Fe{ws:List Wy}{b:Int}{t:aB}{v:Wy}(e:ws[t.1]?=aU v):∀{c:List aB}{a:Int},iy ws b c a->t∈c->frm v t.2∈rT ws c a/\too v t.2∈rT ws c a
 |[],_,_,h=>by cases h|s::c,a,⟨u,f,y,C⟩,h=>by
   have E:ur ws s=too u s.2:=by unfold ur;rw[f]
   rw[rT,E];rcases da.mp h with rfl|h;.rw[e]at f;cases f;refine⟨by rw[y];simp,dV _ ?_⟩;cases c<;>simp[rT]
   .have:=Fe e C h;exact⟨dV _ this.1,dV _ this.2⟩
theorem Dl{ws:List Wy}{b:Int}:∀{c:List aB}{a:Int},iy ws b c a->(rT ws c a).Nodup->(c.map (·.1)).Nodup
 |[],_,_,_=>by simp|s::c,a,⟨v,e,y,C⟩,f=>by
   have E:ur ws s=too v s.2:=by unfold ur;rw[e]
   rw[rT,E,fk]at f;rw[dl,fk];refine⟨λG=>?_,Dl C f.2⟩;obtain⟨t,ht,u⟩:=de.mp G;have h:=Fe (t:=t) (by rw[u];exact e) C ht;by_cases z:t.2=s.2;.rw[z,y]at h;exact f.1 h.1
   .rw[(lL z).2,y]at h;exact f.1 h.2
theorem Uz(t:∀v∈ws,0<=v.h)(u:iy ws b c a)(y:(c.map (·.1)).Nodup):0<=late ws+bO ws c:=by
 have h1:=qR (k:=1) (x:=1) (q:=λ_=>0) (fs:=cE ws.length 0) (by simp) u;rw[t8]at h1;have G:eX (gap 1 λ_=>0) ws (aug 1 (cE ws.length 0) c)<=late ws:=by
  refine xF (by rw[oX];simp) λj v g f e=>?_;have H:=t v (eh f);have C:g=0\/g=1\/g=-1:=by
   by_cases z:j∈c.map (·.1);.obtain⟨s,hs,rfl⟩:=de.mp z;have E:s.1<ws.length:=(fB f).1;rw[wQ y hs (g:=0) (by simp[E])]at e;cases e;cases s.2<;>simp[sg]
   .rw[ou z]at e;exact .inl (wB e)
  unfold gap;rcases C with rfl|rfl|rfl<;>simp<;>omega
 omega
noncomputable def vd(m:Int)(L:Int)(i:Nat):List (Int×Int):=(0,0)::(dE i).map λ(j:Nat)=>(1+(j:Int),L)
theorem lH{L:Int}{i:Nat}:(a,b)∈vd m L i↔(a=0/\b=0)\/(1<=a/\a<1+(i:Int)/\b=L):=by
 unfold vd;rw[da,de];constructor
 . rintro(h|⟨j,e,h⟩);.cases h;exact .inl ⟨rfl,rfl⟩
   .cases h;have:=i4.mp e;exact .inr ⟨by omega,by omega,rfl⟩
 . rintro(⟨rfl,rfl⟩|⟨h1,f,rfl⟩);.exact .inl rfl
   .exact .inr ⟨(a-1).toNat,i4.mpr (by omega),by rw[Prod.mk.injEq];exact⟨by omega,rfl⟩⟩
theorem JK{L:Int}{i:Nat}:vd m L (i+1)=vd m L i++[(1+(i:Int),L)]:=by unfold vd;rw[range_succ,gc];rfl
theorem Tc{L:Int}{i:Nat}:((vd m L i).map (·.1)).Nodup:=by
 unfold vd;rw[dl,ej,fk];refine⟨λh=>?_,?_⟩;.obtain⟨j,_,e⟩:=de.mp h;have e:1+(j:Int)=0:=e;omega
 .refine List.Pairwise.map _ (λa b(h:a≠b)=>?_) List.nodup_range;show 1+(a:Int)≠1+(b:Int);omega
noncomputable def bD(p:Int×Int):Int×D:=(p.1,.int p.2)
theorem Rw{bs:List (Int×Int)}:Hu (bs.map bD)=bs.map (·.1):=by simp[Hu,bD,iE]
theorem Z2{bs:List (Int×Int)}:dsV (bs.map bD)=bs.map λp=>.int p.2:=by simp[dsV,bD,iE]
theorem Z9{bs:List (Int×Int)}(h:p∉bs.map (·.1)):pY (bs.map bD) p=a_:=by cases e:pY (bs.map bD) p with|false=>rfl|true=>have e:(Hu (bs.map bD)).contains p=cq:=e;rw[Rw,kD]at e;exact absurd e h
theorem OJ{c:Call}{x:Nat}{e:Int}:ex c n (.Ms x k e) ρ=match ρ[x]?with|some .aX=>.ok .next (ρ.set x (.cU [(k,.int e)]))|some (.cU _)=>.ok .next (ρ.set x (.cU [(k,.int e)]))|some (.val a_ _)=>.ok .next (ρ.set x (.cU [(k,.int e)]))|_=>.stuck:=(rfl)
noncomputable def hD4(d:D):D:=match d with|.tup [_,_,_,h]=>h|_=>d
@[simp]theorem ahF{a b c h:D}:hD4 (.tup [a,b,c,h])=h:=rfl
theorem Ab:∀{ws:List Wy},(ws.map Wy.h).sum=late ws|[]=>rfl|v::ws=>by rw[dl,rc,Ab];rfl
inductive F6c(a0 a1 a2 a3 a4 a5:Sl)(ρ:List Sl):Prop where|mk(s:Sl)(q0:ρ=[a0,a1,a2,a3,a4,a5,s])(q1:fr s=cq)
inductive JFc(m:Int)(ws:List Wy)(a0 a1:Sl)(i:Nat)(ρ:List Sl):Prop where|mk(s4:Sl)(q0:ρ=[a0,a1,.val a_ (.int (late ws)),.cU ((vd m (late ws) i).map bD),s4,.aX])(q1:fr s4=cq)
noncomputable def Xi(es:List En)(p:Int):Int:=Gb (λ_=>0) 0 es p
noncomputable def lbD(es:List En):D->D|.int p=>.int (Xi es p)|d=>d
theorem Bc{s:Sl}{fs:List Int}(Z:100<=w)(hs:Rg s fs)(h:HN m ws)(G:fs.length=ws.length)(J:Pt ws fs F)(k:∀es,tE m ws fs (vd m (late ws) (m-1).toNat) es->Q (.own (((dE m.toNat).map λ(i:Nat)=>Xi es (i:Int)).map D.int)) [.val a_ (aV m ws),s]):(run Γ w (n+4) 11 [.val a_ (aV m ws),s]).sat Q:=by
 have m0:=h.m0;have m1:=h.m1;have hn:=h.len;have W:∀v∈ws,0<=v.h:=λv hv=>(h.ok v hv).2.2;have ac:0<=late ws:=by
  have:∀(l:List Wy),(∀v∈l,0<=v.h)->0<=late l:=λl=>by induction l with|nil=>intro _;exact fm _|cons v l ih=>intro G;have h1:=G v (by simp);have L:=ih λu hu=>G u (by simp[hu]);show 0<=v.h+late l;omega
  exact this ws W
 refine aM (d:=f11) rfl rfl (by decide) ?_;refine fC (λρ=>ρ=[.val a_ (aV m ws),s,.val a_ (.int (late ws)),.aX,.aX,.aX]) ?_ ?_
 . simp[f11,show ws.length<=16777216 by omega];refine bC (F6c _ _ _ _ _ _) hD4 ⟨.aX,rfl,rfl⟩ ?_ ?_;.rintro d hd _⟨C,rfl,f⟩;obtain⟨v,_,rfl⟩:=de.mp hd;simp[f,Wy.d];exact⟨_,rfl,rfl⟩
   . rintro _⟨C,rfl,f⟩;have e:(ws.map Wy.d).map hD4=(ws.map Wy.h).map D.int:=by rw[ej,ej];rfl
     rw[e];have e2:=Ab (ws:=ws);generalize ws.map Wy.h=ns at*;simp[fH,e2]
 rintro _ rfl;(first|apply ak|apply G9);simp[OJ];refine fC (JFc m ws (.val a_ (aV m ws)) s (m-1).toNat) ?_ ?_
 . simp[show m<=1000000000 by omega,show-1000000000<=m by omega];rw[show m.toNat-1=(m-1).toNat by omega];refine iQ (JFc m ws (.val a_ (aV m ws)) s) ?_ ?_ ⟨.aX,rfl,rfl⟩
   . rintro i _ hi⟨s4,rfl,H⟩;have M:pY ((vd m (late ws) i).map bD) (1+(i:Int))=a_:=Z9 λz=>by obtain⟨⟨a,b⟩,t,e⟩:=de.mp z;have e:a=1+(i:Int):=e;rcases lH.mp t with⟨h1,_⟩|⟨h1,L,_⟩<;>omega
     have I:gA ((vd m (late ws) i).map bD) (1+(i:Int)) (.int (late ws))=(vd m (late ws) (i+1)).map bD:=by rw[oU M,JK,gc];rfl
     simp[H];apply ak;simp[I];refine⟨λ_=>⟨_,rfl,rfl⟩,?_⟩;have:(vd m (late ws) i).length=i+1:=by simp[vd]
     show _<16777216;omega
   .rintro _⟨s4,rfl,H⟩;exact⟨rfl,_,rfl,H⟩
 rintro _⟨s4,rfl,H⟩;have X:∀a b,(a,b)∈vd m (late ws) (m-1).toNat->0<=a/\a<m:=λa b t=>by rcases lH.mp t with⟨h1,_⟩|⟨h1,L,_⟩<;>omega
 have hZ:∀a b c,(a,b)∈vd m (late ws) (m-1).toNat->iy ws 0 c a->uV ws fs c->0<=b+bO ws c:=λa b c t I ho=>by
  obtain⟨c',Y,q2,q3,q4,q5⟩:=short h J (X a b t) _ (cI) I ho;have h1:=Uz W Y (Dl Y q5);have L:bO ws c'<=bO ws c:=by unfold Le at q4;omega
  rcases lH.mp t with⟨rfl,rfl⟩|⟨_,_,rfl⟩;.have:=iZ J I ho;omega
  .omega
 have Mz:∀{n:Nat}{Q:R->List Sl->Prop}(C:Sl),Rg C fs->(∀es,tE m ws fs (vd m (late ws) (m-1).toNat) es->Q (.val (iT es)) [.val a_ (aV m ws),C,vm (vd m (late ws) (m-1).toNat)])->(run Γ w (n+3) 5 [.val a_ (aV m ws),C,vm (vd m (late ws) (m-1).toNat)]).sat Q:=λC f k'=>pq Z J X (lH.mpr (.inl ⟨rfl,rfl⟩)) Tc hZ f h G k';generalize O:vd m (late ws) (m-1).toNat=bs at*;(first|apply ak|apply G9);rcases hs with rfl|⟨b,rfl⟩;all_goals
  simp[Rw,Z2];refine Mz _ (by first|exact .inl rfl|exact .inr ⟨_,rfl⟩) λes y=>?_;simp;apply ak;simp[show m<=1000000000 by omega,show-1000000000<=m by omega];refine⟨λ_=>?_,by show _<=16777216;omega⟩;refine bC (F6c _ _ _ _ _ _) (lbD es) ⟨.aX,rfl,rfl⟩ ?_ ?_
  . rintro d hd _⟨C,rfl,f⟩;obtain⟨i,hi,rfl⟩:=de.mp hd;have hi:=i4.mp hi;obtain⟨l,o,z,_⟩:∃l o,((i:Int),l,o)∈es/\True:=by
     have E:∃b,((i:Int),b)∈bs:=by
      rw[<-O];by_cases c:i=0;.exact⟨0,lH.mpr (.inl ⟨by omega,rfl⟩)⟩
      .exact⟨late ws,lH.mpr (.inr ⟨by omega,by omega,rfl⟩)⟩
     obtain⟨b,U⟩:=E;obtain⟨l,o,z,_⟩:=y.bg _ _ U;exact⟨l,o,z,trivial⟩
    have gz:=sX y.cm.nd z;have Xd:Xi es (i:Int)=o.2:=gP y.cm.nd z;simp[f,iT,gz,Al,lbD,Xd];exact⟨_,rfl,rfl⟩
  . rintro _⟨C,rfl,f⟩;have e:((dE m.toNat).map λ(k:Nat)=>D.int (k:Int)).map (lbD es)=((dE m.toNat).map λ(i:Nat)=>Xi es (i:Int)).map D.int:=by rw[ej,ej];rfl
    rw[e];have M:=k es y;generalize((dE m.toNat).map λ(i:Nat)=>Xi es (i:Int))=ns at*;simp;exact M
noncomputable def lgD(fs:List Int)(cl:List Int):D:=.tup [.lst (fs.map D.int),.lst (cl.map D.int)]
inductive JLi(m q:Int)(ws:List Wy)(ts:List (List aB×Int))(r:List D)(ρ:List Sl):Prop where|mk(bZ us:List (List aB×Int))(s3 s4:Sl)(q0:ρ=[.val a_ (aV m ws),.val a_ (.int q),.own a_ ((flow ws.length bZ).map D.int),s3,s4])(q1:(fr s3=cq/\fr s4=cq))(q2:r=us.map cD)(q3:bZ++us=ts)
theorem KN:(flow N cs).length=N:=by
 have:∀(cs:List (List aB×Int))(fs:List Int),(cs.foldl qu fs).length=fs.length:=λcs=>by induction cs with|nil=>intro fs;rfl|cons x cs e=>intro fs;rw[lf,e];exact oX
 unfold flow;rw[this];simp
theorem Gj{q:Int}(Z:13286250<=w)(h:cX m ws)(U:0<=q)(q1:∀cs,cM m ws cs->q<=WW cs)(k:∀cs fs cl,cM m ws cs->cs.Pairwise (λa b=>bO ws a.1<=bO ws b.1)->HS m ws (nj cs q) fs->Q (.val (lgD fs cl)) [.val a_ (aV m ws),.val a_ (.int q)]):(run Γ w (n+5) 12 [.val a_ (aV m ws),.val a_ (.int q)]).sat Q:=by
 have hn:=h.len;have W:=HN.of h;refine aM (d:=f12) rfl rfl (by decide) ?_;refine fC (λρ=>ρ=[.val a_ (aV m ws),.val a_ (.int q),.own a_ ((flow ws.length []).map D.int),.aX,.aX]) ?_ ?_;.simp[f12,flow];show _<=16777216;omega
 rintro _ rfl;(first|apply ak|apply G9);simp;refine zx Z W (λv G=>(h.ok v G).r0) λcs fs F d es ac t=>?_;have C:cM m ws cs:=⟨λv G=>(h.ok v G).h0,fs,F,d,es,t⟩;have E:=t.light cs [] q rfl U;have H:(nj cs q).foldl qu (flow ws.length [])=flow ws.length (nj cs q):=rfl;rw[H,rf]at E;have I:=t.ck;simp;refine Gx (by omega) (RW (λx J=>(t.iv.ch x J).2.1) U (q1 cs C)) ?_;simp;refine dj (JLi m q ws (nj cs q)) ?_ ?_ ⟨[],nj cs q,.aX,.aX,rfl,⟨rfl,rfl⟩,rfl,rfl⟩;.rintro d r _⟨L,f,s3,s4,rfl,⟨X,Y⟩,hr,hd⟩;cases f with|nil=>cases hr|cons u f=>
     obtain⟨rfl,rfl⟩:d=cD u/\r=f.map cD:=by simpa using hr
     have M:(L++[u])++f=nj cs q:=by rw[fK];exact hd
     obtain⟨x,J,e⟩:=DK (l:=cs) (q:=q) (y:=u) (by rw[<-hd];simp);simp[cD,X,Y];apply ak;simp;refine yS (.inr ⟨cq,rfl⟩) (λs hs=>by rw[KN];exact(I x J).2.1 s (by rw[<-e];exact hs)) ?_;simp;exact⟨L++[u],f,_,_,by rw[uy],⟨rfl,rfl⟩,rfl,M⟩
 . rintro _⟨L,f,s3,s4,rfl,⟨X,Y⟩,hr,hd⟩;have:f=[]:=by cases f with|nil=>rfl|cons _ _=>cases hr
   subst this;rw[gN]at hd;subst hd;obtain⟨F1,p1,p2⟩:=E.ht;simp;apply ak;simp;refine Bc (by omega) (.inl rfl) W E.fit.len p1 λO ae=>?_;have hk:=λcl=>k cs (flow ws.length (nj cs q)) cl C t.st.1 E;generalize((dE m.toNat).map λ(i:Nat)=>Xi O (i:Int))=ns at*;simp;exact hk ns
theorem xO{T:Int}(u:13286250<=w)(h:cX m ws)(k:∀cs fs y,cM m ws cs->HS m ws y fs->bK (λx=>x.2*(T+1-bO ws x.1)) y=val ws T cs->Q (.val (.lst (fs.map D.int))) [.val a_ (aV m ws),.val a_ (.int T)]):(run Γ w (n+8) 17 [.val a_ (aV m ws),.val a_ (.int T)]).sat Q:=by refine aM (d:=f17) rfl rfl (by decide) ?_;(first|apply ak|apply G9);simp[f17];refine Bw u h λcs t=>?_;simp;refine Gj u h t.RB (λf e=>by rw[t.Ri e];exact e.aaI) λf fs cl e E C=>?_;rw[t.Ri e]at C;simp[lgD];exact k f fs _ e C (Mf E λx G=>(e.nn x G).2).2
noncomputable def aG(row:List Int)(i:Int):Int:=row.getD i.toNat 0
theorem jh{row:List Int}(h0:0<=i)(h:i<(row.length:Int)):at' (row.map D.int) i=aU (.int (aG row i)):=by
 rw[su h0 (by simpa using h)];have:i.toNat<row.length:=by omega
 simp[aG,this]
noncomputable def ni(T:Int)(q:Int->Int)(p:Int):Int:=max 0 (min (T+1) (q p))
theorem qY{H K:Wy->Int}:∀{ws:List Wy},(∀v∈ws,H v<=K v)->jV H ws<=jV K ws|[],_=>fm _|v::ws,h=>by have h1:=h v (by simp);have e:=qY (H:=H) (K:=K) (ws:=ws) λu hu=>h u (by simp[hu]);rw[jV,jV];omega
theorem tQ{T:Int}{r:Int->Int}(h:cX m ws)(hr:∀p,0<=p->p<m->r p=ni T q p):cC r ws<=cC q ws:=qY λv e=>by have ho:=h.ok v e;have h0:=ho.h0;unfold dD;refine oj ?_ ho.r0;rw[hr _ ho.s0 ho.s1,hr _ ho.t0 ho.t1];unfold ni;omega
theorem pU{G H:Wy->Int}:∀{ws:List Wy}{fs:List Int},fs.length=ws.length->(∀(j:Nat)v g,ws[j]?=aU v->fs[j]?=aU g->G v*g<=H v)->jV H ws<=eX G ws fs->∀(j:Nat)v g,ws[j]?=aU v->fs[j]?=aU g->G v*g=H v
 |[],[],_,_,_,j,v,g,e,_=>by simp at e|[],_::_,h,_,_,_,_,_,_,_=>by simp at h|_::_,[],h,_,_,_,_,_,_,_=>by simp at h|u::ws,x::fs,h,k,ht,j,v,g,f,t=>by
   have y:fs.length=ws.length:=by simpa using h
   have E:=k 0 u x rfl rfl;have C:∀(j:Nat)v g,ws[j]?=aU v->fs[j]?=aU g->G v*g<=H v:=λj v g a b=>k (j+1) v g (by simpa using a) (by simpa using b);have I:=xF y C;rw[eX,jV]at ht;cases j with|zero=>cases f;cases t;omega|succ j=>exact pU y C (by omega) j v g (by simpa using f) (by simpa using t)
theorem aaA{fs:List Int}(h:M5 ws fs)(he:cC q ws<=eX (gap 1 q) ws fs):Pt ws fs q:=λs v e ho=>by obtain⟨G,g,u,C,_,f⟩:=mX ho;rw[e]at u;cases u;have I:=h.ok _ _ _ e C;have ht:=pU (H:=dD q) h.len (λj v g a b=>by
  have:=h.ok _ _ _ a b;rw[PJ];unfold dD;generalize q v.t-q v.s-v.h=y;by_cases c:0<=y;.rw[Int.max_eq_right c,mul_comm];exact Int.mul_le_mul_of_nonneg_right this.2 c
  .rw[max_eq_left (by omega),mul_zero];exact Int.mul_nonpos_of_nonpos_of_nonneg (by omega) this.1) he _ _ _ e C;rw[PJ]at ht;unfold dD at ht;cases hf:s.2 with
 |true=>
   rw[hf]at f;simp only[oh]at f;show q v.t<=q v.s+v.h;generalize E:q v.t-q v.s-v.h=y at ht;by_cases c:0<y;.rw[Int.max_eq_right (by omega),mul_comm]at ht;have:=Int.mul_lt_mul_of_pos_right (show g<v.r by simp at f;omega) c;omega
   .omega|false=>
   rw[hf]at f;simp only[oh]at f;show q v.s<=q v.t+-v.h;generalize E:q v.t-q v.s-v.h=y at ht;by_cases c:y<0;.rw[max_eq_left (by omega),mul_zero]at ht;have:=Int.mul_neg_of_neg_of_pos c (show 0<g by simpa using f);omega
   .omega
theorem Dr{T v:Int}{fs:List Int}{e:List (List aB×Int)}(f:HS m ws e fs)(hs:bK (λx=>x.2*(T+1-bO ws x.1)) e=v)(h:q 0=0)(t:q (m-1)=T+1):eX (gap 1 q) ws fs=v:=by rw[f.dt,h,t,<-hs];exact ir λx _=>by congr 1;omega
theorem HS.hts{T v:Int}{fs:List Int}{e:List (List aB×Int)}(f:HS m ws e fs)(h:cX m ws)(h0:0<=T)(hs:bK (λx=>x.2*(T+1-bO ws x.1)) e=v)(t:jB m ws T v):∃q,Pt ws fs q/\q 0=0/\q (m-1)=T+1/\∀p,0<=q p/\q p<=T+1:=by
 obtain⟨q,y,C,E⟩:=t.ex;have c0:ni T q 0=0:=by unfold ni;omega
 have c1:ni T q (m-1)=T+1:=by unfold ni;omega
 have u:=tQ (T:=T) (q:=q) (r:=ni T q) h λ_ _ _=>rfl;exact⟨ni T q,aaA f.fit (by rw[Dr f hs c0 c1];omega),c0,c1,λp=>by unfold ni;omega⟩
noncomputable def qm(T:Int)(es:List En)(p:Int):Int:=min (Gb (λ_=>T+1) 0 es p) (T+1)
noncomputable def QT(m T:Int):List (Int×Int):=[(0,0),(m-1,T+1)]
theorem jT{T:Int}(e:(es.map (·.1)).Nodup)(h:(p,l,o)∈es):qm T es p=min o.2 (T+1):=by unfold qm;rw[gP e h]
theorem wU{T:Int}(h:¬ ∃l o,(p,l,o)∈es):qm T es p=T+1:=by unfold qm;rw[nF h];omega
noncomputable def M6(T:Int)(es:List En)(p:Int):Bool:=es.any λe=>decide (e.1=p)&&decide (e.2.2.2<=T+1)
theorem oM{T:Int}:M6 T es p=cq↔∃l o,(p,l,o)∈es/\o.2<=T+1:=by
 unfold M6;rw[m3];constructor;.rintro⟨⟨e,l,o⟩,he,z⟩;simp at z;obtain⟨rfl,z⟩:=z;exact⟨l,o,he,z⟩
 .rintro⟨l,o,he,z⟩;exact⟨_,he,by simp[z]⟩
noncomputable def phi(T:Int)(es:List En)(q:Int->Int)(p:Int):Int:=if M6 T es p=cq then 0 else-(1+q p)
structure Clh(m T:Int)(ws:List Wy)(fs:List Int)(es:List En):Prop where
 pt:Pt ws fs (qm T es)z:qm T es 0=0
 e:qm T es (m-1)=T+1
 bd:∀p,0<=qm T es p/\qm T es p<=T+1
theorem Clh.of{T:Int}{fs:List Int}{W:List (List aB×Int)}(h0:0<=T)(hh:∀v∈ws,1<=v.h)(X:HS m ws W fs)(hq:Pt ws fs q)(q0:q 0=0)(q1:q (m-1)=T+1)(qb:∀p,0<=q p/\q p<=T+1)(hc:tE m ws fs (QT m T) es):Clh m T ws fs es:=by
 have nd:=hc.cm.nd;have up:∀p l o,(p,l,o)∈es->q p<=o.2:=λp l o z=>by
  obtain⟨a,b,c,hab,hp,ho,_,e⟩:=hc.cm.wk p l o z;have:=iZ hq hp ho;have af:q a=b:=by
   rcases da.mp hab with hab|hab;.cases hab;exact q0
   .rw[d_]at hab;cases hab;exact q1
  omega
 have bd:∀p,0<=qm T es p/\qm T es p<=T+1:=λp=>by
  by_cases c:∃l o,(p,l,o)∈es;.obtain⟨l,o,c⟩:=c;rw[jT nd c];have:=up p l o c;have:=qb p;omega
  .rw[wU c];omega
 have r0:M6 T es 0=cq:=oM.mpr ⟨0,(cr,0),hc.cm.z,by simp only;omega⟩;obtain⟨lE,oE,Y,Z⟩:=hc.bg (m-1) (T+1) (by simp[QT]);have ag:oE.2=T+1:=by have:=up _ _ _ Y;unfold Le at Z;omega
 have r1:M6 T es (m-1)=cq:=oM.mpr ⟨lE,oE,Y,by omega⟩;have back:∀(j:Nat)v g,ws[j]?=aU v->fs[j]?=aU g->0<g->jP ws fs (frm v (j,a_).2) (j,a_)=cq:=λj v g u C hg=>by rw[mK (s:=(j,a_)) u C];simp[frm,oh];omega
 have term:∀(j:Nat)v g,ws[j]?=aU v->fs[j]?=aU g->gap 0 (phi T es q) v*g<=0/\(0<g->M6 T es v.t=a_->gap 0 (phi T es q) v*g<0):=λj v g u C=>by
  have hg:=X.fit.ok _ _ _ u C;by_cases g0:g=0;.subst g0;exact⟨by simp,λz=>by omega⟩
  have ho:=back j v g u C (by omega);have ah:q v.s<=q v.t+-v.h:=hq (j,a_) v u ho;have h1:=hh v (eh u);have L:gap 0 (phi T es q) v=phi T es q v.t-phi T es q v.s:=by unfold gap;omega
  rw[L];cases rt:M6 T es v.t with|true=>obtain⟨l,o,U,z2⟩:=oM.mp rt;obtain⟨l2,J,E,I⟩:=hc.cl l o (j,a_) v u U ho;have E:(v.s,l2,J)∈es:=E;have I:Le J.2 l2 (o.2+-v.h) (l+1):=I;have rs:M6 T es v.s=cq:=oM.mpr ⟨l2,J,E,by unfold Le at I;omega⟩;unfold phi;rw[rt,rs];exact⟨by simp,λ_ z=>by cases z⟩|false=>
    have ac:phi T es q v.t-phi T es q v.s<0:=by
     have p1:phi T es q v.t=-(1+q v.t):=by unfold phi;rw[rt];rfl
     have p2:phi T es q v.s=0\/phi T es q v.s=-(1+q v.s):=by
      unfold phi;split;.exact .inl rfl
      .exact .inr rfl
     have:=qb v.t;omega
    have:=Int.mul_neg_of_neg_of_pos ac (show 0<g by omega);exact⟨by omega,λ_ _=>this⟩
 have ae:jV (λ_=>0) ws<=eX (gap 0 (phi T es q)) ws fs:=by
  have u:phi T es q 0=0:=by unfold phi;rw[if_pos r0]
  have C:phi T es q (m-1)=0:=by unfold phi;rw[if_pos r1]
  rw[X.dt,u,C];have e3:bK (λx=>x.2*(0-0-0*bO ws x.1)) W=bK (λ_=>0) W:=ir λx _=>by simp
  rw[e3];have M:∀l:List (List aB×Int),bK (λ_=>0) l=0:=λl=>by induction l with|nil=>rfl|cons y l ih=>rw[bK,ih];rfl
  have e5:∀l:List Wy,jV (λ_=>0) l=0:=λl=>by induction l with|nil=>rfl|cons y l ih=>rw[jV,ih];rfl
  rw[M,e5];exact fm _
 have O:∀(j:Nat)v g,ws[j]?=aU v->fs[j]?=aU g->0<g->M6 T es v.t=cq:=λj v g u C hg=>by have ht:=pU (G:=gap 0 (phi T es q)) (H:=λ_=>0) X.fit.len (λj v g a b=>(term j v g a b).1) ae j v g u C;cases rt:M6 T es v.t with|true=>rfl|false=>have:=(term j v g u C).2 hg rt;omega
 refine⟨λs v e ho=>?_,by rw[jT nd hc.cm.z];simp only;omega,by rw[jT nd Y];omega,bd⟩;obtain⟨v',g,u,C,_,M⟩:=mX ho;rw[e]at u;cases u;have h1:=hh v (eh e);have b1:=bd (too v s.2);obtain⟨j,f⟩:=s
 cases f with|true=>
   show qm T es v.t<=qm T es v.s+v.h;have b1:0<=qm T es v.t/\qm T es v.t<=T+1:=b1;by_cases c:∃l o,(v.s,l,o)∈es;.obtain⟨l,o,c⟩:=c;obtain⟨l2,J,E,I⟩:=hc.cl l o (j,cq) v e c ho;have E:(v.t,l2,J)∈es:=E;have I:Le J.2 l2 (o.2+v.h) (l+1):=I;rw[jT nd c,jT nd E];unfold Le at I;omega
   .rw[wU c];omega|false=>
   show qm T es v.s<=qm T es v.t+-v.h;have M:0<g:=by simpa[oh]using M
   obtain⟨l,o,U,z2⟩:=oM.mp (O j v g e C M);obtain⟨l2,J,E,I⟩:=hc.cl l o (j,a_) v e U ho;have E:(v.s,l2,J)∈es:=E;have I:Le J.2 l2 (o.2+-v.h) (l+1):=I;rw[jT nd U,jT nd E];unfold Le at I;omega
structure Cls(m T:Int)(ws:List Wy)(cl:List Int):Prop where
 len:(cl.length:Int)=m
 z:aG cl 0=0
 e:aG cl (m-1)=T+1
 bd:∀x∈cl,0<=x/\x<=T+1
 lst:jB m ws T (cC (aG cl) ws)
@[simp]theorem Rz{k e:Int}{p q:P}:isVar (.wj k e p q)=cr:=rfl
theorem J8{c:Call}{e:Int}{p q:P}:ev c (.wj k e p q) ρ=(bW (isVar p) (ev c p) ρ).bind λx ρ=>(bW (isVar q) (ev c q) ρ).bind λy ρ=>lift (dl2 k e x y) ρ:=(rfl)
theorem Uy{e j:Int}(h:i≠k):dl2 k e (.int i) (.int j)=aU (.val (.dv [k,i] [.int e,.int j])):=by show(if i=k then cr else _)=_;rw[if_neg h]
noncomputable def clD(T:Int)(es:List En):D->D|.int p=>.int (qm T es p)|d=>d
theorem rE{T:Int}(h0:0<=p)(h1:p<m):aG ((dE m.toNat).map λ(i:Nat)=>qm T es (i:Int)) p=qm T es p:=by unfold aG;rw[e_,eL,mP (by omega)];show qm T es (p.toNat:Int)=_;rw[hY h0]
inductive F4c(a0 a1 a2 a3:Sl)(ρ:List Sl):Prop where|mk(s:Sl)(q0:ρ=[a0,a1,a2,a3,s])(q1:fr s=cq)
theorem Ck{T:Int}(U:13286250<=w)(h:cX m ws)(h0:0<=T)(k:∀cl,Cls m T ws cl->Q (.own (cl.map D.int)) [.val a_ (aV m ws),.val a_ (.int T)]):(run Γ w (n+9) 18 [.val a_ (aV m ws),.val a_ (.int T)]).sat Q:=by
 have m0:=h.m0;have m1:=h.m1;have W:=HN.of h;refine aM (d:=f18) rfl rfl (by decide) ?_;(first|apply ak|apply G9);simp[f18];apply ak;simp;refine xO U h λcs fs ts X C t=>?_;have L:=X.least h0;obtain⟨q,H,M,O,Y⟩:=C.hts h h0 t L;simp[J8,Uy (k:=0) (e:=0) (i:=m-1) (j:=T+1) (by omega)];have I:∀a b,(a,b)∈QT m T->0<=a/\a<m:=λa b hab=>by
  rcases da.mp hab with hab|hab;.cases hab;omega
  .rw[d_]at hab;cases hab;omega
 have Z:∀{n:Nat}{Q:R->List Sl->Prop}(y:Sl),Rg y fs->(∀es,tE m ws fs (QT m T) es->Q (.val (iT es)) [.val a_ (aV m ws),y,vm (QT m T)])->(run Γ w (n+3) 5 [.val a_ (aV m ws),y,vm (QT m T)]).sat Q:=λy f k'=>pq (by omega) H I (by simp[QT]) (by simp[QT];omega) (λa b c hab hp ho=>by
   have:=iZ H hp ho;have ac:q a=b:=by
    rcases da.mp hab with hab|hab;.cases hab;exact M
    .rw[d_]at hab;cases hab;exact O
   omega) f W C.fit.len k';refine Z _ (.inl rfl) λes u=>?_;have hc:=Clh.of h0 (λv G=>(h.ok v G).h0) C H M O Y u;simp;apply ak;simp[show m<=1000000000 by omega,show-1000000000<=m by omega];refine⟨λ_=>?_,by show _<=16777216;omega⟩;refine bC (F4c _ _ _ _) (clD T es) ⟨.aX,rfl,rfl⟩ ?_ ?_
 . rintro d hd _⟨y,rfl,f⟩;obtain⟨i,hi,rfl⟩:=de.mp hd;have hi:=i4.mp hi;by_cases c:∃l o,((i:Int),l,o)∈es
   . have E:=tZ.mpr c;obtain⟨l,o,z⟩:=c;have gz:=sX u.cm.nd z;have Xd:=jT (T:=T) u.cm.nd z;have em:(if T+1<o.2 then T+1 else o.2)=min o.2 (T+1):=by split<;>omega
     simp[f,E];simp[iT,gz,Al,clD,Xd,em];exact⟨_,rfl,rfl⟩
   . have E:pY (es.map en) (i:Int)=a_:=by cases z:pY (es.map en) (i:Int)with|false=>rfl|true=>exact absurd (tZ.mp z) c
     simp[f,E,clD,wU c];exact⟨_,rfl,rfl⟩
 . rintro _⟨y,rfl,f⟩;have e:((dE m.toNat).map λ(k:Nat)=>D.int (k:Int)).map (clD T es)=((dE m.toNat).map λ(i:Nat)=>qm T es (i:Int)).map D.int:=by rw[ej,ej];rfl
   rw[e];have hd:cC (aG ((dE m.toNat).map λ(i:Nat)=>qm T es (i:Int))) ws=cC (qm T es) ws:=by refine Int.le_antisymm (qY λv G=>?_) (qY λv G=>?_)<;>.have ho:=h.ok v G;unfold dD;rw[rE ho.s0 ho.s1,rE ho.t0 ho.t1];exact fm _
   have J:Cls m T ws ((dE m.toNat).map λ(i:Nat)=>qm T es (i:Int)):=by
    refine⟨by simp;omega,by rw[rE (by omega) (by omega)];exact hc.z,by rw[rE (by omega) (by omega)];exact hc.e,λx hx=>?_,?_⟩;.obtain⟨i,_,rfl⟩:=de.mp hx;exact hc.bd _
    .rw[hd,Dh C.fit hc.pt,Dr C t hc.z hc.e];exact L
   have E:=k _ J;generalize((dE m.toNat).map λ(i:Nat)=>qm T es (i:Int))=ns at*;simp;exact E
theorem Wa{c:Call}{x:Nat}{e:P}:ev c (.YZ x e) ρ=(lift (pk ρ x) ρ).bind λ_ ρ=>(bW (isVar e) (ev c e) ρ).bind λk ρ=>(lift (pk ρ x) ρ).bind λd ρ=>lift (NZ d k) ρ:=(rfl)
@[simp]theorem XN{x:Nat}{e:P}:isVar (.YZ x e)=cr:=rfl
theorem Uh{S:List Int}(h:i∈S)(e:S.length<=1000):NZ (.lst (S.map D.int)) (.int i)=aU (.val (.int (S.idxOf i))):=by show((S.map D.int).mapM gB).bind _=_;rw[fH];show(if _ then _ else _)=_;rw[if_pos ⟨h,e⟩]
noncomputable def gJ(m:Int):List Int:=(dE m.toNat).map λ(i:Nat)=>(i:Int)
noncomputable def oth(m:Int)(St:List Int):List Int:=(gJ m).filter λp=>!St.contains p
noncomputable def jn(m:Int)(St:List Int)(p:Int):Int:=if St.contains p=cq then 0 else((oth m St).idxOf p:Int)+1
theorem dW:p∈gJ m↔0<=p/\p<m:=by
 unfold gJ;rw[de];constructor;.rintro⟨i,hi,rfl⟩;have:=i4.mp hi;omega
 .rintro⟨h0,h1⟩;exact⟨p.toNat,i4.mpr (by omega),by omega⟩
theorem nR{St:List Int}:p∈oth m St↔(0<=p/\p<m)/\p∉St:=by unfold oth;rw[hU,dW];simp
theorem lQ:(gJ m).length=m.toNat:=by unfold gJ;simp
theorem wO{St:List Int}:(oth m St).length<=m.toNat:=by have:=jS (λp=>!St.contains p) (gJ m);rw[lQ]at this;exact this
theorem Ft{St:List Int}(m0:1<=m)(h:m-1∉St):∃l,oth m St=l++[m-1]/\m-1∉l:=by
 have e:gJ m=gJ (m-1)++[m-1]:=by unfold gJ;rw[show m.toNat=(m-1).toNat+1 by omega,range_succ,gc];congr 1;show[(((m-1).toNat:Nat):Int)]=_;rw[hY (by omega)]
 refine⟨(gJ (m-1)).filter λp=>!St.contains p,?_,λz=>?_⟩;.unfold oth;rw[e,nS];congr 1;simp[h]
 .have:=dW.mp (hU.mp z).1;omega
theorem wY{St:List Int}(m0:1<=m)(h:m-1∉St):jn m St (m-1)=((oth m St).length:Int):=by obtain⟨l,e,f⟩:=Ft m0 h;unfold jn;rw[if_neg (by simpa using h),e,List.idxOf_append,if_neg f];simp
theorem zA{St:List Int}(h:0<=p/\p<m):0<=jn m St p/\jn m St p<=((oth m St).length:Int):=by
 unfold jn;by_cases c:St.contains p=cq;.rw[if_pos c];omega
 .rw[if_neg c];have:=jv.mpr (nR.mpr ⟨h,by simpa using c⟩);omega
noncomputable def qj(m:Int)(St:List Int)(q:Int->Int)(i:Int):Int:=if i=0 then 0 else q ((oth m St).getD (i-1).toNat 0)
theorem JT{St:List Int}(h:0<=p/\p<m)(e:p∈St->q p=0):qj m St q (jn m St p)=q p:=by
 unfold jn;by_cases c:St.contains p=cq;.rw[if_pos c,e (by simpa using c)];rfl
 .rw[if_neg c];have f:=nR.mpr ⟨h,(by simpa using c:p∉St)⟩;have hi:=jv.mpr f;unfold qj;rw[if_neg (by omega),show(((oth m St).idxOf p:Int)+1-1).toNat=(oth m St).idxOf p by omega,e_,eF hi];show q (oth m St)[(oth m St).idxOf p]=_;rw[mC hi]
noncomputable def jw(m:Int)(St:List Int)(v:Wy):Wy:=⟨jn m St v.s,jn m St v.t,v.r,v.h⟩
noncomputable def gW(m:Int)(St:List Int)(ws:List Wy):List Wy:=(ws.map (jw m St)).filter λv=>decide (v.s≠v.t)
noncomputable def jm(m:Int)(St:List Int):Int:=((oth m St).length:Int)+1
theorem jQ{m:Int}{St:List Int}{g q:Int->Int}:∀{ws:List Wy},(∀v∈ws,0<=v.h/\g (jn m St v.s)=q v.s/\g (jn m St v.t)=q v.t)->cC g (gW m St ws)=cC q ws
 |[],_=>rfl|v::ws,h=>by
   have h1:=h v (by simp);have y:=jQ (m:=m) (St:=St) (g:=g) (q:=q) (ws:=ws) λu hu=>h u (by simp[hu]);have C:cC q (v::ws)=dD q v+cC q ws:=rfl;by_cases c:jn m St v.s=jn m St v.t
   . have e:gW m St (v::ws)=gW m St ws:=by unfold gW;rw[dl,ii (by simp[jw,c])]
     have f:dD q v=0:=by unfold dD;rw[<-h1.2.1,<-h1.2.2,c,uK (by omega),uH]
     rw[e,y,C,f];omega
   . have e:gW m St (v::ws)=jw m St v::gW m St ws:=by unfold gW;rw[dl,ic (by simp[jw,c])]
     have f:dD g (jw m St v)=dD q v:=by unfold dD jw;simp only;rw[h1.2.1,h1.2.2]
     have E:cC g (jw m St v::gW m St ws)=dD g (jw m St v)+cC g (gW m St ws):=rfl;rw[e,E,f,y,C]
noncomputable def gb(m:Int)(St:List Int):Prop:=∀p∈St,0<=p/\p<m-1
theorem gb.ne{St:List Int}(h:gb m St):m-1∉St:=λz=>by have:=h _ z;omega
theorem qZ{St:List Int}(h:cX m ws)(H:m<=6)(f:gb m St):cX (jm m St) (gW m St ws):=by
 have m0:=h.m0;obtain⟨l,e,_⟩:=Ft (by omega) f.ne;have y:=wO (m:=m) (St:=St);have h1:1<=(oth m St).length:=by rw[e];simp
 refine⟨by unfold jm;omega,by unfold jm;omega,?_,λv C=>?_⟩;.have:=jS (λv=>decide (v.s≠v.t)) (ws.map (jw m St));rw[dy]at this;have:=h.len;unfold gW;omega
 .obtain⟨E,G⟩:=hU.mp C;obtain⟨u,hu,rfl⟩:=de.mp E;have o:=h.ok u hu;have b1:=zA (St:=St) ⟨o.s0,o.s1⟩;have b2:=zA (St:=St) ⟨o.t0,o.t1⟩;exact⟨b1.1,by unfold jm;show jn m St u.s<_;omega,b2.1,by unfold jm;show jn m St u.t<_;omega,by simpa using G,o.r0,o.r1,o.h0,o.h1⟩
structure cY(m:Int)(St:List Int)(ws:List Wy)(T v:Int):Prop where
 ex:∃q:Int->Int,(∀p∈St,q p=0)/\q (m-1)=T+1/\cC q ws=v
 le:∀q:Int->Int,(∀p∈St,q p=0)->q (m-1)=T+1->v<=cC q ws
theorem iV{T v:Int}{St:List Int}(h:cX m ws)(t:gb m St)(u:jB (jm m St) (gW m St ws) T v):cY m St ws T v:=by
 have m0:=h.m0;have y:=wY (St:=St) (m:=m) (by omega) t.ne;refine⟨?_,λq C E=>?_⟩
 . obtain⟨g,G,H,I⟩:=u.ex;refine⟨λp=>g (jn m St p),λp J=>?_,?_,?_⟩;.show g (jn m St p)=0;unfold jn;rw[if_pos (by simpa using J)];exact G
   .show g (jn m St (m-1))=_;rw[y,<-H];unfold jm;congr 1;omega
   .rw[<-I];exact(jQ λv f=>⟨by have:=(h.ok v f).h0;omega,rfl,rfl⟩).symm
 . have e:=jQ (m:=m) (St:=St) (g:=qj m St q) (q:=q) (ws:=ws) λv f=>by have o:=h.ok v f;exact⟨by have:=o.h0;omega,JT ⟨o.s0,o.s1⟩ (C _),JT ⟨o.t0,o.t1⟩ (C _)⟩
   rw[<-e];refine u.le _ rfl ?_;have:=JT (m:=m) (p:=m-1) (St:=St) (q:=q) ⟨by omega,by omega⟩ (λz=>absurd z t.ne);rw[y]at this;unfold jm;rw[show((oth m St).length:Int)+1-1=((oth m St).length:Int)by omega,this,E]
inductive F2j(a0 a1 a2:Sl)(ρ:List Sl):Prop where|mk(s:Sl)(q0:ρ=[a0,a1,a2,s])(q1:fr s=cq)
noncomputable def Nv(St:List Int)(d:D):Option D:=if St.contains (cz d)then cr else aU d
theorem Ek{St:List Int}:∀{l:List Int},(l.map D.int).filterMap (Nv St)=(l.filter λp=>!St.contains p).map D.int|[]=>rfl|p::l=>by have e:=Ek (St:=St) (l:=l);cases c:St.contains p with|true=>rw[dl,jz (by show(if St.contains p=cq then _ else _)=_;rw[c];rfl),e,ii (by simp[c]at c ⊢;exact c)]|false=>rw[dl,jx (b:=.int p) (by show(if St.contains p=cq then _ else _)=_;rw[c];rfl),e,ic (by simp[c]at c ⊢;exact c)];rfl
noncomputable def jnD(m:Int)(St:List Int)(d:D):D:=.int (jn m St (cz d))
theorem Fb:((dE m.toNat).map λ(k:Nat)=>D.int (k:Int))=(gJ m).map D.int:=by unfold gJ;rw[ej];rfl
theorem qp{St:List Int}(m0:2<=m)(m1:m<=7)(C:St.length<=100)(k:Q (.own (((gJ m).map (jn m St)).map D.int)) [.val a_ (aV m ws),.val a_ (.tup (St.map D.int))]):(run Γ w (n+1) 22 [.val a_ (aV m ws),.val a_ (.tup (St.map D.int))]).sat Q:=by
 refine aM (d:=f22) rfl rfl (by decide) ?_;have u:=wO (m:=m) (St:=St);have hpl:=lQ (m:=m);(first|apply ak|apply G9);simp[f22,show m<=1000000000 by omega,show-1000000000<=m by omega];refine⟨λ_=>?_,by show _<=16777216;omega⟩;rw[Fb];refine fP (F2j _ _ _) (Nv St) ⟨.aX,rfl,rfl⟩ ?_ ?_
 . rintro d hd _⟨s,rfl,hs⟩;obtain⟨p,h,rfl⟩:=de.mp hd;have f:=pO (S:=St) (i:=p)
   cases c:St.contains p with|true=>
     have e:Nv St (.int p)=cr:=by show(if St.contains p=cq then _ else _)=_;rw[c];rfl
     rw[c]at f;simp[hs,f,e];exact⟨_,rfl,rfl⟩|false=>
     have e:Nv St (.int p)=aU (.int p):=by show(if St.contains p=cq then _ else _)=_;rw[c];rfl
     rw[c]at f;simp[hs,f,e];exact⟨_,rfl,rfl⟩
 rintro _⟨s,rfl,hs⟩;rw[Ek];have y:((gJ m).filter λp=>!St.contains p)=oth m St:=rfl;rw[y];simp;apply ak;simp[show m<=1000000000 by omega,show-1000000000<=m by omega];refine⟨λ_=>?_,by show _<=16777216;omega⟩;rw[Fb];refine bC (F2j _ _ _) (jnD m St) ⟨.aX,rfl,rfl⟩ ?_ ?_
 . rintro d hd _⟨s,rfl,hs⟩;obtain⟨p,h,rfl⟩:=de.mp hd;have h:=dW.mp h;have f:=Bq (S:=St) (i:=p)
   cases c:St.contains p with|true=>
     have e:jnD m St (.int p)=.int 0:=by show D.int (if St.contains p=cq then _ else _)=_;rw[c];rfl
     rw[c]at f;simp[hs,f,e];exact⟨_,rfl,rfl⟩|false=>
     have e:jnD m St (.int p)=.int ((oth m St).idxOf p+1):=by show D.int (if St.contains p=cq then _ else _)=_;rw[c];rfl
     rw[c]at f;have t:=Uh (S:=oth m St) (i:=p) (nR.mpr ⟨h,by simpa using c⟩) (by omega);simp[hs,f,Wa,t,e];exact⟨_,rfl,rfl⟩
 . rintro _⟨s,rfl,hs⟩;have e:((gJ m).map D.int).map (jnD m St)=((gJ m).map (jn m St)).map D.int:=by rw[ej,ej];rfl
   rw[e];generalize(gJ m).map (jn m St)=js at*;simp;exact k
noncomputable def jwD(m:Int)(St:List Int):D->D|.tup [.int s,.int t,.int r,.int h]=>(jw m St ⟨s,t,r,h⟩).d|d=>d
@[simp]theorem aaR{m:Int}{St:List Int}{v:Wy}:jwD m St v.d=(jw m St v).d:=rfl
noncomputable def neD:D->Option D|.tup [.int s,.int t,.int r,.int h]=>if s=t then cr else aU (.tup [.int s,.int t,.int r,.int h])|d=>aU d
theorem Rx{s t r h:Int}:neD (.tup [.int s,.int t,.int r,.int h])=if s=t then cr else aU (.tup [.int s,.int t,.int r,.int h]):=rfl
theorem Q5:neD v.d=if v.s=v.t then cr else aU v.d:=rfl
theorem Jt:∀{l:List Wy},(l.map Wy.d).filterMap neD=(l.filter λv=>decide (v.s≠v.t)).map Wy.d
 |[]=>rfl|v::l=>by
   have e:=Jt (l:=l);by_cases c:v.s=v.t;.rw[dl,jz (by rw[Q5,if_pos c]),e,ii (by simp[c])]
   .rw[dl,jx (b:=v.d) (by rw[Q5,if_neg c]),e,ic (by simp[c])];rfl
theorem af2{St:List Int}(h0:0<=p)(h1:p<m):at' (((gJ m).map (jn m St)).map D.int) p=aU (.int (jn m St p)):=by rw[su h0 (by simp[gJ];omega)];unfold gJ;rw[ej,ej,eL,mP (by omega)];show aU (D.int (jn m St (p.toNat:Int)))=_;rw[hY h0]
theorem ae2{St:List Int}(m0:1<=m)(e:gb m St):((gJ m).map (jn m St)).max?=aU ((oth m St).length:Int):=by rw[ru];refine⟨de.mpr ⟨m-1,dW.mpr (by omega),wY m0 e.ne⟩,λb f=>?_⟩;obtain⟨p,h,rfl⟩:=de.mp f;exact(zA (dW.mp h)).2
inductive F4j(a0 a1 a2 a3:Sl)(ρ:List Sl):Prop where|mk(s:Sl)(q0:ρ=[a0,a1,a2,a3,s])(q1:fr s=cq)
theorem oY{St:List Int}(h:cX m ws)(G:gb m St)(H:St.length<=100)(k:Q (.val (aV (jm m St) (gW m St ws))) [.val a_ (aV m ws),.val a_ (.tup (St.map D.int))]):(run Γ w (n+2) 23 [.val a_ (aV m ws),.val a_ (.tup (St.map D.int))]).sat Q:=by
 have m0:=h.m0;have m1:=h.m1;have L:=h.len;have u:=ae2 (m:=m) (St:=St) (by omega) G;have f:∀p,0<=p->p<m->at' (((gJ m).map (jn m St)).map D.int) p=aU (.int (jn m St p)):=λp h0 h1=>af2 h0 h1;refine aM (d:=f23) rfl rfl (by decide) ?_;(first|apply ak|apply G9);simp[f23];refine qp m0 m1 H ?_;have I:((gJ m).map (jn m St)).length<=7:=by rw[dy,lQ];omega
 generalize(gJ m).map (jn m St)=js at*;simp;apply ak;simp[show ws.length<=16777216 by omega];refine bC (F4j _ _ _ _) (jwD m St) ⟨.aX,rfl,rfl⟩ ?_ ?_;.rintro d hd _⟨s,rfl,hs⟩;obtain⟨v,C,rfl⟩:=de.mp hd;have o:=h.ok v C;rw[aaR];simp[hs,Wy.d,f _ o.s0 o.s1,f _ o.t0 o.t1,jw];exact⟨_,rfl,rfl⟩
 rintro _⟨s,rfl,hs⟩;have e:(ws.map Wy.d).map (jwD m St)=(ws.map (jw m St)).map Wy.d:=by rw[ej,ej];rfl
 rw[e];have J:(ws.map (jw m St)).length=ws.length:=dy _;have E:=k;unfold gW at E;generalize ws.map (jw m St)=y at*;simp;apply ak;simp[fH,u,show y.length<=16777216 by omega];refine fP (λρ=>∃s,ρ=[.val a_ (aV m ws),.val a_ (.tup (St.map D.int)),.own a_ (js.map D.int),.lent (y.map Wy.d),s]/\fr s=cq) neD ⟨.aX,rfl,rfl⟩ ?_ ?_
 . rintro d hd _⟨s,rfl,hs⟩;obtain⟨v,C,rfl⟩:=de.mp hd;by_cases c:v.s=v.t;.simp[hs,Wy.d,Rx,c]
   .simp[hs,Wy.d,Rx,c]
 rintro _⟨s,rfl,hs⟩;rw[Jt];generalize(y.filter λv=>decide (v.s≠v.t))=fs at*;simp;exact E
structure Zg(m T:Int)(cl:List Int):Prop where
 len:(cl.length:Int)=m
 z:aG cl 0=0
 e:aG cl (m-1)=T+1
 bd:∀x∈cl,0<=x/\x<=T+1
theorem Zg.last{T:Int}(h:Zg m T cl)(m0:2<=m):at' (cl.map D.int) (-1)=aU (.int (T+1)):=by have he:=h.e;have f:=h.len;obtain⟨l,x,rfl⟩:∃l x,cl=l++[x]:=⟨cl.dropLast,cl.getLast (by rintro rfl;simp at f;omega),(List.dropLast_concat_getLast _).symm⟩;rw[ez,kC]at f;unfold aG at he;rw[e_,eW (by omega),show(m-1).toNat-l.length=0 by omega]at he;have he:x=T+1:=he;rw[gc,List.map_singleton,M9,he]
theorem Ej{e:Type}{l:List e}:(l.map λ_=>D.bl cq).mapM Bs=aU (l.map λ_=>cq):=by induction l with|nil=>rfl|cons a l f=>simp[f]
theorem Jb{e:Type}{l:List e}:(l.map λ_=>cq).all id=cq:=by simp
theorem Cp{T:Int}(h:cX m ws)(hc:Zg m T cl)(k:Q (.val (.bl cq)) [.val a_ (aV m ws),.val a_ (.int T),.own cq (cl.map D.int)]):(run Γ w (n+1) 19 [.val a_ (aV m ws),.val a_ (.int T),.own cq (cl.map D.int)]).sat Q:=by
 have m0:=h.m0;have m1:=h.m1;have t:=hc.len;have e:=jh (row:=cl) (i:=0) (by omega) (by omega);have u:=hc.last m0;rw[hc.z]at e;refine aM (d:=f19) rfl rfl (by decide) ?_;(first|apply ak|apply G9);simp[f19,t,e,u];apply ak;simp[show cl.length<=16777216 by omega];refine bC (λρ=>∃s,ρ=[_,_,.lent (cl.map D.int),s]/\fr s=cq) (λ_=>.bl cq) ⟨.aX,rfl,rfl⟩ ?_ ?_;.rintro d hd _⟨s,rfl,hs⟩;obtain⟨x,y,rfl⟩:=de.mp hd;have f:=hc.bd x y;simp[hs,f.1,f.2]
 rintro _⟨s,rfl,hs⟩;have C:((cl.map D.int).map λ_=>D.bl cq).mapM Bs=aU ((cl.map D.int).map λ_=>cq):=Ej;have E:((cl.map D.int).map λ_=>cq).all id=cq:=Jb;generalize((cl.map D.int).map λ_=>D.bl cq)=X at*;generalize((cl.map D.int).map λ_=>cq)=Y at*;simp[C,E];exact k
theorem O2(h:v.Ok m)(y:(cl.length:Int)=m)(k:Q (.val (.int (max 0 (aG cl v.t-aG cl v.s-v.h)))) [.val a_ v.d,.own cq (cl.map D.int)]):(run Γ w (n+1) 20 [.val a_ v.d,.own cq (cl.map D.int)]).sat Q:=by
 have e:=jh (row:=cl) h.s0 (by have:=h.s1;omega);have f:=jh (row:=cl) h.t0 (by have:=h.t1;omega);refine aM (d:=f20) rfl rfl (by decide) ?_;(first|apply ak|apply G9);have u:(if v.h<aG cl v.t-aG cl v.s then aG cl v.t-aG cl v.s-v.h else 0)=max 0 (aG cl v.t-aG cl v.s-v.h):=by split<;>omega
 simp[f20,Wy.d,e,f,u];exact k
noncomputable def dtD(cl:List Int):D->D|.tup [.int s,.int t,.int r,.int h]=>.int (dD (aG cl) ⟨s,t,r,h⟩)|d=>d
theorem aas:dtD cl v.d=.int (dD (aG cl) v):=rfl
theorem yX{H:Wy->Int}:∀{ws:List Wy},(ws.map H).sum=jV H ws|[]=>rfl|v::ws=>by rw[dl,rc,yX];rfl
theorem Kc{T:Int}(h:cX m ws)(hc:Zg m T cl)(k:Q (.val (.int (cC (aG cl) ws))) [.val a_ (aV m ws),.val a_ (.int T),.own a_ (cl.map D.int)]):(run Γ w (n+2) 21 [.val a_ (aV m ws),.val a_ (.int T),.own a_ (cl.map D.int)]).sat Q:=by
 have t:=h.len;refine aM (d:=f21) rfl rfl (by decide) ?_;(first|apply ak|apply G9);simp[f21];refine Cp h hc ?_;simp;apply ak;simp[show ws.length<=16777216 by omega];refine bC (λρ=>∃s,ρ=[.val a_ (aV m ws),.val a_ (.int T),.own a_ (cl.map D.int),s]/\fr s=cq) (dtD cl) ⟨.aX,rfl,rfl⟩ ?_ ?_
 . rintro d hd _⟨s,rfl,hs⟩;obtain⟨v,f,rfl⟩:=de.mp hd;have ho:=h.ok v f;have r0:=ho.r0;have r1:=ho.r1;have e:M4 v.d (.int 2)=aU (.val (.int v.r)):=by simp[Wy.d]
   rw[aas];simp[hs,e];refine O2 ho hc.len ?_;simp[show v.r<18446744073709551616 by omega,show-18446744073709551616<v.r by omega];rfl
 . rintro _⟨s,rfl,hs⟩;have e:(ws.map Wy.d).map (dtD cl)=(ws.map (dD (aG cl))).map D.int:=by rw[ej,ej];rfl
   rw[e];have es:(ws.map (dD (aG cl))).sum=cC (aG cl) ws:=yX;generalize ws.map (dD (aG cl))=u at*;simp[fH,es];exact k
structure uT(m T:Int)(St:List Int)(cl:List Int):Prop where
 len:(cl.length:Int)=m
 z:∀p∈St,aG cl p=0
 e:aG cl (m-1)=T+1
 bd:∀x∈cl,0<=x/\x<=T+1
theorem lD{T:Int}(h:∀x∈cl,0<=x/\x<=T+1)(e:0<=p)(p1:p<(cl.length:Int)):0<=aG cl p/\aG cl p<=T+1:=by
 have:p.toNat<cl.length:=by omega
 unfold aG;rw[e_,eF this];exact h _ (ki this)
noncomputable def Ro(m:Int)(St cl:List Int):List Int:=0::(oth m St).map (aG cl)
theorem By{St:List Int}(h:0<=p/\p<m)(hz:∀p∈St,aG cl p=0):aG (Ro m St cl) (jn m St p)=aG cl p:=by
 unfold jn;by_cases c:St.contains p=cq;.rw[if_pos c,hz p (by simpa using c)];rfl
 . rw[if_neg c];have f:=nR.mpr ⟨h,(by simpa using c:p∉St)⟩;have hi:=jv.mpr f;have e:aG (Ro m St cl) (((oth m St).idxOf p:Int)+1)=aG cl ((oth m St)[(oth m St).idxOf p]):=by show(Ro m St cl).getD (((oth m St).idxOf p:Int)+1).toNat 0=_;rw[show(((oth m St).idxOf p:Int)+1).toNat=(oth m St).idxOf p+1 by omega,e_];show((oth m St).map (aG cl))[(oth m St).idxOf p]?.getD 0=_;rw[eL,eF hi];rfl
   rw[e,mC hi]
theorem Wx{T:Int}{St:List Int}(m0:2<=m)(h0:0<=T)(f:gb m St)(hc:uT m T St cl):Zg (jm m St) T (Ro m St cl):=by
 refine⟨?_,rfl,?_,λx hx=>?_⟩;.unfold Ro jm;rw[eI,dy];omega
 .have:=By (m:=m) (p:=m-1) (St:=St) (cl:=cl) ⟨by omega,by omega⟩ hc.z;rw[wY (by omega) f.ne]at this;unfold jm;rw[show((oth m St).length:Int)+1-1=((oth m St).length:Int)by omega,this,hc.e]
 . unfold Ro at hx;rcases da.mp hx with rfl|hx;.omega
   .obtain⟨p,h,rfl⟩:=de.mp hx;have:=(nR.mp h).1;exact lD hc.bd this.1 (by have:=hc.len;omega)
theorem vV{T:Int}{St:List Int}(W:13286250<=w)(h:cX m ws)(X:m<=6)(u:gb m St)(M:St.length<=100)(h0:0<=T)(k:∀cl,uT m T St cl->cY m St ws T (cC (aG cl) ws)->Q (.own (cl.map D.int)) [.val a_ (aV m ws),.val a_ (.tup (St.map D.int)),.val a_ (.int T)]):(run Γ w (n+10) 25 [.val a_ (aV m ws),.val a_ (.tup (St.map D.int)),.val a_ (.int T)]).sat Q:=by
 have m0:=h.m0;have Y:=qZ h X u;refine aM (d:=f25) rfl rfl (by decide) ?_;(first|apply ak|apply G9);simp[f25];refine oY h u M ?_;simp;refine Ck W Y h0 λcl hc=>?_;simp;apply ak;simp;refine qp m0 (by omega) M ?_;have H:=wY (m:=m) (St:=St) (by omega) u.ne;have O:((gJ m).map λp=>aG cl (jn m St p)).length=m.toNat:=by rw[dy,lQ]
 have f:∀p,0<=p->p<m->aG ((gJ m).map λp=>aG cl (jn m St p)) p=aG cl (jn m St p):=λp Z p1=>by show((gJ m).map λp=>aG cl (jn m St p)).getD p.toNat 0=_;unfold gJ;rw[ej,e_,eL,mP (by omega)];show aG cl (jn m St (p.toNat:Int))=_;rw[hY Z]
 have I:uT m T St ((gJ m).map λp=>aG cl (jn m St p)):=by
  refine⟨by omega,λp t=>?_,?_,λx y=>?_⟩;.have G:=u p t;rw[f p (by omega) (by omega)];unfold jn;rw[if_pos (by simpa using t)];exact hc.z
  .rw[f _ (by omega) (by omega),H,<-hc.e];unfold jm;congr 1;omega
  .obtain⟨p,t,rfl⟩:=de.mp y;have G:=zA (St:=St) (dW.mp t);exact lD hc.bd G.1 (by have:=hc.len;unfold jm at this;omega)
 have J:cY m St ws T (cC (aG ((gJ m).map λp=>aG cl (jn m St p))) ws):=by
  have e:=jQ (m:=m) (St:=St) (g:=aG cl) (q:=aG ((gJ m).map λp=>aG cl (jn m St p))) (ws:=ws) λv hv=>by have o:=h.ok v hv;exact⟨by have:=o.h0;omega,(f _ o.s0 o.s1).symm,(f _ o.t0 o.t1).symm⟩
  rw[<-e];exact iV h u hc.lst
 have U:=k _ I J;have L:∀p∈gJ m,at' (cl.map D.int) (jn m St p)=aU (.int (aG cl (jn m St p))):=λp t=>by have G:=zA (St:=St) (dW.mp t);exact jh G.1 (by have:=hc.len;unfold jm at this;omega)
 have ac:((gJ m).map (jn m St)).length=m.toNat:=by rw[dy,lQ]
 have C:∀x∈(gJ m).map (jn m St),at' (cl.map D.int) x=aU (.int (aG cl x)):=λx y=>by obtain⟨p,t,rfl⟩:=de.mp y;exact L p t
 have E:((gJ m).map λp=>aG cl (jn m St p))=((gJ m).map (jn m St)).map (aG cl):=by rw[ej];rfl
 rw[E]at U;generalize(gJ m).map (jn m St)=js at*;simp[show js.length<=16777216 by omega];refine bC (F4j _ _ _ _) (λd=>.int (aG cl (cz d))) ⟨.aX,rfl,rfl⟩ ?_ ?_;.rintro d hd _⟨s,rfl,hs⟩;obtain⟨x,y,rfl⟩:=de.mp hd;simp[hs,C x y];exact⟨rfl,_,rfl,rfl⟩
 . rintro _⟨s,rfl,hs⟩;have e:(js.map D.int).map (λd=>.int (aG cl (cz d)))=(js.map (aG cl)).map D.int:=by rw[ej,ej];rfl
   rw[e];generalize js.map (aG cl)=ns at*;simp;exact U
noncomputable def wG(cl:List Int):List D:=(cl.map D.int).mapIdx λi d=>D.tup [.int (i:Int),d]
noncomputable def fsD(St:List Int):D->Option D|.tup [.int p,x]=>if St.contains p then cr else aU x|_=>cr
theorem TJ{St:List Int}(h:(cl.length:Int)=m):(wG cl).filterMap (fsD St)=((oth m St).map (aG cl)).map D.int:=by
 have f:wG cl=(gJ m).map λp=>D.tup [.int p,.int (aG cl p)]:=by
  refine lw (by simp[wG,gJ];omega) λi h1 t=>?_;have hi:i<cl.length:=by simpa[wG]using h1
  simp[wG,gJ,aG,hi]
 rw[f];unfold oth;generalize gJ m=l;induction l with|nil=>rfl|cons p l e=>cases c:St.contains p with|true=>rw[dl,jz (by show(if St.contains p=cq then _ else _)=_;rw[c];rfl),e,ii (by simp[c]at c ⊢;exact c)]|false=>rw[dl,jx (b:=.int (aG cl p)) (by show(if St.contains p=cq then _ else _)=_;rw[c];rfl),e,ic (by simp[c]at c ⊢;exact c)];rfl
theorem kY{T:Int}{St:List Int}(h:cX m ws)(O:m<=6)(C:gb m St)(U:St.length<=100)(h0:0<=T)(hc:uT m T St cl)(k:Q (.val (.int (cC (aG cl) ws))) [.val a_ (aV m ws),.val a_ (.tup (St.map D.int)),.val a_ (.int T),.val cq (.lst (cl.map D.int))]):(run Γ w (n+3) 26 [.val a_ (aV m ws),.val a_ (.tup (St.map D.int)),.val a_ (.int T),.own cq (cl.map D.int)]).sat Q:=by
 have m0:=h.m0;have u:=hc.len;have W:=qZ h O C;refine aM (d:=f26) rfl rfl (by decide) ?_;(first|apply ak|apply G9);simp[f26,u,show St.length<=16777216 by omega];refine bC (λρ=>∃s,ρ=[_,_,_,.own cq (cl.map D.int),.aX,s]/\fr s=cq) (λ_=>.bl cq) ⟨.aX,rfl,rfl⟩ ?_ ?_;.rintro d hd _⟨s,rfl,hs⟩;obtain⟨p,J,rfl⟩:=de.mp hd;have hb:=C p J;have L:=jh (row:=cl) (i:=p) (by omega) (by omega);rw[hc.z p J]at L;simp[hs,L]
 rintro _⟨s,rfl,hs⟩;have Z:((St.map D.int).map λ_=>D.bl cq).mapM Bs=aU ((St.map D.int).map λ_=>cq):=Ej;have ea:((St.map D.int).map λ_=>cq).all id=cq:=Jb;generalize((St.map D.int).map λ_=>D.bl cq)=X at*;generalize((St.map D.int).map λ_=>cq)=Y at*;simp[Z,ea];apply ak;simp[show cl.length<=16777216 by omega];have G:=TJ (St:=St) u;have H:∀d∈wG cl,∃(i:Nat)(x:Int),d=.tup [.int (i:Int),.int x]:=λd hd=>by unfold wG at hd;rw[List.mem_mapIdx]at hd;obtain⟨i,hi,rfl⟩:=hd;exact⟨i,cl[i]'(by simpa using hi),by simp⟩
 have e0:(List.mapIdx (λi d=>D.tup [D.int (i:Int),d]) (cl.map D.int))=wG cl:=rfl;rw[e0];generalize wG cl=en at*;refine fP (λρ=>∃s t,ρ=[.val a_ (aV m ws),.val a_ (.tup (St.map D.int)),.val a_ (.int T),.val cq (.lst (cl.map D.int)),.aX,s,t]/\fr s=cq/\fr t=cq) (fsD St) ⟨.aX,.aX,rfl,rfl,rfl⟩ ?_ ?_
 . rintro d hd _⟨s,t,rfl,hs,ht⟩;obtain⟨i,x,rfl⟩:=H d hd;have E:=pO (S:=St) (i:=(i:Int))
   cases c:St.contains (i:Int)with|true=>
     have e:fsD St (.tup [.int (i:Int),.int x])=cr:=by show(if St.contains (i:Int)=cq then _ else _)=_;rw[c];rfl
     rw[c]at E;simp[hs,ht,E,e];exact⟨_,_,⟨rfl,rfl⟩,rfl,rfl⟩|false=>
     have e:fsD St (.tup [.int (i:Int),.int x])=aU (.int x):=by show(if St.contains (i:Int)=cq then _ else _)=_;rw[c];rfl
     rw[c]at E;simp[hs,ht,E,e];exact⟨_,_,⟨rfl,rfl⟩,rfl,rfl⟩
 rintro _⟨s,t,rfl,hs,ht⟩;rw[G];have hok:=Wx m0 h0 C hc;have y:cC (aG (Ro m St cl)) (gW m St ws)=cC (aG cl) ws:=jQ λv hv=>by have o:=h.ok v hv;exact⟨by have:=o.h0;omega,By ⟨o.s0,o.s1⟩ hc.z,By ⟨o.t0,o.t1⟩ hc.z⟩
 have I:Ro m St cl=0::(oth m St).map (aG cl):=rfl;have ac:=wO (m:=m) (St:=St);have M:((oth m St).map (aG cl)).length<=7:=by rw[dy];omega
 rw[I]at hok y;have f:=λ{w n:Nat}{Q:R->List Sl->Prop}=>Kc (w:=w) (n:=n) (Q:=Q) W hok;rw[y]at f;generalize(oth m St).map (aG cl)=os at*;rw[dl]at f;simp;apply ak;simp;refine oY h C U ?_;simp;refine⟨by show _<=16777216;omega,?_⟩;refine f ?_;simp;exact k
theorem sV(h:a<=1000000000000000000000):a<big:=by show _<(1606938044258990275541962092341162602522202993782792835301376:Int);omega
theorem Ey{lo hi:Int}(h0:0<=i)(h1:i<(ns.length:Int))(k:∀x∈ns,lo<=x/\x<=hi):∃r,at' (ns.map D.int) i=aU (.int r)/\lo<=r/\r<=hi:=by
 have e:i.toNat<ns.length:=by omega
 refine⟨ns[i.toNat],?_,k _ (ki e)⟩;rw[su h0 (by simpa using h1)];simp[e]
theorem j8{x y:Int}(h0:0<m)(e:m<big)(k:∀d x z:Int,0<=d->d<m->Q (.val (.int d)) [.own cq [.int x,.int y,.int z],.val a_ (.int m)]):(run Γ w (n+2) 29 [.own cq [.int x,.int y,.int z],.val a_ (.int m)]).sat Q:=by refine aM (d:=f29) rfl rfl (by decide) ?_;(first|apply ak|apply G9);simp[f29];refine cO (by decide) (by decide) λa x z f h=>?_;simp;refine cO (by decide) (by decide) λb x z b0 b1=>?_;simp[h0];exact k _ _ _ (oT _ (by omega)) (m_ _ h0)
inductive JNt(y m p l:Int)(i:Nat)(ρ:List Sl):Prop where|mk(x z:Int)(ws:List Wy)(s6 s7 s8:Sl)(q0:ρ=[.own cq [.int x,.int y,.int z],.val a_ (.int 12),.val a_ (.int p),.val a_ (.int l),.val a_ (.int m),.own a_ (ws.map Wy.d),s6,s7,s8])(q1:A3 (fr s6=cq) (fr s7=cq) (fr s8=cq))(q2:(∀v∈ws,v.Ok m))(q3:ws.length=i)
theorem Ma{x y l:Int}(p0:1<=p)(p1:p<=1000000001)(l0:1<=l)(l1:l<=1000000)(k:∀(m:Int)(ws:List Wy)(x z:Int),cX m ws->m<=6->Q (.val (aV m ws)) [.own cq [.int x,.int y,.int z],.val a_ (.int 12),.val a_ (.int p),.val a_ (.int l)]):(run Γ w (n+4) 30 [.own cq [.int x,.int y,.int z],.val a_ (.int 12),.val a_ (.int p),.val a_ (.int l)]).sat Q:=by
 refine aM (d:=f30) rfl rfl (by decide) ?_;(first|apply ak|apply G9);simp[f30];refine cO (by decide) (by decide) λd x z G H=>?_;simp;obtain⟨m,I,m0,m1⟩:∃m,m=2+d/\2<=m/\m<=6:=⟨_,rfl,by omega,by omega⟩;rw[<-I];(first|apply ak|apply G9);simp;apply ak;simp;refine cO (by decide) (by decide) λc x z c0 c1=>?_;simp;refine cO (by decide) (by decide) λe x z J L=>?_;obtain⟨N,f,N0,N1⟩:=Ey (ns:=[12,c]) (lo:=0) (hi:=12) J (by simpa using L) (by simp;omega);simp only[dl,mr]at f;simp[f,show N<=1000000000 by omega];refine⟨by omega,?_⟩;refine iQ (JNt y m p l) ?_ ?_ ⟨x,z,[],.aX,.aX,.aX,rfl,⟨rfl,rfl,rfl⟩,by simp,rfl⟩
 . rintro i _ hi⟨x,z,ws,s6,s7,s8,rfl,⟨M,O,U⟩,hok,W⟩;simp[M];apply ak;simp;refine cO (by omega) (sV (by omega)) λa x z C E=>?_;simp[O];apply ak;simp;refine cO (by omega) (sV (by omega)) λb x z b0 b1=>?_;obtain⟨t0,t1,X⟩:=other C E b0 b1;simp[U,show 0<m by omega];generalize(a+1+b)%m=t at*;refine fC (λρ=>∃x z s t,ρ=[.own cq [.int x,.int y,.int z],.val a_ (.int 12),.val a_ (.int p),.val a_ (.int l),.val a_ (.int m),.own a_ (ws.map Wy.d),.val a_ (.int i),.val a_ (.int s),.val a_ (.int t)]/\0<=s/\s<m/\0<=t/\t<m/\s≠t) ?_ ?_;.simp;refine cO (by decide) (by decide) λc x z c0 c1=>?_;simp;refine⟨λ_=>?_,λ_=>⟨x,z,a,t,⟨⟨rfl,rfl⟩,rfl,rfl⟩,C,E,t0,t1,λz=>X z.symm⟩⟩;(first|apply ak|apply G9);simp;refine⟨x,z,_,_,⟨⟨rfl,rfl⟩,rfl,rfl⟩,?_⟩;split<;>split<;>omega
   . rintro _⟨x,z,s,t,rfl,Y,Z,q3,q4,q5⟩;(first|apply ak|apply G9);simp;refine j8 (by omega) (sV (by omega)) λr x z r0 r1=>?_;simp;refine j8 (by omega) (sV (by omega)) λh x z h0 h1=>?_;simp[show ws.length<16777216 by omega];refine⟨x,z,ws++[⟨s,t,r,1+h⟩],_,_,_,by rw[gc];rfl,⟨rfl,rfl,rfl⟩,λu hu=>?_,by simp;omega⟩;rcases fE.mp hu with hu|hu;.exact hok u hu
     .rw[d_.mp hu];exact⟨Y,Z,q3,q4,q5,r0,by show r<=_;omega,by show 1<=1+h;omega,by show 1+h<=_;omega⟩
 .rintro _⟨x,z,ws,s6,s7,s8,rfl,_,hok,W⟩;(first|apply ak|apply G9);simp;exact k m ws x z ⟨m0,by omega,by omega,hok⟩ m1
inductive FSt(y:Int)(a1:Sl)(ρ:List Sl):Prop where|mk(x z:Int)(s:Sl)(q0:ρ=[.own cq [.int x,.int y,.int z],a1,s])(q1:fr s=cq)
noncomputable def PSt(m:Int)(d:D):Prop:=∃p,d=.int p/\0<=p/\p<m-1
theorem K9{xs:List D}(h:∀x∈xs,PSt m x):∃St:List Int,xs=St.map D.int/\gb m St:=by induction xs with|nil=>exact⟨[],rfl,by simp[gb]⟩|cons x xs f=>obtain⟨p,rfl,t,p1⟩:=h x (by simp);obtain⟨St,e,hs⟩:=f λy u=>h y (by simp[u]);exact⟨p::St,by rw[e];rfl,λq hq=>by
    rcases da.mp hq with rfl|hq;.exact⟨t,p1⟩
    .exact hs q hq⟩
theorem tG{x y:Int}(m0:2<=m)(m1:m<=6)(k:∀(St:List Int)(x z:Int),gb m St->(St.length:Int)<=m-1->Q (.val (.tup (St.map D.int))) [.own cq [.int x,.int y,.int z],.val a_ (.int m)]):(run Γ w (n+2) 31 [.own cq [.int x,.int y,.int z],.val a_ (.int m)]).sat Q:=by
 refine aM (d:=f31) rfl rfl (by decide) ?_;(first|apply ak|apply G9);simp[f31,show m-1<=1000000000 by omega,show-1000000000<=m-1 by omega];refine⟨λ_=>?_,by omega⟩;refine GQ (FSt y _) (PSt m) ⟨x,z,.aX,rfl,rfl⟩ ?_ ?_
 . rintro d hd _⟨x,z,s,rfl,hs⟩;obtain⟨j,h,rfl⟩:=de.mp hd;have h:=i4.mp h;simp[hs];refine cO (by decide) (by decide) λc x z c0 c1=>?_;simp;have t:PSt m (D.int (j:Int)):=⟨j,rfl,by omega,by omega⟩;split;.exact⟨t,x,z,_,rfl,rfl⟩
   .exact⟨x,z,_,rfl,rfl⟩
 .rintro xs _⟨x,z,s,rfl,hs⟩e f;obtain⟨St,rfl,u⟩:=K9 f;simp at e;simp;exact k St x z u (by omega)
theorem V1{e:Type}{xs:List e}{lo hi:Option Int}:(cut xs lo hi).length<=xs.length:=by unfold cut;simp;omega
theorem Qg{cs:List Int}{a b:Option Int}:cut (cs.map D.int) a b=(cut cs a b).map D.int:=by unfold cut;simp
theorem aeI{ds:List D}{b:Blt}{ps:List P}:QS (.lst ds) (part (.con .non) .non) (part (.blt b ps) (.int i))=aU (.own (cut ds cr (aU i))):=rfl
inductive af7(ns:List Int)(_:Nat)(ρ:List Sl):Prop where|mk(cs:List Int)(s:Sl)(q0:ρ=[.val a_ (.lst (ns.map D.int)),.val a_ (.int 8),.own a_ (cs.map D.int),s])(q1:fr s=cq)(q2:cs.length=8)
theorem Cw(C:ns.length<=63)(k:∀cs:List Int,cs.length<=8->Q (.own (cs.map D.int)) [.val a_ (.lst (ns.map D.int)),.val a_ (.int 8)]):(run Γ w (n+1) 36 [.val a_ (.lst (ns.map D.int)),.val a_ (.int 8)]).sat Q:=by
 refine aM (d:=f36) rfl rfl (by decide) ?_;refine fC (λρ=>ρ=[.val a_ (.lst (ns.map D.int)),.val a_ (.int 8),.own a_ ((cE 8 (0:Int)).map D.int),.aX]) ?_ ?_;.simp[f36];decide
 rintro _ rfl;(first|apply ak|apply G9);simp[show(ns.length:Int)<=1000000000 by omega];refine iQ (af7 ns) ?_ ?_ ⟨cE 8 0,.aX,by simp,rfl,by simp⟩;.rintro i _ hi⟨cs,s,rfl,hs,e⟩;obtain⟨j,h,f⟩:∃j:Nat,(i:Int)%8=(j:Int)/\j<cs.length:=⟨i%8,by omega,by omega⟩;have t:at' (cs.map D.int) (j:Int)=aU (.int cs[j]):=jy (by simp[f]);have u:at' (ns.map D.int) (i:Int)=aU (.int ns[i]):=jy (by simp[hi]);have y:jE cs.length (j:Int)=aU j:=Tf f;simp[hs];apply ak;simp[h,t,u,y];exact⟨cs.set j (cs[j]*1000003+ns[i]),.val a_ (.int i),by simp[map_set],rfl,by simpa using e⟩
 .rintro _⟨cs,s,rfl,hs,e⟩;(first|apply ak|apply G9);simp[aeI,Qg];exact k _ (iA V1 (by omega))
theorem cY.uniq{T v e:Int}{St:List Int}(h:cY m St ws T v)(h':cY m St ws T e):v=e:=by obtain⟨q,a,b,c⟩:=h.ex;obtain⟨f,t,u,y⟩:=h'.ex;have h1:=h.le f t u;have C:=h'.le q a b;omega
theorem Hv{c:Call}{is:List Nat}{one:Bool}{u:P}(J:List Sl->Prop)(P:D->D->Prop){Q:List D->List Sl->Prop}{ds:List D}(j:J ρ)(h:∀d,d∈ds->∀ρ,J ρ->∃t,cP ρ is one d=aU t/\(ev c u t).sat λr C=>P d r.d/\J C)(k:∀xs ρ,J ρ->xs.length=ds.length->(∀(i:Nat)a b,ds[i]?=aU a->xs[i]?=aU b->P a b)->Q xs ρ):(oR c is one cr u ds ρ).sat Q:=by suffices hh:∀(H y:List D)(f:List D)(ρ:List Sl),J ρ->y++H=ds->f.length=y.length->(∀(i:Nat)a b,y[i]?=aU a->f[i]?=aU b->P a b)->(turns is one (qg c cr) (ev c u) H f ρ).sat λxs ρ=>J ρ/\xs.length=ds.length/\(∀(i:Nat)a b,ds[i]?=aU a->xs[i]?=aU b->P a b)from(hh ds [] [] ρ j rfl rfl (by simp)).imp λxs ρ⟨M,q2,q3⟩=>k xs ρ M q2 q3;intro H;induction H with|nil=>intro y f ρ j hd I L;rw[gN]at hd;subst hd;rw[xY];exact⟨j,I,L⟩|cons d r O=>
   intro y f ρ j hd I L;obtain⟨t,e,h1⟩:=h d (by rw[<-hd];simp) ρ j;rw[xr,e];show((qg c cr t).bind _).sat _;rw[qg];show((ev c u t).bind _).sat _;rw[bU];refine h1.imp λx C⟨p,j3⟩=>?_;refine O (y++[d]) (f++[x.d]) C j3 (by rw[fK];exact hd) (by simp[I]) λi a b E G=>?_;by_cases U:i<y.length;.rw[dL U]at E;rw[dL (by omega)]at G;exact L i a b E G
   . rw[eW (by omega)]at E G;have hi:i-y.length=0:=by have:=(fB E).1;simp at this;omega
     rw[hi]at E;rw[show i-f.length=0 by omega]at G;cases E;cases G;exact p
theorem DX{k:Int}:∀{ns ks:List Int},k∈ns.foldl _H.yq ks↔k∈ks\/k∈ns
 |[],ks=>by simp|n::ns,ks=>by
   rw[lf,DX];have:k∈_H.yq ks n↔k∈ks\/k=n:=by
    unfold _H.yq;split
    . rename_i h;constructor;.exact .inl
      . rintro(h'|rfl);.exact h'
        .simpa using h
    .simp
   rw[this,da,or_assoc]
theorem Dg:∀{ns ks:List Int},(ns.foldl _H.yq ks).length<=ks.length+ns.length
 |[],ks=>by simp|n::ns,ks=>by
   rw[lf];have h1:=Dg (ns:=ns) (ks:=_H.yq ks n);have e:(_H.yq ks n).length<=ks.length+1:=by
    unfold _H.yq;split;.omega
    .simp
   rw[eI];omega
theorem qO(S:List Int):(S.map D.int).map cz=S:=by rw[ej];exact(hB λ_ _=>rfl).trans (List.map_id _)
theorem KC{S:List Int}(y:S.length<64):∃e:List Int,blt .sset [.tup (S.map D.int)]=aU (.own (e.map D.int))/\(∀u,u∈e↔u∈S)/\e.length<=S.length:=by
 have f:=jZ ((fj S).map D.int);have h:((qP ((fj S).map D.int)).map cz).Perm (fj S):=by have:=f.map cz;rwa[qO]at this
 refine⟨(qP ((fj S).map D.int)).map cz,?_,λu=>?_,?_⟩;.show(if _ then _ else _)=_;rw[if_pos ⟨by rw[dy];omega,by rw[gi];intro x t;obtain⟨i,_,rfl⟩:=de.mp t;rfl⟩,qO,ej];congr 2;refine(List.map_id _).symm.trans (hB λd hd=>?_);obtain⟨p,_,rfl⟩:=de.mp (f.mem_iff.mp hd);rfl
 .rw[h.mem_iff];show u∈S.foldl _H.yq []↔_;have:=DX (k:=u) (ns:=S) (ks:=[]);simpa using this
 .rw[h.length_eq];show(S.foldl _H.yq []).length<=_;have:=Dg (ns:=S) (ks:=[]);simpa using this
theorem xu{q r:Int->Int}:∀{ws:List Wy},(∀v∈ws,0<=v.r)->cC (λp=>min (q p) (r p)) ws+cC (λp=>max (q p) (r p)) ws<=cC q ws+cC r ws|[],_=>fm _|v::ws,h=>by have h1:=h v (by simp);have f:=xu (q:=q) (r:=r) (ws:=ws) λu hu=>h u (by simp[hu]);have e:v.r*(max 0 (min (q v.t) (r v.t)-min (q v.s) (r v.s)-v.h)+max 0 (max (q v.t) (r v.t)-max (q v.s) (r v.s)-v.h))<=v.r*(max 0 (q v.t-q v.s-v.h)+max 0 (r v.t-r v.s-v.h)):=oj (by omega) h1;rw[tP,tP]at e;show(v.r*max 0 (min (q v.t) (r v.t)-min (q v.s) (r v.s)-v.h)+cC _ ws)+(v.r*max 0 (max (q v.t) (r v.t)-max (q v.s) (r v.s)-v.h)+cC _ ws)<=(v.r*max 0 (q v.t-q v.s-v.h)+cC _ ws)+(v.r*max 0 (r v.t-r v.s-v.h)+cC _ ws);omega
theorem cY.mono{T:Int}(h:∀p∈A,p∈B)(e:cY m A ws T a)(f:cY m B ws T b):a<=b:=by obtain⟨q,t,u,y⟩:=f.ex;rw[<-y];exact e.le q (λp C=>t p (h p C)) u
theorem cY.sub{T u c:Int}{U C:List Int}(f:cX m ws)(h0:0<=T)(y:∀p∈U,p∈A\/p∈B)(h:∀p∈C,p∈A/\p∈B)(E:cY m A ws T a)(G:cY m B ws T b)(hu:cY m U ws T u)(hc:cY m C ws T c):c+u<=a+b:=by
 obtain⟨q,t,I,J⟩:=E.ex;obtain⟨r,r0,r1,L⟩:=G.ex;have d1:=tQ (T:=T) (q:=q) (r:=ni T q) f λ_ _ _=>rfl;have d2:=tQ (T:=T) (q:=r) (r:=ni T r) f λ_ _ _=>rfl;have d3:=xu (q:=ni T q) (r:=ni T r) (ws:=ws) λv H=>(f.ok v H).r0;have d4:=hu.le (λp=>min (ni T q p) (ni T r p)) (λp e=>by
  show min (ni T q p) (ni T r p)=0;rcases y p e with z|z;.have:=t p z;unfold ni;omega
  .have:=r0 p z;unfold ni;omega) (by show min (ni T q (m-1)) (ni T r (m-1))=_;unfold ni;omega);have d5:=hc.le (λp=>max (ni T q p) (ni T r p)) (λp e=>by show max (ni T q p) (ni T r p)=0;have:=t p (h p e).1;have:=r0 p (h p e).2;unfold ni;omega) (by show max (ni T q (m-1)) (ni T r (m-1))=_;unfold ni;omega);omega
theorem tW{T:Int}{St:List Int}(f:13286250<=w)(h:cX m ws)(t:m<=6)(e:gb m St)(u:St.length<=100)(y:T<=4000000000000000000)(k:∀cs,cM (jm m St) (gW m St ws) cs->Q (.val (.int (val (gW m St ws) T cs))) [.val a_ (aV m ws),.val a_ (.tup (St.map D.int)),.val a_ (.int T)]):(run Γ w (n+7) 24 [.val a_ (aV m ws),.val a_ (.tup (St.map D.int)),.val a_ (.int T)]).sat Q:=by refine aM (d:=Yz) rfl rfl (by decide) ?_;(first|apply ak|apply G9);simp[Yz];refine oY h e u ?_;simp;refine tK f (qZ h t e) y λcs C=>?_;simp;exact k cs C
@[simp]theorem Nk{o f h:Cm}{a b d e:P}:isVar (.p6 o f h a b d e)=cr:=rfl
theorem Gm{c:Call}{o h t:Cm}{a b d e:P}:ev c (.p6 o h t a b d e) ρ=(gq (isVar a) (ev c a) (isVar b) (ev c b) ρ).bind λf ρ=>(lift (if flat f.2=cq then cm o f.1 f.2 else cr) ρ).bind λk ρ=>if k then(bW (isVar d) (ev c d) ρ).bind λz ρ=>(lift (if flat z=cq then cm h f.2 z else cr) ρ).bind λy ρ=>if y then(bW (isVar e) (ev c e) ρ).bind λu ρ=>lift (mH t z u) ρ else .ok (.val (.bl a_)) ρ else .ok (.val (.bl a_)) ρ:=(rfl)
inductive F5g(a0 a1 a2 a3 a4:Sl)(ρ:List Sl):Prop where|mk(s:Sl)(q0:ρ=[a0,a1,a2,a3,a4,s])(q1:fr s=cq)
theorem KY{T:Int}{St:List Int}(L:13286250<=w)(h:cX m ws)(M:m<=6)(O:gb m St)(W:St.length<=100)(Z:T<=3000000000000000000)(I:cM (jm m St) (gW m St ws) cs)(k:Q (.val (.bl cq)) [.val a_ (aV m ws),.val a_ (.tup (St.map D.int)),.val a_ (.int T)]):(run Γ w (n+8) 35 [.val a_ (aV m ws),.val a_ (.tup (St.map D.int)),.val a_ (.int T)]).sat Q:=by
 refine aM (d:=f35) rfl rfl (by decide) ?_;(first|apply ak|apply G9);simp[f35];refine⟨λ_=>?_,by decide⟩;refine bC (F5g _ _ _ _ _) (λd=>.int (val (gW m St ws) (T+cz d) cs)) ⟨.aX,rfl,rfl⟩ ?_ ?_;.rintro d hd _⟨s,rfl,hs⟩;obtain⟨i,hi,rfl⟩:=de.mp hd;have hi:=i4.mp hi;simp[hs];refine tW L h M O W (by omega) λX J=>?_;simp;refine⟨?_,_,rfl,rfl⟩;show val _ (T+(i:Int)) cs=_;exact I.val_eq J _
 rintro _⟨s,rfl,hs⟩;have e:((dE 4).map λ(k:Nat)=>D.int (k:Int)).map (λd=>D.int (val (gW m St ws) (T+cz d) cs))=[val (gW m St ws) T cs,val (gW m St ws) (T+1) cs,val (gW m St ws) (T+2) cs,val (gW m St ws) (T+3) cs].map D.int:=by show[D.int (val _ (T+0) cs),_,_,_]=_;rw[rX];rfl
 rw[e];have g1:Rt (gW m St ws) cs (T+1)=val (gW m St ws) (T+1) cs-val (gW m St ws) T cs:=by rw[pD,show T+1-1=T by omega]
 have g2:Rt (gW m St ws) cs (T+2)=val (gW m St ws) (T+2) cs-val (gW m St ws) (T+1) cs:=by rw[pD,show T+2-1=T+1 by omega]
 have g3:Rt (gW m St ws) cs (T+3)=val (gW m St ws) (T+3) cs-val (gW m St ws) (T+2) cs:=by rw[pD,show T+3-1=T+2 by omega]
 have n0:=I.RB (T:=T+1);have n1:=I.mono (T:=T+1) (U:=T+2) (by omega);have n2:=I.mono (T:=T+2) (U:=T+3) (by omega);generalize val (gW m St ws) T cs=C at*;generalize val (gW m St ws) (T+1) cs=t at*;generalize val (gW m St ws) (T+2) cs=u at*;generalize val (gW m St ws) (T+3) cs=E at*;have y:∀(i:Nat)x,[C,t,u,E][i]?=aU x->at' [D.int C,D.int t,D.int u,D.int E] (i:Int)=aU (.int x):=λi x Y=>jy (f:=D.int) (l:=[C,t,u,E]) Y;simp;apply ak;simp;refine⟨λ_=>?_,by decide⟩;refine bC (F5g _ _ _ _ _) (λd=>.int ([t-C,u-t,E-u].getD (cz d).toNat 0)) ⟨.aX,rfl,rfl⟩ ?_ ?_
 . rintro d hd _⟨s,rfl,hs⟩;obtain⟨i,hi,rfl⟩:=de.mp hd;have hi:=i4.mp hi;have c3:i=0\/i=1\/i=2:=by omega
   rcases c3 with rfl|rfl|rfl;.have G:=y 0 C rfl;have H:=y 1 t rfl;simp at G H;simp[hs,G,H];exact⟨rfl,_,rfl,rfl⟩
   .have G:=y 1 t rfl;have H:=y 2 u rfl;simp at G H;simp[hs,G,H];exact⟨rfl,_,rfl,rfl⟩
   .have G:=y 2 u rfl;have H:=y 3 E rfl;simp at G H;simp[hs,G,H];exact⟨rfl,_,rfl,rfl⟩
 rintro _⟨s,rfl,hs⟩;have e:((dE 3).map λ(k:Nat)=>D.int (k:Int)).map (λd=>D.int ([t-C,u-t,E-u].getD (cz d).toNat 0))=[D.int (t-C),D.int (u-t),D.int (E-u)]:=rfl;rw[e];simp;apply ak;simp[Gm,show C<=t by omega,show t-C<=u-t by omega,show u-t<=E-u by omega];exact k
theorem Rf:blt .int [.bl a_]=aU (.val (.int 0)):=rfl
theorem Rv:blt .int [.bl cq]=aU (.val (.int 1)):=rfl
inductive JAn(y:Int)(St:List Int)(T:Int)(a1 a2 a3:Sl)(i:Nat)(ρ:List Sl):Prop where|mk(x z:Int)(cl:List Int)(s5:Sl)(q0:ρ=[.own cq [.int x,.int y,.int z],a1,a2,a3,.own a_ (cl.map D.int),s5])(q1:fr s5=cq)(q2:cl.length=i)(q3:(∀x∈cl,0<=x/\x<=T+1))(q4:∀(j:Nat)x,(j:Int)∈St->cl[j]?=aU x->x=0)
theorem Ov{x y T:Int}{St:List Int}(m0:2<=m)(m1:m<=6)(h0:0<=T)(J:T<=3000000000000000000)(H:gb m St)(k:∀cl x z,uT m T St cl->Q (.own (cl.map D.int)) [.own cq [.int x,.int y,.int z],.val a_ (.int m),.val a_ (.tup (St.map D.int)),.val a_ (.int T)]):(run Γ w (n+3) 33 [.own cq [.int x,.int y,.int z],.val a_ (.int m),.val a_ (.tup (St.map D.int)),.val a_ (.int T)]).sat Q:=by
 refine aM (d:=f33) rfl rfl (by decide) ?_;(first|apply ak|apply G9);simp[f33];apply ak;simp[show m-1<=1000000000 by omega,show-1000000000<=m-1 by omega];rw[show m.toNat-1=(m-1).toNat by omega];refine iQ (JAn y St T _ _ _) ?_ ?_ ⟨x,z,[],.aX,rfl,rfl,rfl,by simp,by simp⟩
 . rintro i _ hi⟨x,z,cl,s5,rfl,u,I,h,hz⟩;have snoc:∀d:Int,0<=d->d<=T+1->((i:Int)∈St->d=0)->(∀x∈cl++[d],0<=x/\x<=T+1)/\∀(j:Nat)x,(j:Int)∈St->(cl++[d])[j]?=aU x->x=0:=λd d0 d1 d2=>by
    refine⟨λx hx=>?_,λj x C e=>?_⟩
    . rcases fE.mp hx with hx|hx;.exact h x hx
      .rw[d_.mp hx];exact⟨d0,d1⟩
    . by_cases c:j<cl.length;.rw[dL c]at e;exact hz j x C e
      . rw[eW (by omega)]at e;have:j-cl.length=0:=by have:=(fB e).1;simp at this;omega
        rw[this]at e;cases e;exact d2 (by rw[show i=j by omega];exact C)
   have t:=pO (S:=St) (i:=(i:Int));simp[u];apply ak;simp;refine j8 (by omega) (sV (by omega)) λd x z d0 d1=>?_;cases c:St.contains (i:Int)with|true=>rw[c]at t;simp[t,Rf,Rv,show cl.length<16777216 by omega,show-18446744073709551616<d by omega,show d<18446744073709551616 by omega];have q:=snoc 0 (by omega) (by omega) λ_=>rfl;exact⟨x,z,cl++[0],_,by rw[gc];rfl,rfl,by simp;omega,q.1,q.2⟩|false=>
     rw[c]at t;simp[t,Rf,Rv,show cl.length<16777216 by omega,show-18446744073709551616<d by omega,show d<18446744073709551616 by omega];have q:=snoc d d0 (by omega) λz=>by simp at c;exact absurd z c
     exact⟨x,z,cl++[d],_,by rw[gc];rfl,rfl,by simp;omega,q.1,q.2⟩
 . rintro _⟨x,z,cl,s5,rfl,u,I,h,hz⟩;have E:=k (cl++[T+1]) x z ⟨by simp;omega,λp G=>?_,?_,λx hx=>?_⟩;.rw[gc]at E;(first|apply ak|apply G9);simp;refine⟨by show _<=16777216;omega,?_⟩;exact E
   . have h:=H p G;have f:p.toNat<cl.length:=by omega
     unfold aG;rw[e_,dL f,eF f];exact hz p.toNat _ (by rw[hY h.1];exact G) (eF f)
   .unfold aG;rw[e_,eW (by omega),show(m-1).toNat-cl.length=0 by omega];rfl
   . rcases fE.mp hx with hx|hx;.exact h x hx
     .rw[d_.mp hx];omega
noncomputable def G5(c1 c2:List Int)(f:Int->Int->Int)(m:Int):List Int:=(gJ m).map λp=>f (aG c1 p) (aG c2 p)
theorem rH{c1 c2:List Int}{f:Int->Int->Int}(e:0<=p)(p1:p<m):aG (G5 c1 c2 f m) p=f (aG c1 p) (aG c2 p):=by show(G5 c1 c2 f m).getD p.toNat 0=_;unfold G5 gJ;rw[ej,e_,eL,mP (by omega)];show f (aG c1 (p.toNat:Int)) (aG c2 (p.toNat:Int))=_;rw[hY e]
theorem yV{c1 c2:List Int}{f:Int->Int->Int}(h:cX m ws):cC (aG (G5 c1 c2 f m)) ws=cC (λp=>f (aG c1 p) (aG c2 p)) ws:=by
 have:∀l:List Wy,(∀v∈l,v.Ok m)->cC (aG (G5 c1 c2 f m)) l=cC (λp=>f (aG c1 p) (aG c2 p)) l:=λl=>by induction l with|nil=>intro _;rfl|cons v l t=>intro e;have o:=e v (by simp);have y:=t λu hu=>e u (by simp[hu]);show dD _ v+cC _ l=dD _ v+cC _ l;rw[y];unfold dD;rw[rH o.s0 o.s1,rH o.t0 o.t1]
 exact this ws h.ok
theorem Jl{T:Int}{C c1 c2:List Int}{f:Int->Int->Int}(m0:2<=m)(u:gb m C)(h1:uT m T A c1)(t:uT m T B c2)(y:∀a b,0<=a->0<=b->a<=T+1->b<=T+1->0<=f a b/\f a b<=T+1)(he:f (T+1) (T+1)=T+1)(hz:∀p∈C,f (aG c1 p) (aG c2 p)=0):uT m T C (G5 c1 c2 f m):=by
 refine⟨by unfold G5;rw[dy,lQ];omega,λp h=>?_,?_,λx E=>?_⟩;.have:=u p h;rw[rH (by omega) (by omega)];exact hz p h
 .rw[rH (by omega) (by omega),h1.e,t.e,he]
 .obtain⟨p,h,rfl⟩:=de.mp E;have h:=dW.mp h;have b1:=lD h1.bd h.1 (by have:=h1.len;omega);have b2:=lD t.bd h.1 (by have:=t.len;omega);exact y _ _ b1.1 b2.1 b1.2 b2.2
noncomputable def Cr(B:List Int)(d:D):Option D:=if B.contains (cz d)then aU d else cr
theorem xR{B:List Int}:∀{l:List Int},(l.map D.int).filterMap (Cr B)=(l.filter λp=>B.contains p).map D.int|[]=>rfl|p::l=>by have e:=xR (B:=B) (l:=l);cases c:B.contains p with|true=>rw[dl,jx (b:=.int p) (by show(if B.contains p=cq then _ else _)=_;rw[c];rfl),e,ic c];rfl|false=>rw[dl,jz (by show(if B.contains p=cq then _ else _)=_;rw[c];rfl),e,ii (by rw[c];decide)]
theorem VR:cm .inn .non (.lst (ns.map D.int))=aU a_:=by
 show uX a_ _ _=_;unfold uX;have e:((ns.map D.int).any λy=>jO y .non)=a_:=by rw[List.any_eq_false];intro d hd;obtain⟨i,_,rfl⟩:=de.mp hd;exact dr
 simp only[G4,bind_some,ud,e];rfl
structure Two(m:Int)(A B U C:List Int):Prop where
 a:gb m A
 b:gb m B
 u:gb m U
 c:gb m C
 la:A.length<=5
 lb:B.length<=5
 lu:U.length<=10
 lc:C.length<=5
 hu:∀p,p∈U↔p∈A\/p∈B
 hc:∀p,p∈C↔p∈A/\p∈B
theorem Two.of{e:List Int}(f:gb m A)(y:gb m B)(la:A.length<=5)(lb:B.length<=5)(h:∀u,u∈e↔u∈A++B)(C:e.length<=(A++B).length):Two m A B e (A.filter λp=>B.contains p):=by
 have hu:∀p,p∈e↔p∈A\/p∈B:=λp=>by rw[h,fE]
 have hc:∀p,p∈(A.filter λp=>B.contains p)↔p∈A/\p∈B:=λp=>by rw[hU];simp
 refine⟨f,y,λp t=>?_,λp t=>f p ((hc p).mp t).1,la,lb,by rw[ez]at C;omega,iA (jS _ _) la,hu,hc⟩;rcases(hu p).mp t with z|z;.exact f p z
 .exact y p z
inductive F12(a0 a1 a2 a3 a4 a5 a6 a7 a8 a9 a10 a11:Sl)(ρ:List Sl):Prop where|mk(s:Sl)(q0:ρ=[a0,a1,a2,a3,a4,a5,a6,a7,a8,a9,a10,a11,s])(q1:fr s=cq)
theorem Nz{T:Int}(X:13286250<=w)(h:cX m ws)(J:m<=6)(O:gb m A)(U:gb m B)(la:A.length<=5)(lb:B.length<=5)(h0:0<=T)(k:Q (.val (.bl cq)) [.val a_ (aV m ws),.val a_ (.tup (A.map D.int)),.val a_ (.tup (B.map D.int)),.val a_ (.int T)]):(run Γ w (n+11) 34 [.val a_ (aV m ws),.val a_ (.tup (A.map D.int)),.val a_ (.tup (B.map D.int)),.val a_ (.int T)]).sat Q:=by
 have m0:=h.m0;refine aM (d:=f34) rfl rfl (by decide) ?_;(first|apply ak|apply G9);simp[f34];refine vV X h J O (by omega) h0 λc1 G _=>?_;simp;apply ak;simp;refine vV X h J U (by omega) h0 λc2 H _=>?_;have l1:=G.len;have l2:=H.len;have r1:∀p∈gJ m,at' (c1.map D.int) p=aU (.int (aG c1 p)):=λp f=>jh (dW.mp f).1 (by have:=(dW.mp f).2;omega);have Y:∀p∈gJ m,at' (c2.map D.int) p=aU (.int (aG c2 p)):=λp f=>jh (dW.mp f).1 (by have:=(dW.mp f).2;omega);simp;apply ak;simp[show m<=1000000000 by omega,show-1000000000<=m by omega];refine⟨λ_=>?_,by show _<=16777216;omega⟩;rw[Fb];refine bC (F12 _ _ _ _ _ _ _ _ _ _ _ _) (λd=>.int (min (aG c1 (cz d)) (aG c2 (cz d)))) ⟨.aX,rfl,rfl⟩ ?_ ?_
 . rintro d hd _⟨s,rfl,hs⟩;obtain⟨p,f,rfl⟩:=de.mp hd;have W:(if aG c2 p<aG c1 p then aG c2 p else aG c1 p)=min (aG c1 p) (aG c2 p):=by split<;>omega
   simp[hs,r1 p f,Y p f,W];exact⟨rfl,_,rfl,rfl⟩
 rintro _⟨s,rfl,hs⟩;have e3:((gJ m).map D.int).map (λd=>D.int (min (aG c1 (cz d)) (aG c2 (cz d))))=(G5 c1 c2 min m).map D.int:=by unfold G5;rw[ej,ej];rfl
 rw[e3];generalize E:G5 c1 c2 min m=I;simp;apply ak;simp[show m<=1000000000 by omega,show-1000000000<=m by omega];refine⟨λ_=>?_,by show _<=16777216;omega⟩;rw[Fb];refine bC (F12 _ _ _ _ _ _ _ _ _ _ _ _) (λd=>.int (max (aG c1 (cz d)) (aG c2 (cz d)))) ⟨.aX,rfl,rfl⟩ ?_ ?_
 . rintro d hd _⟨s,rfl,hs⟩;obtain⟨p,f,rfl⟩:=de.mp hd;have W:(if aG c1 p<aG c2 p then aG c2 p else aG c1 p)=max (aG c1 p) (aG c2 p):=by split<;>omega
   simp[hs,r1 p f,Y p f,W];exact⟨rfl,_,rfl,rfl⟩
 rintro _⟨s,rfl,hs⟩;have e4:((gJ m).map D.int).map (λd=>D.int (max (aG c1 (cz d)) (aG c2 (cz d))))=(G5 c1 c2 max m).map D.int:=by unfold G5;rw[ej,ej];rfl
 rw[e4];generalize t:G5 c1 c2 max m=y;obtain⟨us,Z,u2,u3⟩:=KC (S:=A++B) (by simp;omega);have t2:=Two.of O U la lb u2 u3;rw[gc]at Z;simp;apply ak;simp[Z];refine⟨by show _<=16777216;omega,?_⟩;(first|apply ak|apply G9);simp[show A.length<=16777216 by omega];refine fP (F12 _ _ _ _ _ _ _ _ _ _ _ _) (Cr B) ⟨.aX,rfl,rfl⟩ ?_ ?_
 . rintro d hd _⟨s,rfl,hs⟩;obtain⟨p,f,rfl⟩:=de.mp hd;have M:=Bq (S:=B) (i:=p)
   cases c:B.contains p with|true=>
     have e:Cr B (.int p)=aU (.int p):=by show(if B.contains p=cq then _ else _)=_;rw[c];rfl
     rw[c]at M;simp[hs,M,e];exact⟨_,rfl,rfl⟩|false=>
     have e:Cr B (.int p)=cr:=by show(if B.contains p=cq then _ else _)=_;rw[c];rfl
     rw[c]at M;simp[hs,M,e];exact⟨_,rfl,rfl⟩
 rintro _⟨s,rfl,hs⟩;rw[xR];generalize(A.filter λp=>B.contains p)=C at*;have kl:uT m T us I:=by
  rw[<-E];refine Jl m0 t2.u G H (λa b _ _ _ _=>by omega) (by omega) λp f=>?_;have ae:=t2.u p f;have b1:=lD G.bd (p:=p) (by omega) (by omega);have b2:=lD H.bd (p:=p) (by omega) (by omega);rcases(t2.hu p).mp f with z|z;.have:=G.z p z;omega
  .have:=H.z p z;omega
 have kh:uT m T C y:=by rw[<-t];refine Jl m0 t2.c G H (λa b _ _ _ _=>by omega) (by omega) λp f=>?_;have:=G.z p ((t2.hc p).mp f).1;have:=H.z p ((t2.hc p).mp f).2;omega
 have ac:cC (aG I) ws+cC (aG y) ws<=cC (aG c1) ws+cC (aG c2) ws:=by rw[<-E,<-t,yV h,yV h];exact xu λv hv=>(h.ok v hv).r0
 have lu:=t2.lu;have lc:=t2.lc;simp;apply ak;simp;refine kY h J t2.u (by omega) h0 kl ?_;simp;refine kY h J t2.c (by omega) h0 kh ?_;simp;apply ak;simp;refine kY h J O (by omega) h0 G ?_;simp;refine kY h J U (by omega) h0 H ?_;generalize cC (aG I) ws=v1 at*;generalize cC (aG y) ws=v2 at*;generalize cC (aG c1) ws=v3 at*;generalize cC (aG c2) ws=v4 at*;have L:=VR (ns:=[v1,v2,v3,v4]);simp only[dl,mr]at L;simp;apply ak;simp[L];refine⟨by decide,?_⟩;(first|apply ak|apply G9);simp[show v1+v2<=v3+v4 by omega];exact k
theorem GJ{x y:Int}(k:∀(m:Int)(ws:List Wy)(x z:Int),cX m ws->m<=6->Q (.val (aV m ws)) [.own cq [.int x,.int y,.int z]]):(run Γ w (n+5) 32 [.own cq [.int x,.int y,.int z]]).sat Q:=by refine aM (d:=f32) rfl rfl (by decide) ?_;(first|apply ak|apply G9);simp[f32];refine cO (by decide) (by decide) λe x z f h=>?_;obtain⟨p,ep,u,p1⟩:=Ey (ns:=[2,4,30,1000000001]) (lo:=1) (hi:=1000000001) f (by simpa using h) (by simp);simp only[dl,mr]at ep;simp[ep];apply ak;simp;refine cO (by decide) (by decide) λe x z f h=>?_;obtain⟨l,t,C,E⟩:=Ey (ns:=[2,3,5,1000000]) (lo:=1) (hi:=1000000) f (by simpa using h) (by simp);simp only[dl,mr]at t;simp[t];apply ak;simp;refine Ma u p1 C E λm ws x z G H=>?_;simp;exact k m ws x z G H
noncomputable def PTo(m T:Int)(ws:List Wy)(d x:D):Prop:=∃(St:List Int)(cs:List (List aB×Int)),d=.tup (St.map D.int)/\x=.int (val (gW m St ws) T cs)/\cM (jm m St) (gW m St ws) cs
theorem Nu(h:D.tup (A.map D.int)=.tup (B.map D.int)):A=B:=by
 have h:A.map D.int=B.map D.int:=by injection h
 have:=congrArg (map cz) h;rwa[qO,qO]at this
inductive J84(v:Sl)(r:List D)(ρ:List Sl):Prop where|mk(s1:Sl)(s2:Sl)(s3:Sl)(s4:Sl)(s5:Sl)(s6:Sl)(s7:Sl)(s8:Sl)(s9:Sl)(pJ:Sl)(Ce:Sl)(s12:Sl)(q0:ρ=[v,s1,s2,s3,s4,s5,s6,s7,s8,s9,pJ,Ce,s12])(q1:A6 (fr s1=cq) (fr s2=cq) (fr s3=cq) (fr s4=cq) (fr s5=cq) (fr s6=cq))(q2:A6 (fr s7=cq) (fr s8=cq) (fr s9=cq) (fr pJ=cq) (fr Ce=cq) (fr s12=cq))(q3:∀d∈r,∃i,d=D.int i)
inductive K84(y:Int)(a0 a1 a3 a4 a5 a6 a7 a8 a9 a10:Sl)(_:Nat)(ρ:List Sl):Prop where|mk(x z:Int)(Ce s12:Sl)(q0:ρ=[a0,a1,.own a_ [.int x,.int y,.int z],a3,a4,a5,a6,a7,a8,a9,a10,Ce,s12])(q1:(fr Ce=cq/\fr s12=cq))
inductive F13(a0 a1 a2 a3 a4 a5 a6 a7 a8 a9 a10 a11 a12:Sl)(ρ:List Sl):Prop where|mk(s:Sl)(q0:ρ=[a0,a1,a2,a3,a4,a5,a6,a7,a8,a9,a10,a11,a12,s])(q1:fr s=cq)
theorem Oh(ns:List Int)(O:ns.length<=63):∃as,run Γ 100000000 40 37 [.val a_ (.lst (ns.map D.int))]=.ok (.val (.bl cq)) as:=by
 suffices h:(run Γ 100000000 40 37 [.val a_ (.lst (ns.map D.int))]).sat λr _=>r=.val (.bl cq)by obtain⟨a,ρ,e,rfl⟩:=sat_iff.mp h;exact⟨ρ,e⟩
 refine aM (d:=f37) rfl rfl (by decide) ?_;(first|apply ak|apply G9);simp[f37];refine Cw O λcs aw=>?_;simp;refine dj (J84 (.val a_ (.lst (ns.map D.int)))) ?_ ?_ ⟨_,_,_,_,_,_,_,_,_,_,_,_,rfl,⟨rfl,rfl,rfl,rfl,rfl,rfl⟩,⟨rfl,rfl,rfl,rfl,rfl,rfl⟩,λd hd=>?_⟩
 . rintro d r _⟨s1,s2,s3,s4,s5,s6,s7,s8,s9,pJ,Ce,s12,rfl,⟨h1,h2,h3,h4,h5,h6⟩,⟨h7,h8,h9,ac,E,G⟩,hd⟩;obtain⟨x,rfl⟩:=hd d (by simp);simp[h1];apply ak;simp;refine Kl λa y c=>?_;simp[h2];apply ak;simp;refine GJ λm ws a c H J=>?_;have m0:=H.m0;simp[h3];apply ak;simp;refine tG m0 J λA a c L lA=>?_;simp[h4];apply ak;simp;refine tG m0 J λB a c X lB=>?_;simp[h5];have la:A.length<=5:=by omega
   have lb:B.length<=5:=by omega
   (first|apply ak|apply G9);simp;refine cO (by decide) (by decide) λt1 a c ax ay=>?_;simp;refine cO (by decide) (by decide) λt2 a c aE aI=>?_;simp;refine j8 (by decide) (by decide) λt3 a c aS aT=>?_;simp[h6];apply ak;simp;refine j8 (by decide) (by decide) λt4 a c ba bi=>?_;simp;refine⟨λ_=>?_,by decide⟩;(first|apply ak|apply G9);simp;refine cO (by decide) (by decide) λe a c e0 e1=>?_;obtain⟨T,eT,T0,T1⟩:=Ey (ns:=[t1,t2,t3,1999999999999999997-t4]) (lo:=0) (hi:=1999999999999999997) e0 (by simpa using e1) (by simp;omega);simp only[dl,mr]at eT;simp[eT,h7];obtain⟨Y,u1,u2,u3⟩:=KC (S:=A++B) (by simp;omega);have f:=Two.of L X la lb u2 u3;rw[gc]at u1;(first|apply ak|apply G9);simp[u1,h8];refine⟨by show _<=16777216;omega,?_⟩;(first|apply ak|apply G9);simp[show A.length<=16777216 by omega];refine fP (F13 _ _ _ _ _ _ _ _ _ _ _ _ _) (Cr B) ⟨.aX,rfl,rfl⟩ ?_ ?_
   . rintro d hd _⟨s,rfl,hs⟩;obtain⟨p,t,rfl⟩:=de.mp hd;have O:=Bq (S:=B) (i:=p)
     cases c:B.contains p with|true=>
       have e:Cr B (.int p)=aU (.int p):=by show(if B.contains p=cq then _ else _)=_;rw[c];rfl
       rw[c]at O;simp[hs,O,e];exact⟨_,rfl,rfl⟩|false=>
       have e:Cr B (.int p)=cr:=by show(if B.contains p=cq then _ else _)=_;rw[c];rfl
       rw[c]at O;simp[hs,O,e];exact⟨_,rfl,rfl⟩
   rintro _⟨s,rfl,hs⟩;rw[xR];generalize(A.filter λp=>B.contains p)=C at*;have lu:=f.lu;have lc:=f.lc;simp[h9];apply ak;simp;refine⟨λ_=>?_,by decide⟩;refine Hv (F13 _ _ _ _ _ _ _ _ _ _ _ _ _) (PTo m T ws) ⟨.aX,rfl,rfl⟩ ?_ ?_
   . rintro d hd _⟨s,rfl,hs⟩;obtain⟨St,rfl,ae,hl⟩:∃St:List Int,d=.tup (St.map D.int)/\gb m St/\St.length<=10:=by
      simp at hd;rcases hd with rfl|rfl|rfl|rfl;.exact⟨C,rfl,f.c,by omega⟩
      .exact⟨A,rfl,L,by omega⟩
      .exact⟨B,rfl,X,by omega⟩
      .exact⟨Y,rfl,f.u,by omega⟩
     simp[hs];refine tW (by omega) H J ae (by omega) (by omega) λcs hE=>?_;simp;exact⟨⟨St,cs,rfl,rfl,hE⟩,_,rfl,rfl⟩
   rintro xs _⟨s,rfl,hs⟩af ag;obtain⟨x0,Z,x2,x3,rfl⟩:∃x0 Z x2 x3,xs=[x0,Z,x2,x3]:=by match xs,af with|[a,b,c,d],_=>exact⟨a,b,c,d,rfl⟩
   have get:∀(i:Nat)(S:List Int)b,[D.tup (C.map D.int),.tup (A.map D.int),.tup (B.map D.int),.tup (Y.map D.int)][i]?=aU (.tup (S.map D.int))->[x0,Z,x2,x3][i]?=aU b->∃cs,b=.int (val (gW m S ws) T cs)/\cM (jm m S) (gW m S ws) cs:=λi S b e1 e2=>by obtain⟨St,cs,q1,q2,q3⟩:=ag i _ b e1 e2;obtain rfl:=Nu q1;exact⟨cs,q2,q3⟩
   obtain⟨ah,rfl,ai⟩:=get 0 C x0 rfl rfl;obtain⟨al,rfl,W⟩:=get 1 A Z rfl rfl;obtain⟨am,rfl,ap⟩:=get 2 B x2 rfl rfl;obtain⟨ar,rfl,av⟩:=get 3 Y x3 rfl rfl;have g0:=iV H f.c (ai.least T0);have g1:=iV H L (W.least T0);have g2:=iV H X (ap.least T0);have g3:=iV H f.u (av.least T0);have o1:=cY.mono (λp t=>((f.hc p).mp t).1) g0 g1;have o2:=cY.mono (λp t=>((f.hc p).mp t).2) g0 g2;have o3:=cY.mono (λp t=>(f.hu p).mpr (.inl t)) g1 g3;have o4:=cY.mono (λp t=>(f.hu p).mpr (.inr t)) g2 g3;have o5:=cY.sub H T0 (λp t=>(f.hu p).mp t) (λp t=>(f.hc p).mp t) g1 g2 g3 g0;generalize val (gW m C ws) T ah=v0 at*;generalize val (gW m A ws) T al=I at*;generalize val (gW m B ws) T am=U at*;generalize val (gW m Y ws) T ar=v3 at*;have a1:at' [D.int v0,D.int I,D.int U,D.int v3] 1=aU (.int I):=rfl;simp[ac];apply ak;have c1:v0<=if U<I then U else I:=by split<;>omega
   have c2:(if I<U then U else I)<=v3:=by split<;>omega
   simp[c1,c2];apply ak;simp[show ¬ I+U<v0+v3 by omega];refine KY (by omega) H J L (by omega) (by omega) W ?_;simp;apply ak;simp;refine Nz (by omega) H J L X la lb T0 ?_;simp;apply ak;simp;refine iQ (K84 y _ _ _ _ _ _ _ _ _ _) ?_ ?_ ⟨a,c,Ce,s12,rfl,E,G⟩;.rintro i _ hi⟨a,c,Ce,s12,rfl,E,G⟩;simp[E];apply ak;simp;refine Ov m0 J T0 (by omega) L λcl a c M=>?_;simp[G];apply ak;simp;refine kY H J L (by omega) T0 M ?_;have bm:=g1.le (aG cl) M.z M.e;simp[show ¬ cC (aG cl) ws<I by omega];exact⟨a,c,_,_,rfl,rfl,rfl⟩
   .rintro _⟨a,c,Ce,s12,rfl,E,G⟩;simp;exact⟨_,_,_,_,_,_,_,_,_,_,_,_,rfl,⟨rfl,rfl,rfl,rfl,rfl,rfl⟩,⟨rfl,rfl,rfl,rfl,E,G⟩,λd h=>hd d (dV _ h)⟩
 .rintro _⟨s1,s2,s3,s4,s5,s6,s7,s8,s9,pJ,Ce,s12,rfl,_,_,hd⟩;(first|apply ak|apply G9);simp
 .obtain⟨i,_,rfl⟩:=de.mp hd;exact⟨_,rfl⟩
end _T
end
structure PySem.W.Fast:Prop where(tw16841542259589100467 tw1231119999761209723 tw252233317731298002 tw13492457467959392245 tw13480409191224927635 tw2592428399516680134 tw16237109048439464019 tw10708208824342783932 tw6901236893651615636 tw15184891660792659040 tw2330075645082567724 tw11564507808471599079 tw17147770675813388252 tw2948165286510187320 tw1382215369162845495 tw2554728217889753877 tw15410438704352965766 tw8515774070310009787 tw7744145888494130530 tw12216095072925720411 tw11729826556290898399 tw885702480953842509 tw10970701645855969191 tw5195401717520744094 tw15692562996443769371 tw7051072188963277291 tw1806916891376411680 tw10035129821023122813 tw10830242680265201989 tw484979167155669931 tw17519445078480955533 tw10261853331992912583 tw6845563452404775088 tw17905461803103693955 tw1008987500726658711 tw3471117973462170095 tw11669310744135612742 tw16195641627334236526 tw5816264186465894449 tw15472819321051913060 tw12043084002984535010 tw11472723452045074442 tw6289345534923966823 tw1493939839131257450 tw3185033947097829834 tw22561784400880876 tw1551408649071519204 tw5640905007973554163 tw5901004283454781593 tw4337689554875578602 tw5101400075039529762 tw1481825076810697055 tw12155088628750064177 tw16380395336737213546 tw434011329735024330 tw10160130123930296044 tw9880892882153885310 tw5191148366849770724 tw16274871120455115356 tw5745500508697543466 tw12045649380165229252 tw10881771793933267820 tw15936194681239217321 tw9649040002353034823 tw3065018476854368052 tw1157723713700075720 tw3591733178390456580 tw10096659900885686659 tw17673321237328942265 tw14103149658890771914 tw1545363988613692178 tw7841131017701686155 tw759081638322907253 tw578424527633574247 tw10223766375007085393 tw861503071758515573 tw10991867986872072335 tw10149712513655395627 tw11143469305547015209 tw12799627444829780397 tw12192252006950712906 tw10667733130942919912 tw344189990634286305 tw8336557993910066231 tw7691221662613698381 tw11491268493435550788 tw277173588063579562 tw11337323983212879575 tw7872496574953632350 tw13332228127299050779 tw4474676731431917667 tw18062225163776267410 tw4661757228599091158 tw2933549358197367706 tw632065714884422416 tw9021269449202352344 tw16663465077740973092 tw7535208394268373358 tw14751324880248502907 tw14155940109078090067 tw2776046184288851003 tw14275718565775386031 tw3423368732012466719 tw7356605948468863116 tw11477582244899817284 tw9148117437109259487 tw11443406014472826426 tw14127098163179361516 tw3346525720373170282 tw14574312293352226730 tw15161262501588709747 tw15106066088822291153 tw366556567329767687 tw1390675806632592696 tw13030559547216875563 tw11504971420252387577 tw4829205260313517770 tw11314283683138851283 tw11794664988310958735 tw7245969475731922575 tw10600128917747480783 tw13595826563605423792 tw9396520601548977296 tw9507306002689486427 tw1452776944595775604 tw10882210656988221848 tw17009755444406932925 tw16885569681824704101 tw5117912661019419476 tw645049957724576088 tw18021563156157993179 tw4249333186837868420 tw15427070495178718028 tw15715590029019188729 tw12363640845992674889 tw6356216275131293999 tw16412411591939509086 tw14246993687749375672 tw15312202607277334721 tw10501209153153495347 tw4673704114395176654 tw3433177196955185814 tw5734901263875719232 tw7099546189370077517 tw9898305276828869273 tw5630673577849373856 tw18311156011657735912 tw15956161398689624655 tw1780371953120397783 tw865655482832246000 tw2266634670142971825 tw17506183751722416900 tw13977669769385738442 tw14460768997074001431 tw10770896197570945737 tw14554336170714328516 tw15521640990423098828 tw11728002532720654478 tw11108466256219413892 tw6931451748058249588 tw1961400998303497055 tw11236110291406983272 tw17460671967741015461 tw8953083192720041874 tw8926020380716822126 tw16080010361442546814 tw17913066355755434385 tw17615603146197300619 tw17564515253207297859 tw7399666773872790985 tw11145280719141696127 tw7541794842754738495 tw5680320568261515093 tw7917784659550970442 tw10103942883705864570 tw5113397982442238985 tw9927863150086851093 tw9553472650132946629 tw1052653385151088408 tw12252695268682216512 tw9099278651232478231 tw15917540384329538293 tw13488172524318035330 tw13449703084664644394 tw13599443867751501886 tw4105309784449869652 tw5619588870420543406 tw14019402629906588642 tw8411122779118119194 tw3153163552900593437 tw13331976565023455881 tw528559566917817615 tw10011038904640971570 tw11142597987911785151 tw14583868768955985628 tw2160023366073620237 tw15737303794391601410 tw11174222209621482718 tw1547877681971034696 tw16765052508840617338 tw10398489856208579007 tw6212793440027442324 tw9362345207068132637 tw13399131610383266699 tw16022170560312098858 tw7502109684480408662 tw12413788345066444464 tw2994061564422880421 tw7532853237569384079 tw1671480213572229739 tw13224065108001589609 tw2635956370466671649 tw4880273693296003490 tw637184394079327594 tw16999489883286857673 tw6442810610310787646 tw12764569541174969987 tw4164296945165060740 tw11190984865802587548 tw5290880554810278252 tw1270298630765230961 tw18188545761192941963 tw3789206403093348619 tw11837035269867982180 tw12841463176594339862 tw4932542614147979038 tw9527833450604941640 tw12577698595354637490 tw14464387600372016728 tw10218893996008365250 tw2866482238220682872 tw11732878680867003091 tw9130723467355110718 tw1241227676160930512 tw14362453994254682744 tw12767049335566946511 tw5709961018257407613 tw15664250180083803209 tw10238743722868248467 tw14400386218819194441 tw9176299938082758185 tw7308876228550468300:True)
namespace _T
open PySem _L Spec PyProof.Rows _H
theorem ZF{P:List b_ → Prop}{n:Nat}(h:∀(a:b_)(b:List b_),b.length=n → P (a::b))(b:List b_)(c:b.length=n+1):P b:=by cases b with|nil=>cases c|cons a b=>exact h a b (Nat.succ.inj c)
theorem lk0{P:List b_ → Prop}(h:P [])(b:List b_)(c:b.length=0):P b:=by cases b with|nil=>exact h|cons a b=>cases c
theorem Lw{P:List b_ → Prop}(h:∀a,P [a]):∀b:List b_,b.length=1 → P b:=ZF λa=>lk0 (h a)
theorem iH{P:List b_ → Prop}(h:∀a b,P [a,b]):∀c:List b_,c.length=2 → P c:=ZF λa=>Lw (h a)
theorem xj{P:List b_ → Prop}(h:∀a b c,P [a,b,c]):∀e:List b_,e.length=3 → P e:=ZF λa=>iH (h a)
theorem Np{P:List b_ → Prop}(h:∀a b c d,P [a,b,c,d]):∀e:List b_,e.length=4 → P e:=ZF λa=>xj (h a)
local macro_rules|`(term|‹$p›)=>`(λ_ _ _ _ _ _=>$p)
structure Txt(K:PySem.W.Frag):Prop where
 D0:bu K "step_places" s0
 D1:bu K "step_hours" s1
 D2:bu K "step_room" s2
 D3:bu K "steps_hours" s3
 D4:bu K "open_steps" s4
 D5:bu K "shortest_come" s5
 D6:bu K "steps_to" s6
 D7:bu K "stream_with" s7
 D8:bu K "chains_to_end" s8
 D9:bu K "cut_to_rate" s9
 D10:bu K "bends_of" pJ
 D11:bu K "found_clocks" Ce
 D12:bu K "light_stream" s12
 D13:bu K "bends_by" s13
 D14:bu K "most_of" s14
 D15:bu K "most_by" s15
 D16:bu K "rate_by" s16
 D17:bu K "stream_by" s17
 D18:bu K "closed_hours" s18
 D19:bu K "closed_right" s19
 D20:bu K "closed_gap" s20
 D21:bu K "closed_sum" s21
 D22:bu K "joined_places" s22
 D23:bu K "joined_net" s23
 D24:bu K "most_from" s24
 D25:bu K "closed_from" s25
 D26:bu K "from_sum" s26
 D27:bu K "_law_pool" s27
 D28:bu K "_law_next" s28
 D29:bu K "_law_wide" s29
 D30:bu K "_law_net" s30
 D31:bu K "_law_starts" s31
 D32:bu K "_law_drawn" s32
 D33:bu K "_law_any_closed" s33
 D34:bu K "_law_two_closed" s34
 D35:bu K "_law_growing" s35
 D36:bu K "_law_folded" s36
 D37:bu K "law" s37
 wz:PySem.W.nsIn K ef "all"=aU cr
 lz:PySem.W.nsIn K ef "enumerate"=aU cr
 Mw:PySem.W.nsIn K ef "int"=aU cr
 dH:PySem.W.nsIn K ef "len"=aU cr
 m7:PySem.W.nsIn K ef "list"=aU cr
 dJ:PySem.W.nsIn K ef "max"=aU cr
 dI:PySem.W.nsIn K ef "min"=aU cr
 aN:PySem.W.nsIn K ef "range"=aU cr
 m8:PySem.W.nsIn K ef "reversed"=aU cr
 uJ:PySem.W.nsIn K ef "set"=aU cr
 dR:PySem.W.nsIn K ef "sorted"=aU cr
 fJ:PySem.W.nsIn K ef "sum"=aU cr
 bT:PySem.W.nsIn K ef "tuple"=aU cr
noncomputable def iY{K:PySem.W.Frag}(T:Txt K):Nat->cx:=λk=>0
structure Oks(Pg:dF)(w:eJ)(K:PySem.W.Frag)(mg:Str->Option b_)(base:eN)(cl:Nat->cx)(n:Nat):Prop where
 c0:aR Pg w K mg base n (run Γ 100000000 n) 0 "step_places" 2
 c1:aR Pg w K mg base n (run Γ 100000000 n) 1 "step_hours" 2
 c2:aR Pg w K mg base n (run Γ 100000000 n) 2 "step_room" 3
 c3:aR Pg w K mg base n (run Γ 100000000 n) 3 "steps_hours" 2
 c4:aR Pg w K mg base n (run Γ 100000000 n) 4 "open_steps" 2
 c5:aR Pg w K mg base n (run Γ 100000000 n) 5 "shortest_come" 3
 c6:aR Pg w K mg base n (run Γ 100000000 n) 6 "steps_to" 3
 c7:aR Pg w K mg base n (run Γ 100000000 n) 7 "stream_with" 3
 c8:aR Pg w K mg base n (run Γ 100000000 n) 8 "chains_to_end" 1
 c9:aR Pg w K mg base n (run Γ 100000000 n) 9 "cut_to_rate" 2
 c10:aR Pg w K mg base n (run Γ 100000000 n) 10 "bends_of" 1
 c11:aR Pg w K mg base n (run Γ 100000000 n) 11 "found_clocks" 2
 c12:aR Pg w K mg base n (run Γ 100000000 n) 12 "light_stream" 2
 c13:aR Pg w K mg base n (run Γ 100000000 n) 13 "bends_by" 2
 c14:aR Pg w K mg base n (run Γ 100000000 n) 14 "most_of" 2
 c15:aR Pg w K mg base n (run Γ 100000000 n) 15 "most_by" 2
 c16:aR Pg w K mg base n (run Γ 100000000 n) 16 "rate_by" 2
 c17:aR Pg w K mg base n (run Γ 100000000 n) 17 "stream_by" 2
 c18:aR Pg w K mg base n (run Γ 100000000 n) 18 "closed_hours" 2
 c19:aR Pg w K mg base n (run Γ 100000000 n) 19 "closed_right" 3
 c20:aR Pg w K mg base n (run Γ 100000000 n) 20 "closed_gap" 2
 c21:aR Pg w K mg base n (run Γ 100000000 n) 21 "closed_sum" 3
 c22:aR Pg w K mg base n (run Γ 100000000 n) 22 "joined_places" 2
 c23:aR Pg w K mg base n (run Γ 100000000 n) 23 "joined_net" 2
 c24:aR Pg w K mg base n (run Γ 100000000 n) 24 "most_from" 3
 c25:aR Pg w K mg base n (run Γ 100000000 n) 25 "closed_from" 3
 c26:aR Pg w K mg base n (run Γ 100000000 n) 26 "from_sum" 4
 c27:aR Pg w K mg base n (run Γ 100000000 n) 27 "_law_pool" 1
 Su:aR Pg w K mg base n (run Γ 100000000 n) 28 "_law_next" 2
 Y5:aR Pg w K mg base n (run Γ 100000000 n) 29 "_law_wide" 2
 c30:aR Pg w K mg base n (run Γ 100000000 n) 30 "_law_net" 4
 c31:aR Pg w K mg base n (run Γ 100000000 n) 31 "_law_starts" 2
 c32:aR Pg w K mg base n (run Γ 100000000 n) 32 "_law_drawn" 1
 c33:aR Pg w K mg base n (run Γ 100000000 n) 33 "_law_any_closed" 4
 c34:aR Pg w K mg base n (run Γ 100000000 n) 34 "_law_two_closed" 4
 c35:aR Pg w K mg base n (run Γ 100000000 n) 35 "_law_growing" 3
 c36:aR Pg w K mg base n (run Γ 100000000 n) 36 "_law_folded" 2
 c37:aR Pg w K mg base n (run Γ 100000000 n) 37 "law" 1
set_option maxHeartbeats 0 in
theorem Jr{Pg:dF}{w:eJ}{K:PySem.W.Frag}{mg:Str->Option b_}{base:eN}(T:Txt K)(X:K.In base)(G:base.Ns ef mg):∀n,Oks Pg w K mg base (iY T) n
 |0=>{
   c0:=bH (ps:=["net","step"]) X G T.D0 rfl ‹iH λ_ _=>rfl›
   c1:=bH (ps:=["net","step"]) X G T.D1 rfl ‹iH λ_ _=>rfl›
   c2:=bH (ps:=["net","stream","step"]) X G T.D2 rfl ‹xj λ_ _ _=>rfl›
   c3:=bH (ps:=["net","steps"]) X G T.D3 rfl ‹iH λ_ _=>rfl›
   c4:=bH (ps:=["net","stream"]) X G T.D4 rfl ‹iH λ_ _=>rfl›
   c5:=bH (ps:=["net","stream","begun"]) X G T.D5 rfl ‹xj λ_ _ _=>rfl›
   c6:=bH (ps:=["net","come","place"]) X G T.D6 rfl ‹xj λ_ _ _=>rfl›
   c7:=bH (ps:=["stream","steps","loads"]) X G T.D7 rfl ‹xj λ_ _ _=>rfl›
   c8:=bH (ps:=["net"]) X G T.D8 rfl ‹Lw λ_=>rfl›
   c9:=bH (ps:=["pairs","rate"]) X G T.D9 rfl ‹iH λ_ _=>rfl›
   c10:=bH (ps:=["net"]) X G T.D10 rfl ‹Lw λ_=>rfl›
   c11:=bH (ps:=["net","stream"]) X G T.D11 rfl ‹iH λ_ _=>rfl›
   c12:=bH (ps:=["net","rate"]) X G T.D12 rfl ‹iH λ_ _=>rfl›
   c13:=bH (ps:=["net","last"]) X G T.D13 rfl ‹iH λ_ _=>rfl›
   c14:=bH (ps:=["bends","last"]) X G T.D14 rfl ‹iH λ_ _=>rfl›
   c15:=bH (ps:=["net","last"]) X G T.D15 rfl ‹iH λ_ _=>rfl›
   c16:=bH (ps:=["net","last"]) X G T.D16 rfl ‹iH λ_ _=>rfl›
   c17:=bH (ps:=["net","last"]) X G T.D17 rfl ‹iH λ_ _=>rfl›
   c18:=bH (ps:=["net","last"]) X G T.D18 rfl ‹iH λ_ _=>rfl›
   c19:=bH (ps:=["net","last","closed"]) X G T.D19 rfl ‹xj λ_ _ _=>rfl›
   c20:=bH (ps:=["way","closed"]) X G T.D20 rfl ‹iH λ_ _=>rfl›
   c21:=bH (ps:=["net","last","closed"]) X G T.D21 rfl ‹xj λ_ _ _=>rfl›
   c22:=bH (ps:=["net","starts"]) X G T.D22 rfl ‹iH λ_ _=>rfl›
   c23:=bH (ps:=["net","starts"]) X G T.D23 rfl ‹iH λ_ _=>rfl›
   c24:=bH (ps:=["net","starts","last"]) X G T.D24 rfl ‹xj λ_ _ _=>rfl›
   c25:=bH (ps:=["net","starts","last"]) X G T.D25 rfl ‹xj λ_ _ _=>rfl›
   c26:=bH (ps:=["net","starts","last","closed"]) X G T.D26 rfl ‹Np λ_ _ _ _=>rfl›
   c27:=bH (ps:=["cell"]) X G T.D27 rfl ‹Lw λ_=>rfl›
   Su:=bH (ps:=["pool","base"]) X G T.D28 rfl ‹iH λ_ _=>rfl›
   Y5:=bH (ps:=["pool","base"]) X G T.D29 rfl ‹iH λ_ _=>rfl›
   c30:=bH (ps:=["pool","most","rooms","hours"]) X G T.D30 rfl ‹Np λ_ _ _ _=>rfl›
   c31:=bH (ps:=["pool","many"]) X G T.D31 rfl ‹iH λ_ _=>rfl›
   c32:=bH (ps:=["pool"]) X G T.D32 rfl ‹Lw λ_=>rfl›
   c33:=bH (ps:=["pool","many","starts","last"]) X G T.D33 rfl ‹Np λ_ _ _ _=>rfl›
   c34:=bH (ps:=["net","one","other","last"]) X G T.D34 rfl ‹Np λ_ _ _ _=>rfl›
   c35:=bH (ps:=["net","starts","last"]) X G T.D35 rfl ‹xj λ_ _ _=>rfl›
   c36:=bH (ps:=["script","most"]) X G T.D36 rfl ‹iH λ_ _=>rfl›
   c37:=bH (ps:=["script"]) X G T.D37 rfl ‹Lw λ_=>rfl›}|n+1=>have a:=Jr (Pg:=Pg) (w:=w) (base:=base) T X G n
   {c0:=bG (ps:=["net","step"]) X G T.D0 rfl rfl ‹iH λ_ _=>rfl› λ_ _ F=>d0 (cl:=iY T) F
    c1:=bG (ps:=["net","step"]) X G T.D1 rfl rfl ‹iH λ_ _=>rfl› λ_ _ F=>d1 (cl:=iY T) F
    c2:=bG (ps:=["net","stream","step"]) X G T.D2 rfl rfl ‹xj λ_ _ _=>rfl› λ_ _ F=>d2 (cl:=iY T) F
    c3:=bG (ps:=["net","steps"]) X G T.D3 rfl rfl ‹iH λ_ _=>rfl› λ_ _ F=>d3 (cl:=iY T) F (mg_none_of X G T.fJ) a.c1
    c4:=bG (ps:=["net","stream"]) X G T.D4 rfl rfl ‹iH λ_ _=>rfl› λ_ _ F=>d4 (cl:=iY T) F (mg_none_of X G T.dH) (mg_none_of X G T.aN) a.c0 a.c2
    c5:=bG (ps:=["net","stream","begun"]) X G T.D5 rfl rfl ‹xj λ_ _ _=>rfl› λ_ _ F=>d5 (cl:=iY T) F (mg_none_of X G T.dH) (mg_none_of X G T.m7) a.c4 a.c1 a.c0
    c6:=bG (ps:=["net","come","place"]) X G T.D6 rfl rfl ‹xj λ_ _ _=>rfl› λ_ _ F=>d6 (cl:=iY T) F (mg_none_of X G T.m8) (mg_none_of X G T.bT) a.c0
    c7:=bG (ps:=["stream","steps","loads"]) X G T.D7 rfl rfl ‹xj λ_ _ _=>rfl› λ_ _ F=>d7 (cl:=iY T) F (mg_none_of X G T.m7)
    c8:=bG (ps:=["net"]) X G T.D8 rfl rfl ‹Lw λ_=>rfl› λ_ _ F=>d8 (cl:=iY T) F (mg_none_of X G T.dH) (mg_none_of X G T.dI) a.c5 a.c2 a.c6 a.c7
    c9:=bG (ps:=["pairs","rate"]) X G T.D9 rfl rfl ‹iH λ_ _=>rfl› λ_ _ F=>d9 (cl:=iY T) F (mg_none_of X G T.dI)
    c10:=bG (ps:=["net"]) X G T.D10 rfl rfl ‹Lw λ_=>rfl› λ_ _ F=>d10 (cl:=iY T) F (mg_none_of X G T.dR) a.c8 a.c3
    c11:=bG (ps:=["net","stream"]) X G T.D11 rfl rfl ‹iH λ_ _=>rfl› λ_ _ F=>d11 (cl:=iY T) F (mg_none_of X G T.aN) (mg_none_of X G T.fJ) a.c5
    c12:=bG (ps:=["net","rate"]) X G T.D12 rfl rfl ‹iH λ_ _=>rfl› λ_ _ F=>d12 (cl:=iY T) F (mg_none_of X G T.dH) a.c8 a.c9 a.c11 a.c7
    c13:=bG (ps:=["net","last"]) X G T.D13 rfl rfl ‹iH λ_ _=>rfl› λ_ _ F=>d13 (cl:=iY T) F a.c10
    c14:=bG (ps:=["bends","last"]) X G T.D14 rfl rfl ‹iH λ_ _=>rfl› λ_ _ F=>d14 (cl:=iY T) F (mg_none_of X G T.fJ)
    c15:=bG (ps:=["net","last"]) X G T.D15 rfl rfl ‹iH λ_ _=>rfl› λ_ _ F=>d15 (cl:=iY T) F a.c10 a.c14
    c16:=bG (ps:=["net","last"]) X G T.D16 rfl rfl ‹iH λ_ _=>rfl› λ_ _ F=>d16 (cl:=iY T) F (mg_none_of X G T.fJ) a.c13
    c17:=bG (ps:=["net","last"]) X G T.D17 rfl rfl ‹iH λ_ _=>rfl› λ_ _ F=>d17 (cl:=iY T) F a.c12 a.c16
    c18:=bG (ps:=["net","last"]) X G T.D18 rfl rfl ‹iH λ_ _=>rfl› λ_ _ F=>d18 (cl:=iY T) F (mg_none_of X G T.dI) (mg_none_of X G T.aN) a.c5 a.c17
    c19:=bG (ps:=["net","last","closed"]) X G T.D19 rfl rfl ‹xj λ_ _ _=>rfl› λ_ _ F=>d19 (cl:=iY T) F (mg_none_of X G T.wz) (mg_none_of X G T.dH)
    c20:=bG (ps:=["way","closed"]) X G T.D20 rfl rfl ‹iH λ_ _=>rfl› λ_ _ F=>d20 (cl:=iY T) F (mg_none_of X G T.dJ)
    c21:=bG (ps:=["net","last","closed"]) X G T.D21 rfl rfl ‹xj λ_ _ _=>rfl› λ_ _ F=>d21 (cl:=iY T) F (mg_none_of X G T.fJ) a.c20 a.c19
    c22:=bG (ps:=["net","starts"]) X G T.D22 rfl rfl ‹iH λ_ _=>rfl› λ_ _ F=>d22 (cl:=iY T) F (mg_none_of X G T.aN)
    c23:=bG (ps:=["net","starts"]) X G T.D23 rfl rfl ‹iH λ_ _=>rfl› λ_ _ F=>d23 (cl:=iY T) F (mg_none_of X G T.dJ) (mg_none_of X G T.bT) a.c22
    c24:=bG (ps:=["net","starts","last"]) X G T.D24 rfl rfl ‹xj λ_ _ _=>rfl› λ_ _ F=>d24 (cl:=iY T) F a.c23 a.c15
    c25:=bG (ps:=["net","starts","last"]) X G T.D25 rfl rfl ‹xj λ_ _ _=>rfl› λ_ _ F=>d25 (cl:=iY T) F a.c18 a.c23 a.c22
    c26:=bG (ps:=["net","starts","last","closed"]) X G T.D26 rfl rfl ‹Np λ_ _ _ _=>rfl› λ_ _ F=>d26 (cl:=iY T) F (mg_none_of X G T.wz) (mg_none_of X G T.lz) (mg_none_of X G T.dH) a.c21 a.c23
    c27:=bG (ps:=["cell"]) X G T.D27 rfl rfl ‹Lw λ_=>rfl› λ_ _ F=>d27 (cl:=iY T) F (mg_none_of X G T.dJ)
    Su:=bG (ps:=["pool","base"]) X G T.D28 rfl rfl ‹iH λ_ _=>rfl› λ_ _ F=>d28 (cl:=iY T) F
    Y5:=bG (ps:=["pool","base"]) X G T.D29 rfl rfl ‹iH λ_ _=>rfl› λ_ _ F=>d29 (cl:=iY T) F a.Su
    c30:=bG (ps:=["pool","most","rooms","hours"]) X G T.D30 rfl rfl ‹Np λ_ _ _ _=>rfl› λ_ _ F=>d30 (cl:=iY T) F (mg_none_of X G T.dJ) (mg_none_of X G T.dI) (mg_none_of X G T.aN) (mg_none_of X G T.bT) a.Su a.Y5
    c31:=bG (ps:=["pool","many"]) X G T.D31 rfl rfl ‹iH λ_ _=>rfl› λ_ _ F=>d31 (cl:=iY T) F (mg_none_of X G T.aN) (mg_none_of X G T.bT) a.Su
    c32:=bG (ps:=["pool"]) X G T.D32 rfl rfl ‹Lw λ_=>rfl› λ_ _ F=>d32 (cl:=iY T) F a.c30 a.Su
    c33:=bG (ps:=["pool","many","starts","last"]) X G T.D33 rfl rfl ‹Np λ_ _ _ _=>rfl› λ_ _ F=>d33 (cl:=iY T) F (mg_none_of X G T.Mw) (mg_none_of X G T.aN) a.Y5
    c34:=bG (ps:=["net","one","other","last"]) X G T.D34 rfl rfl ‹Np λ_ _ _ _=>rfl› λ_ _ F=>d34 (cl:=iY T) F (mg_none_of X G T.dJ) (mg_none_of X G T.dI) (mg_none_of X G T.aN) (mg_none_of X G T.uJ) (mg_none_of X G T.dR) (mg_none_of X G T.fJ) (mg_none_of X G T.bT) a.c25 a.c26
    c35:=bG (ps:=["net","starts","last"]) X G T.D35 rfl rfl ‹xj λ_ _ _=>rfl› λ_ _ F=>d35 (cl:=iY T) F (mg_none_of X G T.aN) a.c24
    c36:=bG (ps:=["script","most"]) X G T.D36 rfl rfl ‹iH λ_ _=>rfl› λ_ _ F=>d36 (cl:=iY T) F (mg_none_of X G T.dH) (mg_none_of X G T.dJ) (mg_none_of X G T.dI) (mg_none_of X G T.aN)
    c37:=bG (ps:=["script"]) X G T.D37 rfl rfl ‹Lw λ_=>rfl› λ_ _ F=>d37 (cl:=iY T) F (mg_none_of X G T.dJ) (mg_none_of X G T.dI) (mg_none_of X G T.aN) (mg_none_of X G T.uJ) (mg_none_of X G T.dR) (mg_none_of X G T.bT) a.c33 a.c32 a.c36 a.c35 a.Su a.c27 a.c31 a.c34 a.Y5 a.c26 a.c24}
set_option maxHeartbeats 0 in
theorem WD{Pg:dF}{w:eJ}{K:PySem.W.Frag}{mg:Str->Option b_}{h:eN}{i:cx}(T:Txt K)(X:K.In h)(G:h.Ns ef mg)(g:mg "law"=aU (.ref i)):∃fd:i1,(∀(s:cv)(u:b_),qS s fd ⟨[u],[]⟩ [("script",u)])/\∀base:eN,K.In base->base.Ns ef mg->pH Pg w K mg base Jk 40 i fd ["script"] (Nq K 1 (run Γ 100000000 40 37)):=by
 obtain⟨f,fd,a,F⟩:=T.D37.ex;have e:=g.symm.trans (mg_of X G a);cases e;refine⟨fd,λs u=>?_,λbase j l=>?_⟩;.obtain⟨oc,q,kV,m,r,t,cdv,ct,o,rfl,lk,p⟩:=F.ex;exact .of_eq rfl
 .have b:=Jr (Pg:=Pg) (w:=w) (base:=base) T j l 39;exact d37 (cl:=iY T) (k:=39) (n:=100000000) (c:=run Γ 100000000 39) F (mg_none_of X G T.dJ) (mg_none_of X G T.dI) (mg_none_of X G T.aN) (mg_none_of X G T.uJ) (mg_none_of X G T.dR) (mg_none_of X G T.bT) b.c33 b.c32 b.c36 b.c35 b.Su b.c27 b.c31 b.c34 b.Y5 b.c26 b.c24
end _T
open PySem W PyProof.Rows
set_option maxRecDepth 100000 in
set_option maxHeartbeats 0 in
theorem PySem.Challenge.cw_hourhaul_k84_whole_starts_beside_starts_holds : PySem.Challenge.rw_hourhaul_k84_whole_starts_beside_starts.Holds := by
 w_on;o_law;k_head;(case hw=>w_witness2);k_fill;refine _L.K5 (l:=PySem.Challenge.rw_hourhaul_k84_whole_starts_beside_starts) (n:=63) (k:=40) (x:="script") (CX:=_L.Jk) (sp:=λK=>_H.Nq K 1 (_H.run _T.Γ 100000000 40 37)) rfl (by decide) rfl ⟨rfl,by decide,by decide⟩ (λw h Y=>PySem.W.kIn_of Y) ?F ?S ?C;case F=>
  intro w mg j h f G b;refine _T.WD ?T f G b;constructor;iterate 38(· refine' _H.Vv ?a ?l ?c ?k;case a|l|c|k=>k_is)
  iterate 13(· k_is)
 case S=>intro K H a ns g m i;obtain⟨as,e⟩:=_T.Oh ns g;exact _H.Ht i e
 case C=>exact λH s e o z=>z
