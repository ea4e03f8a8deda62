import PyProof.Rows.All
import Wide.All
import OpenK.AllK
import Wide.FinOn
import Lean
import PyProof.EqAt
import PyProof.EqKinds
import PyProof.TupleCall
import PySem.Str
import PySem.Builtin.Int.W1All
import PyProof.NeKinds
import PyProof.ZipIter
import PyProof.SumWalkG
import PyProof.MinMaxWalk
import PyProof.WalksMore
import PyProof.SeqI3
import PyProof.WalkInts
import PyProof.Rows.CallKwBuiltin
import PyProof.Rows.Tup
import PyProof.CollectIter
import PyProof.EnumMake
import PyProof.TupleOfSeq
import PyProof.ListNew
import PyProof.ReprLoop
import PyProof.StationsW
import PyProof.ExcClass3
import PyProof.Rows.CatchBare
import OpenK.KOwn
import KE.KIsAll
import PyProof.NsDelKeeps
import PyProof.RulesAs
import PyProof.ExcArgsOwn
import PyProof.ListRange
import KE.RegKIsAll
import KE.KRevIter
import PyProof.Rows.SortRuns
import KE.KSortTup
import PyProof.DictWalks
import KE.KDictList
import PyProof.ExcBaseAll.ValueError
import PySem.Challenge.RW_hourhaul_k60_plans_by_calendars_judged
set_option Elab.async false
set_option linter.all false
set_option maxRecDepth 100000
set_option genInjectivity false
set_option genSizeOf false
set_option compiler.extract_closed false
set_option bootstrap.genMatcherCode false
open Option renaming some→aB,none→b_,map_some→eT,map_eq_some_iff→gc,isSome_iff_exists→nr
open Bool renaming false→a_,true→ck,false_ne_true→eJ,and_eq_true→fE,eq_iff_iff→gy,false_eq_true→hU,or_eq_true→kK,and_eq_false_iff→kU,or_eq_false_iff→k7,not_eq_true'→m3,false_and→ny,and_false→nz
open PySem renaming wpAny_bind→bx,Value→c_,Shared→dc,wpAny_pure→de,Addr→df,starEach→dy,wpAny→dL,model→dS,Program→d_,Expr→ek,mainGlobals→en,compareOp→eK,Around→e_,World→fb,wpAny_mono→fe,eval→fg,wpAny_newObj_type→fh,Heap→fk,bootBuiltins→fw,wpAny_callSpecial?_slot→fy,wpAny_call_entry→fN,Stmt→fR,foldedSetIterable→fT,wpAny_loadPart'→gb,wpAny_pyIter_tuple→gd,wpAny_field→gl,IsPair→gx,sizeLine_eq→gE,binaryOp→gL,sysModules→gN,wpAny_pyIter_list→hE,wpAny_holding→hJ,Builtin→hY,wpAny_seqItems→hZ,cLine→ia,wpAny_typeNameOfWhole_keyiter→ic,wpAny_setField_rec→ij,holding→im,assignEach→ip,FuncData→iF,swapsWith→iL,wpAny_truthy_bool→iX,assign→i8,wpAny_typeNameOf_keyiter→i_,behindInMarks→jn,backTo→ka,IsZip→kd,wpAny_rule→ke,swapsWithSole→ki,swappedStores→kl,relabel→kn,sliceBounds→kq,wpAny_passesOwn→kt,rawInt→ku,Scope→kB,getItem→kD,cellsFrom→kG,NameKind→kL,wpAny_attempt→kQ,wpAny_eqBool_int→kX,DictEntry→k5,pyNext→k9,callType_new→lf,letOwnedTupleGo→lh,wpAny_nextOf_list_end→lj,wpAny_isOneOf_keyiter→ll,wpAny_updateSeq_pair→ly,wpAny_setField→lz,wpAny_fieldsOf→lC,firstArgMember→lT,ZipApart→l6,IsPart→l7,tupleKind→l8,callerA→l9,wpAny_onRaise→mh,Meets→mo,wpAny_Call_Name_kw→mr,typeIs_int→ms,tupleKind_room_in1→mu,call_meets→mw,wpAny_pyIter_enum→mM,wpAny_dictEntries→mN,valueAt→mP,standAt→mR,setItem→mS,concat_meets→nc,codeAny→ng,Operator→nk,slicePick→nE,noFill_tuple_add→nI,PassesOwn→nL,subscripted→nS,Model→n0,wpAny_dictEpoch→n3,notedBy→n8,Keyword→n_,BindsTo→oe,wpAny_letOwnedTupleGo_enum→ol,pyIter→om,newFunctionEnv→on,atKey→oq,wpAny_binaryOp_repeat_ref→oS,wpAny_standAt→pp,wpAny_newList→pr,wpAny_getItem_list_slice→pz,wpAny_comprehension_free→pE,seq_tuple_add→pS,evalPart_none→p0,attributeBase→p4,wpAny_pyNext_enum_itemD→p9,field→p_,bindL→qa,bindC→qb,CmpOp→qf,wpAny_typeOf→qh,wpAny_pyNext_enum_endD→qk,wpAny_nextOf_list_item→qo,seqIndex_neg→qv,richCompare_meets_room→qA,release→qB,codeAny_mono→qE,wpAny_isTrue_Compare1→qV,wpAny_pyIter_keyiter→q_,wpAny_loadName_local→ra,wpAny_letGo→rb,wpAny_BinOp→rc,seqIndex_of→rg,keywordEach→rk,bindArgs→rS,wpAny_loadName_cell→rX
open List renaming getElem?_set_self→dr,replicate→dA,size_toArray→dP,getElem?_append_left→dQ,range→dV,map_cons→er,mem_cons→et,length_map→eu,getElem?_map→ey,map_map→eA,all_eq_true→eB,getElem?_append_right→eF,mem_map→eM,mem_singleton→fm,mem_append→fq,mem_cons_of_mem→fv,getElem?_set_ne→fF,map_congr_left→ga,mem_append_right→gp,getElem_mem→gu,nodup_cons→gS,lookup_cons→gX,drop_eq_getElem_cons→gY,getElem?_eq_getElem→g9,length_cons→g_,length_append→hR,take_succ_cons→h_,ext_getElem→ii,find?_cons→io,mem_range→iN,mem_cons_self→iO,getElem?_zip_eq_some→i4,filterMap_cons→i5,getElem?_replicate→i9,mem_of_getElem?→jv,not_mem_nil→jN,set_getElem_self→jS,set_append_right→jT,take_of_length_le→jU,replicate_succ→j0,length_range→j_,eq_nil_of_length_eq_zero→kc,map_append→kg,getD→kr,take_zero→kF,getElem?_cons_succ→kM,all_map→kN,getElem?_of_mem→k6,pairwise_map→k_,of_mem_zip→lb,map_nil→lc,drop_eq_nil_iff→li,set_cons_succ→lp,pairwise_cons→ls,getElem?_take→lv,filterMap_map→lw,length_take→lS,getElem?_set→l_,set_cons_zero→ml,getElem_range→mn,nil_append→mv,take_append_of_le_length→mA,reverse_cons→mT,flatten_cons→m_,all_cons→nh,length_singleton→nK,pairwise_iff_getElem→nN,append_nil→ow,any_cons→ox,max?_eq_some_iff→oE,length_replicate→oI,countP_mono_left→oN,mem_of_mem_take→o2,mem_of_mem_drop→o3,mem_iff_getElem→o_,mem_append_left→pc,length→pf,getElem?_mapIdx→po,getElem?_range→p5,toArray→qq,foldl→rq
open PySem.Heap renaming get?_push_size→dE,lt_size→ej,size_push→eS,get?_update_other→jx,get?_update_self→kT,SameBut→n9,IsTuple→qS
open Or renaming inr→ef,inl→ei
open Nat renaming ne_of_lt→eH,lt_of_lt_of_le→eI,le_trans→ja,lt_irrefl→jO,lt_succ_of_lt→me,le_of_not_lt→mx,le_of_lt→m4,ne_of_gt→oo,zero_add→oz,mul_comm→oB,lt_trans→oC,le_mul_of_pos_left→oD,lt_or_ge→ri
open Sum renaming inl→eL,inr→md
open Classical renaming propDecidable→eO
open PyProof.Rows renaming wpS_bind→eP,Keyed→fx,callWith_type1→fS,wpS_pure→gi,SortSt→gz,IntsAre→gI,SortKind→ib,slot_tuple_getitem→i6,pendingOf→kf,mirror→kw,wpS_forRange→kC,seqObj→lI,envOfC→l5,AllBare→ma,subscriptTail→mi,wpS_get→n7,wpS_modify→oj,Subscript_→oy,listUpdate_at→pV,IsTup→qc,subscriptTail_builtinR→qr,wpS_mono→q7,seqEpoch_at→rh,failedOf→rL,arrOf→rV
open PySem.Value renaming none→eR,ref→eW,type→hX,bool→jP,notImplemented→kb,int→ko
open PySem.PassesOwn renaming never→fi
open PySem.NameKind renaming free→fo,cell→hB
open Pure renaming pure→fI
open Option.some renaming inj→fJ
open False renaming elim→f_
open Int renaming le_refl→gT,toNat_of_nonneg→jp,emod_lt_of_pos→kA,toNat_natCast→kH,emod_nonneg→nX
open ForInStep renaming yield→hV
open PyProof.Rows.IntsAre renaming length→iq
open PySem.Shared renaming heap→iA
open Ne renaming symm→iE
open Array renaming length_toList→iP,getElem?_toList→kR,getD→ln,toList_inj→mf,perm_iff_toList_perm→nm,getElem?_eq_getElem→nB
open PySem.Obj renaming mapSeq→iS,data_mapFields→kz,isFreed_of_fields→oT
open PySem.Str renaming ofString→i3
open PySem.SeqAt renaming EqAt→i7
open PySem.Heap.SameBut renaming update→jI
open PySem.Builtin.Dict_items renaming ownsTuple→kP
open List.cons renaming inj→kS
open PySem.Builtin.SmallTypes renaming ownedTupleIsFree→k4,nextOf→lP
open PySem.Builtin.Tuple renaming tupleExact→k8
open PySem.Calls renaming spliced_cons→lm,Name_function_global→nl,call_function_entry→nv,callWith_builtin→n5,evalArgs_plain→oQ
open PySem.Builtin.Range renaming rangePlace?→lx
open PySem.Builtin.Dict renaming showsAll→mB
open Function renaming comp→mE,comp_apply→n4
open PySem.AutoSeq1 renaming sub_tuple_tuple→mI
open True renaming intro→nq
open PySem.Builtin.Slice renaming slicePlaces→nV,sliceAdjust→rf
open PyProof.Rows.IsTup renaming new→n1
open PySem.Around renaming under_plainId→og
open PySem.CmpOp renaming NotIn→oP
open PySem.Builtin.List renaming listTooLong→rj
open PySem.W(mg_none_of keepIn methodObj mg_of)
open List(toArray map_id forIn_cons forIn_nil mapM_cons find?)
open PySem.Heap(IsList ExtBut)
open Nat(le_refl le_succ)
open PySem.Builtin.SmallTypes(ownedTupleHandOut)
open PySem.Builtin.Tuple(tupleItemsOf tupleCompareSizes)
open Option(bind_some map getD_none getD_some)
open PySem.Builtin.Slice(sliceApplied)
open Array(toList)
open PySem.F(slot_dict_keyiterator_next slot_tuple_add entry_tuple_add args_tuple_add_2 slot_tuple_mul slot_dict_get)
open PySem.SeqAt.EqAt(int_str str_int)
open PySem.SeqAt.RcAt(lists_lengths)
open PySem.SeqAt.RcNeAt(none_int none_str bool_int bool_str int_none int_bool int_int int_list str_none str_bool str_str str_list list_int list_str)
theorem fK{h:PySem.Heap}{o o1:PySem.Obj}{a:PySem.Addr}(e:h.get? a=aB o):(h.push o1).get? a=aB o:=PySem.Heap.get?_push_of_some _ e
theorem fZ{b:Type}{l:List b}{i:Nat}{a:b}(h:l[i]?=aB a):∃h:i<l.length,l[i]=a:=List.getElem?_eq_some_iff.mp h
theorem iZ{b:Type}{l:List b}{i j:Nat}{a:b}(h:j≠i):(l.set i a)[j]?=l[j]?:=List.getElem?_set_ne (iE h)
theorem wI{n:Nat}:0<=n:=Nat.zero_le n
theorem dW{n:Nat}:n<=n:=Nat.le_refl n
namespace _L
open PySem Spec PyProof.Rows
variable{w:fb}{h:fk}{t' i:Nat}{M:n0}{A:e_}{s:dc}{pins:List (df×Obj)}{pos:Pos}{K:PySem.W.Frag}{tg:ek}{op:qf}{us:List c_}
noncomputable abbrev Key:=Sum Int Str
noncomputable def qW:Key->c_->Bool|.inl k,v=>Value.isInt k v|.inr x,v=>Value.isStrOf x v
noncomputable def abQ(w:fb):Key->Int|.inl k=>hashInt k|.inr x=>hashStr w x
theorem cF:∀{k:Key}{v:c_},qW k v=ck->(∃i t,k=eL i/\v=ko i t)\/(∃x t,k=md x/\v=Value.str x t)|.inl i,v,h=>by obtain⟨t,e⟩:=Value.isInt_shape (k:=i) (v:=v) h;exact .inl ⟨i,t,rfl,e⟩|.inr x,v,h=>by obtain⟨t,e⟩:=Value.isStrOf_shape (x:=x) (v:=v) h;exact .inr ⟨x,t,rfl,e⟩
theorem Dt(i:Int)(t:Tok):qW (.inl i) (.int i t)=ck:=by simp[qW,Value.isInt]
theorem Eu(x:Str)(t:Tok):qW (.inr x) (.str x t)=ck:=by simp[qW,Value.isStrOf]
theorem Ul(a b:Int):decide ((eL a:Key)=eL b)=(a==b):=by
 by_cases e:a=b;.subst e;simp
 .have h:¬(eL a:Key)=eL b:=λq=>e (Sum.inl.inj q);rw[decide_eq_false h];exact(beq_eq_false_iff_ne.mpr e).symm
theorem T6(a b:Str):decide ((md a:Key)=md b)=decide (a=b):=by
 by_cases e:a=b;.subst e;simp
 .have h:¬(md a:Key)=md b:=λq=>e (Sum.inr.inj q);rw[decide_eq_false h,decide_eq_false e]
theorem Rt(a:Int)(b:Str):decide ((eL a:Key)=md b)=a_:=decide_eq_false (λq=>nomatch q)
theorem R0(a:Str)(b:Int):decide ((md a:Key)=eL b)=a_:=decide_eq_false (λq=>nomatch q)
noncomputable def cI(prog:d_)(w:fb):PySem.KeyKind prog w Key where
 is:=qW;hash:=abQ w;inj:=λv a b f c=>by
  rcases cF f with⟨i,t,rfl,rfl⟩|⟨x,t,rfl,rfl⟩
  . rcases cF c with⟨j,u,rfl,e⟩|⟨y,u,rfl,e⟩;.injection e with e1 _;rw[e1]
    .exact nomatch e
  . rcases cF c with⟨j,u,rfl,e⟩|⟨y,u,rfl,e⟩;.exact nomatch e
    .injection e with e1 _;rw[e1]
 byValue:=λk v h=>by rcases cF h with⟨i,t,rfl,rfl⟩|⟨x,t,rfl,rfl⟩<;>rfl
 pyHash:=λhv h=>by
  rcases cF hv with⟨i,t,rfl,rfl⟩|⟨x,t,rfl,rfl⟩;.exact wpAny_pyHash_int h
  .exact wpAny_pyHash_str h
 eqBool:=λg hv h=>by
  rcases cF g with⟨i,t,rfl,rfl⟩|⟨x,t,rfl,rfl⟩
  . rcases cF hv with⟨j,u,rfl,rfl⟩|⟨y,u,rfl,rfl⟩;.rw[Ul]at h;exact kX h
    .rw[Rt]at h;exact int_str i t y u _ _ _ _ h
  . rcases cF hv with⟨j,u,rfl,rfl⟩|⟨y,u,rfl,rfl⟩;.rw[R0]at h;exact str_int x t j u _ _ _ _ h
    .rw[T6]at h;exact wpAny_eqBool_str h
 «strs»:=λk x t v h=>by
  rcases cF h with⟨i,u,rfl,e⟩|⟨y,u,rfl,e⟩;.exact nomatch e
  .injection e with e1 _;subst e1;cases v<;>rfl
theorem wW(prog:d_)(w:fb)(i:Int)(t:Tok):(cI prog w).is (.inl i) (.int i t)=ck:=Dt i t
theorem xM(prog:d_)(w:fb)(x:Str)(t:Tok):(cI prog w).is (.inr x) (.str x t)=ck:=Eu x t
inductive V where|non|bl(b:Bool)|int(i:Int)|str(x:Str)|byt(b:Array UInt8)|flt(b:UInt64)|ref(a:df)|ty(n:String)deriving DecidableEq
noncomputable def RelV:V->c_->Prop|.non,u=>u=eR|.bl b,u=>u=jP b|.int i,u=>∃t,u=ko i t|.str x,u=>∃t,u=Value.str x t|.byt b,u=>∃t,u=Value.bytes b t|.flt b,u=>∃t,u=Value.float b t|.ref a,u=>u=eW a|.ty n,u=>u=hX n
noncomputable abbrev Vals:List V->List c_->Prop:=Paired RelV
theorem Vals.length{xs:List V}{us:List c_}(r:Vals xs us):xs.length=us.length:=Paired.length r
theorem Vals.get:∀{xs:List V}{us:List c_}{i:Nat}{x:V},Vals xs us->xs[i]?=aB x->∃u,us[i]?=aB u/\RelV x u|_,_,_,_,.nil,e=>by simp at e|_,_,0,_,.cons r _,e=>by simp at e;subst e;exact⟨_,rfl,r⟩|_,_,i+1,x,.cons _ t,e=>by obtain⟨u,h1,a⟩:=Vals.get (i:=i) (x:=x) t (by simpa using e);exact⟨u,by simpa using h1,a⟩
theorem Vals.set{x:V}{u:c_}(r:RelV x u):∀{xs:List V}{us:List c_}(i:Nat),Vals xs us->Vals (xs.set i x) (us.set i u)|_,_,_,.nil=>.nil|_,_,0,.cons _ t=>.cons r t|_,_,i+1,.cons q t=>.cons q (Vals.set r i t)
theorem Vals.append:∀{xs ys:List V}{us a:List c_},Vals xs us->Vals ys a->Vals (xs++ys) (us++a)|_,_,_,_,.nil,s=>s|_,_,_,_,.cons r t,s=>.cons r (Vals.append t s)
theorem Vals.take:∀{xs:List V}{us:List c_}(n:Nat),Vals xs us->Vals (xs.take n) (us.take n)|_,_,0,_=>.nil|_,_,_+1,.nil=>.nil|_,_,n+1,.cons r t=>.cons r (Vals.take n t)
theorem Vals.drop:∀{xs:List V}{us:List c_}(n:Nat),Vals xs us->Vals (xs.drop n) (us.drop n)|_,_,0,r=>r|_,_,_+1,.nil=>.nil|_,_,n+1,.cons _ t=>Vals.drop n t
noncomputable def pP:Option V->Option c_->Prop|some v,aB u=>RelV v u|none,b_=>True|_,_=>False
noncomputable def KV{κ:Type}:List (κ×V)->List (κ×c_)->Prop:=Paired λ(p:κ×V)(q:κ×c_)=>p.1=q.1/\RelV p.2 q.2
noncomputable def kV:Key->V|.inl i=>.int i|.inr x=>.str x
inductive HO where|lst(xs:List V)|tup(xs:List V)|dK(kvs:List (Key×V))|dT(kvs:List (List Key×V))|set(S:Int->Bool)(n:Nat)|ins(C dx:df)(fs:List (Str×V))|own(x:df)|xd(fs:List (Str×V))|met(f x:df)|nY(lo hi:Int)|fO(o:Obj)(u:HO)|Uw(ps:Array c_)|ext(φ:fk->Prop)
noncomputable abbrev Hp:=df->Option HO
variable{H:Hp}
noncomputable def upd(H:Hp)(a:df)(o:HO):Hp:=λb=>if b=a then aB o else H b
theorem aW{a:df}{o:HO}:upd H a o a=aB o:=by unfold upd;rw[if_pos rfl]
theorem aL{a b:df}{o:HO}(h:b≠a):upd H a o b=H b:=by unfold upd;rw[if_neg h]
theorem Yu{a b:df}{o u:HO}(h:H a=aB o)(h':H b=aB u)(d:o≠u):a≠b:=by intro e;subst e;rw[h]at h';exact d (fJ h')
theorem iK{a b:df}{o:HO}(h:H a=aB o)(h':H b=b_):a≠b:=by intro e;subst e;rw[h]at h';cases h'
section
variable(P:d_)(w:fb)
noncomputable def cJ(H:Hp)(h:fk)(a:df):HO->Prop|.lst xs=>xs.length<=sizeLine/\∃(b:List c_)(n:Nat),Vals xs b/\h.get? a=aB {cls:=.type "list",data:=.seq b.toArray n}|.tup xs=>xs.length<=sizeLine/\∃b:List c_,Vals xs b/\qc h a b.toArray|.dK kvs=>kvs.length<=sizeLine/\(a==gN)=a_/\∃vs,KV kvs vs/\h.DictOf (cI P w) a vs|.dT kvs=>kvs.length<=sizeLine/\(a==gN)=a_/\∃xs:List (List Key×df×c_),Paired (λ(p:List Key×V)(q:List Key×df×c_)=>p.1=q.1/\H q.2.1=aB (.tup (p.1.map kV))/\RelV p.2 q.2.2) kvs xs/\∃o es ep,h.get? a=aB o/\o.ExactDict/\o.data=.dict es ep/\es.toList=xs.map (entryOfKey (l8 (cI P w)))/\(xs.map (·.1)).Nodup|.set S n=>h.SetOf (intKind P w) a S n|.ins C e fs=>H e=aB (.own a)/\fs.length<=1000/\e≠a/\h.get? a=aB (PySem.W.instObj C e)/\∃c,h.Ns1 e c/\(∀f,pP (fs.lookup f) (c f))/\PySem.Within c (fs.map (·.1))|.own _=>∃o,h.get? a=aB o|.xd fs=>∃c,h.Ns1 a c/\∀f,pP (fs.lookup f) (c f)|.nY lo hi=>∃t u v,h.get? a=aB {cls:=.type "range",data:=.fields #[.int lo t,.int hi u,.int 1 v]}|.fO o u=>h.get? a=aB o/\cJ H h a u|.Uw ps=>h.get? a=aB {cls:=.none,data:=.fields ps}|.met f x=>h.get? a=aB (methodObj (.ref f) (.ref x))|.ext g=>g h/\(∃o,h.get? a=aB o)/\∀h1 j:fk,g h1->(∀o,h1.get? a=aB o->j.get? a=aB o)->g j
noncomputable def oF(H:Hp)(h:fk):Prop:=∀a o,H a=aB o->cJ P w H h a o
end
section
variable{P:d_}{w:fb}{H H':Hp}{h h':fk}{a:df}{o:HO}
theorem cJ.lt(x:cJ P w H h a o):a<h.objs.size:=by cases o with|lst xs=>obtain⟨_,_,_,_,e⟩:=x;exact ej e|tup xs=>obtain⟨_,_,_,p⟩:=x;exact p.lt|dK kvs=>obtain⟨_,_,_,_,o,_,_,e,_⟩:=x;exact ej e|dT kvs=>obtain⟨_,_,_,_,o,_,_,e,_⟩:=x;exact ej e|set S n=>obtain⟨o,_,_,_,e,_⟩:=x;exact ej e|ins C b fs=>obtain⟨_,_,_,e,_⟩:=x;exact ej e|own y=>obtain⟨_,e⟩:=x;exact ej e|xd fs=>obtain⟨_,⟨_,_,_,e,_⟩,_⟩:=x;exact ej e|nY lo hi=>obtain⟨_,_,_,e⟩:=x;exact ej e|fO c u=>obtain⟨e,_⟩:=x;exact ej e|Uw ps=>exact ej (show h.get? a=aB _ from x)|met f y=>exact ej (show h.get? a=aB _ from x)|ext g=>obtain⟨_,⟨_,e⟩,_⟩:=x;exact ej e
theorem Paired.Q0{g j:Type}{F G:g->j->Prop}:∀{c:List g}{e:List j},Paired F c e->(∀a b,F a b->G a b)->Paired G c e|_,_,.nil,_=>.nil|_,_,.cons r t,f=>.cons (f _ _ r) (Paired.Q0 t f)
theorem cJ.stay(x:cJ P w H h a o)(k:∀b u,(b=a\/H b=aB (.own a))->h.get? b=aB u->h'.get? b=aB u)(ho:∀b,H b=aB (.own a)->H' b=aB (.own a))(B:∀b xs,H b=aB (.tup xs)->H' b=aB (.tup xs)):cJ P w H' h' a o:=by induction o with|lst xs=>obtain⟨z,j,n,r,e⟩:=x;exact⟨z,j,n,r,k _ _ (.inl rfl) e⟩|tup xs=>obtain⟨z,j,r,g,e,c⟩:=x;exact⟨z,j,r,g,k _ _ (.inl rfl) e,c⟩|dK kvs=>obtain⟨z,y,vs,r,g,es,ep,e,c⟩:=x;exact⟨z,y,vs,r,g,es,ep,k _ _ (.inl rfl) e,c⟩|dT kvs=>obtain⟨z,y,xs,r,g,es,ep,e,c⟩:=x;exact⟨z,y,xs,Paired.Q0 r λp q z=>⟨z.1,B _ _ z.2.1,z.2.2⟩,g,es,ep,k _ _ (.inl rfl) e,c⟩|set S n=>obtain⟨g,es,ep,t,e,c⟩:=x;exact⟨g,es,ep,t,k _ _ (.inl rfl) e,c⟩|ins C G fs=>obtain⟨d,z,ne,e,l,⟨m,es,ep,E,c⟩,r⟩:=x;exact⟨ho _ d,z,ne,k _ _ (.inl rfl) e,l,⟨m,es,ep,k _ _ (.inr d) E,c⟩,r⟩|own y=>obtain⟨g,e⟩:=x;exact⟨g,k _ _ (.inl rfl) e⟩|xd fs=>obtain⟨l,⟨m,es,ep,e,c⟩,r⟩:=x;exact⟨l,⟨m,es,ep,k _ _ (.inl rfl) e,c⟩,r⟩|nY lo hi=>obtain⟨t,u,v,e⟩:=x;exact⟨t,u,v,k _ _ (.inl rfl) e⟩|fO g u F=>obtain⟨e,q⟩:=x;exact⟨k _ _ (.inl rfl) e,F q⟩|Uw ps=>have e:h.get? a=aB {cls:=.none,data:=.fields ps}:=x;show h'.get? a=aB {cls:=.none,data:=.fields ps};exact k a _ (.inl rfl) e|met f y=>have e:h.get? a=aB (methodObj (.ref f) (.ref y)):=x;show h'.get? a=aB (methodObj (.ref f) (.ref y));exact k a _ (.inl rfl) e|ext I=>obtain⟨p,⟨o,e⟩,st⟩:=x;exact⟨st _ _ p λo q=>k _ _ (.inl rfl) q,⟨o,k _ _ (.inl rfl) e⟩,st⟩
theorem oF.lt(x:oF P w H h)(e:H a=aB o):a<h.objs.size:=(x a o e).lt
theorem oF.fresh(x:oF P w H h)(e:h.objs.size<=a):H a=b_:=by cases q:H a with|none=>rfl|some u=>exact absurd (eI (x.lt q) e) (jO _)
theorem oF.kept(x:oF P w H h)(k:∀b u,h.get? b=aB u->h'.get? b=aB u):oF P w H h':=λa o e=>(x a o e).stay (λb u _ q=>k b u q) (λ_ q=>q) λ_ _ q=>q
theorem oF.laid(x:oF P w H h)(k:∀b u,h.get? b=aB u->h'.get? b=aB u)(j:h.objs.size<=a)(f:cJ P w (upd H a o) h' a o):oF P w (upd H a o) h':=λb u e=>by
 have hn:=x.fresh j;by_cases g:b=a;.subst g;rw[aW]at e;cases e;exact f
 .rw[aL g]at e;exact(x b u e).stay (λc v _ q=>k c v q) (λc q=>by rw[aL (iK q hn)];exact q) λc xs q=>by rw[aL (iK q hn)];exact q
end
noncomputable def Rd(H:Hp)(a:df)(u:HO):Prop:=H a=aB u\/∃o,H a=aB (.fO o u)
theorem Rd.ok{P:d_}{a:df}{u:HO}(r:Rd H a u)(x:oF P w H h):cJ P w H h a u:=by
 rcases r with r|⟨o,r⟩;.exact x a u r
 .obtain⟨_,q⟩:=x a _ r;exact q
noncomputable def Xg:Option HO->Prop|some (.lst _)=>True|some (.dK _)=>True|some (.dT _)=>True|some (.set _ _)=>True|some (.ins _ _ _)=>True|some (.ext _)=>True|_=>False
section
variable{P:d_}{w:fb}{H:Hp}{h h':fk}{x e:df}{o':HO}
theorem oF.write(ok:oF P w H h)(f:Xg (H x))(he:e=x\/H e=aB (.own x))(k:∀b u,b≠e->h.get? b=aB u->h'.get? b=aB u)(j:∃u,h'.get? e=aB u)(l:cJ P w (upd H x o') h' x o'):oF P w (upd H x o') h':=λb u q=>by
 have n:∀c y,H c=aB (.own y)->c≠x:=λc y r z=>by subst z;rw[r]at f;exact f
 have m:∀c xs,H c=aB (.tup xs)->c≠x:=λc xs r z=>by subst z;rw[r]at f;exact f
 by_cases g:b=x;.subst g;rw[aW]at q;cases q;exact l
 . rw[aL g]at q;by_cases a:b=e
   . have o:H b=aB (.own x):=by
      rcases he with z|z;.exact absurd (a.trans z) g
      .rw[a];exact z
     rw[q]at o;cases o;obtain⟨v,hv⟩:=j;exact⟨v,by rw[a];exact hv⟩
   . refine(ok b u q).stay (λc v hc r=>k c v ?_ r) (λc r=>by rw[aL (n c b r)];exact r) λc xs r=>by rw[aL (m c xs r)];exact r
     rcases hc with rfl|hc;.exact a
     . rintro rfl;rcases he with z|z;.exact n c b hc z
       .rw[hc]at z;cases z;exact g rfl
end
structure Un(fs ex:List df)(H H':Hp)(h h':fk):Prop where
 keep:∀b o,h.get? b=aB o->H b=b_->b∉fs->b∉ex->h'.get? b=aB o
 slot:∀b o,h.get? b=aB o->H b=b_->b∈fs->b∉ex->∃sl,h'.get? b=aB {o with slots:=sl}free:∀b o,h.get? b=aB o->H b=b_->b∉ex->H' b=b_
 there:∀b o,h.get? b=aB o->b∉ex->∃o',h'.get? b=aB o'
 tups:∀b xs,H b=aB (.tup xs)->H' b=aB (.tup xs)wj:∀b o u,H b=aB (.fO o u)->H' b=aB (.fO o u)yx:∀b ps,H b=aB (.Uw ps)->∃more,H' b=aB (.Uw (ps++more))
section
variable{fs fs' ex ex':List df}{H H1 H2:Hp}{h h1 h2 h':fk}{a x e:df}{o:HO}
theorem Un.any(u:Un fs ex H H1 h h1){b:df}{c:Obj}(q:h.get? b=aB c)(n:H b=b_)(f:b∉ex):∃j,h1.get? b=aB {c with slots:=j}:=by
 by_cases g:b∈fs;.exact u.slot b c q n g f
 .exact⟨c.slots,u.keep b c q n g f⟩
theorem Un.kept(k:∀b u,h.get? b=aB u->h'.get? b=aB u):Un fs ex H H h h':=⟨λb c q _ _ _=>k b c q,λb c q _ _ _=>⟨c.slots,k b c q⟩,λ_ _ _ n _=>n,λb c q _=>⟨c,k b c q⟩,λ_ _ q=>q,λ_ _ _ q=>q,λ_ ps q=>⟨#[],by rw[q];simp⟩⟩
theorem Un.refl:Un fs ex H H h h:=Un.kept λ_ _ q=>q
theorem Un.laid(k:∀b u,h.get? b=aB u->h'.get? b=aB u)(c:h.objs.size<=a)(hn:H a=b_):Un fs ex H (upd H a o) h h' where
 keep:=λb u q _ _ _=>k b u q;slot:=λb u q _ _ _=>⟨u.slots,k b u q⟩;free:=λb u q n _=>by rw[aL (eH (eI (ej q) c))];exact n
 there:=λb u q _=>⟨u,k b u q⟩;tups:=λb xs q=>by rw[aL (iK q hn)];exact q
 wj:=λb u xs q=>by rw[aL (iK q hn)];exact q
 yx:=λb ps q=>⟨#[],by rw[aL (iK q hn),q];simp⟩
theorem Un.write(f:Xg (H x))(he:e=x\/H e=aB (.own x))(k:∀b u,b≠e->h.get? b=aB u->h'.get? b=aB u)(g:∃u,h'.get? e=aB u):Un fs ex H (upd H x o) h h':=by
 have l:∀b,H b=b_->b≠x:=λb n z=>by subst z;rw[n]at f;exact f
 have m:∀b,H b=b_->b≠e:=λb n z=>by
  subst z;rcases he with r|r;.exact l b n r
  .rw[n]at r;cases r
 have j:∀b u,H b=aB u->¬ Xg (aB u)->b≠x:=λb u q p z=>by subst z;rw[q]at f;exact p f
 refine⟨λb u q n _ _=>k b u (m b n) q,λb u q n _ _=>⟨u.slots,k b u (m b n) q⟩,λb u q n _=>by rw[aL (l b n)];exact n,λb u q _=>?_,λb xs q=>by rw[aL (j b _ q λz=>z)];exact q,λb u xs q=>by rw[aL (j b _ q λz=>z)];exact q,λb ps q=>⟨#[],by rw[aL (j b _ q λz=>z),q];simp⟩⟩;by_cases c:b=e;.subst c;exact g
 .exact⟨u,k b u c q⟩
end
noncomputable def trk(h:fk)(H:Hp):List df:=(dV h.objs.size).filter λa=>(H a).isSome
noncomputable def vG(h:fk)(H:Hp):fk:=PySem.W.hideAll h (trk h H)
theorem DN(h:fk)(H:Hp):(vG h H).objs.size=h.objs.size:=PySem.W.hideAll_size _ _
theorem Ii{b:df}{o:Obj}(e:h.get? b=aB o)(n:H b=b_):(vG h H).get? b=aB o:=PySem.W.hideAll_get _ e λa=>by have q:(H b).isSome=ck:=(List.mem_filter.mp a).2;rw[n]at q;simp at q
theorem K5{b:df}{o:Obj}(e:(vG h H).get? b=aB o):h.get? b=aB o/\H b=b_:=by have a:h.get? b=aB o:=PySem.W.of_hideAll (trk h H) e;refine⟨a,?_⟩;cases q:H b with|none=>rfl|some x=>have c:b∈trk h H:=List.mem_filter.mpr ⟨iN.mpr (ej a),by simp[q]⟩;have z:(vG h H).get? b=b_:=PySem.W.hideAll_none (trk h H) c;rw[z]at e;cases e
structure Mod(K:PySem.W.Frag)(mg:Str->Option c_)(base:fk):Prop where
 kin:K.In base
 glob:base.Ns en mg
 blt:∃mb,base.Ns builtinsNs mb/\∀x:Str,x≠"__name__"->mb x=fw x
 nolimit:base.NoLimit
structure Cx where
 prog:d_
 w:fb
 K:PySem.W.Frag
 mg:Str->Option c_
 base:fk
 A:e_
 N:List Str
 s₀:dc
 H₀:Hp
 env:Env
 outer:List Env
 stack:List Env
 ex:List df
 fn:Str->Bool
 calm:Bool
 pn:List (df×Obj)xe:c_->dc->Prop
variable{X:Cx}
noncomputable def frs(l:List Env):List df:=l.filterMap (·.frame)
noncomputable abbrev Cx.fs(X:Cx):List df:=frs X.outer
noncomputable def u0(a:kB)(x:Str):Prop:=a.names.lookup x=aB .local\/a.names.lookup x=aB .cell\/a.names.lookup x=aB .free
noncomputable def Loc(a:kB)(x:Str):Prop:=a.names.lookup x=aB .local\/a.names.lookup x=aB .cell
noncomputable def Look(env:Env)(h:fk)(m:Str->Option c_)(x:Str)(u:c_):Prop:=(env.kindOf x=aB .local/\m x=aB u)\/((env.kindOf x=aB .cell\/env.kindOf x=aB .free)/\∃c,env.cells.lookup x=aB c/\h.IsCell c (aB u))
structure Cx.Ok(X:Cx):Prop where
 mod:Mod X.K X.mg X.base
 kind:X.env.scope.kind=.function
 glob:X.env.globals=en
 blt:X.env.builtins=builtinsNs
 above:X.s₀.heap.objs.size<=X.env.locals
 inj:∀x y c,X.env.cells.lookup x=aB c->X.env.cells.lookup y=aB c->x=y
 has:∀x,(X.env.kindOf x=aB .cell\/X.env.kindOf x=aB .free)->∃c,X.env.cells.lookup x=aB c
 cab:∀x c,X.fn x=ck->X.env.cells.lookup x=aB c->X.s₀.heap.objs.size<=c
 hd:X.calm=ck->X.A.handled=b_
 frames:X.A.frames=aB X.stack
 stk:X.stack=X.outer\/(X.stack=X.env::X.outer/\X.env.frame=aB X.env.locals)exf:∀b∈X.ex,b≠X.env.locals/\∀x c,X.env.cells.lookup x=aB c->c≠b
 bs:∀b o,X.base.get? b=aB o->X.s₀.heap.get? b=aB o/\X.H₀ b=b_
 Qp:X.base.objs.size<=X.s₀.heap.objs.size
 J9:∀b o,X.base.get? b=aB o->b∉X.ex
 Oi:∀b∈X.ex,b∉X.fs
 qX:X.s₀.heap.FunFrames X.base X.outer
 Wj:∀b∈X.fs,X.H₀ b=b_
structure Inv(X:Cx)(pins:List (df×Obj))(σ:List (Option V))(H:Hp)(s:dc):Prop where
 ok:X.Ok
 os:s.os=X.s₀.os
 bare:ma s.gens
 base:Un X.fs X.ex X.H₀ H X.s₀.heap s.heap
 loc:∃m,s.heap.Ns X.env.locals m/\∀(i:Nat)(x:Str)(v:V),X.N[i]?=aB x->σ[i]?=aB (aB v)->u0 X.env.scope x->∃u,RelV v u/\Look X.env s.heap m x u
 cell:∀x c,X.env.cells.lookup x=aB c->∃v,s.heap.IsCell c v
 free:H X.env.locals=b_
 mj:∀x c,X.env.cells.lookup x=aB c->H c=b_
 pin:∀p∈X.pn++pins,s.heap.get? p.1=aB p.2/\H p.1=b_/\p.1≠X.env.locals/\p.1∉X.fs/\∀v,p.2.data≠.cell v
 hok:oF X.prog X.w H s.heap
 len:σ.length=X.N.length
section
variable{X:Cx}{pins:List (df×Obj)}{σ:List (Option V)}{H H':Hp}{s:dc}{h':fk}
theorem Cx.Ok.adm(ok:X.Ok){b:df}{o:Obj}(e:X.base.get? b=aB o):b∉X.fs:=λa=>by have:=(ok.qX.mem a).1;rw[e]at this;cases this
theorem Inv.bs(I:Inv X pins σ H s):∀b o,X.base.get? b=aB o->s.heap.get? b=aB o/\H b=b_:=λb o e=>⟨I.base.keep b o (I.ok.bs b o e).1 (I.ok.bs b o e).2 (I.ok.adm e) (I.ok.J9 b o e),I.base.free b o (I.ok.bs b o e).1 (I.ok.bs b o e).2 (I.ok.J9 b o e)⟩
theorem Inv.bk(I:Inv X pins σ H s):∀b o,X.base.get? b=aB o->s.heap.get? b=aB o:=λb o e=>(I.bs b o e).1
theorem Inv.mod(I:Inv X pins σ H s):Mod X.K X.mg X.base:=I.ok.mod
theorem Inv.Tg(I:Inv X pins σ H s):X.K.In s.heap:=I.ok.mod.kin.keeps I.bk
theorem Inv.lt(I:Inv X pins σ H s):X.env.locals<s.heap.objs.size:=let⟨_,hn,_⟩:=I.loc;hn.lt
theorem Inv.sz(I:Inv X pins σ H s):X.s₀.heap.objs.size<=s.heap.objs.size:=ja I.ok.above (m4 I.lt)
theorem Inv.ad1(I:Inv X pins σ H s){a:df}(h:s.heap.objs.size<=a):a∉X.fs:=λb=>by obtain⟨_,o,ho,_⟩:=I.ok.qX.mem b;exact absurd (eI (ej ho) (ja I.sz h)) (jO _)
theorem Inv.Up(I:Inv X pins σ H s):∀x c,X.env.cells.lookup x=aB c->c≠X.env.locals:=λx c e z=>by obtain⟨v,o,ho,hd⟩:=I.cell x c e;obtain⟨m,⟨f,es,ep,a,b,_⟩,_⟩:=I.loc;rw[z,a]at ho;cases ho;rw[b]at hd;cases hd
theorem Inv.qX(I:Inv X pins σ H s):s.heap.FunFrames X.base X.outer:=by
 have all:∀(l:List Env),(∀b∈frs l,b∈X.fs)->X.s₀.heap.FunFrames X.base l->s.heap.FunFrames X.base l:=by intro l;induction l with|nil=>intro _ _;trivial|cons env r g=>intro hs j;obtain⟨m,⟨L,o,a,hn,ho,hd⟩,hr⟩:=j;have c:L∈X.fs:=hs L (by unfold frs;rw[i5,a];exact iO);obtain⟨n,e⟩:=I.base.slot L o ho (I.ok.Wj L c) c λz=>I.ok.Oi L z c;exact⟨m,⟨L,_,a,hn,e,hd⟩,g (λb f=>hs b (by unfold frs;rw[i5,a];exact fv _ f)) hr⟩
 exact all X.outer (λ_ f=>f) I.ok.qX
theorem Inv.stack(I:Inv X pins σ H s):s.heap.FunFrames X.base X.stack:=by
 rcases I.ok.stk with e|⟨e,a⟩;.rw[e];exact I.qX
 .rw[e];obtain⟨m,hn,_⟩:=I.loc;refine .cons (by rw[I.ok.kind];decide) a hn ?_ I.qX;exact Heap.get?_none_of_le (ja I.ok.Qp I.ok.above)
theorem Inv.uU(I:Inv X pins σ H s):∀b∈frs X.stack,b∈X.env.locals::X.fs:=λb a=>by
 rcases I.ok.stk with e|⟨e,c⟩;.rw[e]at a;exact fv _ a
 .rw[e]at a;unfold frs at a;rw[i5,c]at a;exact a
theorem Inv.By(I:Inv X pins σ H s):∀b∈frs X.stack,H b=b_:=λb hb=>by
 rcases et.mp (I.uU b hb)with e|hb;.rw[e];exact I.free
 .obtain⟨_,o,ho,_⟩:=I.ok.qX.mem hb;exact I.base.free b o ho (I.ok.Wj b hb) λz=>I.ok.Oi b z hb
theorem Inv.step{g':Array GenState}{d':Drawn}{ch:List df}(I:Inv X pins σ H s)(f:∀b∈ch,(b∈X.ex\/X.s₀.heap.objs.size<=b)/\b≠X.env.locals/\(∀x c,X.env.cells.lookup x=aB c->c≠b)/\∀p∈X.pn++pins,p.1≠b)(keep:∀b o,b≠X.env.locals->b∉X.fs->b∉ch->s.heap.get? b=aB o->H b=b_->h'.get? b=aB o)(slot:∀b o,b≠X.env.locals->b∈X.fs->b∉ch->s.heap.get? b=aB o->H b=b_->∃G,h'.get? b=aB {o with slots:=G})(free:∀b o,b∉ch->s.heap.get? b=aB o->H b=b_->H' b=b_)(there:∀b o,b∉ch->s.heap.get? b=aB o->∃B,h'.get? b=aB B)(tups:∀b xs,H b=aB (.tup xs)->H' b=aB (.tup xs))(wj:∀b o u,H b=aB (.fO o u)->H' b=aB (.fO o u))(yx:∀b ps,H b=aB (.Uw ps)->∃more,H' b=aB (.Uw (ps++more)))(ns:∀m,s.heap.Ns X.env.locals m->h'.Ns X.env.locals m)(hok:oF X.prog X.w H' h')(O:ma g'):Inv X pins σ H' {s with heap:=h',gens:=g',drawn:=d',toks:=t'}:=by
 have C:∀b o,X.s₀.heap.get? b=aB o->b≠X.env.locals:=λb o e=>eH (eI (ej e) I.ok.above);have j:∀b o,X.s₀.heap.get? b=aB o->b∉X.ex->b∉ch:=λb o e a y=>by
  rcases(f b y).1 with z|z;.exact a z
  .exact absurd (eI (ej e) z) (jO _)
 have g:∀x c,X.env.cells.lookup x=aB c->∀v,s.heap.IsCell c v->h'.IsCell c v:=λx c e v⟨o,ho,hd⟩=>by
  have E:c∉ch:=λz=>(f c z).2.2.1 x c e rfl;by_cases hc:c∈X.fs;.obtain⟨G,q⟩:=slot c o (I.Up x c e) hc E ho (I.mj x c e);exact⟨_,q,hd⟩
  .exact⟨o,keep c o (I.Up x c e) hc E ho (I.mj x c e),hd⟩
 refine⟨I.ok,I.os,O,⟨λb o e n y a=>?_,λb o e n y a=>?_,λb o e n a=>?_,λb o e a=>?_,λb xs e=>tups b xs (I.base.tups b xs e),λb o xs e=>wj b o xs (I.base.wj b o xs e),λb ps e=>?_⟩,?_,λx c e=>?_,?_,λx c e=>?_,λp L=>?_,hok,I.len⟩;.exact keep b o (C b o e) y (j b o e a) (I.base.keep b o e n y a) (I.base.free b o e n a)
 .obtain⟨G,t⟩:=I.base.slot b o e n y a;obtain⟨J,F⟩:=slot b _ (C b o e) y (j b o e a) t (I.base.free b o e n a);exact⟨J,F⟩
 .obtain⟨B,t⟩:=I.base.there b o e a;exact free b B (j b o e a) t (I.base.free b o e n a)
 .obtain⟨B,t⟩:=I.base.there b o e a;exact there b B (j b o e a) t
 .obtain⟨m1,t⟩:=I.base.yx b ps e;obtain⟨Q,F⟩:=yx b _ t;exact⟨m1++Q,by rw[F,Array.append_assoc]⟩
 . obtain⟨m,hn,U⟩:=I.loc;refine⟨m,ns m hn,λi x v t F W=>?_⟩;obtain⟨u,r,l⟩:=U i x v t F W;refine⟨u,r,?_⟩;rcases l with l|⟨k,c,e,z⟩;.exact .inl l
   .exact .inr ⟨k,c,e,g x c e _ z⟩
 .obtain⟨v,z⟩:=I.cell x c e;exact⟨v,g x c e v z⟩
 .obtain⟨m,⟨o,_,_,ho,_⟩,_⟩:=I.loc;exact free _ o (λz=>(f _ z).2.1 rfl) ho I.free
 .obtain⟨v,o,ho,hd⟩:=I.cell x c e;exact free c o (λz=>(f c z).2.2.1 x c e rfl) ho (I.mj x c e)
 .obtain⟨e,n,ne,N,d⟩:=I.pin p L;have E:p.1∉ch:=λz=>(f p.1 z).2.2.2 p L rfl;exact⟨keep p.1 p.2 ne N E e n,free p.1 p.2 E e n,ne,N,d⟩
theorem Inv.un(I:Inv X pins σ H s)(u:Un X.fs [] H H' s.heap h')(hok:oF X.prog X.w H' h'):Inv X pins σ H' {s with heap:=h',toks:=t'}:=by obtain⟨m,⟨o,es,ep,ho,r⟩,_⟩:=id I.loc;obtain⟨q,j⟩:=u.any ho I.free (by simp);exact I.step (g':=s.gens) (d':=s.drawn) (ch:=[]) (λ_ z=>nomatch z) (λb o _ c _ e n=>u.keep b o e n c (by simp)) (λb o _ c _ e n=>u.slot b o e n c (by simp)) (λb o _ e n=>u.free b o e n (by simp)) (λb o _ e=>u.there b o e (by simp)) u.tups u.wj u.yx (λt l=>by obtain⟨v,f,g,a,p⟩:=l;rw[ho]at a;cases a;exact⟨_,f,g,j,p⟩) hok I.bare
theorem Inv.call{g':Array GenState}{d':Drawn}{ch:List df}(I:Inv X pins σ H s)(u:Un (frs X.stack) ch H H' s.heap h')(hok:oF X.prog X.w H' h')(q:ma g')(a:∀b∈ch,(b∈X.ex\/X.s₀.heap.objs.size<=b)/\b≠X.env.locals/\(∀x c,X.env.cells.lookup x=aB c->c≠b)/\∀p∈X.pn++pins,p.1≠b):Inv X pins σ H' {s with heap:=h',gens:=g',drawn:=d',toks:=t'}:=by obtain⟨m,⟨o,es,ep,ho,r⟩,_⟩:=id I.loc;obtain⟨B,g⟩:=u.any ho I.free λz=>(a _ z).2.1 rfl;exact I.step (ch:=ch) a (λb o g t hc e n=>u.keep b o e n (λz=>(et.mp (I.uU b z)).elim g t) hc) (λb o _ _ hc e n=>u.any e n hc) (λb o hc e n=>u.free b o e n hc) (λb o hc e=>u.there b o e hc) u.tups u.wj u.yx (λC v=>by obtain⟨E,j,l,f,y⟩:=v;rw[ho]at f;cases f;exact⟨_,j,l,g,y⟩) hok q
theorem Inv.turned{it:df}(I:Inv X pins σ H s)(k:∀b o,b≠it->s.heap.get? b=aB o->h'.get? b=aB o)(hn:H it=b_)(f:it≠X.env.locals)(h1:it∈X.ex\/X.s₀.heap.objs.size<=it)(g:∀x c,X.env.cells.lookup x=aB c->c≠it)(j:∀p∈X.pn++pins,p.1≠it):Inv X pins σ H {s with heap:=h',toks:=t'}:=by
 have a:∀b u,H b=aB u->b≠it:=λb u e z=>by rw[z,hn]at e;cases e
 refine I.step (g':=s.gens) (d':=s.drawn) (ch:=[it]) (λb l=>?_) (λb o _ _ hc e _=>k b o (λz=>hc (by simp[z])) e) (λb o _ _ hc e _=>⟨o.slots,k b o (λz=>hc (by simp[z])) e⟩) (λ_ _ _ _ n=>n) (λb o hc e=>⟨o,k b o (λz=>hc (by simp[z])) e⟩) (λ_ _ e=>e) (λ_ _ _ e=>e) (λb ps e=>⟨#[],by rw[e];simp⟩) (λm t=>?_) (λb u e=>?_) I.bare
 . have e:b=it:=by simpa using l
   subst e;exact⟨h1,f,g,j⟩
 .obtain⟨o,es,ep,ho,r⟩:=t;exact⟨o,es,ep,k _ o (iE f) ho,r⟩
 . refine(I.hok b u e).stay (λc v hc q=>k c v ?_ q) (λ_ q=>q) λ_ _ q=>q;rcases hc with z|z;.rw[z];exact a b u e
   .exact a c _ z
theorem Inv.tok(I:Inv X pins σ H s)(t:Nat):Inv X pins σ H {s with toks:=t}:=I.un (h':=s.heap) (t':=t) Un.refl I.hok
theorem Inv.kept{t':Nat}(I:Inv X pins σ H s)(k:∀b u,s.heap.get? b=aB u->h'.get? b=aB u):Inv X pins σ H {s with heap:=h',toks:=t'}:=I.un (Un.kept k) (I.hok.kept k)
theorem Inv.laid{a:df}{o:HO}{t':Nat}(I:Inv X pins σ H s)(k:∀b u,s.heap.get? b=aB u->h'.get? b=aB u)(c:s.heap.objs.size<=a)(e:cJ X.prog X.w (upd H a o) h' a o):Inv X pins σ (upd H a o) {s with heap:=h',toks:=t'}:=I.un (Un.laid k c (I.hok.fresh c)) (I.hok.laid k c e)
theorem Inv.write{x e:df}{o:HO}{t':Nat}(I:Inv X pins σ H s)(f:Xg (H x))(he:e=x\/H e=aB (.own x))(k:∀b u,b≠e->s.heap.get? b=aB u->h'.get? b=aB u)(a:∃u,h'.get? e=aB u)(c:cJ X.prog X.w (upd H x o) h' x o):Inv X pins σ (upd H x o) {s with heap:=h',toks:=t'}:=I.un (Un.write f he k a) (I.hok.write f he k a c)
theorem Inv.BZ{a:List (df×Obj)}(I:Inv X pins σ H s)(h:∀p∈a,s.heap.get? p.1=aB p.2/\H p.1=b_/\p.1≠X.env.locals/\p.1∉X.fs/\∀v,p.2.data≠.cell v):Inv X a σ H s:=⟨I.ok,I.os,I.bare,I.base,I.loc,I.cell,I.free,I.mj,λp b=>(fq.mp b).elim (λz=>I.pin p (pc _ z)) (h p),I.hok,I.len⟩
theorem wZ{N:List Str}(c:N.Nodup){j:Nat}{x:Str}(a:N[i]?=aB x)(b:N[j]?=aB x):i=j:=by obtain⟨h1,e⟩:=fZ a;obtain⟨g,f⟩:=fZ b;exact(List.getElem_inj c).mp (e.trans f.symm)
theorem ue{E:c_->dc->Prop}{x:Str}{v:V}{u:c_}{Q:Unit->dc->Prop}(I:Inv X pins σ H s)(hN:X.N.Nodup)(hi:X.N[i]?=aB x)(l:Loc X.env.scope x)(r:RelV v u)(h:∀s',Inv X pins (σ.set i (aB v)) H s'->(∃a,n9 a s.heap s'.heap/\(a=X.env.locals\/X.env.cells.lookup x=aB a))->Q () s')(hf:X.fn x=ck\/X.env.scope.names.lookup x=aB .local:=by first|(left;rfl)|(right;rfl)|assumption):dL M A (storeName X.env x u) Q E s:=by
 obtain⟨m,hn,hl⟩:=id I.loc;have L:(X.env.scope.kind==.class||(X.env.scope.kind==.module&&X.env.locals !=X.env.globals))=a_:=by rw[I.ok.kind];rfl
 have C:i<σ.length:=by rw[I.len];exact(fZ hi).1
 have Up:=I.Up;have f:∀{a:df}{h':fk},(∃o,s.heap.get? a=aB o/\H a=b_)->n9 a s.heap h'->oF X.prog X.w H h':=λ{a h'}ha hs b ob e=>by
  obtain⟨_,_,t⟩:=ha;refine(I.hok b ob e).stay (λc Y hc q=>(hs.2 c ?_).trans q) (λ_ q=>q) λ_ _ q=>q;rintro rfl;rcases hc with rfl|hc;.rw[t]at e;cases e
  .rw[t]at hc;cases hc
 rcases l with hk|hk
 . refine wpAny_storeName_local hk hn (λh' ab hs=>?_) L;obtain⟨oL,_,_,ac,_⟩:=id hn;refine h _ ⟨I.ok,I.os,I.bare,⟨λb o e n F l=>?_,λb o e n F l=>?_,I.base.free,λb o e l=>?_,I.base.tups,I.base.wj,I.base.yx⟩,⟨_,ab,λj y v' g B e3=>?_⟩,λy c e=>?_,I.free,I.mj,λp hp=>?_,f ⟨oL,ac,I.free⟩ hs,by simpa using I.len⟩ ⟨_,hs,.inl rfl⟩;.exact(hs.2 b (eH (eI (ej e) I.ok.above))).trans (I.base.keep b o e n F l)
   .obtain⟨sl,g⟩:=I.base.slot b o e n F l;exact⟨sl,(hs.2 b (eH (eI (ej e) I.ok.above))).trans g⟩
   .obtain⟨o',g⟩:=I.base.there b o e l;exact⟨o',(hs.2 b (eH (eI (ej e) I.ok.above))).trans g⟩
   . by_cases G:j=i;.subst G;rw[hi]at g;cases g;rw[dr C]at B;cases B;exact⟨u,r,.inl ⟨hk,by simp⟩⟩
     . rw[iZ G]at B;obtain⟨u',r',q⟩:=hl j y v' g B e3;refine⟨u',r',?_⟩;rcases q with⟨k,e⟩|⟨k,c,e,z⟩;.refine .inl ⟨k,?_⟩;have:y≠x:=λe=>G (wZ hN g (e▸hi));simp[this,e]
       .exact .inr ⟨k,c,e,z.sameBut hs (Up y c e)⟩
   .obtain⟨Y,z⟩:=I.cell y c e;exact⟨Y,z.sameBut hs (Up y c e)⟩
   .obtain⟨e,n,ne,nf,d⟩:=I.pin p hp;exact⟨(hs.2 p.1 ne).trans e,n,ne,nf,d⟩
 . have J:X.fn x=ck:=by
    rcases hf with z|z;.exact z
    .rw[z]at hk;cases hk
   obtain⟨c,hc⟩:=I.ok.has x (.inl hk);obtain⟨Y,z⟩:=I.cell x c hc;refine wpAny_storeName_cell I.ok.kind hk hc z (λh' O hs=>?_);obtain⟨oc,U,ae⟩:=id z;refine h {s with heap:=h'} ⟨I.ok,I.os,I.bare,⟨λb o e n F l=>?_,λb o e n F l=>?_,I.base.free,λb o e l=>?_,I.base.tups,I.base.wj,I.base.yx⟩,⟨m,hn.sameBut hs (iE (Up x c hc)),λj y v' g B e3=>?_⟩,λy Z e=>?_,I.free,I.mj,λp hp=>?_,f ⟨oc,U,I.mj x c hc⟩ hs,by simpa using I.len⟩ ⟨c,hs,.inr hc⟩;.exact(hs.2 b (eH (eI (ej e) (I.ok.cab x c J hc)))).trans (I.base.keep b o e n F l)
   .obtain⟨sl,g⟩:=I.base.slot b o e n F l;exact⟨sl,(hs.2 b (eH (eI (ej e) (I.ok.cab x c J hc)))).trans g⟩
   .obtain⟨o',g⟩:=I.base.there b o e l;exact⟨o',(hs.2 b (eH (eI (ej e) (I.ok.cab x c J hc)))).trans g⟩
   . by_cases G:j=i;.subst G;rw[hi]at g;cases g;rw[dr C]at B;cases B;exact⟨u,r,.inr ⟨.inl hk,c,hc,O⟩⟩
     . rw[iZ G]at B;obtain⟨u',r',q⟩:=hl j y v' g B e3;refine⟨u',r',?_⟩;rcases q with q|⟨k,Z,e,z'⟩;.exact .inl q
       .refine .inr ⟨k,Z,e,z'.sameBut hs ?_⟩;rintro rfl;exact G (wZ hN g (I.ok.inj _ _ _ e hc▸hi))
   . by_cases W:Z=c;.subst W;exact⟨_,O⟩
     .obtain⟨w2,z2⟩:=I.cell y Z e;exact⟨w2,z2.sameBut hs W⟩
   .obtain⟨e,n,ne,nf,d⟩:=I.pin p hp;refine⟨(hs.2 p.1 ?_).trans e,n,ne,nf,d⟩;intro q;rw[q,U]at e;have q':oc=p.2:=fJ e;exact d Y (by rw[<-q'];exact ae)
theorem qz{E:c_->dc->Prop}{x:Str}{v:V}{u:c_}{Q:Unit->dc->Prop}(I:Inv X pins σ H s)(b:X.N.Nodup)(hi:X.N[i]?=aB x)(c:Loc X.env.scope x)(r:RelV v u)(h:∀a,Inv X pins (σ.set i (aB v)) H a->Q () a)(e:X.fn x=ck\/X.env.scope.names.lookup x=aB .local:=by first|(left;rfl)|(right;rfl)|assumption):dL M A (storeName X.env x u) Q E s:=ue I b hi c r (λa f _=>h a f) e
end
noncomputable abbrev XK:=c_->Option df->Hp->Prop
noncomputable abbrev St:=List (Option V)
noncomputable abbrev VK:=V->Hp->Prop
noncomputable abbrev TE:=St->Hp->VK->Prop
noncomputable abbrev TT:=St->Hp->(Bool->Hp->Prop)->Prop
noncomputable abbrev TA:=St->Hp->(List V->Hp->Prop)->Prop
structure Ends where
 nx:St->Hp->Prop
 rt:VK
 bk:St->Hp->Prop:=λ_ _=>False
 ct:St->Hp->Prop:=λ_ _=>False
noncomputable abbrev TS:=Ends->St->Hp->Prop
inductive EP(X:Cx)(pins:List (df×Obj))(σ:St)(Q:VK)(u:c_)(s':dc):Prop where|mk(v:V)(H':Hp)(q0:Inv X pins σ H' s')(q1:RelV v u)(q2:Q v H')
noncomputable def TP(X:Cx)(pins:List (df×Obj))(σ:St)(Q:Bool->Hp->Prop)(b:Bool)(c:dc):Prop:=∃a,Inv X pins σ a c/\Q b a
inductive AP(X:Cx)(pins:List (df×Obj))(σ:St)(Q:List V->Hp->Prop)(us:List c_)(s':dc):Prop where|mk(vs:List V)(H':Hp)(q0:Inv X pins σ H' s')(q1:Vals vs us)(q2:Q vs H')
noncomputable def SP(X:Cx)(pins:List (df×Obj))(D:Ends)(f:Flow)(c:dc):Prop:=match f with|.next=>∃a b,Inv X pins a b c/\D.nx a b|.brk=>∃a b,Inv X pins a b c/\D.bk a b|.cont=>∃a b,Inv X pins a b c/\D.ct a b|.ret u=>∃v a b,Inv X pins a b c/\RelV v u/\D.rt v b
noncomputable def PE(X:Cx)(e:ek)(t:TE):Prop:=∀(pins:List (df×Obj))(s:dc)(σ:St)(H:Hp)(Q:VK),Inv X pins σ H s->t σ H Q->dL (dS X.prog X.w) X.A (fg e X.env) (EP X pins σ Q) X.xe s
noncomputable def PT(X:Cx)(e:ek)(t:TT):Prop:=∀(pins:List (df×Obj))(s:dc)(σ:St)(H:Hp)(Q:Bool->Hp->Prop),Inv X pins σ H s->t σ H Q->dL (dS X.prog X.w) X.A (isTrue e X.env (fg e X.env)) (TP X pins σ Q) X.xe s
noncomputable def PW(X:Cx)(e:ek)(t:TT):Prop:=∀(whole:Sem c_)(pins:List (df×Obj))(s:dc)(σ:St)(H:Hp)(Q:Bool->Hp->Prop),Inv X pins σ H s->t σ H Q->dL (dS X.prog X.w) X.A (isTrue e X.env whole) (TP X pins σ Q) X.xe s
theorem PW.pt{e:ek}{t:TT}(h:PW X e t):PT X e t:=h _
noncomputable def PA(X:Cx)(es:List ek)(t:TA):Prop:=∀(pos:Pos)(pins:List (df×Obj))(s:dc)(σ:St)(H:Hp)(Q:List V->Hp->Prop),Inv X pins σ H s->t σ H Q->dL (dS X.prog X.w) X.A (spliced (ka pos (dy es X.env))) (AP X pins σ Q) X.xe s
noncomputable def PS(X:Cx)(st:fR)(t:TS):Prop:=∀(pins:List (df×Obj))(s:dc)(σ:St)(H:Hp)(D:Ends),Inv X pins σ H s->t D σ H->dL (dS X.prog X.w) X.A (exec st X.env) (SP X pins D) X.xe s
noncomputable def yR(X:Cx)(st:List fR)(t:TS):Prop:=∀(pins:List (df×Obj))(s:dc)(σ:St)(H:Hp)(D:Ends),Inv X pins σ H s->t D σ H->dL (dS X.prog X.w) X.A (execs st X.env) (SP X pins D) X.xe s
theorem dC{b:Type}{t:Sem b}{Q c:b->dc->Prop}{E:c_->dc->Prop}(h:dL M A t Q E s)(e:∀a s,Q a s->c a s):dL M A t c E s:=fe h e λ_ _ x=>x
section
variable{X:Cx}
theorem bin{a b:ek}{l m:TE}(o:PE X a l)(p:PE X b m){σ:St}{R:V->V->Hp->Prop}(I:Inv X pins σ H s)(h:l σ H λx j=>m σ j λy c=>R x y c){n:Type}{Q:n->dc->Prop}{f:c_->c_->Sem n}(q:∀v u s2 x y c,Inv X pins σ c s2->RelV x v->RelV y u->R x y c->dL (dS X.prog X.w) X.A (f v u) Q X.xe s2):dL (dS X.prog X.w) X.A (fg a X.env) (λv e=>dL (dS X.prog X.w) X.A (fg b X.env) (λu g=>dL (dS X.prog X.w) X.A (f v u) Q X.xe g) X.xe e) X.xe s:=by refine dC (o pins s σ H _ I h) λv s1⟨x,j,I1,r1,q1⟩=>?_;refine dC (p pins s1 σ j _ I1 q1) λu s2⟨y,c,I2,r2,q2⟩=>?_;exact q v u s2 x y c I2 r1 r2 q2
noncomputable def Fj(i:Nat):TE:=λσ H Q=>∃v,σ[i]?=aB (aB v)/\Q v H
noncomputable def tC(v:V):TE:=λ_ H Q=>Q v H
theorem fc{x:Str}(f:X.N[i]?=aB x)(hv:u0 X.env.scope x)(hd:(x==("__debug__":Str))=a_:=by decide)(b:(x==("__classdict__":Str))=a_:=by decide):PE X (.Name x pos) (Fj i):=by
 intro pins s σ H Q I h;obtain⟨v,e,h⟩:=h;obtain⟨m,hn,g⟩:=I.loc;obtain⟨u,r,l⟩:=g i x v f e hv;have fin:EP X pins σ Q u s:=⟨v,H,I,r,h⟩;rcases l with⟨hk,j⟩|⟨hk,c,hc,a⟩;.exact wpAny_Name (ra I.ok.kind hk hn j fin) hd
 . rcases hk with hk|hk;.exact wpAny_Name (rX I.ok.kind hk hc a fin) hd
   .exact wpAny_Name (wpAny_loadName_free I.ok.kind hk hc a fin b) hd
theorem HD{i j pos}:PE X (.Constant (.int i) j pos) (tC (.int i)):=λ_ _ _ H _ I h=>wpAny_Constant_int ⟨.int i,H,I.tok _,⟨_,rfl⟩,h⟩
theorem YT{b j pos}:PE X (.Constant (.bool b) j pos) (tC (.bl b)):=λ_ _ _ H _ I h=>Constant_bool ⟨.bl b,H,I,rfl,h⟩
theorem Uu{j pos}:PE X (.Constant .none j pos) (tC .non):=λ_ _ _ H _ I h=>Constant_none ⟨.non,H,I,rfl,h⟩
noncomputable def Gl(X:Cx)(x:Str):Prop:=X.env.kindOf x=aB .globalImplicit
theorem Mq{E:c_->dc->Prop}{σ:St}{x:Str}{u:c_}{Q:c_->dc->Prop}(I:Inv X pins σ H s)(a:Gl X x)(b:X.mg x=aB u)(h:Q u s)(hd:(x==("__debug__":Str))=a_:=by decide):dL (dS X.prog X.w) X.A (fg (.Name x pos) X.env) Q E s:=nl I.ok.kind a (Calls.loadGlobal_global (by rw[I.ok.glob];exact I.mod.glob.keeps I.bk) b h) hd
theorem j6{E:c_->dc->Prop}{σ:St}{x:Str}{u:c_}{Q:c_->dc->Prop}(I:Inv X pins σ H s)(a:Gl X x)(b:X.mg x=b_)(hv:fw x=aB u)(h:Q u s)(hn:x≠"__name__":=by decide)(hd:(x==("__debug__":Str))=a_:=by decide):dL (dS X.prog X.w) X.A (fg (.Name x pos) X.env) Q E s:=by obtain⟨e,h1,c⟩:=I.mod.blt;exact nl I.ok.kind a (Calls.loadGlobal_builtin (by rw[I.ok.glob];exact I.mod.glob.keeps I.bk) b (by rw[I.ok.blt];exact h1.keeps I.bk) ((c x hn).trans hv) h) hd
theorem LK{x:Str}{v:V}{u:c_}(a:Gl X x)(b:X.mg x=b_)(hv:fw x=aB u)(r:RelV v u)(hn:x≠"__name__":=by decide)(hd:(x==("__debug__":Str))=a_:=by decide):PE X (.Name x pos) (tC v):=λ_ _ _ H _ I h=>j6 I a b hv ⟨v,H,I,r,h⟩ hn hd
noncomputable def t2I(a b:TE)(k:Int->Int->Hp->Prop):St->Hp->Prop:=λσ H=>a σ H λx c=>b σ c λy e=>∃i j,x=.int i/\y=.int j/\k i j e
noncomputable def adn(a b:TE):TE:=λσ H Q=>t2I a b (λi j c=>Q (.int (i+j)) c) σ H
noncomputable def ad8(a b:TE):TE:=λσ H Q=>t2I a b (λi j c=>Q (.int (i-j)) c) σ H
variable{a b:ek}{ta tb:TE}{pos:Pos}
theorem Jt(c:PE X a ta)(e:PE X b tb):PE X (.BinOp a .Add b pos) (adn ta tb):=by intro pins s σ H Q I h;refine rc (bin c e I h λv u s2 x y f g l m q=>?_);obtain⟨i,j,rfl,rfl,q⟩:=q;obtain⟨t,rfl⟩:=l;obtain⟨t',rfl⟩:=m;exact add_int ⟨.int _,f,g.tok _,⟨_,rfl⟩,q⟩
theorem Uv(c:PE X a ta)(e:PE X b tb):PE X (.BinOp a .Sub b pos) (ad8 ta tb):=by intro pins s σ H Q I h;refine rc (bin c e I h λv u s2 x y f g l m q=>?_);obtain⟨i,j,rfl,rfl,q⟩:=q;obtain⟨t,rfl⟩:=l;obtain⟨t',rfl⟩:=m;exact sub_int ⟨.int _,f,g.tok _,⟨_,rfl⟩,q⟩
noncomputable def tB(t:TE):TT:=λσ H Q=>t σ H λx e=>∃c,x=.bl c/\Q c e
theorem Rx{e:ek}{t:TE}(h:PE X e t)(he:∀whole,isTrue e X.env whole=(do let v<-whole;mR e.pos;im [v] (truthy v)):=by intro _;rfl):PT X e (tB t):=by intro pins s σ H Q I c;refine isTrue_plain (dC (h pins s σ H _ I c) λv s1⟨x,H1,I1,r1,q1⟩=>?_) (he _);obtain⟨d,rfl,q⟩:=q1;cases r1;exact iX ⟨H1,I1,q⟩
variable{tA tB':TT}{rest:List ek}
noncomputable def aco(t u:TT):TT:=λσ H Q=>t σ H λc e=>if c=ck then u σ e Q else Q a_ e
noncomputable def tOr(t u:TT):TT:=λσ H Q=>t σ H λc e=>if c=ck then Q ck e else u σ e Q
noncomputable def adE(t:TT):TT:=λσ H Q=>t σ H λc e=>Q (!c) e
theorem KQ(f:PT X a tA):PW X (.BoolOp .And [a] pos) tA:=by intro g pins s σ H Q I h;refine isTrue_and (dC (f pins s σ H Q I h) λc s1 e=>?_);cases c with|true=>exact isTrue_and_nil e|false=>exact e
theorem Tq(f:PT X a tA):PW X (.BoolOp .Or [a] pos) tA:=by intro g pins s σ H Q I h;refine isTrue_or (dC (f pins s σ H Q I h) λc s1 e=>?_);cases c with|false=>exact isTrue_or_nil e|true=>exact e
theorem RV(f:PT X a tA)(g:PW X (.BoolOp .And (b::rest) pos) tB'):PW X (.BoolOp .And (a::b::rest) pos) (aco tA tB'):=by intro j pins s σ H Q I h;refine isTrue_and (dC (f pins s σ H _ I h) λc s1⟨e,I1,q1⟩=>?_);cases c with|true=>exact g j pins s1 σ e Q I1 q1|false=>exact⟨e,I1,q1⟩
theorem Xc(f:PT X a tA)(g:PW X (.BoolOp .Or (b::rest) pos) tB'):PW X (.BoolOp .Or (a::b::rest) pos) (tOr tA tB'):=by intro j pins s σ H Q I h;refine isTrue_or (dC (f pins s σ H _ I h) λc s1⟨e,I1,q1⟩=>?_);cases c with|true=>exact⟨e,I1,q1⟩|false=>exact g j pins s1 σ e Q I1 q1
theorem TV(e:PT X a tA):PT X (.UnaryOp .Not a pos) (adE tA):=by intro pins s σ H Q I h;exact isTrue_not (e pins s σ H (λc f=>Q (!c) f) I h)
noncomputable def Y5(ta tb:TE):TE:=λσ H Q=>ta σ H λx e=>∃c,x=.bl c/\if c=ck then tb σ e Q else Q (.bl a_) e
theorem S7{op}{t:TE}(h:PE X a t):PE X (.BoolOp op [a] pos) t:=λpins s σ H Q I c=>BoolOp_one (h pins s σ H Q I c)
theorem Uc(f:PE X a ta)(g:PE X (.BoolOp .And (b::rest) pos) tb):PE X (.BoolOp .And (a::b::rest) pos) (Y5 ta tb):=by intro pins s σ H Q I h;refine BoolOp_and (dC (f pins s σ H _ I h) λv s1⟨x,H1,I1,r1,e⟩=>?_);obtain⟨c,rfl,e⟩:=e;cases r1;refine iX ?_;cases c with|true=>exact g pins s1 σ H1 Q I1 e|false=>exact⟨.bl a_,H1,I1,rfl,e⟩
end
noncomputable def fL(K:PySem.W.Frag)(H:Hp)(a:df)(xs:List V):Prop:=Rd H a (.lst xs)\/∃(o:Obj)(b:Array c_)(n:Nat),K.lookup a=aB o/\o.cls=.type "list"/\o.dict=b_/\o.data=.seq b n/\b.size<=sizeLine/\Vals xs b.toList
noncomputable def jl(K:PySem.W.Frag)(H:Hp)(a:df)(xs:List V):Prop:=Rd H a (.tup xs)\/∃(o:Obj)(b:Array c_)(n:Nat),K.lookup a=aB o/\o.cls=.type "tuple"/\o.data=.seq b n/\b.size<=sizeLine/\Vals xs b.toList
noncomputable def ad3:c_->Option V|.none=>aB .non|.bool b=>aB (.bl b)|.int i _=>aB (.int i)|.str x _=>aB (.str x)|.bytes b _=>aB (.byt b)|.float b _=>aB (.flt b)|.ref a=>aB (.ref a)|.type n=>aB (.ty n)|_=>b_
theorem RelV.abs{x:V}{u:c_}(r:RelV x u):ad3 u=aB x:=by cases x with|non=>cases r;rfl|bl _=>cases r;rfl|int _=>obtain⟨t,rfl⟩:=r;rfl|str _=>obtain⟨t,rfl⟩:=r;rfl|byt _=>obtain⟨t,rfl⟩:=r;rfl|flt _=>obtain⟨t,rfl⟩:=r;rfl|ref _=>cases r;rfl|ty _=>cases r;rfl
theorem RelV.inj{x y:V}{u:c_}(r:RelV x u)(q:RelV y u):x=y:=fJ (r.abs.symm.trans q.abs)
theorem Vals.inj:∀{xs ys:List V}{us:List c_},Vals xs us->Vals ys us->xs=ys|_,_,_,.nil,.nil=>rfl|_,_,_,.cons r t,.cons a t'=>by rw[r.inj a,Vals.inj t t']
section
variable{X:Cx}{pins:List (df×Obj)}{σ:St}{H:Hp}{s:dc}{a:df}{xs ys:List V}
theorem fL.of(h:H a=aB (.lst xs)):fL K H a xs:=.inl (.inl h)
theorem jl.of(h:H a=aB (.tup xs)):jl K H a xs:=.inl (.inl h)
theorem Inv.list(I:Inv X pins σ H s)(h:fL X.K H a xs):∃b:List c_,Vals xs b/\PlainL s.heap a b.toArray/\xs.length<=sizeLine:=by
 rcases h with h|⟨o,b,n,c,hc,hd,hs,f,r⟩;.obtain⟨z,b,n,r,e⟩:=h.ok I.hok;exact⟨b,r,⟨_,n,e,rfl,rfl,rfl⟩,z⟩
 .refine⟨b.toList,r,⟨o,n,I.Tg a o c,hc,hd,by simpa using hs⟩,?_⟩;have e:=r.length;simp only[iP]at e;lia
theorem Inv.tuple(I:Inv X pins σ H s)(h:jl X.K H a xs):∃b:List c_,Vals xs b/\qc s.heap a b.toArray/\xs.length<=sizeLine:=by
 rcases h with h|⟨o,b,n,c,hc,hs,f,r⟩;.obtain⟨z,b,r,p⟩:=h.ok I.hok;exact⟨b,r,p,z⟩
 .refine⟨b.toList,r,⟨o,I.Tg a o c,hc,n,by simpa using hs⟩,?_⟩;have e:=r.length;simp only[iP]at e;lia
theorem Inv.nT(I:Inv X pins σ H s)(h:fL X.K H a xs)(h':fL X.K H a ys):xs=ys:=by
 obtain⟨b,r,⟨o,n,e,_,_,d⟩,_⟩:=I.list h;obtain⟨its',f,⟨g,j,c,_,_,d'⟩,_⟩:=I.list h';rw[e]at c;cases c;rw[d]at d';injection d' with d1 _;have:b=its':=by simpa using congrArg toList d1
 subst this;exact r.inj f
theorem Inv.lO(I:Inv X pins σ H s)(h:jl X.K H a xs)(h':jl X.K H a ys):xs=ys:=by
 obtain⟨b,r,⟨o,e,_,n,d⟩,_⟩:=I.tuple h;obtain⟨its',f,⟨g,c,_,j,d'⟩,_⟩:=I.tuple h';rw[e]at c;cases c;rw[d]at d';injection d' with d1 _;have:b=its':=by simpa using congrArg toList d1
 subst this;exact r.inj f
end
noncomputable abbrev Cx.wish(X:Cx)(E:c_->dc->Prop):Cx:={X with xe:=E}
noncomputable abbrev Cx.Xi(X:Cx):Cx:=X.wish λ_ _=>False
theorem Cx.Ok.wish{X:Cx}(ok:X.Ok)(E:c_->dc->Prop):(X.wish E).Ok:=⟨ok.mod,ok.kind,ok.glob,ok.blt,ok.above,ok.inj,ok.has,ok.cab,ok.hd,ok.frames,ok.stk,ok.exf,ok.bs,ok.Qp,ok.J9,ok.Oi,ok.qX,ok.Wj⟩
theorem Cx.Ok.lg{E:c_->dc->Prop}(ok:(X.wish E).Ok):X.Ok:=⟨ok.mod,ok.kind,ok.glob,ok.blt,ok.above,ok.inj,ok.has,ok.cab,ok.hd,ok.frames,ok.stk,ok.exf,ok.bs,ok.Qp,ok.J9,ok.Oi,ok.qX,ok.Wj⟩
section
variable{X:Cx}{pins:List (df×Obj)}{σ:St}{H:Hp}{s:dc}{E:c_->dc->Prop}
theorem Inv.wish(I:Inv X pins σ H s)(E:c_->dc->Prop):Inv (X.wish E) pins σ H s:=⟨I.ok.wish E,I.os,I.bare,I.base,I.loc,I.cell,I.free,I.mj,I.pin,I.hok,I.len⟩
theorem Inv.lg(I:Inv (X.wish E) pins σ H s):Inv X pins σ H s:=⟨I.ok.lg,I.os,I.bare,I.base,I.loc,I.cell,I.free,I.mj,I.pin,I.hok,I.len⟩
theorem SP.lg{D:Ends}{f:Flow}{c:dc}(h:SP (X.wish E) pins D f c):SP X pins D f c:=by cases f with|next=>obtain⟨a,b,I,q⟩:=h;exact⟨a,b,I.lg,q⟩|brk=>obtain⟨a,b,I,q⟩:=h;exact⟨a,b,I.lg,q⟩|cont=>obtain⟨a,b,I,q⟩:=h;exact⟨a,b,I.lg,q⟩|ret u=>obtain⟨v,a,b,I,r,q⟩:=h;exact⟨v,a,b,I.lg,r,q⟩
theorem yR.Xi{st:List fR}{t:TS}(h:yR X.Xi st t):yR X st t:=λpins s σ H D I a=>fe (h pins s σ H D (I.wish _) a) (λ_ _ q=>q.lg) λ_ _ z=>f_ z
end
section
variable{X:Cx}{st:fR}{rest:List fR}{t u:TS}{e:ek}{te:TE}{pos:Pos}
noncomputable def Qo:TS:=λD σ H=>D.nx σ H
noncomputable def Yh(t u:TS):TS:=λD σ H=>t {D with nx:=u D} σ H
theorem vY:yR X [] Qo:=λ_ _ σ H _ I h=>wpAny_execs_nil ⟨σ,H,I,h⟩
theorem jW(h1:PS X st t)(b:yR X rest u):yR X (st::rest) (Yh t u):=by intro pins s σ H D I h;refine wpAny_execs_cons (dC (h1 pins s σ H {D with nx:=u D} I h) λf s1 q=>?_);cases f with|next=>obtain⟨a,c,g,q⟩:=q;exact b pins s1 a c D g q|ret v=>exact q|brk=>exact q|cont=>exact q
noncomputable def Sg:TS:=λD σ H=>D.bk σ H
theorem Hz:PS X (.Break pos) Sg:=λ_ _ σ H _ I h=>wpAny_Break ⟨σ,H,I,h⟩
theorem Inv.quiet{σ:St}(I:Inv X pins σ H s):interactive X.env=a_:=by simp[interactive,I.ok.kind]
noncomputable def Xx(te:TE):TS:=λD σ H=>te σ H λ_ a=>D.nx σ a
theorem K1(he:PE X e te)(hs:iL e b_ pos.line X.env=fI a_:=by rfl):PS X (.Expr e pos) (Xx te):=by intro pins s σ H D I h;exact wpAny_Expr_any (dC (he pins s σ H _ I h) λv s1⟨x,H1,I1,r1,q1⟩=>⟨σ,H1,I1,q1⟩) I.quiet hs
noncomputable def acQ(te:TE):TS:=λD σ H=>te σ H D.rt
theorem JV(he:PE X e te):PS X (.Return (aB e) pos) (acQ te):=by intro pins s σ H D I h;exact wpAny_Return_some (dC (he pins s σ H _ I h) λv s1⟨x,H1,I1,r1,q1⟩=>⟨x,σ,H1,I1,r1,q1⟩)
noncomputable def abO(c:TT)(t u:TS):TS:=λD σ H=>c σ H λb a=>if b=ck then t D σ a else u D σ a
theorem Ym{c:ek}{a b:List fR}{f:TT}(hc:PT X c f)(j:yR X a t)(l:yR X b u):PS X (.If c a b pos) (abO f t u):=by intro pins s σ H D I h;refine wpAny_If (dC (hc pins s σ H _ I h) λd s1⟨g,I1,q1⟩=>?_);cases d with|true=>exact j pins s1 σ g D I1 q1|false=>exact l pins s1 σ g D I1 q1
end
noncomputable abbrev TG:=V->St->Hp->(St->Hp->Prop)->Prop
noncomputable abbrev Gg:=List V->St->Hp->(St->Hp->Prop)->Prop
noncomputable def PG(X:Cx)(a:ek)(t:TG):Prop:=∀(pins:List (df × Obj))(s:dc)(σ:St)(H:Hp)(v:V)(u:c_)(Q:St->Hp->Prop),Inv X pins σ H s->RelV v u->t v σ H Q->dL (dS X.prog X.w) X.A (i8 a X.env u) (λ_ e=>∃b c,Inv X pins b c e/\Q b c) X.xe s
noncomputable def PGs(X:Cx)(c:List ek)(t:Gg):Prop:=∀(pins:List (df × Obj))(s:dc)(σ:St)(H:Hp)(vs:List V)(us:List c_)(Q:St->Hp->Prop),Inv X pins σ H s->Vals vs us->t vs σ H Q->dL (dS X.prog X.w) X.A (assignInOrder ((ip c X.env).map (·.2)) us) (λ_ e=>∃a b,Inv X pins a b e/\Q a b) X.xe s
noncomputable abbrev Sw:=V->V->V->Hp->(Hp->Prop)->Prop
noncomputable def Wx(X:Cx)(t:Sw):Prop:=∀(pins:List (df × Obj))(s:dc)(σ:St)(H:Hp)(o i v:V)(a b u:c_)(Q:Hp->Prop),Inv X pins σ H s->RelV o a->RelV i b->RelV v u->t o i v H Q->dL (dS X.prog X.w) X.A (mS a b u) (λ_ e=>∃c,Inv X pins σ c e/\Q c) X.xe s
noncomputable abbrev TIp:=V->V->Hp->VK->Prop
noncomputable def PIp(X:Cx)(op:nk)(t:TIp):Prop:=∀(pins:List (df × Obj))(s:dc)(σ:St)(H:Hp)(x y:V)(v u:c_)(Q:VK),Inv X pins σ H s->RelV x v->RelV y u->t x y H Q->dL (dS X.prog X.w) X.A (inplaceOp op v u) (EP X pins σ Q) X.xe s
section
variable{X:Cx}{pos:Pos}
noncomputable def gj(i:Nat):TG:=λv σ H Q=>Q (σ.set i (aB v)) H
theorem ak{x:Str}(a:X.N.Nodup)(hi:X.N[i]?=aB x)(b:Loc X.env.scope x)(c:X.fn x=ck\/X.env.scope.names.lookup x=aB .local:=by first|(left;rfl)|(right;rfl)|assumption):PG X (.Name x pos) (gj i):=by intro pins s σ H v u Q I r h;exact wpAny_assign_Name (qz I a hi b r (λf e=>⟨_,H,e,h⟩) c)
noncomputable def Fg:Gg:=λvs σ H Q=>vs=[]/\Q σ H
noncomputable def lY(t:TG)(u:Gg):Gg:=λvs σ H Q=>∃v r,vs=v::r/\t v σ H λa b=>u r a b Q
theorem bG:PGs X [] Fg:=by intro pins s σ H vs us Q I r h;obtain⟨e,h⟩:=h;subst e;cases r;exact assignInOrder_nil ⟨σ,H,I,h⟩
theorem ao{e:ek}{es:List ek}{t:TG}{u:Gg}(h1:PG X e t)(b:PGs X es u)(hs:(ip (e::es) X.env).map (·.2)=i8 e X.env::(ip es X.env).map (·.2):=by rfl):PGs X (e::es) (lY t u):=by intro pins s σ H vs us Q I r h;obtain⟨v,g,c,h⟩:=h;subst c;cases r with|cons r f=>rw[hs];refine assignInOrder_cons (dC (h1 pins s σ H _ _ _ I r h) λ_ s1⟨a,H1,I1,q1⟩=>?_);exact b pins s1 a H1 _ _ Q I1 f q1
noncomputable def Fe(K:PySem.W.Frag)(n:Nat)(t:Gg):TG:=λv σ H Q=>∃a xs,v=.ref a/\jl K H a xs/\xs.length=n/\t xs σ H Q
theorem bY{es:List ek}{k:Nat}{t:Gg}{n:Nat}(hc:X.calm=ck)(h:PGs X es t)(hn:(ip es X.env).length=n:=by rfl)(c:(ip es X.env).findIdx? (·.1)=b_:=by rfl):PG X (.Tuple es k pos) (Fe X.K n t):=by intro pins s σ H v u Q I r f;obtain⟨a,xs,j,l,m,f⟩:=f;subst j;cases r;obtain⟨p,g,q,z⟩:=I.tuple l;refine assign_Tuple_tuple (I.ok.hd hc) q (by simp[hn,<-m,g.length]) c λh' x=>?_;have y:Inv X pins σ H {s with heap:=h'}:=I.kept (t':=s.toks) λb o e=>x b o (eH (ej e)) e;exact h pins _ σ H xs _ Q y (by simpa using g) f
noncomputable def aev(a b:TE)(t:Sw):TG:=λv σ H Q=>a σ H λo c=>b σ c λi e=>t o i v e λf=>Q σ f
theorem vm{o i:ek}{c e:TE}{t:Sw}(ho:PE X o c)(hi:PE X i e)(hs:Wx X t)(f:∀ v,i8 (.Subscript o i pos) X.env v=(do
  let a<-im [v] (fg o X.env)let b<-im [v,a] (fg i X.env)mR pos
  im [v,a,b] (mS a b v)qB [v,a,b] []):=by intro _;rfl):PG X (.Subscript o i pos) (aev c e t):=by intro pins s σ H v u Q I r h;rw[f];refine bx (hJ (dC (ho pins s σ H _ I h) λa s1⟨x,H1,I1,r1,q1⟩=>?_));refine bx (hJ (dC (hi pins s1 σ H1 _ I1 q1) λb s2⟨y,H2,I2,r2,q2⟩=>?_));refine bx (pp (bx (hJ (dC (hs pins s2 σ H2 x y v a b u _ I2 r1 r2 r q2) λ_ s3⟨g,I3,q3⟩=>?_))));exact wpAny_release ⟨σ,g,I3,q3⟩
noncomputable def Nq(te:TE)(g:TG):TS:=λD σ H=>te σ H λx a=>g x σ a D.nx
theorem sI{e:ek}{te:TE}{g:TG}(he:PE X e te)(a:PG X tg g)(hs:ki [tg] e pos.line X.env=fI a_:=by rfl)(b:kl [tg] e X.env=fI b_:=by rfl)(h1:(ip [tg] X.env).map (·.2)=[i8 tg X.env]:=by rfl):PS X (.Assign [tg] e pos) (Nq te g):=by intro pins s σ H D I h;refine wpAny_Assign_stores (dC (he pins s σ H _ I h) λv s1⟨x,H1,I1,r1,q1⟩=>?_) hs b;rw[h1];exact dC (a pins s1 σ H1 x v _ I1 r1 q1) λ_ s2 q=>q
theorem yW{x:Str}{e:ek}{te:TE}{a:Pos}(b:X.N.Nodup)(hi:X.N[i]?=aB x)(c:Loc X.env.scope x)(he:PE X e te)(hs:iL e (aB (.Name x a)) pos.line X.env=fI a_:=by rfl)(f:X.fn x=ck\/X.env.scope.names.lookup x=aB .local:=by first|(left;rfl)|(right;rfl)|assumption):PS X (.Assign [.Name x a] e pos) (Nq te (gj i)):=by intro pins s σ H D I h;refine wpAny_Assign_Name (dC (he pins s σ H _ I h) λv s1⟨y,H1,I1,r1,q1⟩=>?_) hs;exact qz I1 b hi c r1 (λs2 g=>⟨_,H1,g,q1⟩) f
noncomputable def adk(i:Nat)(te:TE)(a:TIp):TS:=λD σ H=>∃x,σ[i]?=aB (aB x)/\te σ H λy b=>a x y b λz c=>D.nx (σ.set i (aB z)) c
theorem Tp{x:Str}{e:ek}{te:TE}{op:nk}{o:TIp}{b:Pos}(p:X.N.Nodup)(hi:X.N[i]?=aB x)(j:Loc X.env.scope x)(he:PE X e te)(ho:PIp X op o)(q:X.fn x=ck\/X.env.scope.names.lookup x=aB .local:=by first|(left;rfl)|(right;rfl)|assumption):PS X (.AugAssign (.Name x b) op e pos) (adk i te o):=by
 intro pins s σ H D I h;obtain⟨v,t,h⟩:=h;obtain⟨m,hn,B⟩:=I.loc;have n:u0 X.env.scope x:=by rcases j with k|k;exact .inl k;exact .inr (.inl k)
 obtain⟨u,r,l⟩:=B i x v hi t n;refine wpAny_AugAssign_Name ?_;have go:dL (dS X.prog X.w) X.A (fg e X.env) (λw f=>dL (dS X.prog X.w) X.A (inplaceOp op u w) (λr g=>dL (dS X.prog X.w) X.A (storeName X.env x r) (λ_=>SP X pins D .next) X.xe g) X.xe f) X.xe s:=by refine dC (he pins s σ H _ I h) λw s1⟨y,H1,I1,r1,q1⟩=>?_;refine dC (ho pins s1 σ H1 v y u w _ I1 r r1 q1) λz s2⟨F,H2,I2,r2,q2⟩=>?_;exact qz I2 p hi j r2 (λs3 C=>⟨_,H2,C,q2⟩) q
 rcases l with⟨hk,E⟩|⟨hk,c,hc,a⟩;.exact ra I.ok.kind hk hn E go
 . rcases hk with hk|hk;.exact rX I.ok.kind hk hc a go
   . rcases j with k|k;.have:X.env.scope.names.lookup x=aB .free:=hk;rw[k]at this;cases this
     .have:X.env.scope.names.lookup x=aB .free:=hk;rw[k]at this;cases this
noncomputable def ipI(f:Int->Int->Int):TIp:=λx y H Q=>∃i j,x=.int i/\y=.int j/\Q (.int (f i j)) H
theorem Rb:PIp X .Add (ipI λi j=>i+j):=by intro pins s σ H x y v u Q I r1 a h;obtain⟨i,j,b,c,q⟩:=h;subst b;subst c;obtain⟨t,rfl⟩:=r1;obtain⟨t',rfl⟩:=a;exact iadd_int ⟨.int _,H,I.tok _,⟨_,rfl⟩,q⟩
end
structure It where
 go:Nat->Hp->Prop
 Kc:Nat->Hp->V->Hp->Prop
 stop:Nat->Hp->Prop
noncomputable def oW(X:Cx)(pins:List (df×Obj))(H:Hp)(b:df):Prop:=H b=b_/\b≠X.env.locals/\b∉X.fs/\(b∈X.ex\/X.s₀.heap.objs.size<=b)/\(∀x c,X.env.cells.lookup x=aB c->c≠b)/\∀p∈X.pn++pins,p.1≠b
theorem Inv.zm{σ:St}{f:Hp}{b:df}(I:Inv X pins σ H s)(a:s.heap.objs.size<=b)(hn:f b=b_):oW X pins f b:=by
 refine⟨hn,oo (eI I.lt a),I.ad1 a,.inr (ja I.sz a),λx c e z=>?_,λp g z=>?_⟩;.obtain⟨v,q⟩:=I.cell x c e;exact absurd (eI q.lt (by rw[z];exact a)) (jO _)
 .exact absurd (eI (ej (I.pin p g).1) (by rw[z];exact a)) (jO _)
structure Turn(P:d_)(w:fb)(K:PySem.W.Frag)(tg:ek)(J:It)(fp:List df)(it:df)(tn:Nat->fk->Prop):Prop where
 mem:it∈fp
 obj:∀i h,tn i h->∀b∈fp,∃o,h.get? b=aB o/\∀v,o.data≠.cell v
 keep:∀i h h',tn i h->(∀b∈fp,∀o,h.get? b=aB o->h'.get? b=aB o)->tn i h'
 item:∀(X:Cx),X.prog=P->X.w=w->X.K=K->X.calm=ck->∀(i:Nat)(pins:List (df×Obj))(s:dc)(σ:St)(H:Hp)(E:c_->dc->Prop),Inv X pins σ H s->(∀b∈fp,oW X pins H b)->tn i s.heap->J.go i H->dL (dS P w) X.A (k9 (.ref it)) (λr s1=>∃u,r=aB u/\dL (dS P w) X.A (lh tg (.ref it) u) (λ_ s2=>∃x H',Inv X pins σ H' s2/\RelV x u/\J.Kc i H x H'/\tn (i+1) s2.heap/\∀b∈fp,H' b=b_) E s1) E s
 done:∀(X:Cx),X.prog=P->X.w=w->X.K=K->X.calm=ck->∀(i:Nat)(pins:List (df×Obj))(s:dc)(σ:St)(H:Hp)(E:c_->dc->Prop),Inv X pins σ H s->(∀b∈fp,oW X pins H b)->tn i s.heap->J.stop i H->dL (dS P w) X.A (k9 (.ref it)) (λr s1=>r=b_/\Inv X pins σ H s1) E s
 self:∀(A:e_)(i:Nat)(s:dc)(Q:c_->dc->Prop)(E:c_->dc->Prop),tn i s.heap->Q (.ref it) s->dL (dS P w) A (om (.ref it)) Q E s
noncomputable abbrev TI:=St->Hp->(It->Hp->Prop)->Prop
noncomputable def PIE(X:Cx)(pins:List (df×Obj))(σ:St)(tg:ek)(R:It->Hp->Prop)(a:c_)(s2:dc):Prop:=∃(it:df)(e:List df)(f:Nat->fk->Prop)(J:It)(c:Hp),a=.ref it/\Inv X pins σ c s2/\Turn X.prog X.w X.K tg J e it f/\f 0 s2.heap/\(∀b∈e,oW X pins c b)/\R J c
noncomputable def PI(X:Cx)(tg iter:ek)(a:TI):Prop:=∀(pins:List (df × Obj))(s:dc)(σ:St)(H:Hp)(R:It->Hp->Prop),Inv X pins σ H s->a σ H R->dL (dS X.prog X.w) X.A (fg iter X.env) (λv s1=>dL (dS X.prog X.w) X.A (om v) (PIE X pins σ tg R) X.xe s1) X.xe s
theorem CW{E:c_->dc->Prop}{it:df}{u:c_}{o:Obj}{n:String}{vs:Array c_}{Q:Unit->dc->Prop}(ho:s.heap.get? it=aB o)(hc:o.cls=.type n)(hd:o.data=.fields vs)(hn:["enumerate","zip","dict_itemiterator","dict_reverseitemiterator","odict_iterator","itertools.zip_longest","itertools.pairwise"].contains n=a_)(a:Q () s):dL M A (lh tg (.ref it) u) Q E s:=by unfold lh;cases tg<;>first|exact de a|(cases u<;>first|exact de a|(refine bx (wpAny_load ho ?_);rw[hc,hd];show dL M A (if(["enumerate","zip","dict_itemiterator","dict_reverseitemiterator","odict_iterator","itertools.zip_longest","itertools.pairwise"].contains n&&vs[0]?==aB (ku _))=ck then _ else _) Q E s;rw[if_neg (by intro h;rw[hn,ny]at h;cases h)];exact de a))
noncomputable def QS(K:PySem.W.Frag)(a:df):It:=⟨λi H=>∃xs x,fL K H a xs/\xs[i]?=aB x,λi H x b=>b=H/\∀xs,fL K H a xs->xs[i]?=aB x,λi H=>∃xs,fL K H a xs/\xs.length<=i⟩
noncomputable def Va(K:PySem.W.Frag)(a:df):It:=⟨λi H=>∃xs x,jl K H a xs/\xs[i]?=aB x,λi H x b=>b=H/\∀xs,jl K H a xs->xs[i]?=aB x,λi H=>∃xs,jl K H a xs/\xs.length<=i⟩
noncomputable def Vw(lo:Int)(n:Nat):It:=⟨λi _=>i<n,λi H x a=>a=H/\x=.int (lo+i),λi _=>n<=i⟩
theorem DQ{P:d_}(a it:df):Turn P w K tg (QS K a) [it] it (λi h=>h.IsListIter it a i)where
 mem:=by simp
 obj:=λi h st b f=>by
  have e:b=it:=by simpa using f
  subst e;obtain⟨o,e,c,d⟩:=st;exact⟨o,e,λv z=>by rw[d]at z;cases z⟩
 keep:=λi h h' st k=>st.at λo e=>k it (by simp) o e;item:=by intro X m n q hc i pins s σ H E I j st r;subst m n q;obtain⟨xs,x,l,t⟩:=r;obtain⟨y,B,p,C⟩:=I.list l;obtain⟨u,F,G⟩:=B.get t;obtain⟨f0,f1,f2,f3,f4,f5⟩:=j it (by simp);refine wpAny_pyNext_list_item st p.isList (x:=u) (by simpa using F) λh' g J=>?_;have L:Inv X pins σ H {s with heap:=h'}:=I.turned (t':=s.toks) (λb o f e=>(J.2 b f).trans e) f0 f1 f3 f4 f5;obtain⟨o,e,c,d⟩:=id g;exact⟨u,rfl,CW (s:={s with heap:=h'}) e c d (by decide) ⟨x,H,L,G,⟨rfl,λys N=>by rw[I.nT N l];exact t⟩,g,λb f=>(j b f).1⟩⟩
 done:=by intro X m n q hc i pins s σ H E I j st r;subst m n q;obtain⟨xs,l,t⟩:=r;obtain⟨y,B,p,C⟩:=I.list l;obtain⟨f0,f1,f2,f3,f4,f5⟩:=j it (by simp);have Q:=B.length;exact wpAny_pyNext_list_end (I.ok.hd hc) st p.isList (by simp;lia) λh' O=>⟨rfl,I.turned (t':=s.toks) (λb o f e=>O b o f e) f0 f1 f3 f4 f5⟩
 self:=λ_ _ _ _ _ st h=>wpAny_pyIter_listiter st h
theorem Al{P:d_}(a it:df):Turn P w K tg (Va K a) [it] it (λi h=>h.IsTupleIter it a i)where
 mem:=by simp
 obj:=λi h st b f=>by
  have e:b=it:=by simpa using f
  subst e;obtain⟨o,e,c,d⟩:=st;exact⟨o,e,λv z=>by rw[d]at z;cases z⟩
 keep:=λi h h' st k=>st.at λo e=>k it (by simp) o e;item:=by intro X n q r hc i pins s σ H E I l st t;subst n q r;obtain⟨xs,x,m,y⟩:=t;obtain⟨g,B,p,C⟩:=I.tuple m;obtain⟨u,F,G⟩:=B.get y;obtain⟨f0,f1,f2,f3,f4,f5⟩:=l it (by simp);refine wpAny_pyNext_tuple_item st (show s.heap.IsTuple a g.toArray from p) (x:=u) (by simpa using F) λh' j J=>?_;have L:Inv X pins σ H {s with heap:=h'}:=I.turned (t':=s.toks) (λb o f e=>(J.2 b f).trans e) f0 f1 f3 f4 f5;obtain⟨o,e,c,d⟩:=id j;exact⟨u,rfl,CW (s:={s with heap:=h'}) e c d (by decide) ⟨x,H,L,G,⟨rfl,λys N=>by rw[I.lO N m];exact y⟩,j,λb f=>(l b f).1⟩⟩
 done:=by intro X n q r hc i pins s σ H E I l st t;subst n q r;obtain⟨xs,m,y⟩:=t;obtain⟨g,B,p,C⟩:=I.tuple m;obtain⟨f0,f1,f2,f3,f4,f5⟩:=l it (by simp);have Q:=B.length;exact wpAny_pyNext_tuple_end (I.ok.hd hc) st (show s.heap.IsTuple a g.toArray from p) (by simp;lia) λh' O=>⟨rfl,I.turned (t':=s.toks) (λb o f e=>O b o f e) f0 f1 f3 f4 f5⟩
 self:=λ_ _ _ _ _ st h=>wpAny_pyIter_tupleiter st h
theorem zy{P:d_}(it:df)(lo:Int)(n:Nat):Turn P w K tg (Vw lo n) [it] it (λi h=>IsRangeIter h it (lo+(i:Nat)*1) ((n:Int)-(i:Nat)) 1)where
 mem:=by simp
 obj:=λi h st b a=>by
  have e:b=it:=by simpa using a
  subst e;exact⟨_,st,λv z=>by have q:Data.fields _=Data.cell v:=z;cases q⟩
 keep:=λi h h' st k=>k it (by simp) _ st;item:=by intro X g j l hc i pins s σ H E I f st m;subst g j l;obtain⟨f0,f1,f2,f3,f4,f5⟩:=f it (by simp);have W:=Walks.range (prog:=X.prog) (w:=X.w) (I.ok.hd hc) it lo 1 n;refine W.item i s _ _ m st λv h' p hv c r=>?_;obtain⟨t,rfl⟩:=hv;have u:Inv X pins σ H {s with heap:=h',toks:=p}:=I.turned (λb o a e=>r b o (by simpa using a) e) f0 f1 f3 f4 f5;refine⟨_,rfl,CW (s:={s with heap:=h',toks:=p}) (n:="range_iterator") c rfl rfl (by decide) ⟨.int (lo+i),H,u,⟨t,?_⟩,⟨rfl,rfl⟩,c,λb a=>(f b a).1⟩⟩;rw[Int.mul_one]
 done:=by intro X g j l hc i pins s σ H E I f st m;subst g j l;obtain⟨f0,f1,f2,f3,f4,f5⟩:=f it (by simp);exact wpAny_pyNext_range_end (I.ok.hd hc) st (by have:n<=i:=m;lia) λh' x=>⟨rfl,I.turned (t':=s.toks) (λb o a e=>x b o a e) f0 f1 f3 f4 f5⟩
 self:=λ_ _ _ _ _ st h=>wpAny_pyIter_rangeiter st h
section
variable{X:Cx}{tg:ek}
theorem xX{σ:St}{R:It->Hp->Prop}{E:c_->dc->Prop}{lo hi:Int}{t u v:Tok}{a:Nat}(I:Inv X pins σ H s)(h1:-(2^62)<=lo)(f:lo<2^62)(g:-(2^62)<=hi)(j:hi<2^62)(q:R (Vw lo (hi-lo).toNat) H):dL (dS X.prog X.w) X.A (om (.ref s.heap.objs.size)) (PIE X pins σ tg R) E {s with heap:=s.heap.push {cls:=.type "range",data:=.fields #[.int lo t,.int hi u,.int 1 v]},toks:=a}:=by
 refine wpAny_pyIter_range (IsRange.new ..) (small_one h1 f g j) ?_;have c:Inv X pins σ H {s with heap:=s.heap.push {cls:=.type "range",data:=.fields #[.int lo t,.int hi u,.int 1 v]},toks:=a}:=I.kept λb o e=>fK e;refine⟨(s.heap.push {cls:=.type "range",data:=.fields #[.int lo t,.int hi u,.int 1 v]}).objs.size,[(s.heap.push {cls:=.type "range",data:=.fields #[.int lo t,.int hi u,.int 1 v]}).objs.size],_,_,H,rfl,c.kept (t':=a) λb o e=>fK e,zy _ lo (hi-lo).toNat,?_,λb l=>?_,q⟩
 . have m:lo+((0:Nat):Int)*1=lo:=by simp
   have n:(((hi-lo).toNat:Nat):Int)-((0:Nat):Int)=Builtin.Range.rangeSize lo hi 1:=by rw[rangeSize_one];split<;>lia
   show IsRangeIter _ _ (lo+((0:Nat):Int)*1) ((((hi-lo).toNat:Nat):Int)-((0:Nat):Int)) 1;rw[m,n];exact dE _ rfl
 . have e:b=(s.heap.push {cls:=.type "range",data:=.fields #[.int lo t,.int hi u,.int 1 v]}).objs.size:=by simpa using l
   subst e;exact c.zm (dW) (c.hok.fresh (dW))
noncomputable def XH(a:TA):TI:=λσ H R=>a σ H λvs b=>∃j:Int,vs=[.int j]/\-(2^62)<=j/\j<2^62/\R (Vw 0 j.toNat) b
noncomputable def YC(a:TA):TI:=λσ H R=>a σ H λvs b=>∃i j:Int,vs=[.int i,.int j]/\(-(2^62)<=i/\i<2^62/\-(2^62)<=j/\j<2^62)/\R (Vw i (j-i).toNat) b
theorem Ei{a:ek}{c:TA}{p:Pos}(f:Gl X "range")(g:X.mg "range"=b_)(l:PA X [a] c)(hs:dy [a] X.env=[(a_,fg a X.env)]:=by rfl):PI X tg (.Call (.Name "range" p) [a] [] pos) (XH c):=by intro pins s σ H R I h;refine Call_ (j6 I f g boot_range (fS (dC (l pos pins s σ H _ I h) λus s1⟨vs,H1,I1,r1,b⟩=>?_) hs rfl));obtain⟨j,e,b,m,q⟩:=b;subst e;cases r1 with|cons r n=>cases n;obtain⟨t,rfl⟩:=r;exact call_range_1 (xX I1 (by lia) (by lia) b m (by simpa using q))
theorem uE{a b:ek}{l:TA}{p:Pos}(m:Gl X "range")(n:X.mg "range"=b_)(o:PA X [a,b] l)(hs:dy [a,b] X.env=[(a_,fg a X.env),(a_,fg b X.env)]:=by rfl)(c:dy [b] X.env=[(a_,fg b X.env)]:=by rfl):PI X tg (.Call (.Name "range" p) [a,b] [] pos) (YC l):=by intro pins s σ H R I h;refine Call_ (j6 I m n boot_range (fS (dC (o pos pins s σ H _ I h) λus s1⟨vs,H1,I1,r1,f⟩=>?_) (by rw[hs,c]) (by rw[c];rfl)));obtain⟨i,j,e,⟨f,u,v,x⟩,q⟩:=f;subst e;cases r1 with|cons r g=>cases g with|cons y g=>cases g;obtain⟨t,rfl⟩:=r;obtain⟨t',rfl⟩:=y;exact call_range_2 (xX I1 f u v x q)
noncomputable def aee(f:TI)(g:TG)(j:TS):TS:=λD σ H=>f σ H λJ l=>∃W:Nat->Nat->St->Hp->Prop,(∃m,W 0 m σ l)/\∀i m σ H,W i m σ H->(J.stop i H/\D.nx σ H)\/(J.go i H/\∃N:St->Hp->Prop,(∀a b,N a b->∃e,e<m/\W (i+1) e a b)/\∀x b,J.Kc i H x b->g x σ b λc n=>j {D with nx:=N,ct:=N,bk:=D.nx} c n)
noncomputable def rJ(a:List df)(h:fk):List (df×Obj):=a.filterMap λb=>(h.get? b).map λo=>(b,o)
theorem jG{a:List df}{b:df}{o:Obj}(c:b∈a)(e:h.get? b=aB o):(b,o)∈rJ a h:=List.mem_filterMap.mpr ⟨b,c,by rw[e];rfl⟩
theorem Ed{a:List df}{p:df×Obj}(c:p∈rJ a h):p.1∈a/\h.get? p.1=aB p.2:=by obtain⟨b,f,e⟩:=List.mem_filterMap.mp c;cases q:h.get? b with|none=>rw[q]at e;cases e|some o=>rw[q]at e;have g:(b,o)=p:=fJ e;subst g;exact⟨f,q⟩
theorem Inv.pinned{σ:St}{a:List df}(I:Inv X pins σ H s)(g:∀b∈a,oW X pins H b)(ho:∀b∈a,∃o,s.heap.get? b=aB o/\∀v,o.data≠.cell v):Inv X (pins++rJ a s.heap) σ H s:=I.BZ λp j=>(fq.mp j).elim (λz=>I.pin p (gp _ z)) λz=>by obtain⟨c,e⟩:=Ed z;obtain⟨f0,f1,f2,_⟩:=g p.1 c;obtain⟨o,f,d⟩:=ho p.1 c;rw[e]at f;cases f;exact⟨e,f0,f1,f2,d⟩
theorem Inv.mZ{pl:List (df×Obj)}{σ:St}(I:Inv X (pins++pl) σ H s):Inv X pins σ H s:=I.BZ λp a=>I.pin p (gp _ (pc _ a))
theorem zB{iter:ek}{body:List fR}{Z:TI}{g:TG}{tb:TS}(B:nL (dS X.prog X.w) X.A X.env X.xe)(hc:X.calm=ck)(hi:PI X tg iter Z)(hg:PG X tg g)(c:yR X body tb)(hs:∀x,fT iter X.env x=fI x:=by intro _;rfl):PS X (.For tg iter body [] pos) (aee Z g tb):=by
 intro pins s σ H D I h;refine wpAny_For (dC (hi pins s σ H _ I h) λv s1 h1=>dC h1 λab s2 h2=>?_) hs;obtain⟨it,C,tn,J,H2,e,I2,T,Q,f2,W,⟨m0,w0⟩,E⟩:=h2;subst e--what stays ck of the iterator's objects through the loop
 have j:∀{y:Hp},(∀b∈C,y b=b_)->∀b∈C,oW X pins y b:=λhn b c=>⟨hn b c,(f2 b c).2⟩;refine codeAny_forLoop_any (λn s'=>∃i l y,Inv X pins l y s'/\tn i s'.heap/\(∀b∈C,y b=b_)/\W i n l y) ?_ m0 ⟨0,σ,H2,I2,Q,λb c=>(f2 b c).1,w0⟩;rintro n s3⟨i,p,O,I3,F,G,w3⟩;rcases E i n p O w3 with⟨stop,qn⟩|⟨go,N,hN,step⟩;.refine kt B (dC (T.done X rfl rfl rfl hc i pins s3 p O X.xe I3 (j G) F stop) λr s4⟨hr,I4⟩=>?_);subst hr;exact wpAny_execs_nil ⟨p,O,I4,qn⟩
 . refine kt B (dC (T.item X rfl rfl rfl hc i pins s3 p O X.xe I3 (j G) F go) λr s4⟨u,hr,h4⟩=>?_);subst hr;refine kt B (dC h4 λ_ s5⟨x,H5,I5,r5,y5,Ux,fr5⟩=>?_);have U:=I5.pinned (j fr5) (T.obj _ _ Ux);refine kt B (dC (hg _ s5 p H5 x u _ U r5 (step x H5 y5)) λ_ s6⟨Y,H6,I6,q6⟩=>?_);refine kt B (dC (c _ s6 Y H6 _ I6 q6) λf s7 z=>?_);have again:∀{a:St}{q:Hp},Inv X (pins++rJ C s5.heap) a q s7->N a q->∃m,m<n/\∃i l y,Inv X pins l y s7/\tn i s7.heap/\(∀b∈C,y b=b_)/\W i m l y:=λ{a q}t L=>by obtain⟨m',hm,w7⟩:=hN a q L;refine⟨m',hm,i+1,a,q,t.mZ,T.keep _ _ _ Ux λb c o e=>(t.pin (b,o) (gp _ (gp _ (jG c e)))).1,λb c=>?_,w7⟩;obtain⟨o,e,d⟩:=T.obj _ _ Ux b c;exact(t.pin (b,o) (gp _ (gp _ (jG c e)))).2.1
   cases f with|next=>obtain⟨a,q,t,L⟩:=z;exact again t L|cont=>obtain⟨a,q,t,L⟩:=z;exact again t L|brk=>obtain⟨a,q,t,z⟩:=z;exact⟨a,q,t.mZ,z⟩|ret v=>obtain⟨x7,a,q,t,r7,z⟩:=z;exact⟨x7,a,q,t.mZ,r7,z⟩
end
noncomputable abbrev R2:=V->V->Hp->VK->Prop
noncomputable def ik(X:Cx)(f:c_->c_->Sem c_)(r:R2):Prop:=∀(pins:List (df × Obj))(s:dc)(σ:St)(H:Hp)(x y:V)(v u:c_)(Q:VK),Inv X pins σ H s->RelV x v->RelV y u->r x y H Q->dL (dS X.prog X.w) X.A (f v u) (EP X pins σ Q) X.xe s
noncomputable def UnR(X:Cx)(f:c_->Sem c_)(r:V->Hp->VK->Prop):Prop:=∀(pins:List (df × Obj))(s:dc)(σ:St)(H:Hp)(x:V)(v:c_)(Q:VK),Inv X pins σ H s->RelV x v->r x H Q->dL (dS X.prog X.w) X.A (f v) (EP X pins σ Q) X.xe s
noncomputable def dU(X:Cx)(f:c_)(r:List V->Hp->VK->Prop):Prop:=∀(pins:List (df × Obj))(s:dc)(σ:St)(H:Hp)(xs:List V)(us:List c_)(Q:VK),Inv X pins σ H s->Vals xs us->r xs H Q->dL (dS X.prog X.w) X.A (call f us) (EP X pins σ Q) X.xe s
noncomputable def Bw(r:R2)(a b:TE):TE:=λσ H Q=>a σ H λx c=>b σ c λy e=>r x y e Q
noncomputable def tUn(r:V->Hp->VK->Prop)(a:TE):TE:=λσ H Q=>a σ H λx b=>r x b Q
noncomputable def rI(C:Int->Int->Prop)(g:Int->Int->V):R2:=λx y H Q=>∃i j,x=.int i/\y=.int j/\C i j/\Q (g i j) H
noncomputable def Kw(g:Int->Int->V):R2:=λx y H Q=>∃i j,x=.int i/\y=.int j/\Q (g i j) H
noncomputable def rU(g:Int->V):V->Hp->VK->Prop:=λx H Q=>∃i,x=.int i/\Q (g i) H
section
variable{X:Cx}{a b c:ek}{ta tb tc:TE}{pos:Pos}
theorem QG(m:PE X a ta)(n:PE X b tb){σ:St}{R:V->V->Hp->Prop}(I:Inv X pins σ H s)(h:ta σ H λx l=>tb σ l λy e=>R x y e){Q:c_->dc->Prop}{f:c_->c_->Sem c_}(o:∀v u s2 x y e,Inv X pins σ e s2->RelV x v->RelV y u->R x y e->dL (dS X.prog X.w) X.A (f v u) Q X.xe s2):dL (dS X.prog X.w) X.A (fg a X.env) (λv g=>dL (dS X.prog X.w) X.A (fg b X.env) (λu j=>dL (dS X.prog X.w) X.A (f v u) Q X.xe j) X.xe g) X.xe s:=by refine dC (m pins s σ H _ I h) λv s1⟨x,l,I1,r1,q1⟩=>?_;refine dC (n pins s1 σ l _ I1 q1) λu s2⟨y,e,I2,r2,q2⟩=>?_;exact o v u s2 x y e I2 r1 r2 q2
theorem Xv{op:nk}{r:R2}(ho:ik X (gL op) r)(e:PE X a ta)(f:PE X b tb):PE X (.BinOp a op b pos) (Bw r ta tb):=by intro pins s σ H Q I h;exact rc (QG e f I h λv u s2 x y g j l m q=>ho pins s2 σ g x y v u Q j l m q)
theorem O6{op:UnaryOp}{r:V->Hp->VK->Prop}(ho:UnR X (unaryOp op) r)(e:PE X a ta):PE X (.UnaryOp op a pos) (tUn r ta):=by intro pins s σ H Q I h;exact UnaryOp_ (dC (e pins s σ H _ I h) λv s1⟨x,H1,I1,r1,q1⟩=>ho pins s1 σ H1 x v Q I1 r1 q1)
theorem opI{f:c_->c_->Sem c_}{C:Int->Int->Prop}{g:Int->Int->Int}(rule:∀(i j:Int)(t u:Tok)(s:dc)(Q:c_->dc->Prop)(E:c_->dc->Prop),C i j->Q (.int (g i j) s.toks) {s with toks:=s.toks+1}->dL (dS X.prog X.w) X.A (f (.int i t) (.int j u)) Q E s):ik X f (rI C λi j=>.int (g i j)):=by intro pins s σ H x y v u Q I e l h;obtain⟨i,j,rfl,rfl,hc,q⟩:=h;obtain⟨t,rfl⟩:=e;obtain⟨t',rfl⟩:=l;exact rule i j t t' s _ _ hc ⟨.int (g i j),H,I.tok _,⟨_,rfl⟩,q⟩
theorem Ye{f:c_->c_->Sem c_}{g:Int->Int->Int}(rule:∀(i j:Int)(t u:Tok)(s:dc)(Q:c_->dc->Prop)(E:c_->dc->Prop),Q (.int (g i j) s.toks) {s with toks:=s.toks+1}->dL (dS X.prog X.w) X.A (f (.int i t) (.int j u)) Q E s):ik X f (Kw λi j=>.int (g i j)):=by intro pins s σ H x y v u Q I e l h;obtain⟨i,j,rfl,rfl,q⟩:=h;obtain⟨t,rfl⟩:=e;obtain⟨t',rfl⟩:=l;exact rule i j t t' s _ _ ⟨.int (g i j),H,I.tok _,⟨_,rfl⟩,q⟩
theorem MT{f:c_->c_->Sem c_}{g:Int->Int->Bool}(rule:∀(i j:Int)(t u:Tok)(s:dc)(Q:c_->dc->Prop)(E:c_->dc->Prop),Q (.bool (g i j)) s->dL (dS X.prog X.w) X.A (f (.int i t) (.int j u)) Q E s):ik X f (Kw λi j=>.bl (g i j)):=by intro pins s σ H x y v u Q I e l h;obtain⟨i,j,rfl,rfl,q⟩:=h;obtain⟨t,rfl⟩:=e;obtain⟨t',rfl⟩:=l;exact rule i j t t' s _ _ ⟨.bl (g i j),H,I,rfl,q⟩
noncomputable def ad7(i j:Int):Prop:=0<=j/\j<=1000000/\i.natAbs<2^64
noncomputable def RJ(i j:Int):Prop:=(-(2^64)<i/\i<2^64)\/(-(2^64)<j/\j<2^64)
theorem RJ.ok{i j:Int}(h:RJ i j):IntMulOk i j:=by
 rcases h with⟨h1,e⟩|⟨h1,e⟩;.exact .of_left (intBits_le_64 h1 e)
 .exact .of_right (intBits_le_64 h1 e)
theorem RD:ik X (gL .Add) (Kw λi j=>.int (i+j)):=Ye λ_ _ _ _ _ _ _ q=>add_int q
theorem QQ:ik X (gL .Sub) (Kw λi j=>.int (i-j)):=Ye λ_ _ _ _ _ _ _ q=>sub_int q
theorem T9:ik X (gL .Mult) (rI RJ λi j=>.int (i*j)):=opI λ_ _ _ _ _ _ _ hc q=>mul_int q hc.ok
theorem Rf:ik X (gL .Mod) (rI (λ_ j=>0<j) λi j=>.int (i%j)):=opI λi j _ _ _ _ _ hc q=>by have h1:(0:Int)<j:=hc;exact mod_int' (by lia) (by rw[Int.fmod_eq_emod_of_nonneg i (by lia)];exact q)
theorem Ui:ik X (gL .Pow) (rI ad7 λi j=>.int (i^j.toNat)):=opI λ_ _ _ _ _ _ _ hc q=>pow_int_small hc.1 hc.2.1 hc.2.2 q
theorem unI{f:c_->Sem c_}{g:Int->Int}(rule:∀(i:Int)(t:Tok)(s:dc)(Q:c_->dc->Prop)(E:c_->dc->Prop),Q (.int (g i) s.toks) {s with toks:=s.toks+1}->dL (dS X.prog X.w) X.A (f (.int i t)) Q E s):UnR X f (rU λi=>.int (g i)):=by intro pins s σ H x v Q I e h;obtain⟨i,rfl,q⟩:=h;obtain⟨t,rfl⟩:=e;exact rule i t s _ _ ⟨.int (g i),H,I.tok _,⟨_,rfl⟩,q⟩
theorem Jc:UnR X (unaryOp .USub) (rU λi=>.int (-i)):=unI λ_ _ _ _ _ q=>neg_int q
end
section
variable{X:Cx}{a b c:ek}{ta tb tc:TE}{pos:Pos}
theorem Gw{σ:St}{Q:VK}{k f:Bool}(I:Inv X pins σ H s)(q:Q (.bl k) H)(e:k=f):EP X pins σ Q (.bool f) s:=by subst e;exact⟨.bl k,H,I,rfl,q⟩
theorem Zj:ik X (eK .Lt) (Kw λi j=>.bl (decide (i<j))):=MT λ_ _ _ _ _ _ _ q=>lt_int q
theorem Yd:ik X (eK .LtE) (Kw λi j=>.bl (decide (i<=j))):=MT λ_ _ _ _ _ _ _ q=>le_int q
theorem Xz:ik X (eK .Gt) (Kw λi j=>.bl (decide (j<i))):=MT λ_ _ _ _ _ _ _ q=>gt_int q
theorem Xh:ik X (eK .GtE) (Kw λi j=>.bl (decide (j<=i))):=MT λ_ _ _ _ _ _ _ q=>ge_int q
theorem RW:ik X (eK .Is) (λx y H Q=>y=.non/\Q (.bl (decide (x=.non))) H):=by intro pins s σ H x y v u Q I e f h;obtain⟨rfl,q⟩:=h;cases f;refine is_none_gen (Gw I q ?_);cases x<;>first|(cases e;rfl)|(obtain⟨t,rfl⟩:=e;rfl)
theorem Nz:ik X (eK .IsNot) (λx y H Q=>y=.non/\Q (.bl (!decide (x=.non))) H):=by intro pins s σ H x y v u Q I e f h;obtain⟨rfl,q⟩:=h;cases f;refine isnot_none_gen (Gw I q ?_);cases x<;>first|(cases e;rfl)|(obtain⟨t,rfl⟩:=e;rfl)
theorem acr{op:qf}{es:List ek}{k:Nat}{p:Pos}(e:(op==CmpOp.In)=a_)(f:(op==oP)=a_):jn op (.Set es k p)=a_:=by show(k==0&&(op==CmpOp.In||op==oP)&&_)=a_;rw[e,f];cases(k==0)<;>rfl
theorem aV(b:ek)(h:op≠.In:=by decide)(e:op≠.NotIn:=by decide):jn op b=a_:=by
 have f:(op==CmpOp.In)=a_:=by cases op<;>first|rfl|exact absurd rfl h
 have g:(op==oP)=a_:=by cases op<;>first|rfl|exact absurd rfl e
 cases b<;>first|rfl|exact acr f g
theorem Le{r:R2}(ho:ik X (eK op) r)(e:PE X a ta)(f:PE X b tb)(g:jn op b=a_):PE X (.Compare a [op] [b] pos) (Bw r ta tb):=by intro pins s σ H Q I h;exact wpAny_Compare1 (QG e f I h λv u s2 x y j l m n q=>ho pins s2 σ j x y v u Q l m n q) g
noncomputable def Py(t:TE):TT:=λσ H Q=>t σ H λx e=>∃k,x=.bl k/\Q k e
theorem Oe{r:R2}(ho:ik X (eK op) r)(f:PE X a ta)(g:PE X b tb)(j:jn op b=a_):PT X (.Compare a [op] [b] pos) (Py (Bw r ta tb)):=by intro pins s σ H Q I h;refine qV (dC (f pins s σ H _ I h) λv s1⟨x,H1,I1,r1,q1⟩=>dC (g pins s1 σ H1 _ I1 q1) λu s2⟨y,H2,I2,r2,q2⟩=>dC (ho pins s2 σ H2 x y v u _ I2 r1 r2 q2) λc s3⟨z,H3,I3,r3,k,e,q3⟩=>?_) j;subst e;cases r3;exact iX ⟨H3,I3,q3⟩
noncomputable def TF(r f:R2)(ta tb tc:TE):TE:=λσ H Q=>ta σ H λx g=>tb σ g λy j=>r x y j λz e=>∃k,z=.bl k/\(if k=ck then tc σ e λl m=>f y l m Q else Q (.bl a_) e)
theorem G7{f:qf}{r j:R2}(ho:ik X (eK op) r)(g:ik X (eK f) j)(l:PE X a ta)(m:PE X b tb)(hc:PE X c tc)(n:lastMarks [op,f] [b,c]=a_:=by with_unfolding_all rfl):PE X (.Compare a [op,f] [b,c] pos) (TF r j ta tb tc):=by intro pins s σ H Q I h;refine Compare_chain (dC (l pins s σ H _ I h) λv s1⟨x,H1,I1,r1,q1⟩=>chain_link (dC (m pins s1 σ H1 _ I1 q1) λu s2⟨y,H2,I2,r2,q2⟩=>dC (ho pins s2 σ H2 x y v u _ I2 r1 r2 q2) λd s3⟨z,H3,I3,r3,k,e,q3⟩=>?_)) n;subst e;cases r3;refine iX ?_;cases k with|false=>exact ite_ff ⟨.bl a_,H3,I3,rfl,q3⟩|true=>exact ite_tt (chain_last (dC (hc pins s3 σ H3 _ I3 q3) λo s4⟨p,H4,I4,r4,q4⟩=>g pins s4 σ H4 y p u o Q I4 r2 r4 q4))
theorem vJ:(sizeLine:Nat)<2^63:=by rw[gE];decide
theorem zq:ik X (gL .Add) (λx y H Q=>∃i j,x=.str i/\y=.str j/\i.length+j.length<=sizeLine/\Q (.str (i++j)) H):=by intro pins s σ H x y v u Q I e f h;obtain⟨i,j,rfl,rfl,g,q⟩:=h;obtain⟨t,rfl⟩:=e;obtain⟨t',rfl⟩:=f;exact add_str (λt' l=>⟨.str (i++j),H,I.tok _,⟨_,rfl⟩,q⟩) g
theorem vals1{x:V}(r:Vals [x] us):∃u,us=[u]/\RelV x u:=by cases r with|cons r1 e=>cases e;exact⟨_,rfl,r1⟩
theorem vals2{x y:V}(r:Vals [x,y] us):∃u e,us=[u,e]/\RelV x u/\RelV y e:=by cases r with|cons r1 f=>cases f with|cons g j=>cases j;exact⟨_,_,rfl,r1,g⟩
theorem Ie:dU X (.builtin "abs") (λxs H Q=>∃i,xs=[.int i]/\Q (.int (if i<0 then-i else i)) H):=by intro pins s σ H xs us Q I r h;obtain⟨i,rfl,q⟩:=h;obtain⟨u,rfl,t,rfl⟩:=vals1 r;exact call_abs_int λu e=>⟨.int (if i<0 then-i else i),H,I.tok _,⟨_,rfl⟩,q⟩
theorem tZ(hc:X.calm=ck):dU X (.builtin "max") (λxs H Q=>∃i j,xs=[.int i,.int j]/\Q (.int (if j>i then j else i)) H):=by
 intro pins s σ H xs us Q I r h;obtain⟨i,j,rfl,q⟩:=h;obtain⟨u,f,rfl,⟨t,rfl⟩,⟨t',rfl⟩⟩:=vals2 r;refine max_two_ints (I.ok.hd hc) λh' g k=>⟨_,H,I.kept k,?_,q⟩;by_cases e:j>i;.rw[if_pos e,if_pos e];exact⟨_,rfl⟩
 .rw[if_neg e,if_neg e];exact⟨_,rfl⟩
theorem Dz(hc:X.calm=ck):dU X (.builtin "min") (λxs H Q=>∃i j,xs=[.int i,.int j]/\Q (.int (if j<i then j else i)) H):=by
 intro pins s σ H xs us Q I r h;obtain⟨i,j,rfl,q⟩:=h;obtain⟨u,f,rfl,⟨t,rfl⟩,⟨t',rfl⟩⟩:=vals2 r;refine min_two_ints (I.ok.hd hc) λh' g k=>⟨_,H,I.kept k,?_,q⟩;by_cases e:j<i;.rw[if_pos e,if_pos e];exact⟨_,rfl⟩
 .rw[if_neg e,if_neg e];exact⟨_,rfl⟩
theorem tO:dU X (.type "int") (λxs H Q=>(∃i,xs=[.int i]/\Q (.int i) H)\/∃k,xs=[.bl k]/\Q (.int (if k then 1 else 0)) H):=by
 intro pins s σ H xs us Q I r h;rcases h with⟨i,rfl,q⟩|⟨k,rfl,q⟩;.obtain⟨u,rfl,t,rfl⟩:=vals1 r;exact call_int_int ⟨.int i,H,I,⟨_,rfl⟩,q⟩
 .obtain⟨u,rfl,r1⟩:=vals1 r;cases r1;exact call_int_bool ⟨.int (if k then 1 else 0),H,I.tok _,⟨_,rfl⟩,q⟩
end
theorem pP.some_of{v:V}{o:Option c_}(r:pP (aB v) o):∃u,o=aB u/\RelV v u:=by cases o with|none=>exact(show False from r).elim|some u=>exact⟨u,rfl,r⟩
structure j7(k:Nat)(A:e_):Prop where
 hd:A.handled=b_
 dp:A.depth+3*k+5<recursionLimit
 un:A.units+16*k+200<ia
theorem j7.deeper{k:Nat}{A:e_}(r:j7 (k+1) A)(env:Env):j7 k (A.deeper env):=⟨r.hd,by have:=r.dp;show A.depth+1+3*k+5<_;lia,by have:=r.un;show A.units+3+16*k+200<_;lia⟩
theorem j7.depth{k:Nat}{A:e_}(r:j7 k A):A.depth<recursionLimit:=by have:=r.dp;lia
noncomputable def adF:TA:=λ_ H Q=>Q [] H
noncomputable def WW(a:TE)(b:TA):TA:=λσ H Q=>a σ H λx c=>b σ c λxs e=>Q (x::xs) e
section
variable{X:Cx}{e:ek}{es:List ek}{te:TE}{t:TA}{pos:Pos}
theorem iG:PA X [] adF:=λ_ _ _ _ H Q I h=>Calls.spliced_nil ⟨[],H,I,.nil,h⟩
theorem dm(a:PE X e te)(hr:PA X es t)(hs:dy (e::es) X.env=(a_,fg e X.env)::dy es X.env:=by rfl):PA X (e::es) (WW te t):=by intro pos pins s σ H Q I h;rw[hs];show dL _ _ (spliced ((a_,fg e X.env)::ka pos (dy es X.env))) _ _ s;refine lm (dC (a pins s σ H _ I h) λu s1⟨x,H1,I1,r1,q1⟩=>?_);exact dC (hr pos pins s1 σ H1 _ I1 q1) λus s2⟨xs,H2,I2,r2,q2⟩=>⟨x::xs,H2,I2,.cons r1 r2,q2⟩
noncomputable def ab1(t:TA):TE:=λσ H Q=>t σ H λxs a=>xs.length<=sizeLine/\∀p,a p=b_->Q (.ref p) (upd a p (.tup xs))
noncomputable def adz(t:TA):TE:=λσ H Q=>t σ H λxs a=>xs.length<=sizeLine/\∀p,a p=b_->Q (.ref p) (upd a p (.lst xs))
theorem qT{x1}(h:PA X es t):PE X (.Tuple es x1 pos) (ab1 t):=by intro pins s σ H Q I a;refine wpAny_Tuple_spliced (dC (h pos pins s σ H _ I a) λus s1⟨xs,H1,I1,r,z,q⟩=>⟨by rw[<-r.length];exact z,?_⟩);have c:H1 s1.heap.objs.size=b_:=I1.hok.fresh (dW);refine⟨.ref s1.heap.objs.size,upd H1 s1.heap.objs.size (.tup xs),I1.laid (t':=s1.toks) (λb u e=>fK e) (dW) ?_,rfl,q _ c⟩;exact⟨z,us,r,⟨_,dE _ rfl,rfl,_,rfl⟩⟩
theorem Ri(h:PA X es t):PE X (.List es pos) (adz t):=by intro pins s σ H Q I a;refine wpAny_List_spliced (dC (h pos pins s σ H _ I a) λus s1⟨xs,H1,I1,r,z,q⟩=>⟨by rw[<-r.length];exact z,?_⟩);have c:H1 s1.heap.objs.size=b_:=I1.hok.fresh (dW);refine⟨.ref s1.heap.objs.size,upd H1 s1.heap.objs.size (.lst xs),I1.laid (t':=s1.toks) (λb u e=>fK e) (dW) ?_,rfl,q _ c⟩;exact⟨z,us,0,r,dE _ rfl⟩
end
noncomputable abbrev Sp:=List V->Hp->VK->XK->Prop
noncomputable abbrev Gp:=List Env->Hp->dc->XK->c_->dc->Prop
structure Mh(P:d_)(w:fb)(K:PySem.W.Frag)(mg:Str->Option c_)(base:fk)(A:e_)(outer:List Env)(s:dc)(H:Hp):Prop where
 frames:A.frames=aB outer
 mod:Mod K mg base
 bs:∀b o,base.get? b=aB o->s.heap.get? b=aB o/\H b=b_
 Qp:base.objs.size<=s.heap.objs.size
 qX:s.heap.FunFrames base outer
 Wj:∀b∈frs outer,H b=b_
 hok:oF P w H s.heap
 bare:ma s.gens
noncomputable def CE(outer:List Env)(P:d_)(w:fb)(H:Hp)(s:dc)(Q:VK)(u:c_)(a:dc):Prop:=∃v b,a.os=s.os/\ma a.gens/\Un (frs outer) [] H b s.heap a.heap/\oF P w b a.heap/\RelV v u/\Q v b
noncomputable def CR(CX:Gp)(outer:List Env)(P:d_)(w:fb)(H:Hp)(s:dc)(Q:VK)(E:XK)(r:Result)(a:dc):Prop:=match r with|.ok (.ret u)=>CE outer P w H s Q u a|.ok _=>False|.error e=>CX outer H s E e a
structure oM(P:d_)(w:fb)(K:PySem.W.Frag)(mg:Str->Option c_)(base:fk)(CX:Gp)(k:Nat)(f:df)(fd:iF)(ps:List Str)(sp:Sp):Prop where
 len:∀vs H Q E,sp vs H Q E->vs.length=ps.length
 run:∀(A:e_)(outer:List Env)(s:dc)(H:Hp)(args:Args)(us:List c_)(vs:List V)(Q:VK)(E:XK),j7 k A->Mh P w K mg base A outer s H->oe s fd args (ps.zip us)->Vals vs us->sp vs H Q E->ng (dS P w) A (.call (.ref f) args) (CR CX outer P w H s Q E) s
section
variable{X:Cx}{pins:List (df×Obj)}{σ:St}{H:Hp}{s s':dc}
theorem Inv.env0(I:Inv X pins σ H s):Mh X.prog X.w X.K X.mg X.base X.A X.stack s H:=⟨I.ok.frames,I.ok.mod,I.bs,ja I.ok.Qp I.sz,I.stack,I.By,I.hok,I.bare⟩
theorem Inv.after{Q:VK}{u:c_}(I:Inv X pins σ H s)(h:CE X.stack X.prog X.w H s Q u s'):EP X pins σ Q u s':=by obtain⟨v,c,os,bare,un,hok,r,q⟩:=h;obtain⟨e,g,d,t,a⟩:=s';obtain rfl:a=s.os:=os;exact⟨v,c,I.call (h':=e) (g':=g) (d':=d) (t':=t) (ch:=[]) un hok bare (λb z=>absurd z (by simp)),r,q⟩
end
noncomputable def WT(sp:Sp)(a:List V)(E:XK)(t:TA):TE:=λσ H Q=>t σ H λvs b=>sp (vs++a) b Q E
noncomputable def Binds(K:PySem.W.Frag)(fd:iF)(ps:List Str)(a:List c_):Prop:=∀(s:dc)(us:List c_),K.In s.heap->(us++a).length=ps.length->oe s fd ⟨us,[]⟩ (ps.zip (us++a))
theorem Binds.all{fd:iF}{ps:List Str}(h:∀us:List c_,us.length=ps.length->rS fd ⟨us,[]⟩=fI (ps.zip us)):Binds K fd ps []:=λs us _ a=>by rw[ow]at a ⊢;exact .of_eq (h us a)
noncomputable def Passes(CX:Gp)(X:Cx)(E:XK):Prop:=∀(pins:List (df×Obj))(σ:St)(H:Hp)(s:dc)(e:c_)(a:dc),Inv X pins σ H s->CX X.stack H s E e a->X.xe e a
section
variable{X:Cx}{CX:Gp}{k:Nat}{f C:df}{fd:iF}{ps:List Str}{sp:Sp}{Qs:List V}{ds:List c_}{E:XK}{x m:Str}{p pos apos:Pos}{e o:ek}{es:List ek}{ta:TE}{t:TA}
theorem Su{σ:St}{Q:VK}{vs:List V}(F:oM X.prog X.w X.K X.mg X.base CX k f fd ps sp)(hr:j7 k X.A)(c:Binds X.K fd ps ds)(hd:Vals Qs ds)(g:Passes CX X E)(I:Inv X pins σ H s)(r:Vals vs us)(h:sp (vs++Qs) H Q E):dL (dS X.prog X.w) X.A (call (.ref f) us) (EP X pins σ Q) X.xe s:=by
 have b:Vals (vs++Qs) (us++ds):=r.append hd;have j:(us++ds).length=ps.length:=by rw[<-b.length];exact F.len _ _ _ _ h
 refine wpAny_call (qE (F.run X.A X.stack s H ⟨us,[]⟩ (us++ds) (vs++Qs) Q E hr I.env0 (c s us I.Tg j) b h) λr l a=>?_);cases r with|error e=>exact g pins σ H s e l I a|ok n=>cases n with|ret u=>exact I.after a|next=>exact f_ a|brk=>exact f_ a|cont=>exact f_ a
theorem Lr(F:oM X.prog X.w X.K X.mg X.base CX k f fd ps sp)(hr:j7 k X.A)(a:Gl X x)(b:X.mg x=aB (.ref f))(c:keepIn X.K (.ref f)=ck)(g:Binds X.K fd ps ds)(hd:Vals Qs ds)(j:Passes CX X E)(l:PA X (e::es) t)(hdb:(x==("__debug__":Str))=a_:=by decide)(he:dy (e::es) X.env=(a_,fg e X.env)::dy es X.env:=by rfl)(hpl:(ka pos (dy es X.env)).any (·.1)=a_:=by rfl):PE X (.Call (.Name x p) (e::es) [] pos) (WT sp Qs E t):=by intro pins s σ H Q I h;refine mr (Mq I a b ?_ hdb);refine PySem.W.callWith_K (h₀:=X.base) I.ok.mod.kin c (dC (l pos pins s σ H _ I h) λus s1⟨vs,H1,I1,r,q⟩=>⟨I1.Tg,?_⟩) he hpl;exact Su F hr g hd j I1 r q
end
structure aU(N P:List Str)(sc:kB):Prop where
 kind:sc.kind=.function:=by rfl
 co:sc.isCoroutine=a_:=by rfl
 gen:sc.isGenerator=a_:=by rfl
 nd:N.Nodup:=by decide+kernel
 pre:N.take P.length=P:=by rfl
 par:∀x∈P,sc.names.lookup x=aB .local\/sc.names.lookup x=aB .cell:=by decide+kernel
 Uy:∀y∈sc.names,y.2≠.free:=by decide+kernel
theorem uf{kindOf:Str->Option kL}{x:Str}:∀{binds:List (Str×c_)}{m:Str->Option c_},(∀v,(x,v)∉binds)->qa kindOf binds m x=m x
 |[],_,_=>rfl|(n,v)::r,m,h=>by
   unfold qa;rw[uf λw a=>h w (fv _ a)];split
   . have:x≠n:=by rintro rfl;exact h v iO
     simp[this]
   .rfl
theorem uI{kindOf:Str->Option kL}{x:Str}:∀{binds:List (Str×c_)}{m:Str->Option c_},(∀v,(x,v)∉binds)->qb kindOf binds m x=m x
 |[],_,_=>rfl|(n,v)::r,m,h=>by
   unfold qb;rw[uI λw a=>h w (fv _ a)];split;.rfl
   . have:x≠n:=by rintro rfl;exact h v iO
     simp[this]
theorem uK{kindOf:Str->Option kL}{x:Str}{v:c_}:∀{P:List Str}{vs:List c_}{i:Nat}{m:Str->Option c_},P.Nodup->P[i]?=aB x->vs[i]?=aB v->kindOf x=aB .local->qa kindOf (P.zip vs) m x=aB v|[],_,_,_,_,h,_,_=>by simp at h|_::_,[],_,_,_,_,h,_=>by simp at h|p::P,w::vs,0,m,nd,h1,a,b=>by simp at h1 a;subst h1;subst a;show qa kindOf ((p,w)::P.zip vs) m p=_;unfold qa;rw[uf λv hv=>(gS.mp nd).1 (lb hv).1,if_pos b];simp|p::P,w::vs,i+1,m,nd,h1,a,b=>by show qa kindOf ((p,w)::P.zip vs) m x=_;unfold qa;exact uK (i:=i) (gS.mp nd).2 (by simpa using h1) (by simpa using a) b
theorem tK{kindOf:Str->Option kL}{x:Str}{v:c_}:∀{P:List Str}{vs:List c_}{i:Nat}{m:Str->Option c_},P.Nodup->P[i]?=aB x->vs[i]?=aB v->kindOf x≠aB .local->qb kindOf (P.zip vs) m x=aB v|[],_,_,_,_,h,_,_=>by simp at h|_::_,[],_,_,_,_,h,_=>by simp at h|p::P,w::vs,0,m,nd,h1,a,b=>by simp at h1 a;subst h1;subst a;show qb kindOf ((p,w)::P.zip vs) m p=_;unfold qb;rw[uI λv hv=>(gS.mp nd).1 (lb hv).1,if_neg b];simp|p::P,w::vs,i+1,m,nd,h1,a,b=>by show qb kindOf ((p,w)::P.zip vs) m x=_;unfold qb;exact tK (i:=i) (gS.mp nd).2 (by simpa using h1) (by simpa using a) b
noncomputable def start(N:List Str)(vs:List V):St:=vs.map aB++dA (N.length-vs.length) b_
noncomputable def zE(CX:Gp)(P:d_)(w:fb)(K:PySem.W.Frag)(mg:Str->Option c_)(base:fk)(N:List Str)(qual:Str)(scope:kB)(f:df)(b:c_)(A:e_)(outer:List Env)(s:dc)(H:Hp)(E:XK):Cx where prog:=P;w:=w;K:=K;mg:=mg;base:=base;A:=A.deeper (l5 qual scope s.heap.objs.size f b);N:=N;s₀:=s;H₀:=H;env:=l5 qual scope s.heap.objs.size f b;outer:=outer;stack:=l5 qual scope s.heap.objs.size f b::outer;ex:=[];calm:=ck;fn:=λ_=>ck;pn:=[];xe:=λe c=>dL (dS P w) (A.deeper (l5 qual scope s.heap.objs.size f b)) (leaving (l5 qual scope s.heap.objs.size f b) e) (λ_ a=>CX outer H s E e a) (λg a=>CX outer H s E g a) c
theorem xu{a:kB}{n:Nat}{x:Str}(h:a.names.lookup x=aB .cell):∃c,(kG n a.names []).lookup x=aB c:=by have q:=PySem.W.cellsFrom_some a.names n [] (.inl h);exact nr.mp q
theorem Ex{CX:Gp}{P:d_}{mg:Str->Option c_}{base:fk}{N ps:List Str}{qual:Str}{scope:kB}{f:df}{o:c_}{outer:List Env}{s1:dc}{E:XK}{vs:List V}(S:aU N ps scope)(hd:A.handled=b_)(j:Mh P w K mg base A outer s H)(I:vs.length=ps.length)(r:Vals vs us)(x:InCallC s s.heap.objs.size (qa (l5 qual scope s.heap.objs.size f o).kindOf (ps.zip us) λ_=>b_) (kG (s.heap.objs.size+1) scope.names []) (qb (l5 qual scope s.heap.objs.size f o).kindOf (ps.zip us) λ_=>b_) s1):Inv (zE CX P w K mg base N qual scope f o A outer s H E) [] (start N vs) H s1:=by
 have hpl:ps.length<=N.length:=by have:=congrArg pf S.pre;rw[lS]at this;lia
 obtain⟨h1,J,rfl,B⟩:=x.done;have t:∀b:df,b∉(zE CX P w K mg base N qual scope f o A outer s H E).ex:=λb z=>absurd (show b∈([]:List df)from z) (by simp);refine⟨⟨j.mod,S.kind,rfl,rfl,dW,λy z c h1 g=>?_,λy hy=>?_,λy c _ h=>?_,λ_=>hd,Around.frames_deeper j.frames,.inr ⟨rfl,rfl⟩,λb z=>absurd z (t b),j.bs,j.Qp,λb _ _=>t b,λb z=>absurd z (t b),j.qX,j.Wj⟩,rfl,j.bare,Un.kept B,⟨_,x.toInCall.ns,λi y v h1 g L=>?_⟩,λy c h=>⟨_,x.cell y c h⟩,j.hok.fresh (dW),λy c h=>?_,λp l=>absurd (show p∈([]:List (df×Obj))from l) (by simp),j.hok.kept B,?_⟩;.exact name_of_addr x.apart (PySem.mem_of_lookup h1) (PySem.mem_of_lookup g)
 . have hy:scope.names.lookup y=aB .cell\/scope.names.lookup y=aB .free:=hy;rcases hy with hy|hy;.exact xu hy
   .exact absurd rfl (S.Uy _ (PySem.mem_of_lookup hy))
 .exact m4 (x.above y c (PySem.mem_of_lookup h))
 . have hi:i<vs.length:=by
    unfold start at g;by_cases hi:i<vs.length;.exact hi
    .rw[eF (by simpa using hi)]at g;rw[i9]at g;split at g<;>cases g
   have F:vs[i]?=aB v:=by unfold start at g;rw[dQ (by simpa using hi),ey]at g;cases e:vs[i]?with|none=>rw[e]at g;cases g|some a=>rw[e]at g;cases g;rfl
   obtain⟨u,C,G⟩:=r.get F;have l:ps[i]?=aB y:=by rw[<-S.pre,List.getElem?_take_of_lt (by lia)];exact h1
   have m:ps.Nodup:=by rw[<-S.pre];exact S.nd.sublist (List.take_sublist _ _)
   refine⟨u,G,?_⟩;rcases S.par y (jv l)with k|k;.exact .inl ⟨k,uK m l C k⟩
   .obtain⟨c,e⟩:=xu (n:=s.heap.objs.size+1) k;refine .inr ⟨.inl k,c,e,?_⟩;have q:=x.cell y c e;rw[tK m l C (by show scope.names.lookup y≠_;rw[k];decide)]at q;exact q
 .exact j.hok.fresh (m4 (x.above y c (PySem.mem_of_lookup h)))
 .unfold start;show _=N.length;rw[hR,eu,oI];lia
theorem YM{CX:Gp}{P:d_}{mg:Str->Option c_}{base:fk}{k:Nat}{f:df}{name qual:Str}{a:Arguments}{body:List fR}{scope:kB}{L kV m O cdv ct Z:c_}{U od:Option df}{B:Array (Option c_)}{N ps:List Str}{sp:Sp}(lk:K.lookup f=aB ⟨Z,od,.func (PySem.W.fnOf name qual a body scope L kV m O U cdv ct),B⟩)(C:PySem.W.codeIn K cdv qual=ck)(S:aU N ps scope)(len:∀vs H Q E,sp vs H Q E->vs.length=ps.length)(j:∀(A:e_)(outer:List Env)(s:dc)(H:Hp)(vs:List V)(Q:VK)(E:XK),j7 k (A.deeper (l5 qual scope s.heap.objs.size f cdv))->sp vs H Q E->∃t,yR (zE CX P w K mg base N qual scope f cdv A outer s H E) body t/\t {nx:=λ_ g=>Q .non g,rt:=Q} (start N vs) H):oM P w K mg base CX (k+1) f (PySem.W.fnOf name qual a body scope L kV m O U cdv ct) ps sp:=by
 refine⟨len,λA outer s H args us vs Q E hr p hb r z=>?_⟩;have hl:=len _ _ _ _ z;have Y:K.In s.heap:=p.mod.kin.keeps λb o e=>(p.bs b o e).1;have lim:s.heap.NoLimit:=p.mod.nolimit.keeps λb o e=>(p.bs b o e).1;have l:∀y∈ps.zip us,scope.names.lookup y.1=aB .local\/(scope.names.lookup y.1=aB .cell/\((kG (s.heap.objs.size+1) scope.names []).lookup y.1).isSome=ck):=λ⟨n,v⟩hy=>by
  rcases S.par n (lb hy).1 with q|q;.exact .inl q
  .exact .inr ⟨q,PySem.W.cellsFrom_some _ _ _ (.inl q)⟩
 refine codeAny_call_function hr.depth (Y _ _ lk) rfl S.co S.gen rfl (PySem.W.codeRec_of Y C) (hb _ _ _ _ ?_);refine wpAny_newFunctionEnv_cells S.kind l λenv he s1 x=>?_;subst he;refine⟨lim.keeps x.toInCall.keep,codeAny_func ?_⟩;obtain⟨t,ht,hq⟩:=j A outer s H vs Q E (hr.deeper _) z;have I:Inv (zE CX P w K mg base N qual scope f cdv A outer s H E) [] (start N vs) H s1:=Ex S hr.hd p hl r x;refine fe (ht [] s1 (start N vs) H _ I hq) (λfl F hs=>?_) λe F hs=>hs;have fin:∀{c:St}{g:Hp}{v:V}{u:c_},Inv (zE CX P w K mg base N qual scope f cdv A outer s H E) [] c g F->RelV v u->Q v g->CE outer P w H s Q u F:=λ{c g v u}J G q=>⟨v,g,J.os,J.bare,J.base,J.hok,G,q⟩;cases fl with|ret u=>obtain⟨v,c,g,J,G,q⟩:=hs;exact fin J G q|next=>obtain⟨c,g,J,q⟩:=hs;exact fin (v:=V.non) (u:=eR) J rfl q|brk=>obtain⟨_,_,_,q⟩:=hs;exact f_ q|cont=>obtain⟨_,_,_,q⟩:=hs;exact f_ q
section
variable{X:Cx}{x:Str}{p pos:Pos}{e:ek}{es:List ek}{t:TA}{id T:String}{r:List V->Hp->VK->Prop}
noncomputable def tCB(r:List V->Hp->VK->Prop)(t:TA):TE:=λσ H Q=>t σ H λvs a=>r vs a Q
theorem eN(hc:dU X (.builtin id) r)(a:Gl X x)(b:X.mg x=b_)(hv:fw x=aB (.builtin id))(c:PA X (e::es) t)(hn:x≠"__name__":=by decide)(hdb:(x==("__debug__":Str))=a_:=by decide)(he:dy (e::es) X.env=(a_,fg e X.env)::dy es X.env:=by rfl)(hpl:(ka pos (dy es X.env)).any (·.1)=a_:=by rfl):PE X (.Call (.Name x p) (e::es) [] pos) (tCB r t):=by intro pins s σ H Q I h;refine mr (j6 I a b hv ?_ hn hdb);exact PyProof.Rows.callWith_builtin1 (dC (c pos pins s σ H _ I h) λus s1⟨vs,H1,I1,r1,q1⟩=>hc pins s1 σ H1 vs us Q I1 r1 q1) he hpl
theorem lN(hc:dU X (.type T) r)(a:Gl X x)(b:X.mg x=b_)(hv:fw x=aB (.type T))(c:PA X (e::es) t)(hn:x≠"__name__":=by decide)(hdb:(x==("__debug__":Str))=a_:=by decide)(he:dy (e::es) X.env=(a_,fg e X.env)::dy es X.env:=by rfl)(hpl:(ka pos (dy es X.env)).any (·.1)=a_:=by rfl):PE X (.Call (.Name x p) (e::es) [] pos) (tCB r t):=by intro pins s σ H Q I h;refine mr (j6 I a b hv ?_ hn hdb);exact fS (dC (c pos pins s σ H _ I h) λus s1⟨vs,H1,I1,r1,q1⟩=>hc pins s1 σ H1 vs us Q I1 r1 q1) he hpl
end
end _L
namespace _U
open PySem PyProof.Rows
section
variable{prog:d_}{w:fb}{A:e_}{E:c_->dc->Prop}{s:dc}
theorem K7{t b:df}{vs a:List c_}{Q:c_->dc->Prop}(q:qc s.heap t vs.toArray)(r:qc s.heap b a.toArray)(hv:vs≠[])(h1:a=[]->Q (.ref t) s)(u:a≠[]->Q (.ref s.heap.objs.size) {s with heap:=s.heap.push {cls:=.type "tuple",data:=.seq (vs++a).toArray}})(hsz:vs.length+a.length<=sizeLine):dL (dS prog w) A (gL .Add (.ref t) (.ref b)) Q E s:=by
 obtain⟨⟨cls,l,data,m⟩,ho,hc,n,hd⟩:=id q;obtain⟨⟨o,f,data2,g⟩,c,h,p,i⟩:=id r;simp only at hc hd h i;subst hc hd h i;have e:vs.toArray++a.toArray=(vs++a).toArray:=by simp
 by_cases j:a=[];.exact nc ⟨_,ho,rfl⟩ ⟨_,c,rfl⟩ nI pS slot_tuple_add entry_tuple_add (args_tuple_add_2 _ _) (tuple_addW1 t b vs.toArray a.toArray n p l f m g (by simpa using hv) (by simp[j])) ⟨ho,c,h1 j⟩
 .refine nc ⟨_,ho,rfl⟩ ⟨_,c,rfl⟩ nI pS slot_tuple_add entry_tuple_add (args_tuple_add_2 _ _) (tuple_addW2 t b vs.toArray a.toArray n p l f m g (by simpa using hv) (by simpa using j) (by rw[dP,dP];exact hsz)) ⟨ho,c,?_⟩;rw[e];exact u j
noncomputable def dR(n d:Nat):Option Int->Nat|none=>d|some v=>if v<0 then(v+(n:Int)).toNat else min v.toNat n
theorem R3(n d:Nat)(hd:d<=n)(o:Option Int):dR n d o<=n:=by cases o with|none=>exact hd|some v=>
   show(if v<0 then(v+(n:Int)).toNat else min v.toNat n)<=n;by_cases hv:v<0;.rw[if_pos hv];lia
   .rw[if_neg hv];exact Nat.min_le_right _ _
theorem CK(v:Int)(n d:Nat):(if v<0 then max (v+(n:Int)) 0 else min v (n:Int))=((dR n d (aB v):Nat):Int):=by
 show(if v<0 then max (v+(n:Int)) 0 else min v (n:Int))=(((if v<0 then(v+(n:Int)).toNat else min v.toNat n):Nat):Int);by_cases hv:v<0;.simp only[if_pos hv];lia
 .simp only[if_neg hv];lia
theorem zA(lo hi:Option Int)(n:Nat):rf lo hi 1 (n:Int)=(((dR n 0 lo:Nat):Int),((dR n n hi:Nat):Int)):=by
 have h1:¬((1:Int)<0):=by lia
 unfold rf;simp only[h1,if_false];refine Prod.ext ?_ ?_;.cases lo with|none=>rfl|some v=>exact CK v n 0
 .cases hi with|none=>rfl|some v=>exact CK v n n
theorem zU(i j:Nat):nV (i:Int) (j:Int) 1=j-i:=by
 unfold nV;have h1:(1:Int)>0:=by lia
 simp only[h1,if_true,Int.ediv_one];split<;>lia
theorem qM{v:c_}{o:Option Int}{Q:Option Int->dc->Prop}(p:l7 v o)(h:Q o s):dL (dS prog w) A (Builtin.Slice.slicePartIndex v) Q E s:=by cases p with|none=>exact slicePart_none h|int i t=>exact slicePart_int h
theorem jo{e:df}{vl c:c_}{lo hi:Option Int}{n:Nat}{Q:Int×Int×Nat->dc->Prop}(hs:s.heap.IsSliceOf e vl c .none)(pl:l7 vl lo)(f:l7 c hi)(h:Q (((dR n 0 lo:Nat):Int),1,dR n n hi-dR n 0 lo) s):dL (dS prog w) A (sliceApplied (.ref e) (fI (n:Int))) Q E s:=by obtain⟨os,a,g,b⟩:=id hs;unfold sliceApplied Builtin.Slice.sliceFields;refine bx (bx (gl a b (x:=vl) rfl (bx (gl a b (x:=c) rfl (bx (gl a b (x:=.none) rfl (de ?_)))))));refine bx (slicePart_none ?_);show dL _ _ (if((1:Int)==0)=ck then _ else _) _ _ s;rw[if_neg (by decide)];refine bx (qM pl (bx (qM f (bx (de ?_)))));show dL _ _ (match rf lo hi 1 (n:Int)with|(lo,hi)=>fI (lo,(1:Int),nV lo hi 1)) _ _ s;rw[zA lo hi n];show dL _ _ (fI (((dR n 0 lo:Nat):Int),(1:Int),nV ((dR n 0 lo:Nat):Int) ((dR n n hi:Nat):Int) 1)) _ _ s;rw[zU];exact de h
theorem Im(xs:Array c_)(i k:Nat):((dV k).filterMap λ(m:Nat)=>xs[((i:Int)+(m:Int)*1).toNat]?).toArray=((xs.toList.drop i).take k).toArray:=by
 have e:(λ(m:Nat)=>xs[((i:Int)+(m:Int)*1).toNat]?)=λm=>xs[i+m]?:=by
  funext m;have:((i:Int)+(m:Int)*1).toNat=i+m:=by lia
  rw[this]
 rw[e];have:=pick_run xs i k;rw[lw]at this;have a:((λx=>xs[x]?)∘ λx=>i+x)=λm=>xs[i+m]?:=rfl;rw[a]at this;rw[this]
theorem nJ{t c:df}{items:Array c_}{vl j:c_}{lo hi:Option Int}{Q:c_->dc->Prop}(a:qc s.heap t items)(hs:s.heap.IsSliceOf c vl j .none)(pl:l7 vl lo)(l:l7 j hi)(n:¬(dR items.size 0 lo=0/\dR items.size items.size hi=items.size))(h:Q (.ref s.heap.objs.size) {s with heap:=s.heap.push {cls:=.type "tuple",data:=.seq ((items.toList.drop (dR items.size 0 lo)).take (dR items.size items.size hi-dR items.size 0 lo)).toArray}})(hsz:items.size<=sizeLine):dL (dS prog w) A (kD (.ref t) (.ref c)) Q E s:=by
 have b:sizeOk (.seq ((items.toList.drop (dR items.size 0 lo)).take (dR items.size items.size hi-dR items.size 0 lo)).toArray):=by show((items.toList.drop (dR items.size 0 lo)).take (dR items.size items.size hi-dR items.size 0 lo)).toArray.size<=sizeLine;rw[dP,lS,List.length_drop,iP];lia
 have p:dR items.size items.size hi<=items.size:=R3 _ _ (dW) hi;obtain⟨os,e,f,o⟩:=id hs;have g:s.TypeIs (.ref c) "slice":=⟨os,e,f⟩;unfold kD;try with_reducible refine hJ ?_
 first|refine bx (de ?_)|skip
 refine bx (wpAny_sequenceKey a.typeIs (by decide) ?_);refine bx (fy (name:=i3 "__getitem__") a.typeIs i6 (fN i6 a.typeIs entry_tuple_getitem ?_ (args_tuple_getitem _ _)));show dL _ _ (tupleItemsOf (.ref t)>>=_) _ _ s;refine bx (tupleItemsOf_ a ?_);refine bx (qh g ?_);rw[if_pos (by decide)];refine bx (jo hs pl l ?_);have i:¬((((dR items.size 0 lo:Nat):Int)==0&&(1:Int)==1&&(dR items.size items.size hi-dR items.size 0 lo)==items.size)=ck):=by intro q;rw[fE,fE]at q;have r:((dR items.size 0 lo:Nat):Int)=0:=eq_of_beq q.1.1;have u:dR items.size items.size hi-dR items.size 0 lo=items.size:=eq_of_beq q.2;exact n ⟨by lia,by lia⟩
 show dL _ _ (if(((dR items.size 0 lo:Nat):Int)==0&&(1:Int)==1&&(dR items.size items.size hi-dR items.size 0 lo)==items.size)=ck then _ else _) _ _ s;rw[if_neg i,Im];first|exact bx (m:=k8 _) (fh (de ⟨_,rfl,de h⟩) b)|exact bx (m:=k8 _) (fh (bx (de (de ⟨_,rfl,de h⟩))) b)|exact bx (bx (m:=k8 _) (fh (de (de ⟨_,rfl,de h⟩)) b))|exact bx (bx (m:=k8 _) (fh (de ⟨_,rfl,de h⟩) b))
end
end _U
namespace _L
open PySem Spec PyProof.Rows
variable{n:Nat}
noncomputable abbrev TO:=St->Hp->(Option Int->Hp->Prop)->Prop
noncomputable def PO(X:Cx)(e:Option ek)(t:TO):Prop:=∀(a:List (df × Obj))(s:dc)(σ:St)(H:Hp)(Q:Option Int->Hp->Prop),Inv X a σ H s->t σ H Q->dL (dS X.prog X.w) X.A (evalPart e X.env) (λu c=>∃o b,Inv X a σ b c/\l7 u o/\Q o b) X.xe s
noncomputable def Lk:TO:=λ_ H Q=>Q b_ H
noncomputable def Yv(t:TE):TO:=λσ H Q=>t σ H λx a=>∃i,x=.int i/\Q (aB i) a
section
variable{X:Cx}{e:ek}{te:TE}{lo hi:Option ek}{tl th:TO}{pos p2:Pos}
theorem Oa:PO X b_ Lk:=by intro a s σ H Q I h;rw[p0];exact de ⟨b_,H,I,.none,h⟩
theorem N8(h:PE X e te):PO X (aB e) (Yv te):=by intro a s σ H Q I b;rw[evalPart_some];refine dC (h a s σ H _ I b) λu s1⟨x,H1,I1,r1,q1⟩=>?_;obtain⟨i,rfl,q⟩:=q1;obtain⟨t,rfl⟩:=r1;exact⟨aB i,H1,I1,.int i t,q⟩
noncomputable def SlR(X:Cx)(r:V->Option Int->Option Int->Hp->VK->Prop):Prop:=∀(a:List (df × Obj))(s:dc)(σ:St)(H:Hp)(x:V)(v vl b:c_)(lo hi:Option Int)(c:df)(Q:VK),Inv X a σ H s->RelV x v->s.heap.IsSliceOf c vl b .none->l7 vl lo->l7 b hi->r x lo hi H Q->∃T id,typeLookup (.type T) "__getitem__"=fI (aB (.builtin id))/\s.TypeIs v T/\dL (dS X.prog X.w) X.A (kD v (.ref c)) (EP X a σ Q) X.xe s
noncomputable def tSl(r:V->Option Int->Option Int->Hp->VK->Prop)(te:TE)(tl th:TO):TE:=λσ H Q=>te σ H λx a=>tl σ a λl b=>th σ b λu c=>r x l u c Q
theorem yu{r:V->Option Int->Option Int->Hp->VK->Prop}(hr:SlR X r)(he:PE X e te)(f:PO X lo tl)(g:PO X hi th):PE X (.Subscript e (.Slice lo hi b_ p2) pos) (tSl r te tl th):=by intro a s σ H Q I h;refine oy (dC (he a s σ H _ I h) λv s1⟨x,H1,I1,r1,q1⟩=>?_);refine wpAny_Slice (dC (f a s1 σ H1 _ I1 q1) λvl s2⟨l,H2,I2,pl,q2⟩=>dC (g a s2 σ H2 _ I2 q2) λc s3⟨u,H3,I3,pu,q3⟩=>?_);rw[p0];refine de ?_;have i:Inv X a σ H3 {s3 with heap:=s3.heap.push {cls:=.type "slice",data:=.fields #[vl,c,.none]}}:=I3.kept (t':=s3.toks) λb o q=>fK q;obtain⟨T,id,hT,j,m⟩:=hr a {s3 with heap:=s3.heap.push {cls:=.type "slice",data:=.fields #[vl,c,.none]}} σ H3 x v vl c l u s3.heap.objs.size Q i r1 (Heap.IsSliceOf.new ..) pl pu q3;show dL (dS X.prog X.w) X.A (mi e (.Slice lo hi b_ p2) v (.ref s3.heap.objs.size)) (EP X a σ Q) X.xe {s3 with heap:=s3.heap.push {cls:=.type "slice",data:=.fields #[vl,c,.none]}};exact tail_any (ops:=[.ref s3.heap.objs.size,v]) j hT m (by with_unfolding_all rfl)
noncomputable def yh(xs:List V)(lo hi:Option Int):List V:=(xs.drop (_U.dR xs.length 0 lo)).take (_U.dR xs.length xs.length hi-_U.dR xs.length 0 lo)
theorem pC(xs:List V)(lo hi:Option Int):(yh xs lo hi).length<=xs.length:=by unfold yh;rw[lS,List.length_drop];lia
noncomputable def aef(K:PySem.W.Frag):V->Option Int->Option Int->Hp->VK->Prop:=λx lo hi H Q=>∃a xs,x=.ref a/\jl K H a xs/\¬(_U.dR xs.length 0 lo=0/\_U.dR xs.length xs.length hi=xs.length)/\∀p,H p=b_->Q (.ref p) (upd H p (.tup (yh xs lo hi)))
theorem Rm:SlR X (aef X.K):=by
 intro g s σ H x v vl u lo hi w Q I l hs pl m h;obtain⟨a,xs,rfl,p,t,q⟩:=h;cases l;obtain⟨f,r,i,j⟩:=I.tuple p;have c:f.toArray.size=xs.length:=by rw[dP];exact r.length.symm
 refine⟨"tuple",_,i6.lookup,i.typeIs,?_⟩;refine _U.nJ i hs pl m (by rw[c];exact t) ?_ (by rw[c];exact j);rw[c];refine⟨.ref s.heap.objs.size,_,I.laid (t':=s.toks) (o:=.tup (yh xs lo hi)) (λb y q=>fK q) (dW) ?_,rfl,q _ (I.hok.fresh (dW))⟩;exact⟨ja (pC xs lo hi) j,_,(r.drop (_U.dR xs.length 0 lo)).take (_U.dR xs.length xs.length hi-_U.dR xs.length 0 lo),n1 _ _⟩
noncomputable def XS(K:PySem.W.Frag):R2:=λx y H Q=>∃a b xs ys,x=.ref a/\y=.ref b/\jl K H a xs/\jl K H b ys/\xs≠[]/\xs.length+ys.length<=sizeLine/\(ys=[]->Q (.ref a) H)/\(ys≠[]->∀p,H p=b_->Q (.ref p) (upd H p (.tup (xs++ys))))
theorem Vals.qm{xs:List V}{a:List c_}(r:Vals xs a):a=[]↔xs=[]:=by cases r with|nil=>simp|cons _ _=>simp
theorem Lq:ik X (gL .Add) (XS X.K):=by intro f s σ H x y v u Q I j l h;obtain⟨a,b,xs,ys,rfl,rfl,m,p,r,g,t,A⟩:=h;cases j;cases l;obtain⟨B,r1,C,_⟩:=I.tuple m;obtain⟨i,c,p2,_⟩:=I.tuple p;refine _U.K7 C p2 (λz=>r (r1.qm.mp z)) (λz=>⟨.ref a,H,I,rfl,t (c.qm.mp z)⟩) (λz=>?_) (by rw[<-r1.length,<-c.length];exact g);refine⟨.ref s.heap.objs.size,_,I.laid (t':=s.toks) (o:=.tup (xs++ys)) (λb E q=>fK q) (dW) ?_,rfl,A (λw=>z (c.qm.mpr w)) _ (I.hok.fresh (dW))⟩;exact⟨by rw[hR];exact g,_,r1.append c,n1 _ _⟩
end
noncomputable def lD(n:Nat)(i:Int):Option Nat:=if 0<=i then(if i<n then aB i.toNat else b_)else if-(n:Int)<=i then aB (i+n).toNat else b_
noncomputable def Hk{a:Type}(xs:List a)(i:Int):Option a:=(lD xs.length i).bind λj=>xs[j]?
theorem Cy{i:Int}{j:Nat}(h:lD n i=aB j):seqIndex? i n=aB j/\j<n/\-(n:Int)<=i/\i<n:=by
 unfold lD at h;by_cases h0:0<=i
 . rw[if_pos h0]at h;by_cases h1:i<n;.rw[if_pos h1]at h;have e:i.toNat=j:=fJ h;exact⟨by rw[rg h0 h1,e],by lia,by lia,h1⟩
   .rw[if_neg h1]at h;cases h
 . rw[if_neg h0]at h;by_cases h1:-(n:Int)<=i;.rw[if_pos h1]at h;have e:(i+n).toNat=j:=fJ h;exact⟨by rw[qv (by lia) h1,e],by lia,h1,by lia⟩
   .rw[if_neg h1]at h;cases h
theorem Bu{a:Type}{xs:List a}{i:Int}{v:a}(h:Hk xs i=aB v):∃j,seqIndex? i xs.length=aB j/\xs[j]?=aB v/\j<xs.length/\-(xs.length:Int)<=i/\i<xs.length:=by unfold Hk at h;cases e:lD xs.length i with|none=>rw[e]at h;cases h|some j=>rw[e]at h;obtain⟨h1,b,c,f⟩:=Cy e;exact⟨j,h1,h,b,c,f⟩
noncomputable def gM(b:ek):Prop:=∀o i,nS b a_ o i=operate [o,i] (kD o i)
noncomputable def IxR(X:Cx)(r:R2):Prop:=∀(b slice:ek)(a:List (df × Obj))(s:dc)(σ:St)(H:Hp)(x y:V)(v u:c_)(Q:VK),Inv X a σ H s->RelV x v->RelV y u->r x y H Q->nS slice a_ v u=operate [v,u] (kD v u)->dL (dS X.prog X.w) X.A (mi b slice v u) (EP X a σ Q) X.xe s
noncomputable def MtR(X:Cx)(id:String)(r:V->List V->Hp->VK->Prop):Prop:=∀(a:List (df × Obj))(s:dc)(σ:St)(H:Hp)(x:V)(xs:List V)(v:c_)(b:List c_)(Q:VK),Inv X a σ H s->RelV x v->Vals xs b->r x xs H Q->dL (dS X.prog X.w) X.A (call (.builtin id) (v::b)) (EP X a σ Q) X.xe s
section
variable{X:Cx}{a b:ek}{ta tb:TE}{pos:Pos}
theorem nC{r:R2}(hr:IxR X r)(e:PE X a ta)(f:PE X b tb)(hs:gM b):PE X (.Subscript a b pos) (Bw r ta tb):=by intro c s σ H Q I h;exact oy (QG e f I h λv u s2 x y g i j l q=>hr a b c s2 σ g x y v u Q i j l q (hs _ _))
noncomputable def zW(K:PySem.W.Frag):R2:=λx y H Q=>∃p xs i v,x=.ref p/\y=.int i/\fL K H p xs/\Hk xs i=aB v/\Q v H
noncomputable def ac4(K:PySem.W.Frag):R2:=λx y H Q=>∃p xs i v,x=.ref p/\y=.int i/\jl K H p xs/\Hk xs i=aB v/\Q v H
theorem iB:IxR X (zW X.K):=by
 intro e slice c s σ H x y v u Q I m o h hs;obtain⟨p,xs,i,z,rfl,rfl,A,he,q⟩:=h;cases m;obtain⟨t,rfl⟩:=o;obtain⟨f,r,pl,L⟩:=I.list A;obtain⟨j,h1,B,M,C,E⟩:=Bu he;obtain⟨w,l,F⟩:=r.get B;have G:=r.length;have hn:=vJ;have fin:EP X c σ Q w s:=⟨z,H,I,F,q⟩;by_cases h0:0<=i
 . have g:i.toNat=j:=by rw[rg h0 E]at h1;exact fJ h1
   exact item_listR pl.isList h0 (by lia) (by rw[g];simpa using l) fin hs
 . have g:(i+(f.toArray.size:Int)).toNat=j:=by rw[qv (by lia) C]at h1;rw[dP,<-G];exact fJ h1
   exact qr (x:=w) pl.isList.typeIs slot_list_getitem.lookup (wpAny_getItem_list_neg (Q:=λr J=>r=w/\EP X c σ Q r J) pl.isList (by lia) (by rw[dP]<;>lia) (by lia) (by rw[g];simpa using l) ⟨rfl,fin⟩) hs
theorem Ti:IxR X (ac4 X.K):=by intro e slice c s σ H x y v u Q I f g h hs;obtain⟨p,xs,i,z,rfl,rfl,l,he,q⟩:=h;cases f;obtain⟨t,rfl⟩:=g;obtain⟨m,r,pl,F⟩:=I.tuple l;obtain⟨j,h1,o,G,J,L⟩:=Bu he;obtain⟨w,A,B⟩:=r.get o;have C:=r.length;have hn:=vJ;have fin:EP X c σ Q w s:=⟨z,H,I,B,q⟩;exact qr (x:=w) pl.typeIs slot_tuple_getitem.lookup (getItem_tuple (j:=j) (Q:=λr E=>r=w/\EP X c σ Q r E) pl (by lia) (by lia) (by rw[dP,<-C];exact h1) (by simpa using A) ⟨rfl,fin⟩) hs
theorem zb(c:List c_)(n j:Nat)(u:c_):iS (·.setIfInBounds j u) {cls:=.type "list",data:=.seq c.toArray n}={cls:=.type "list",data:=.seq (c.set j u).toArray n}:=by simp[iS]
theorem Inv.lst{f:List (df×Obj)}{σ:St}{H:Hp}{s:dc}{p:df}{xs:List V}(I:Inv X f σ H s)(h:H p=aB (.lst xs)):∃(c:List c_)(n:Nat),Vals xs c/\s.heap.get? p=aB {cls:=.type "list",data:=.seq c.toArray n}/\xs.length<=sizeLine:=by obtain⟨z,c,n,r,e⟩:=I.hok p _ h;exact⟨c,n,r,e,z⟩
theorem Inv.QH{c:List (df×Obj)}{σ:St}{H:Hp}{s:dc}{p:df}{xs ys:List V}{g its':List c_}{n i:Nat}{f:Obj->Obj}(I:Inv X c σ H s)(h:H p=aB (.lst xs))(ho:s.heap.get? p=aB {cls:=.type "list",data:=.seq g.toArray n})(j:f {cls:=.type "list",data:=.seq g.toArray n}={cls:=.type "list",data:=.seq its'.toArray i})(r:Vals ys its')(l:ys.length<=sizeLine)(t:Nat):Inv X c σ (upd H p (.lst ys)) {s with heap:=s.heap.update p f,toks:=t}:=by
 have e:(s.heap.update p f).get? p=aB {cls:=.type "list",data:=.seq its'.toArray i}:=by rw[kT f ho (by rw[j]<;>rfl),j]
 refine I.write (x:=p) (e:=p) (by rw[h];trivial) (.inl rfl) (λb u m q=>(jx _ _ (iE m)).trans q) ⟨_,e⟩ ?_;exact⟨l,its',i,r,e⟩
noncomputable def Xy:V->V->V->Hp->(Hp->Prop)->Prop:=λo i v H Q=>∃p xs k j,o=.ref p/\i=.int k/\H p=aB (.lst xs)/\lD xs.length k=aB j/\Q (upd H p (.lst (xs.set j v)))
theorem set_list:Wx X Xy:=by
 intro c s σ H o i v C E u Q I ro y z h;obtain⟨p,xs,k,j,rfl,rfl,l,A,q⟩:=h;cases ro;obtain⟨t,rfl⟩:=y;obtain⟨e,n,r,ho,B⟩:=I.lst l;obtain⟨h1,F,m,w⟩:=Cy A;have f:=r.length;have hn:=vJ;have x:Inv X c σ (upd H p (.lst (xs.set j v))) {s with heap:=s.heap.update p (iS (·.setIfInBounds j u))}:=I.QH l ho (zb e n j u) (r.set z j) (by rw[List.length_set];exact B) s.toks;by_cases h0:0<=k
 . have g:k.toNat=j:=by rw[rg h0 w]at h1;exact fJ h1
   exact PySem.W.ki_setAt ho h0 (by lia) (by rw[dP,<-f];exact w) (by rw[g];exact⟨_,x,q⟩)
 . have g:(k+(e.toArray.size:Int)).toNat=j:=by rw[qv (by lia) m]at h1;rw[dP,<-f];exact fJ h1
   exact PySem.W.ki_setBack ho (by lia) (by rw[dP,<-f];exact m) (by lia) (by rw[g];exact⟨_,x,q⟩)
theorem uW(lo hi:Option Int)(n:Nat):(kq lo hi b_ n).1=((_U.dR n 0 lo:Nat):Int)/\(kq lo hi b_ n).2.1=((_U.dR n n hi:Nat):Int)/\(kq lo hi b_ n).2.2=1:=by
 refine⟨?_,?_,rfl⟩;.cases lo with|none=>simp[kq,_U.dR]|some i=>
     simp only[kq,_U.dR,getD_none,show(1:Int)>0 by decide,if_true];by_cases h:i<0;.simp only[h,if_true]<;>lia
     .simp only[h,if_false]<;>lia
 .cases hi with|none=>simp[kq,_U.dR]|some i=>
     simp only[kq,_U.dR,getD_none,show(1:Int)>0 by decide,if_true];by_cases h:i<0;.simp only[h,if_true]<;>lia
     .simp only[h,if_false]<;>lia
theorem sX(c:List c_)(lo hi:Option Int):nE c.toArray lo hi b_=((c.drop (_U.dR c.length 0 lo)).take (_U.dR c.length c.length hi-_U.dR c.length 0 lo)).toArray:=by obtain⟨h1,e,f⟩:=uW lo hi c.toArray.size;unfold nE;rw[h1,e,f];simp only[sliceRange_one,pick_run,dP]<;>rfl
noncomputable def ac2(K:PySem.W.Frag):V->Option Int->Option Int->Hp->VK->Prop:=λx lo hi H Q=>∃a xs,x=.ref a/\fL K H a xs/\∀p,H p=b_->Q (.ref p) (upd H p (.lst (yh xs lo hi)))
theorem NT:SlR X (ac2 X.K):=by intro e s σ H x v vl p lo hi t Q I g hs pl i h;obtain⟨a,xs,rfl,j,q⟩:=h;cases g;obtain⟨l,r,f,m⟩:=I.list j;have c:=r.length;refine⟨"list",_,slot_list_getitem.lookup,f.isList.typeIs,?_⟩;refine pz f.isList hs pl i .none (by simp) ?_ (by rw[dP]<;>lia);rw[sX,<-c];refine⟨.ref s.heap.objs.size,_,I.laid (t':=s.toks) (o:=.lst (yh xs lo hi)) (λb u q=>fK q) (dW) ?_,rfl,q _ (I.hok.fresh (dW))⟩;exact⟨ja (pC xs lo hi) m,_,0,(r.drop (_U.dR xs.length 0 lo)).take (_U.dR xs.length xs.length hi-_U.dR xs.length 0 lo),dE _ rfl⟩
theorem uY:dU X (.builtin "len") (λxs H Q=>∃p ys,xs=[.ref p]/\(fL X.K H p ys\/jl X.K H p ys)/\Q (.int ys.length) H):=by
 intro g s σ H xs l Q I r h;obtain⟨p,ys,rfl,hq,q⟩:=h;obtain⟨u,rfl,i⟩:=vals1 r;cases i;have hn:=vJ;rcases hq with hq|hq;.obtain⟨e,f,pl,j⟩:=I.list hq;have c:=f.length;exact Calls.call_len_list pl.isList (by simp only[dP]<;>lia) ⟨.int ys.length,H,I.tok _,⟨s.toks+1,by rw[dP,c]⟩,q⟩
 .obtain⟨e,f,pl,j⟩:=I.tuple hq;have c:=f.length;exact len_tuple pl (by simp only[dP]<;>lia) ⟨.int ys.length,H,I.tok _,⟨s.toks+1,by rw[dP,c]⟩,q⟩
theorem vz:dU X (.type "list") (λxs H Q=>∃p ys,xs=[.ref p]/\(fL X.K H p ys\/jl X.K H p ys)/\∀l,H l=b_->Q (.ref l) (upd H l (.lst ys))):=by
 intro i s σ H xs x Q I r h;obtain⟨p,ys,rfl,hq,q⟩:=h;obtain⟨u,rfl,v⟩:=vals1 r;cases v;have fin:∀(c:List c_),Vals ys c->ys.length<=sizeLine->∀(h':fk)(f:Nat),(∀b t,s.heap.get? b=aB t->h'.get? b=aB t)->h'.get? s.heap.objs.size=aB {cls:=.type "list",dict:=b_,data:=.seq c.toArray f,slots:=#[]}->EP X i σ Q (.ref s.heap.objs.size) {s with heap:=h'}:=λc g j h' f kp e=>⟨.ref s.heap.objs.size,_,I.laid (t':=s.toks) kp (dW) (show cJ X.prog X.w _ h' _ (.lst ys)from⟨j,c,f,g,e⟩),rfl,q _ (I.hok.fresh (dW))⟩;rcases hq with hq|hq;.obtain⟨c,g,pl,j⟩:=I.list hq;have m:=g.length;obtain⟨o,ho,hc,n,hd⟩:=pl.isList;exact call_list_seq p (.inl rfl) ho hc hd (λh' f kp e=>fin c g j h' f kp e) (by simp only[dP]<;>lia)
 .obtain⟨c,g,pl,j⟩:=I.tuple hq;have m:=g.length;obtain⟨o,ho,hc,n,hd⟩:=pl;exact call_list_seq p (.inr rfl) ho hc hd (λh' f kp e=>fin c g j h' f kp e) (by simp only[dP]<;>lia)
theorem lW:dU X (.type "tuple") (λxs H Q=>∃p ys,xs=[.ref p]/\((fL X.K H p ys/\∀l,H l=b_->Q (.ref l) (upd H l (.tup ys)))\/(jl X.K H p ys/\Q (.ref p) H))):=by
 intro c s σ H xs y Q I r h;obtain⟨p,ys,rfl,h⟩:=h;obtain⟨u,rfl,v⟩:=vals1 r;cases v;rcases h with⟨g,q⟩|⟨g,q⟩;.obtain⟨f,i,pl,j⟩:=I.list g;have m:=i.length;refine call_tuple_list pl.isList (λh' kp=>?_) (by simp only[dP]<;>lia);have t:Inv X c σ H {s with heap:=h'}:=I.kept (t':=s.toks) kp;have x:Inv X c σ (upd H h'.objs.size (.tup ys)) {s with heap:=h'.push {cls:=.type "tuple",data:=.seq f.toArray}}:=t.laid (t':=s.toks) (λb o e=>fK e) (dW) (show cJ X.prog X.w _ _ _ (.tup ys)from⟨j,f,i,n1 _ _⟩);exact⟨.ref h'.objs.size,_,x,rfl,q _ (t.hok.fresh (dW))⟩
 .obtain⟨f,i,pl,j⟩:=I.tuple g;exact call_tuple_same pl ⟨.ref p,H,I,rfl,q⟩
noncomputable def tyV(K:PySem.W.Frag)(T:String)(x:V)(H:Hp):Prop:=match x with|.str _=>T="str"|.int _=>T="int"|.ref p=>(T="list"/\∃xs,fL K H p xs)\/(T="tuple"/\∃o,K.lookup p=aB o/\o.cls=.type "tuple"/\o.dict=b_)\/(T="dict"/\((∃kvs,H p=aB (.dK kvs))\/∃kvs,H p=aB (.dT kvs)))\/(T="set"/\∃S n,H p=aB (.set S n))|_=>False
theorem RZ{g:List (df×Obj)}{σ:St}{H:Hp}{s:dc}{T:String}{x:V}{v:c_}(I:Inv X g σ H s)(r:RelV x v)(ty:tyV X.K T x H):
 s.TypeIs v T/\∀a,v=.ref a->∃j,s.heap.get? a=aB j/\j.dict=b_:=by cases x with|str z=>obtain⟨t,rfl⟩:=r;cases(show T="str"from ty);exact⟨typeIs_str s z t,λ_ e=>nomatch e⟩|int i=>obtain⟨t,rfl⟩:=r;cases(show T="int"from ty);exact⟨ms s i t,λ_ e=>nomatch e⟩|ref p=>
   cases r;rcases ty with⟨rfl,xs,l⟩|⟨rfl,o,f,hc,hd⟩|⟨rfl,f⟩|⟨rfl,S,n,f⟩;.obtain⟨m,_,pl,_⟩:=I.list l;refine⟨pl.isList.typeIs,λa e=>?_⟩;cases e;obtain⟨o,n,e,c,hd,_⟩:=pl;exact⟨o,e,hd⟩
   .refine⟨⟨o,I.Tg p o f,hc⟩,λa e=>?_⟩;cases e;exact⟨o,I.Tg _ o f,hd⟩
   . have z:∃o,s.heap.get? p=aB o/\o.ExactDict:=by
      rcases f with⟨kvs,f⟩|⟨kvs,f⟩;.obtain⟨_,_,_,_,o,_,_,e,ex,_⟩:=I.hok p _ f;exact⟨o,e,ex⟩
      .obtain⟨_,_,_,_,o,_,_,e,ex,_⟩:=I.hok p _ f;exact⟨o,e,ex⟩
     obtain⟨o,e,ex⟩:=z;refine⟨⟨o,e,ex.1⟩,λa h=>?_⟩;cases h;exact⟨o,e,ex.2.1⟩
   .obtain⟨o,_,_,_,e,ex,_⟩:=I.hok p _ f;refine⟨⟨o,e,ex.1⟩,λa h=>?_⟩;cases h;exact⟨o,e,ex.2.1⟩|_=>exact f_ ty
noncomputable def tBM(K:PySem.W.Frag)(T:String)(r:V->List V->Hp->VK->Prop)(e:TE)(t:TA):TE:=λσ H Q=>e σ H λx c=>tyV K T x c/\t σ c λxs f=>r x xs f Q
variable{o e:ek}{es:List ek}{to:TE}{t:TA}{name:Str}{apos cpos:Pos}{T id:String}{r:V->List V->Hp->VK->Prop}
theorem Zb(p:PlainAttrs T)(slot:Slot T name id)(l:typeOf (.builtin id)=fI (.type "method_descriptor"))(q:MtR X id r)(ho:PE X o to)(u:PA X (e::es) t)(g:p4 o name X.env (fg o X.env)=fg o X.env:=by rfl)(j:((ka cpos (dy (e::es) X.env)).all (λx=>!x.1)&&(backToKw cpos (rk [] X.env)).all (λx=>x.1.isSome)&&decide ((e::es).length+([]:List n_).length+(if([]:List n_).isEmpty then 0 else 1)<30))=ck:=by rfl)(i:(apos.endLine==cpos.line)=ck:=by rfl)(hs:dy (e::es) X.env=(a_,fg e X.env)::dy es X.env:=by rfl)(f:(ka cpos (dy es X.env)).any (·.1)=a_:=by rfl):PE X (.Call (.Attribute o name apos) (e::es) [] cpos) (tBM X.K T r to t):=by intro c s σ H Q I h;refine wpAny_Call_method_late g j i rfl (dC (ho c s σ H _ I h) λv s1⟨x,H1,I1,r1,ty,q1⟩=>?_);obtain⟨h1,w⟩:=RZ I1 r1 ty;refine⟨T,id,p,slot,l,h1,w,?_⟩;have m:=u cpos c s1 σ H1 _ I1 q1;rw[hs]at m ⊢;refine n5 (by show(a_||(ka cpos (dy es X.env)).any (·.1))=a_;rw[f]<;>rfl) (oQ ?_);exact dC m λy s2⟨vs,H2,I2,r2,q2⟩=>q c s2 σ H2 x vs v y Q I2 r1 r2 q2
end
noncomputable def MtM(X:Cx)(id:String)(r:V->List V->Hp->VK->Prop):Prop:=∀(a:List (df × Obj))(s:dc)(σ:St)(H:Hp)(x:V)(xs:List V)(v:c_)(b:List c_)(Q:VK),Inv X a σ H s->RelV x v->Vals xs b->r x xs H Q->dL (dS X.prog X.w) X.A (call (.builtin id) (v::b)) (EP X a σ Q) X.xe s
theorem Vals.one:∀{x:V}{a:List c_},Vals [x] a->∃u,a=[u]/\RelV x u|x,a,h=>by cases h with|cons r t=>cases t;exact⟨_,rfl,r⟩
theorem Vals.two:∀{x y:V}{a:List c_},Vals [x,y] a->∃u v,a=[u,v]/\RelV x u/\RelV y v|x,y,a,h=>by cases h with|cons r t=>cases t with|cons q z=>cases z;exact⟨_,_,rfl,r,q⟩
theorem Vals.zero:∀{a:List c_},Vals [] a->a=[]|_,.nil=>rfl
theorem Vals.rep{xs:List V}{a:List c_}(h:Vals xs a):∀k:Nat,Vals (dA k xs).flatten (dA k a).flatten|0=>.nil|k+1=>by rw[j0,j0,m_,m_];exact Vals.append h (Vals.rep h k)
theorem foldl_rep(a:List c_):∀(k:Nat)(b:List c_),rq (λc f=>c++f) b.toArray (dA k a.toArray)=(b++(dA k a).flatten).toArray
 |0,b=>by simp|k+1,b=>by
   have e:b.toArray++a.toArray=(b++a).toArray:=by simp
   have g:(b++a)++(dA k a).flatten=b++(dA (k+1) a).flatten:=by rw[j0,m_,List.append_assoc]
   rw[<-g,<-foldl_rep a k (b++a),<-e,j0,List.foldl_cons]
section
variable{X:Cx}{pins:List (df×Obj)}{σ:St}{H:Hp}{s:dc}{l b:df}{xs ys zs:List V}
theorem Inv.abY{a its':List c_}{f:Array c_->Array c_}{t':Nat}(I:Inv X pins σ H s)(c:H l=aB (.lst xs))(e:s.heap.get? l=aB {cls:=.type "list",data:=.seq a.toArray n})(g:f a.toArray=its'.toArray)(hv:Vals ys its')(h:ys.length<=sizeLine):Inv X pins σ (upd H l (.lst ys)) {s with heap:=s.heap.update l (iS f),toks:=t'}:=by have q:=PySem.IsL.update e f;rw[g]at q;refine I.write (x:=l) (e:=l) (by rw[c];exact trivial) (.inl rfl) (λm u i j=>(jx s.heap (iS f) (iE i)).trans j) ⟨_,q⟩ ?_;exact⟨h,its',_,hv,q⟩
theorem Inv.QR{a:List c_}{t':Nat}(I:Inv X pins σ H s)(hv:Vals ys a)(c:ys.length<=sizeLine):Inv X pins σ (upd H s.heap.objs.size (.lst ys)) {s with heap:=s.heap.push {cls:=.type "list",data:=.seq a.toArray},toks:=t'}:=I.laid (λ_ _ q=>fK q) (dW) ⟨c,a,0,hv,dE _ rfl⟩
theorem Inv.fresh(I:Inv X pins σ H s):H s.heap.objs.size=b_:=I.hok.fresh (dW)
theorem Inv.adH(I:Inv X pins σ H s)(c:H l=aB (.lst xs)):xs.length<=sizeLine/\∃(a:List c_)(n:Nat),Vals xs a/\xs.length=a.length/\s.heap.get? l=aB {cls:=.type "list",data:=.seq a.toArray n}:=by obtain⟨z,a,n,r,e⟩:=I.hok l _ c;exact⟨z,a,n,r,r.length,e⟩
theorem Gu(h:n<=sizeLine):rj n=a_:=by unfold rj;exact decide_eq_false (by lia)
end
section
variable{X:Cx}
noncomputable def Mj:V->List V->Hp->VK->Prop:=λx vs H Q=>∃l xs y,x=.ref l/\vs=[y]/\H l=aB (.lst xs)/\xs.length<sizeLine/\Q .non (upd H l (.lst (xs++[y])))
theorem tY:MtM X "list.append" Mj:=by intro b s σ H x vs v j Q I f g h;obtain⟨l,xs,y,rfl,rfl,c,m,q⟩:=h;cases f;obtain⟨u,rfl,i⟩:=g.one;obtain⟨z,a,n,r,o,e⟩:=I.adH c;refine mw F.slot_list_append ⟨_,e,rfl⟩ F.entry_list_append (F.args_list_append_2 _ _) (PySem.list_append l a.toArray n u (by rw[dP];lia)) ⟨e,?_⟩;refine⟨.non,_,I.abY (its':=a++[u]) c e (by simp) (r.append (.cons i .nil)) ?_,rfl,q⟩;rw[hR,nK];lia
theorem len_rep{a:Type}(xs:List a)(k:Nat):(dA k xs).flatten.length=k*xs.length:=by induction k with|zero=>simp|succ k b=>rw[j0,m_,hR,b,Nat.succ_mul,Nat.add_comm]
end
end _L
namespace _A
open PySem W Calls PyProof.Rows
theorem pM{P:Params}{h:fk}:∀(ns:List Int)(vs:List c_),WellAll P h vs (ns.map WData.int)->gI vs ns:=by intro ns;induction ns with|nil=>intro vs w;rw[lc]at w;cases w;exact .nil|cons n ns c=>intro vs w;rw[er]at w;cases w with|cons a b=>cases a;exact .cons _ _ (c _ b)
theorem Ej{l:OpenLaw}{n:Nat}(hn:l.most=aB n){P:Params}{h:fk}{args:List WData}{b:List c_}(c:l.row.toRowW.claim.pre args=ck)(j:WellAll P h b args):∃a vs ns,b=[eW a]/\args=[WData.list (ns.map WData.int)]/\h.get? a=aB {cls:=.type "list",data:=.seq vs.toArray}/\gI vs ns/\ns.length<=n:=by
 have m:WShape.hasAll [] args [.list .int]=ck:=(pre_splitW c).1;have hc:l.pre.holds [] {args:=args}=ck:=(pre_splitW c).2;obtain⟨d,r,rfl,h1,o⟩:=hasAllW_cons m;obtain rfl:=hasAllW_nil o;obtain⟨xs,rfl,p⟩:=hasW_list h1;obtain⟨ns,rfl⟩:=items_int p;have e:ns.length<=n:=by
  unfold OpenLaw.pre at hc;have g:(WTm.not (.lt (.lit (.int (n:Int))) (.len (.arg 0)))).holds [] {args:=[.list (ns.map .int)]}=ck:=by have g:=(holds_andW hc).1;rw[hn]at g;exact g
  have i:=condW_of g (w_not (w_lt w_lit (w_len_list (w_arg rfl))));rw[eu]at i;refine mx λq=>?_;have s:(n:Int)<((ns.length:Nat):Int):=by lia
  first|(rw[decide_eq_true s]at i;exact absurd i (by decide))|(simp at i;lia)
 cases j with|cons w1 t=>cases t;cases w1 with|list ho f=>exact⟨_,_,ns,rfl,rfl,ho,pM ns _ f,e⟩
theorem Fv(l:OpenLaw)(args:List WData):l.row.toRowW.claim.post args (.bool ck) args=ck:=postW_of (r:=l.row.toRowW) (X:=(ck==ck)) (show WShape.has [] (.bool ck) .bool=ck by first|rfl|decide|simp[WShape.has,WShape.arms,WShape.armsAll]) (show(WTm.eq .res (.lit (.bool ck))).value [] {args:=args,res:=aB (.bool ck),after:=args}=aB (.bool (ck==ck))from w_eq_bool (w_res rfl) w_lit) rfl
theorem yg{l:OpenLaw}{n:Nat}{q:d_}{c:List Str}{A:(Str->Option c_)->fk->Prop}{B:fb->fk->Prop}{d:DefRec}(hn:l.most=aB n)(t:d.params.defaults=[])(call:∀(w:fb)(s₀ b:dc)(mg u:Str->Option c_)(h:df)(o:Obj)(v p e:c_)(a:df)(vs:List c_)(ns:List Int),Ground q c [] A w s₀ mg u b.heap->B w b.heap->b.heap.get? h=aB o->o.data=.func (docDef d.name d.params d.body d.scope v p e)->b.heap.CodeRec p d.name->mg d.name=aB (.ref h)->b.heap.get? a=aB {cls:=.type "list",data:=.seq vs.toArray}->gI vs ns->ns.length<=n->b.gens=#[]->ng (dS l.prog w) l9 (.call (.ref h) ⟨[.ref a],[]⟩) (λr s=>r=.ok (.ret (.bool ck))/\OldK b.heap s.heap/\s.os=b.os/\ma s.gens) b):WalkO q c A B l.row.toRowW d [] (λf vs=>PySem.call f vs):=by intro w s₀ b mg u G Y h o v p e H kV ho hd x C y I args E as i F J z L;obtain rfl:H=.none:=Dflts.none C t;obtain rfl:kV=.none:=Dflts.noKw C;obtain⟨a,vs,ns,rfl,rfl,j,g,m⟩:=Ej hn i z;refine enter_call (qE (call w s₀ b mg u h o v p e a vs ns G Y ho (fd_plain hd) x y j g m I) λr s M=>?_);obtain⟨rfl,N,O,Q⟩:=M;exact⟨.inl ⟨.bool ck,.bool ck,[],rfl,λ_=>rfl,.bool ck,Fv l _,λ_=>⟨List.Pairwise.nil,λ_ U=>(nomatch U)⟩⟩,N,O,Q⟩
end _A
namespace _L
open PySem Spec PyProof.Rows
theorem uC:∀{vs:List c_}{ns:List Int},gI vs ns->Vals (ns.map V.int) vs|_,_,.nil=>.nil|_,_,.cons n t h=>.cons ⟨t,rfl⟩ (uC h)
noncomputable def Only(H:Hp):Prop:=∀b,H b=b_\/∃o xs,H b=aB (.fO o (.lst xs))
theorem IV{P:d_}{w:fb}{K:PySem.W.Frag}{mg G:Str->Option c_}{CX:Gp}{k:Nat}{I a:df}{fd:iF}{x:Str}{sp:Sp}{c:dc}{vs:List c_}{ns:List Int}(N:K.In c.heap)(p:c.heap.Ns en mg)(f:c.heap.Ns builtinsNs G)(J:∀x:Str,x≠"__name__"->G x=fw x)(t:c.heap.NoLimit)(hg:c.gens=#[])(E:c.heap.get? a=aB {cls:=.type "list",data:=.seq vs.toArray})(hi:gI vs ns)(O:ns.length<=sizeLine)(hr:j7 k l9)(F:∀base:fk,K.In base->base.Ns en mg->oM P w K mg base CX k I fd [x] sp)(l:∀(s:dc)(u:c_),oe s fd ⟨[u],[]⟩ [(x,u)])(L:∀H:Hp,Only H->fL K H a (ns.map V.int)->sp [.ref a] H (λv _=>v=.bl ck) λ_ _ _=>False)(Zu:∀H e g,CX [] H c (λ_ _ _=>False) e g->False):ng (dS P w) l9 (.call (.ref I) ⟨[.ref a],[]⟩) (λr g=>r=.ok (.ret (.bool ck))/\OldK c.heap g.heap/\g.os=c.os/\ma g.gens) c:=by
 have Q:=uC hi;have y:=hi.length--from an abstract heap in which nothing but the script may be tracked
 have j:∀H:Hp,Only H->fL K H a (ns.map V.int)->oF P w H c.heap->(∀b,H b≠b_->b=a)->(H a≠b_->K.lookup a=b_)->ng (dS P w) l9 (.call (.ref I) ⟨[.ref a],[]⟩) (λr g=>r=.ok (.ret (.bool ck))/\OldK c.heap g.heap/\g.os=c.os/\ma g.gens) c:=by
  intro H U hS hok X hK;have Y:∀{b:df}{o:Obj},c.heap.get? b=aB o->H b=b_->(vG c.heap H).get? b=aB o:=λe n=>Ii e n;have Zt:∀{b:df}{o:Obj}{es:Array k5}{ep:Nat},c.heap.get? b=aB o->o.data=.dict es ep->H b=b_:=λ{b o es ep}e d=>by cases q:H b with|none=>rfl|some u=>have M:b=a:=X b (by rw[q];simp);subst M;rw[E]at e;cases e;have d':Data.seq vs.toArray _=Data.dict es ep:=d;cases d'
  have i:∀{b:df}{m:Str->Option c_},c.heap.Ns b m->(vG c.heap H).Ns b m:=λ{b m}⟨o,es,ep,e,d,r⟩=>⟨o,es,ep,Y e (Zt e d),d,r⟩;have A:K.In (vG c.heap H):=λb o e=>Y (N b o e) (by cases q:H b with|none=>rfl|some u=>have M:b=a:=X b (by rw[q];simp);subst M;rw[hK (by rw[q];simp)]at e;cases e);have hM:Mod K mg (vG c.heap H):=⟨A,i p,⟨G,i f,J⟩,let⟨mc,h1,h2⟩:=t;⟨mc,i h1,h2⟩⟩;have e0:Mh P w K mg (vG c.heap H) l9 [] c H:=⟨rfl,hM,λb o e=>K5 e,Nat.le_of_eq (DN _ _),trivial,λb f=>absurd (show b∈([]:List df)from f) (by simp),hok,.of_eq hg⟩;refine qE ((F _ A (i p)).run l9 [] c H ⟨[.ref a],[]⟩ [.ref a] [.ref a] _ _ hr e0 (l c (.ref a)) (.cons rfl .nil) (L H U hS)) λr g h=>?_;cases r with|error e=>exact(Zu H e g h).elim|ok fl=>cases fl with|next=>exact f_ h|brk=>exact f_ h|cont=>exact f_ h|ret u=>obtain⟨v,H',os,bare,un,B,r',q⟩:=h;have q':v=.bl ck:=q;subst q';obtain rfl:u=jP ck:=r';refine⟨rfl,OldK.of_keep λb o e=>?_,os,bare⟩;cases q:H b with|none=>exact un.keep b o e q (by intro z;exact absurd (show b∈([]:List df)from z) (by simp)) (by simp)|some u=>
        rcases U b with z|⟨ob,xs,z⟩;.rw[q]at z;cases z
        .have z2:=un.wj b ob _ z;obtain⟨Z,_⟩:=hok b _ z;obtain⟨e2,_⟩:=B b _ z2;rw[e]at Z;cases Z;exact e2
 cases hk:K.lookup a with|some o=>--the script is one of the module's own objects
   have e:=N a o hk;rw[E]at e;cases e;refine j (λ_=>b_) (λ_=>.inl rfl) (.inr ⟨_,vs.toArray,_,hk,rfl,rfl,rfl,by rw[dP,y];exact O,by simpa using Q⟩) (λb u z=>by have C:(b_:Option HO)=aB u:=z;cases C) (λb z=>absurd rfl z) λz=>absurd rfl z|none=>
   refine j (λb=>if b=a then aB (.fO {cls:=.type "list",data:=.seq vs.toArray} (.lst (ns.map V.int)))else b_) (λb=>?_) (.inl (.inr ⟨{cls:=.type "list",data:=.seq vs.toArray},if_pos rfl⟩)) (λb u z=>?_) (λb z=>?_) λ_=>hk
   . by_cases f:b=a;.exact .inr ⟨_,_,if_pos f⟩
     .exact .inl (if_neg f)
   . by_cases f:b=a;.have C:=(if_pos f).symm.trans z;cases C;subst f;exact⟨E,by rw[eu];exact O,vs,_,Q,E⟩
     .have C:=(if_neg f).symm.trans z;cases C
   . by_cases f:b=a;.exact f
     .exact absurd (if_neg f) z
theorem M6{l:PySem.W.OpenLaw}{n k:Nat}{q:d_}{i:List Str}{I:(Str->Option c_)->fk->Prop}{C:fb->fk->Prop}{d:DefRec}{K:Params->PySem.W.Frag}{CX:fb->Gp}{sp:fb->Sp}{x:Str}(hn:l.most=aB n)(t:n<=sizeLine)(y:d.params.defaults=[])(hr:j7 k l9)(J:∀(w:fb)(h:fk),C w h->(K w.params).In h)(F:∀(w:fb)(mg:Str->Option c_)(r:df)(h:fk),(K w.params).In h->h.Ns en mg->mg d.name=aB (.ref r)->∃ fd:iF,(∀(s:dc)(u:c_),oe s fd ⟨[u],[]⟩ [(x,u)])/\∀base:fk,(K w.params).In base->base.Ns en mg->oM l.prog w (K w.params) mg base (CX w) k r fd [x] (sp w))(z:∀(w:fb)(H:Hp)(a:df)(ns:List Int),ns.length<=n->Only H->fL (K w.params) H a (ns.map V.int)->sp w [.ref a] H (λv _=>v=.bl ck) λ_ _ _=>False)(L:∀(w:fb)(H:Hp)(s:dc)(e:c_)(A:dc),CX w [] H s (λ_ _ _=>False) e A->False):PySem.W.WalkO q i I C l.row.toRowW d [] (λf vs=>PySem.call f vs):=by refine _A.yg hn y λw s₀ m mg mb r o pm cd M a vs ns G Y ho hd N B p j c O=>?_;have E:=J w _ Y;obtain⟨fd,Q,U⟩:=F w mg r _ E G.T.g B;exact IV E G.T.g G.T.b G.T.builtins G.T.nolimit O p j (ja c t) hr U Q (λH X Z=>z w H a ns c X Z) λH e A=>L w H m e A
theorem J0{l:PySem.W.OpenLaw}{n k:Nat}{q:d_}{b:List Str}{p:(Str->Option c_)->fk->Prop}{m:fb->fk->Prop}{d:DefRec}{K:Params->PySem.W.Frag}{CX:Gp}{sp:PySem.W.Frag->Sp}{x:Str}(hn:l.most=aB n)(c:n<=sizeLine)(g:d.params.defaults=[])(hr:j7 k l9)(r:∀(w:fb)(h:fk),m w h->(K w.params).In h)(F:∀(w:fb)(mg:Str->Option c_)(o:df)(h:fk),(K w.params).In h->h.Ns en mg->mg d.name=aB (.ref o)->∃ fd:iF,(∀(s:dc)(u:c_),oe s fd ⟨[u],[]⟩ [(x,u)])/\∀base:fk,(K w.params).In base->base.Ns en mg->oM l.prog w (K w.params) mg base CX k o fd [x] (sp (K w.params)))(i:∀(K:PySem.W.Frag)(H:Hp)(a:df)(ns:List Int),ns.length<=n->Only H->fL K H a (ns.map V.int)->sp K [.ref a] H (λv _=>v=.bl ck) λ_ _ _=>False)(t:∀(H:Hp)(s:dc)(e:c_)(j:dc),CX [] H s (λ_ _ _=>False) e j->False):PySem.W.WalkO q b p m l.row.toRowW d [] (λf vs=>PySem.call f vs):=M6 (K:=K) (CX:=λ_=>CX) (sp:=λw=>sp (K w.params)) hn c g hr r F (λw H a ns h1 y z=>i (K w.params) H a ns h1 y z) λ_ H s e j=>t H s e j
end _L
namespace _L
open PySem Spec PyProof.Rows
noncomputable def jD(s:fR):Arguments:=match s with|.FunctionDef _ a _ _ _ _ _ _ _ _=>a|_=>{posonlyargs:=[],args:=[],vararg:=b_,kwonlyargs:=[],kw_defaults:=[],kwarg:=b_,defaults:=[]}
noncomputable def iz(s:fR):List fR:=match s with|.FunctionDef _ _ b _ _ _ _ _ _ _=>b|_=>[]
noncomputable def aK(s:fR):kB:=match s with|.FunctionDef _ _ _ _ _ _ a _ _ _=>a|_=>{kind:=.function,names:=[],isGenerator:=a_,isCoroutine:=a_}
noncomputable abbrev GX:Gp:=λ_ _ _ _ _ _=>False
noncomputable abbrev E0:XK:=λ_ _ _=>False
theorem YX{X:Cx}:Passes GX X E0:=λ_ _ _ _ _ _ _ h=>h.elim
structure jw(K:PySem.W.Frag)(x qual:Str)(st:fR)(f:df)(fd:iF):Prop where
 ex:∃(oc:c_)(od:Option df)(kV doc pm:c_)(an:Option df)(cdv ct:c_)(osl:Array (Option c_)),fd=PySem.W.fnOf x qual (jD st) (iz st) (aK st) .none kV doc pm an cdv ct/\K.lookup f=aB ⟨oc,od,.func fd,osl⟩/\PySem.W.codeIn K cdv qual=ck
 kp:keepIn K (.ref f)=ck
section
variable{P:d_}{w:fb}{K:PySem.W.Frag}{mg:Str->Option c_}{base:fk}
theorem jw.ok{x qual:Str}{st:fR}{f:df}{fd:iF}{N ps:List Str}{k:Nat}{sp:Sp}(F:jw K x qual st f fd)(S:aU N ps (aK st))(len:∀vs H Q E,sp vs H Q E->vs.length=ps.length)(a:∀(cdv:c_)(A:e_)(outer:List Env)(s:dc)(H:Hp)(vs:List V)(Q:VK)(E:XK),j7 k (A.deeper (l5 qual (aK st) s.heap.objs.size f cdv))->sp vs H Q E->∃t,yR (zE GX P w K mg base N qual (aK st) f cdv A outer s H E).Xi (iz st) t/\t {nx:=λ_ e=>Q .non e,rt:=Q} (start N vs) H):oM P w K mg base GX (k+1) f fd ps sp:=by obtain⟨j,l,kV,g,m,n,cdv,ct,i,rfl,lk,b⟩:=F.ex;refine YM lk b S len λA outer s H vs Q E hr c=>?_;obtain⟨t,h,q⟩:=a cdv A outer s H vs Q E hr c;exact⟨t,h.Xi,q⟩
theorem jw.binds{x qual:Str}{st:fR}{f:df}{fd:iF}{ps:List Str}(F:jw K x qual st f fd)(h:∀(kV a b:c_)(c:Option df)(cdv ct:c_)(e:List c_),e.length=ps.length->rS (PySem.W.fnOf x qual (jD st) (iz st) (aK st) .none kV a b c cdv ct) ⟨e,[]⟩=fI (ps.zip e)):Binds K fd ps []:=by obtain⟨j,l,kV,a,b,c,cdv,ct,g,rfl,lk,i⟩:=F.ex;exact .all (h kV a b c cdv ct)
theorem T7{x qual:Str}{st:fR}{f:df}{h:c_}{i e:Option df}{b:Array (Option c_)}{kV a g cdv ct:c_}(l:K.lookup f=aB ⟨h,i,.func (PySem.W.fnOf x qual (jD st) (iz st) (aK st) .none kV a g e cdv ct),b⟩)(c:PySem.W.codeIn K cdv qual=ck)(k:keepIn K (.ref f)=ck):jw K x qual st f (PySem.W.fnOf x qual (jD st) (iz st) (aK st) .none kV a g e cdv ct):=⟨⟨h,i,kV,a,g,e,cdv,ct,b,rfl,l,c⟩,k⟩
end
noncomputable def aP(H a:Hp):Prop:=∀b o,H b=aB o->a b=aB o
theorem aP.refl(H:Hp):aP H H:=λ_ _ h=>h
theorem aP.trans{H e f:Hp}(a:aP H e)(b:aP e f):aP H f:=λc o h=>b c o (a c o h)
theorem aP.seq{K:PySem.W.Frag}{H b:Hp}{a:df}{xs:List V}(e:aP H b)(h:fL K H a xs):fL K b a xs:=by
 rcases h with(h|⟨o,h⟩)|h;.exact .inl (.inl (e _ _ h))
 .exact .inl (.inr ⟨o,e _ _ h⟩)
 .exact .inr h
end _L
namespace _H
open PySem
set_option genInjectivity true in inductive Dc where|k(kvs:List (Int×Int))|t(kvs:List (List Int×Int))deriving DecidableEq
set_option genInjectivity true in inductive D where|non|bl(b:Bool)|int(i:Int)|str(s:Str)|tup(ds:List D)|lst(ds:List D)|cZ(m:Dc)|dv(ks:List Int)(ds:List D)deriving Inhabited
mutual
noncomputable def lX:D->D->Bool|.non,.non=>ck|.bl a,.bl b=>a==b|.bl a,.int i=>(if a then(1:Int)else 0)==i|.int i,.bl a=>i==(if a then(1:Int)else 0)|.int i,.int j=>i==j|.str a,.str b=>a==b|.tup xs,.tup ys=>jB xs ys|.lst xs,.lst ys=>jB xs ys|.cZ a,.cZ b=>decide (a=b)|.dv a xs,.dv b ys=>decide (a=b)&&jB xs ys|_,_=>a_
noncomputable def jB:List D->List D->Bool|[],[]=>ck|x::xs,y::ys=>lX x y&&jB xs ys|_,_=>a_
end
theorem mK:jB [] []=ck:=rfl
theorem jF{x y:D}{xs ys:List D}:jB (x::xs) (y::ys)=(lX x y&&jB xs ys):=rfl
theorem qZ{y:D}{ys:List D}:jB [] (y::ys)=a_:=rfl
theorem qP{x:D}{xs:List D}:jB (x::xs) []=a_:=rfl
theorem pqi{i j}:lX (.int i) (.int j)=(i==j):=(rfl)
theorem pqt{x y}:lX (.tup x) (.tup y)=jB x y:=(rfl)
theorem pql{x y}:lX (.lst x) (.lst y)=jB x y:=(rfl)
noncomputable def jm:Nat->D->Bool|_,.non=>ck|_,.bl _=>ck|_,.int _=>ck|_,.str _=>ck|0,.tup _=>a_|0,.lst _=>a_|_,.cZ _=>a_|_,.dv _ _=>a_|n+1,.tup a=>a.all (jm n)|n+1,.lst a=>a.all (jm n)
theorem cB{n:Nat}{a:List D}:jm (n+1) (.tup a)=a.all (jm n):=rfl
theorem bZ{n:Nat}{a:List D}:jm (n+1) (.lst a)=a.all (jm n):=rfl
theorem cA{n:Nat}{m:Dc}:jm n (.cZ m)=a_:=by cases n<;>rfl
theorem cC{n:Nat}{k:List Int}{a:List D}:jm n (.dv k a)=a_:=by cases n<;>rfl
theorem cz{a:List D}:jm 0 (.tup a)=a_:=rfl
theorem cu{a:List D}:jm 0 (.lst a)=a_:=rfl
set_option genInjectivity true in inductive Sl where|aM|val(b:Bool)(d:D)|own(b:Bool)(ds:List D)|lent(ds:List D)|dq(m:Dc)|hold(rows:List (List D))|uN(kvs:List (Int×D))deriving Inhabited
set_option genInjectivity true in inductive R where|val(d:D)|own(ds:List D)deriving Inhabited
noncomputable def R.d:R->D|.val d=>d|.own a=>.lst a
set_option genInjectivity true in inductive Res(α:Type)where|ok(a:α)(ρ:List Sl)|exc(k:Nat)(ρ:List Sl)|stuck deriving Inhabited
noncomputable def Res.bind{b c:Type}(f:b->List Sl->Res c):Res b->Res c|.ok a ρ=>f a ρ|.exc _ _=>.stuck|.stuck=>.stuck
noncomputable def lift{b:Type}(o:Option b)(ρ:List Sl):Res b:=match o with|some a=>.ok a ρ|none=>.stuck
inductive Op where|add|sub|mul|fdiv|mod|pow|shl|shr|band|Kd|din|aeF|inR|Ke
inductive Cm where|eq|ne|lt|le|gt|ge|isN|Oj|inn|Zv|isT|Zw|leT|geT
inductive Ty where|int|bool|str|tuple|list|none
inductive Blt where|len|list|tuple|min2|max2|FP|sum|all|sorted|abs|int|keys|yz|Wk|Kf
inductive P where|var(i:Nat)|con(d:D)|bin(o:Op)(a b:P)|neg(a:P)|not(a:P)|and(a b:P)|or(a b:P)|cmp(o:Cm)(a b:P)|chain(o o':Cm)(a b c:P)|ife(c a b:P)|tup(as:List P)|lst(as:List P)|idx(a i:P)|slice(a lo hi:P)|call(f:Nat)(as:List P)|blt(b:Blt)(as:List P)|inst(ts:List Ty)(a:P)|comp(src:P)(n:Nat)(is:List Nat)(one:Bool)(test:Option P)(elt:P)|nY(a b:P)|Zx(a:P)|zip(a b:P)|Uz(x:Nat)(k d:P)|vw(x:Nat)|Kg(x:Nat)(ks:List P)|yC(x:Nat)(ks:List P)(d:P)|FQ(x:Nat)(ks:List P)deriving Inhabited
noncomputable abbrev lim:Nat:=16777216
noncomputable def rG:D->D->Option R|.int i,.int j=>aB (.val (.int (i+j)))|.lst xs,.lst ys=>if xs.length+ys.length<=lim then aB (.own (xs++ys))else b_|.tup xs,.tup ys=>if xs.length+ys.length<=lim then aB (.val (.tup (xs++ys)))else b_|.str x,.str y=>if x.length+y.length<=lim then aB (.val (.str (x++y)))else b_|_,_=>b_
noncomputable def pA:D->D->Option R|.int i,.int j=>if((-18446744073709551616<i/\i<18446744073709551616)\/(-18446744073709551616<j/\j<18446744073709551616))then aB (.val (.int (i*j)))else b_|.lst xs,.int k=>if 0<=k/\0<xs.length/\xs.length*k.toNat<=lim then aB (.own (dA k.toNat xs).flatten)else b_|.tup xs,.int k=>if 0<=k/\0<xs.length/\xs.length*k.toNat<=lim then aB (.val (.tup (dA k.toNat xs).flatten))else b_|_,_=>b_
noncomputable def xO:D->D->Option R|.int i,.int j=>aB (.val (.int (i-j)))|_,_=>b_
noncomputable def rQ:D->D->Option R|.int i,.int j=>if 0<j/\j<1606938044258990275541962092341162602522202993782792835301376 then aB (.val (.int (i/j)))else b_|_,_=>b_
noncomputable def xU:D->D->Option R|.int i,.int j=>if 0<j then aB (.val (.int (i%j)))else b_|_,_=>b_
noncomputable def wO:D->D->Option R|.int i,.int j=>if 0<=j/\j<=1000/\i.natAbs<18446744073709551616 then aB (.val (.int (i^j.toNat)))else b_|_,_=>b_
noncomputable def J1:D->D->Option R|.int i,.int j=>if 0<=j/\j<=1000/\i.natAbs<18446744073709551616 then aB (.val (.int (i*2^j.toNat)))else b_|_,_=>b_
noncomputable def Jp:D->D->Option R|.int i,.int j=>if 0<=j then aB (.val (.int (i/2^j.toNat)))else b_|_,_=>b_
noncomputable def zu:D->D->Option R|.int i,.int j=>aB (.val (.int (Builtin.bitAnd i j)))|_,_=>b_
noncomputable def flat:D->Bool|.tup _=>a_|.lst _=>a_|.cZ _=>a_|.dv _ _=>a_|_=>ck
noncomputable def items:D->Option (List D)|.lst a=>aB a|.tup a=>aB a|_=>b_
noncomputable def Uj:D->Option (List D)|.tup a=>aB a|_=>b_
noncomputable def Hb(x y:D):Option Bool:=if jm 8 x&&jm 8 y then aB (lX x y)else b_
noncomputable def Hy(x y:D):Option Bool:=if jm 8 x&&jm 8 y then aB (!lX x y)else b_
noncomputable def Ky(f:Int->Int->Bool):D->D->Option Bool|.int i,.int j=>aB (f i j)|_,_=>b_
noncomputable def kj:D->Bool|.non=>ck|_=>a_
noncomputable def Vp(neg:Bool)(x:D):D->Option Bool|.non=>aB (if neg then !kj x else kj x)|_=>b_
noncomputable def Y9(neg:Bool)(x y:D):Option Bool:=(items y).bind λys=>if(flat x&&ys.all flat)=ck then aB (if neg then !(ys.any λy=>lX y x)else ys.any λy=>lX y x)else b_
noncomputable def cmT(neg:Bool):D->D->Option Bool|.bl b,.bl ck=>aB (if neg then !b else b)|_,_=>b_
noncomputable def aZ:List Int->List Int->Bool|[],_::_=>ck|i::is,j::js=>decide (i<j)||(decide (i=j)&&aZ is js)|_,[]=>a_
noncomputable def fG:D->Int|.int i=>i|_=>0
noncomputable def bO:D->List Int|.int i=>[i]|.tup a=>a.map fG|_=>[]
noncomputable def dI:D->Bool|.int _=>ck|_=>a_
noncomputable def Dc.get:Dc->D->Option (Option Int)|.k kvs,.int i=>aB ((kvs.find? λa=>decide (a.1=i)).map (·.2))|_,_=>b_
noncomputable def putD{κ:Type}[DecidableEq κ](kvs:List (κ×Int))(k:κ)(v:Int):List (κ×Int):=if(kvs.any λa=>decide (a.1=k))=ck then kvs.map (λa=>if a.1=k then(a.1,v)else a)else kvs++[(k,v)]
noncomputable def Dc.put:Dc->D->Int->Option Dc|.k kvs,.int i,v=>if kvs.length<lim then aB (.k (putD kvs i v))else b_|_,_,_=>b_
noncomputable def Dc.pL:Dc->List D->Option (Option Int)|.t kvs,a=>if a.all dI=ck then aB ((kvs.find? λb=>decide (b.1=a.map fG)).map (·.2))else b_|_,_=>b_
noncomputable def Dc.K8:Dc->List D->Int->Option Dc|.t kvs,a,v=>if a.all dI=ck/\kvs.length<lim then aB (.t (putD kvs (a.map fG) v))else b_|_,_,_=>b_
noncomputable def wL:D->List D->Option R|.cZ m,ks=>(m.pL ks).bind λo=>o.map λv=>.val (.int v)|_,_=>b_
noncomputable def Nu(kvs:List (Int×D))(k:Int):Option D:=(kvs.find? λp=>decide (p.1=k)).map (·.2)
noncomputable def vput(kvs:List (Int×D))(k:Int)(d:D):List (Int×D):=if(kvs.any λp=>decide (p.1=k))=ck then kvs.map (λp=>if p.1=k then(p.1,d)else p)else kvs++[(k,d)]
noncomputable def vg(a:Bool):D->D->Option R|.int i,.int j=>aB (.val (.bl (a !=decide (0<=i/\i<j))))|_,_=>b_
noncomputable def WD(neg:Bool):D->D->Option R|.int k,.dv ks _=>aB (.val (.bl (if neg then !ks.contains k else ks.contains k)))|_,_=>b_
noncomputable def uw:D->D->Option R|.cZ m,k=>(m.get k).bind λo=>o.map λv=>.val (.int v)|.dv ks a,.int k=>(Nu (ks.zip a) k).map .val|_,_=>b_
noncomputable def sZ:Op->D->D->Option R|.add=>rG|.mul=>pA|.sub=>xO|.fdiv=>rQ|.mod=>xU|.pow=>wO|.shl=>J1|.shr=>Jp|.band=>zu|.Kd=>uw|.din=>WD a_|.aeF=>WD ck|.inR=>vg a_|.Ke=>vg ck
noncomputable def Xa:D->D->Option Bool|.int i,.int j=>aB (decide (i<j))|.tup xs,.tup ys=>if(xs.all dI&&ys.all dI)=ck then aB (aZ (xs.map fG) (ys.map fG))else b_|_,_=>b_
noncomputable def aei:D->D->Option Bool|.int i,.int j=>aB (decide (i<=j))|.tup xs,.tup ys=>if(xs.all dI&&ys.all dI)=ck then aB (!aZ (ys.map fG) (xs.map fG))else b_|_,_=>b_
noncomputable def Zh:D->D->Option Bool|.tup xs,.tup ys=>if(xs.all dI&&ys.all dI)=ck then aB (!aZ (xs.map fG) (ys.map fG))else b_|_,_=>b_
noncomputable def cm:Cm->D->D->Option Bool|.eq=>Hb|.ne=>Hy|.lt=>Xa|.le=>Ky λi j=>decide (i<=j)|.leT=>aei|.geT=>Zh|.gt=>Ky λi j=>decide (j<i)|.ge=>Ky λi j=>decide (j<=i)|.isN=>Vp a_|.Oj=>Vp ck|.inn=>Y9 a_|.Zv=>Y9 ck|.isT=>cmT a_|.Zw=>cmT ck
noncomputable def p6(o:Cm)(x y:D):Option R:=(cm o x y).map λk=>.val (.bl k)
noncomputable def lD(n:Nat)(i:Int):Option Nat:=if 0<=i then(if i<n then aB i.toNat else b_)else if-(n:Int)<=i then aB (i+n).toNat else b_
noncomputable def at'{a:Type}(xs:List a)(i:Int):Option a:=(lD xs.length i).bind λj=>xs[j]?
noncomputable def dR(n d:Nat):Option Int->Nat|none=>d|some i=>if 0<=i then min i.toNat n else(i+n).toNat
noncomputable def cut{a:Type}(xs:List a)(lo hi:Option Int):List a:=(xs.drop (dR xs.length 0 lo)).take (dR xs.length xs.length hi-dR xs.length 0 lo)
noncomputable def fj:D->Option Int|.int i=>aB i|_=>b_
noncomputable def zp:D->Option Bool|.bl b=>aB b|_=>b_
noncomputable def dl2(k e:Int)(x y:D):Option R:=(fj x).bind λi=>(fj y).bind λj=>if i=k then b_ else aB (.val (.dv [k,i] [.int e,.int j]))
noncomputable def lixR:D->D->Option R|.lst a,.int i=>(a.mapM fj).bind λns=>if i∈ns/\ns.length<=1000 then aB (.val (.int (ns.idxOf i)))else b_|_,_=>b_
noncomputable def oO(x y:D):Option R:=(items x).bind λa=>(fj y).bind λi=>(at' a i).map .val
noncomputable def Jk(x:D):Option R:=(fj x).map λi=>.val (.int (-i))
noncomputable def ni:P->Bool|.con .non=>ck|_=>a_
noncomputable def part(p:P)(d:D):Option (Option Int):=if ni p then aB b_ else(fj d).map aB
noncomputable def wH:D->Option (Option Int)->Option (Option Int)->Option R|.lst xs,aB lo,aB hi=>aB (.own (cut xs lo hi))|.tup xs,aB lo,aB hi=>aB (.val (.tup (cut xs lo hi)))|_,_,_=>b_
noncomputable def dB:Ty->D->Bool|.int,.int _=>ck|.int,.bl _=>ck|.bool,.bl _=>ck|.str,.str _=>ck|.tuple,.tup _=>ck|.list,.lst _=>ck|.none,.non=>ck|_,_=>a_
noncomputable def rB:D->Bool|.tup (x::xs)=>(x::xs).all dI|_=>a_
noncomputable def sortable(ds:List D):Bool:=decide (ds.length<=63)&&(ds.all dI||ds.all rB)
noncomputable def kE(c:List D):List D:=c.mergeSort λa b=>!aZ (bO b) (bO a)
noncomputable def ordP:D->Bool|.tup [.int _,.tup a]=>a.all dI|_=>a_
noncomputable def flP:D->D|.tup [.int h,.tup a]=>.tup (.int h::a)|d=>d
noncomputable def ufP:D->D|.tup (.int h::a)=>.tup [.int h,.tup a]|d=>d
noncomputable def rZ:D->Option (List D)|.lst a=>aB a|_=>b_
noncomputable def jb(p:Int×Int):D:=.tup [.int p.1,.int p.2]
noncomputable def blt:Blt->List D->Option R|.len,[x]=>(items x).map λa=>.val (.int a.length)|.list,[x]=>(items x).map λa=>.own a|.tuple,[x]=>(items x).map λa=>.val (.tup a)|.min2,[.int i,.int j]=>aB (.val (.int (if j<i then j else i)))|.max2,[.int i,.int j]=>aB (.val (.int (if i<j then j else i)))|.FP,[x]=>((items x).bind λa=>a.mapM fj).bind λns=>ns.max?.map λi=>.val (.int i)|.sum,[x]=>((items x).bind λa=>a.mapM fj).map λns=>.val (.int ns.sum)|.all,[x]=>((rZ x).bind λa=>a.mapM zp).map λbs=>.val (.bl (bs.all id))|.sorted,[x]=>(rZ x).bind λa=>if sortable a then aB (.own (kE a))else b_|.abs,[.int i]=>aB (.val (.int (if i<0 then-i else i)))|.int,[.int i]=>aB (.val (.int i))|.int,[.bl b]=>aB (.val (.int (if b then 1 else 0)))|.keys,[.cZ (.k kvs)]=>aB (.val (.tup (kvs.map λp=>.int p.1)))|.keys,[.dv ks _]=>aB (.val (.tup (ks.map D.int)))|.Wk,[.cZ (.t kvs)]=>if kvs.length<=16777216 then aB (.own (kvs.map λp=>.tup (p.1.map D.int)))else b_|.Kf,[.lst a]=>aB (.own a.reverse)|.yz,[.cZ (.k kvs)]=>if sortable (kvs.map λp=>.int p.1)then aB (.own (kE (kvs.map λp=>.int p.1)))else b_|_,_=>b_
noncomputable def pk(ρ:List Sl)(i:Nat):Option D:=match ρ[i]?with|some (.val _ d)=>aB d|some (.own _ a)=>aB (.lst a)|some (.lent a)=>aB (.lst a)|_=>b_
noncomputable def W0(ρ:List Sl)(i:Nat):Option (List D):=match pk ρ i with|some (.lst a)=>aB a|_=>b_
noncomputable abbrev Ev:=List Sl->Res R
noncomputable def isVar:P->Option Nat|.var i=>aB i|_=>b_
noncomputable def bU(i:Option Nat)(e:Ev)(ρ:List Sl):Res D:=match i with|some i=>lift (pk ρ i) ρ|none=>(e ρ).bind λr ρ=>.ok r.d ρ
noncomputable def jf(i:Option Nat)(e:Ev)(j:Option Nat)(f:Ev)(ρ:List Sl):Res (D×D):=match i with|some i=>(lift (pk ρ i) ρ).bind λ_ ρ=>(bU j f ρ).bind λy ρ=>(lift (pk ρ i) ρ).bind λx ρ=>.ok (x,y) ρ|none=>(bU b_ e ρ).bind λx ρ=>(bU j f ρ).bind λy ρ=>.ok (x,y) ρ
noncomputable def kY(e:Ev)(ρ:List Sl):Res Bool:=(e ρ).bind λr ρ=>lift (zp r.d) ρ
set_option genInjectivity true in inductive Arg where|dat(d:D)|tmp(ds:List D)|gO(i:Nat)
noncomputable def uc:R->Arg|.val d=>.dat d|.own a=>.tmp a
noncomputable def cM(ρ:List Sl):List Arg->List Nat->Option (List Sl)|[],_=>aB []|.dat d::r,a=>(cM ρ r a).map λs=>.val a_ d::s|.tmp b::r,a=>(cM ρ r a).map λs=>.own a_ b::s|.gO i::r,a=>match ρ[i]?with|some (.val _ d)=>(cM ρ r a).map λs=>.val a_ d::s|some (.own _ b)=>if a.contains i then b_ else(cM ρ r (i::a)).map λs=>.own ck b::s|some (.lent b)=>if a.contains i then b_ else(cM ρ r (i::a)).map λs=>.lent b::s|_=>b_
theorem zc{ρ:List Sl}{u:List Nat}:cM ρ [] u=aB []:=rfl
theorem zg{ρ:List Sl}{d:D}{r:List Arg}{u:List Nat}:cM ρ (.dat d::r) u=(cM ρ r u).map λs=>.val a_ d::s:=rfl
theorem zV{ρ:List Sl}{d:List D}{r:List Arg}{u:List Nat}:cM ρ (.tmp d::r) u=(cM ρ r u).map λs=>.own a_ d::s:=rfl
theorem qQ{ρ:List Sl}{i:Nat}{r:List Arg}{u:List Nat}:cM ρ (.gO i::r) u=match ρ[i]?with|some (.val _ d)=>(cM ρ r u).map λs=>.val a_ d::s|some (.own _ a)=>if u.contains i then b_ else(cM ρ r (i::u)).map λs=>.own ck a::s|some (.lent a)=>if u.contains i then b_ else(cM ρ r (i::u)).map λs=>.lent a::s|_=>b_:=rfl
noncomputable def bF(i:Nat):List Arg->List Sl->Option Sl|.gO k::as,s::ss=>if k=i then aB s else bF i as ss|.dat _::as,_::ss=>bF i as ss|.tmp _::as,_::ss=>bF i as ss|_,_=>b_
noncomputable def gk:Sl->Option Sl->Sl|.own b _,aB (.own _ a)=>.own b a|.own b _,aB (.val _ d)=>.val b d|s,_=>s
noncomputable def fX(as:List Arg)(ss:List Sl):Nat->List Sl->List Sl|_,[]=>[]|i,s::ρ=>gk s (bF i as ss)::fX as ss (i+1) ρ
theorem qH{as:List Arg}{ss:List Sl}{i:Nat}:fX as ss i []=[]:=rfl
theorem mO{as:List Arg}{ss:List Sl}{i:Nat}{s:Sl}{ρ:List Sl}:fX as ss i (s::ρ)=gk s (bF i as ss)::fX as ss (i+1) ρ:=rfl
noncomputable abbrev Call:=Nat->List Sl->Res R
noncomputable def qG(c:Call)(f:Nat)(as:List Arg)(ρ:List Sl):Res R:=match cM ρ as []with|none=>.stuck|some args=>match c f args with|.ok r a=>.ok r (fX as a 0 ρ)|.exc _ _=>.stuck|.stuck=>.stuck
noncomputable def put(ρ:List Sl)(i:Nat)(s:Sl):Option (List Sl):=match ρ[i]?with|some .aM=>aB (ρ.set i s)|some (.val a_ _)=>aB (ρ.set i s)|some (.own a_ _)=>aB (ρ.set i s)|_=>b_
noncomputable def putAll(ρ:List Sl):List Nat->List D->Option (List Sl)|[],[]=>aB ρ|i::is,d::a=>(put ρ i (.val a_ d)).bind λρ=>putAll ρ is a|_,_=>b_
theorem kI{ρ:List Sl}:putAll ρ [] []=aB ρ:=rfl
theorem gw{ρ:List Sl}{i:Nat}{is:List Nat}{d:D}{a:List D}:putAll ρ (i::is) (d::a)=(put ρ i (.val a_ d)).bind λρ=>putAll ρ is a:=rfl
theorem o7{ρ:List Sl}{i:Nat}{is:List Nat}:putAll ρ (i::is) []=b_:=rfl
theorem oV{ρ:List Sl}{d:D}{a:List D}:putAll ρ [] (d::a)=b_:=rfl
noncomputable def bV(ρ:List Sl)(is:List Nat)(one:Bool)(d:D):Option (List Sl):=match one,is,d with|true,[i],d=>put ρ i (.val a_ d)|false,is,.tup a=>putAll ρ is a|_,_,_=>b_
noncomputable def srcOf(i:Option Nat)(e:Ev)(ρ:List Sl):Res (List D):=match i with
 |some i=>match ρ[i]?with|some (.val _ d)=>lift (items d) ρ|some (.own _ a)=>.ok a (ρ.set i (.lent a))|some (.lent a)=>.ok a ρ|_=>.stuck
 |none=>(e ρ).bind λr ρ=>lift (items r.d) ρ
noncomputable def bH(a:List Sl)(i:Option Nat)(ρ:List Sl):List Sl:=match i with
 |some i=>match a[i]?with|some (.own b c)=>ρ.set i (.own b c)|_=>ρ
 |none=>ρ
noncomputable def srcY(i:Nat)(f:Ev)(ρ:List Sl):Res (List D×List Sl):=(f ρ).bind λr a=>(lift (items r.d) a).bind λes a=>match a[i]?with|some (.val _ d)=>(lift (items d) a).bind λb a=>.ok ((es.zip b).map λp=>D.tup [p.1,p.2],a) a|some (.own _ b)=>.ok ((es.zip b).map λp=>D.tup [p.1,p.2],a) (a.set i (.lent b))|some (.lent b)=>.ok ((es.zip b).map λp=>D.tup [p.1,p.2],a) a|_=>.stuck
noncomputable def turns(is:List Nat)(one:Bool)(a:List Sl->Res Bool)(e:Ev):List D->List D->List Sl->Res (List D)|[],c,ρ=>.ok c ρ|d::r,c,ρ=>match bV ρ is one d with|none=>.stuck|some ρ=>(a ρ).bind λb ρ=>if b then(e ρ).bind λx ρ=>turns is one a e r (c++[x.d]) ρ else turns is one a e r c ρ
theorem vQ{is:List Nat}{o:Bool}{f:List Sl->Res Bool}{e:Ev}{a:List D}{ρ:List Sl}:turns is o f e [] a ρ=.ok a ρ:=rfl
theorem vp{is:List Nat}{o:Bool}{f:List Sl->Res Bool}{e:Ev}{d:D}{r a:List D}{ρ:List Sl}:turns is o f e (d::r) a ρ=match bV ρ is o d with|none=>.stuck|some ρ=>(f ρ).bind λb ρ=>if b then(e ρ).bind λx ρ=>turns is o f e r (a++[x.d]) ρ else turns is o f e r a ρ:=rfl
mutual
noncomputable def ev(c:Call):P->List Sl->Res R
 |.var i,ρ=>match ρ[i]?with|some (.val _ d)=>.ok (.val d) ρ|some (.own b e)=>.ok (.val (.lst e)) (ρ.set i (.val b (.lst e)))|some (.dq (.k kvs))=>.ok (.val (.cZ (.k kvs))) (ρ.set i (.val a_ (.cZ (.k kvs))))|some (.uN kvs)=>.ok (.val (.dv (kvs.map (·.1)) (kvs.map (·.2)))) (ρ.set i (.val a_ (.dv (kvs.map (·.1)) (kvs.map (·.2)))))|_=>.stuck
 |.con d,ρ=>.ok (.val d) ρ|.bin o a b,ρ=>(jf (isVar a) (ev c a) (isVar b) (ev c b) ρ).bind λg ρ=>lift (sZ o g.1 g.2) ρ|.neg a,ρ=>(bU (isVar a) (ev c a) ρ).bind λx ρ=>lift (Jk x) ρ|.not a,ρ=>(kY (ev c a) ρ).bind λb ρ=>.ok (.val (.bl (!b))) ρ|.and a b,ρ=>(kY (ev c a) ρ).bind λx ρ=>if x then(kY (ev c b) ρ).bind λy ρ=>.ok (.val (.bl y)) ρ else .ok (.val (.bl a_)) ρ|.or a b,ρ=>(kY (ev c a) ρ).bind λx ρ=>if x then .ok (.val (.bl ck)) ρ else(kY (ev c b) ρ).bind λy ρ=>.ok (.val (.bl y)) ρ|.cmp o a b,ρ=>(jf (isVar a) (ev c a) (isVar b) (ev c b) ρ).bind λg ρ=>lift (p6 o g.1 g.2) ρ|.chain o C a b d,ρ=>(jf (isVar a) (ev c a) (isVar b) (ev c b) ρ).bind λg ρ=>(lift (if flat g.2=ck then cm o g.1 g.2 else b_) ρ).bind λk ρ=>if k then(bU (isVar d) (ev c d) ρ).bind λz ρ=>lift (p6 C g.2 z) ρ else .ok (.val (.bl a_)) ρ|.ife t a b,ρ=>(kY (ev c t) ρ).bind λk ρ=>if k then(ev c a ρ).bind λr ρ=>.ok (.val r.d) ρ else(ev c b ρ).bind λr ρ=>.ok (.val r.d) ρ|.tup as,ρ=>(evs c as ρ).bind λe ρ=>.ok (.val (.tup e)) ρ|.lst as,ρ=>(evs c as ρ).bind λe ρ=>.ok (.own e) ρ|.idx a i,ρ=>(jf (isVar a) (ev c a) (isVar i) (ev c i) ρ).bind λg ρ=>lift (oO g.1 g.2) ρ|.slice a l h,ρ=>match isVar a with|some i=>(lift (pk ρ i) ρ).bind λ_ ρ=>(bU (isVar l) (ev c l) ρ).bind λy ρ=>(bU (isVar h) (ev c h) ρ).bind λz ρ=>(lift (pk ρ i) ρ).bind λx ρ=>lift (wH x (part l y) (part h z)) ρ|none=>(bU b_ (ev c a) ρ).bind λx ρ=>(bU (isVar l) (ev c l) ρ).bind λy ρ=>(bU (isVar h) (ev c h) ρ).bind λz ρ=>lift (wH x (part l y) (part h z)) ρ
 |.call f as,ρ=>(Af c as ρ).bind λxs ρ=>qG c f xs ρ|.blt b [a],ρ=>(bU (isVar a) (ev c a) ρ).bind λx ρ=>lift (blt b [x]) ρ|.blt b as,ρ=>(evs c as ρ).bind λe ρ=>lift (blt b e) ρ|.inst E a,ρ=>(bU (isVar a) (ev c a) ρ).bind λx ρ=>.ok (.val (.bl (E.any λt=>dB t x))) ρ|.comp src n is one u B,ρ=>(srcOf (isVar src) (ev c src) ρ).bind λe q=>if e.length<=lim then(turns is one (jR c u) (ev c B) e [] (q++dA n .aM)).bind λxs s=>.ok (.own xs) (bH ρ (isVar src) (s.take q.length))else .stuck|.nY a b,ρ=>(jf (isVar a) (ev c a) (isVar b) (ev c b) ρ).bind λg ρ=>lift ((fj g.1).bind λi=>(fj g.2).bind λj=>if-1000000<=i/\i<=1000000000/\j<=1000000000/\-1000000000<=j then aB (.val (.lst ((dV (j-i).toNat).map λ(k:Nat)=>D.int (i+(k:Int)))))else b_) ρ|.Zx a,ρ=>(ev c a ρ).bind λr ρ=>lift ((items r.d).map λe=>.val (.lst (e.mapIdx λi d=>D.tup [.int (i:Int),d]))) ρ|.zip a b,ρ=>(ev c a ρ).bind λx ρ=>(ev c b ρ).bind λy ρ=>lift ((items x.d).bind λe=>(items y.d).map λes=>.val (.lst ((e.zip es).map λp=>D.tup [p.1,p.2]))) ρ|.Uz x k d,ρ=>match ρ[x]?with
   |some (.dq _)=>(bU (isVar k) (ev c k) ρ).bind λF ρ=>(bU (isVar d) (ev c d) ρ).bind λw ρ=>match ρ[x]?with|some (.dq m)=>lift ((m.get F).bind λo=>(fj w).map λv=>.val (.int (o.getD v))) ρ|_=>.stuck
   |_=>.stuck
 |.vw x,ρ=>match ρ[x]?with|some (.dq m)=>.ok (.val (.cZ m)) (ρ.set x (.val a_ (.cZ m)))|some (.uN kvs)=>.ok (.val (.dv (kvs.map (·.1)) (kvs.map (·.2)))) (ρ.set x (.val a_ (.dv (kvs.map (·.1)) (kvs.map (·.2)))))|some (.own b e)=>.ok (.val (.lst e)) (ρ.set x (.val b (.lst e)))|some (.val _ d)=>.ok (.val d) ρ|_=>.stuck
 |.Kg x ks,ρ=>(lift (pk ρ x) ρ).bind λ_ ρ=>(evs c ks ρ).bind λA ρ=>(lift (pk ρ x) ρ).bind λw ρ=>lift (wL w A) ρ|.yC x ks d,ρ=>match ρ[x]?with
   |some (.dq _)=>(evs c ks ρ).bind λA ρ=>(bU (isVar d) (ev c d) ρ).bind λw ρ=>match ρ[x]?with|some (.dq m)=>lift ((m.pL A).bind λo=>(fj w).map λv=>.val (.int (o.getD v))) ρ|_=>.stuck
   |_=>.stuck
 |.FQ x ks,ρ=>match ρ[x]?with
   |some (.dq _)=>(evs c ks ρ).bind λA ρ=>match ρ[x]?with|some (.dq m)=>lift ((m.pL A).bind λo=>o.map λv=>.val (.int v)) ρ|_=>.stuck
   |_=>.stuck
noncomputable def evs(c:Call):List P->List Sl->Res (List D)|[],ρ=>.ok [] ρ|a::r,ρ=>(ev c a ρ).bind λx ρ=>(evs c r ρ).bind λxs ρ=>.ok (x.d::xs) ρ
noncomputable def Af(c:Call):List P->List Sl->Res (List Arg)|[],ρ=>.ok [] ρ|a::r,ρ=>match isVar a with|some i=>(lift (pk ρ i) ρ).bind λ_ ρ=>(Af c r ρ).bind λxs ρ=>.ok (.gO i::xs) ρ|none=>(ev c a ρ).bind λx ρ=>(Af c r ρ).bind λxs ρ=>.ok (uc x::xs) ρ
noncomputable def jR(c:Call):Option P->List Sl->Res Bool|none,ρ=>.ok ck ρ|some t,ρ=>kY (ev c t) ρ
end
theorem o4{c:Call}{ρ:List Sl}:evs c [] ρ=.ok [] ρ:=rfl
theorem kZ{c:Call}{a:P}{r:List P}{ρ:List Sl}:evs c (a::r) ρ=(_H.ev c a ρ).bind λx ρ=>(evs c r ρ).bind λxs ρ=>.ok (x.d::xs) ρ:=rfl
theorem JL{c:Call}{ρ:List Sl}:Af c [] ρ=.ok [] ρ:=rfl
theorem zT{c:Call}{a:P}{r:List P}{ρ:List Sl}:Af c (a::r) ρ=match isVar a with|some i=>(lift (pk ρ i) ρ).bind λ_ ρ=>(Af c r ρ).bind λxs ρ=>.ok (.gO i::xs) ρ|none=>(_H.ev c a ρ).bind λx ρ=>(Af c r ρ).bind λxs ρ=>.ok (uc x::xs) ρ:=rfl
theorem E1{c i ρ}:ev c (.var i) ρ=match ρ[i]?with|some (.val _ d)=>.ok (.val d) ρ|some (.own b a)=>.ok (.val (.lst a)) (ρ.set i (.val b (.lst a)))|some (.dq (.k kvs))=>.ok (.val (.cZ (.k kvs))) (ρ.set i (.val a_ (.cZ (.k kvs))))|some (.uN kvs)=>.ok (.val (.dv (kvs.map (·.1)) (kvs.map (·.2)))) (ρ.set i (.val a_ (.dv (kvs.map (·.1)) (kvs.map (·.2)))))|_=>.stuck:=(rfl)
theorem E2{c d ρ}:ev c (.con d) ρ=.ok (.val d) ρ:=(rfl)
theorem E3{c o a b ρ}:ev c (.bin o a b) ρ=(jf (isVar a) (ev c a) (isVar b) (ev c b) ρ).bind λe ρ=>lift (sZ o e.1 e.2) ρ:=(rfl)
theorem E4{c a ρ}:ev c (.neg a) ρ=(bU (isVar a) (ev c a) ρ).bind λx ρ=>lift (Jk x) ρ:=(rfl)
theorem E5{c a ρ}:ev c (.not a) ρ=(kY (ev c a) ρ).bind λb ρ=>.ok (.val (.bl (!b))) ρ:=(rfl)
theorem E6{c a b ρ}:ev c (.and a b) ρ=(kY (ev c a) ρ).bind λx ρ=>if x then(kY (ev c b) ρ).bind λy ρ=>.ok (.val (.bl y)) ρ else .ok (.val (.bl a_)) ρ:=(rfl)
theorem E7{c a b ρ}:ev c (.or a b) ρ=(kY (ev c a) ρ).bind λx ρ=>if x then .ok (.val (.bl ck)) ρ else(kY (ev c b) ρ).bind λy ρ=>.ok (.val (.bl y)) ρ:=(rfl)
theorem E8{c o a b ρ}:ev c (.cmp o a b) ρ=(jf (isVar a) (ev c a) (isVar b) (ev c b) ρ).bind λe ρ=>lift (p6 o e.1 e.2) ρ:=(rfl)
theorem E9{c o o' a b d ρ}:ev c (.chain o o' a b d) ρ=(jf (isVar a) (ev c a) (isVar b) (ev c b) ρ).bind λe ρ=>(lift (if flat e.2=ck then cm o e.1 e.2 else b_) ρ).bind λk ρ=>if k then(bU (isVar d) (ev c d) ρ).bind λz ρ=>lift (p6 o' e.2 z) ρ else .ok (.val (.bl a_)) ρ:=(rfl)
theorem E10{c t a b ρ}:ev c (.ife t a b) ρ=(kY (ev c t) ρ).bind λk ρ=>if k then(ev c a ρ).bind λr ρ=>.ok (.val r.d) ρ else(ev c b ρ).bind λr ρ=>.ok (.val r.d) ρ:=(rfl)
theorem E11{c as ρ}:ev c (.tup as) ρ=(evs c as ρ).bind λa ρ=>.ok (.val (.tup a)) ρ:=(rfl)
theorem E12{c as ρ}:ev c (.lst as) ρ=(evs c as ρ).bind λa ρ=>.ok (.own a) ρ:=(rfl)
theorem E13{c a i ρ}:ev c (.idx a i) ρ=(jf (isVar a) (ev c a) (isVar i) (ev c i) ρ).bind λb ρ=>lift (oO b.1 b.2) ρ:=(rfl)
theorem E14{c a l h ρ}:ev c (.slice a l h) ρ=match isVar a with|some i=>(lift (pk ρ i) ρ).bind λ_ ρ=>(bU (isVar l) (ev c l) ρ).bind λy ρ=>(bU (isVar h) (ev c h) ρ).bind λz ρ=>(lift (pk ρ i) ρ).bind λx ρ=>lift (wH x (part l y) (part h z)) ρ|none=>(bU b_ (ev c a) ρ).bind λx ρ=>(bU (isVar l) (ev c l) ρ).bind λy ρ=>(bU (isVar h) (ev c h) ρ).bind λz ρ=>lift (wH x (part l y) (part h z)) ρ:=(rfl)
theorem E15{c f as ρ}:ev c (.call f as) ρ=(Af c as ρ).bind λxs ρ=>qG c f xs ρ:=(rfl)
theorem E16{c b a ρ}:ev c (.blt b [a]) ρ=(bU (isVar a) (ev c a) ρ).bind λx ρ=>lift (blt b [x]) ρ:=(rfl)
theorem E17{c b x y r ρ}:ev c (.blt b (x::y::r)) ρ=(evs c (x::y::r) ρ).bind λa ρ=>lift (blt b a) ρ:=(rfl)
theorem Xr{c b ρ}:ev c (.blt b []) ρ=(evs c [] ρ).bind λa ρ=>lift (blt b a) ρ:=(rfl)
theorem E18{c ts a ρ}:ev c (.inst ts a) ρ=(bU (isVar a) (ev c a) ρ).bind λx ρ=>.ok (.val (.bl (ts.any λt=>dB t x))) ρ:=(rfl)
theorem E19{c src n is one test elt ρ}:ev c (.comp src n is one test elt) ρ=(srcOf (isVar src) (ev c src) ρ).bind λe a=>if e.length<=lim then(turns is one (jR c test) (ev c elt) e [] (a++dA n .aM)).bind λxs b=>.ok (.own xs) (bH ρ (isVar src) (b.take a.length))else .stuck:=(rfl)
theorem E20{c a b ρ}:ev c (.nY a b) ρ=(jf (isVar a) (ev c a) (isVar b) (ev c b) ρ).bind λe ρ=>lift ((fj e.1).bind λi=>(fj e.2).bind λj=>if-1000000<=i/\i<=1000000000/\j<=1000000000/\-1000000000<=j then aB (.val (.lst ((dV (j-i).toNat).map λ(k:Nat)=>D.int (i+(k:Int)))))else b_) ρ:=(rfl)
theorem E21{c a ρ}:ev c (.Zx a) ρ=(ev c a ρ).bind λr ρ=>lift ((items r.d).map λb=>.val (.lst (b.mapIdx λi d=>D.tup [.int (i:Int),d]))) ρ:=(rfl)
theorem E22{c a b ρ}:ev c (.zip a b) ρ=(ev c a ρ).bind λx ρ=>(ev c b ρ).bind λy ρ=>lift ((items x.d).bind λe=>(items y.d).map λes=>.val (.lst ((e.zip es).map λp=>D.tup [p.1,p.2]))) ρ:=(rfl)
theorem E23{c x k d ρ}:ev c (.Uz x k d) ρ=match ρ[x]?with
 |some (.dq _)=>(bU (isVar k) (ev c k) ρ).bind λa ρ=>(bU (isVar d) (ev c d) ρ).bind λb ρ=>match ρ[x]?with|some (.dq m)=>lift ((m.get a).bind λo=>(fj b).map λv=>.val (.int (o.getD v))) ρ|_=>.stuck
 |_=>.stuck:=(rfl)
theorem E24{c x ρ}:ev c (.vw x) ρ=match ρ[x]?with|some (.dq m)=>.ok (.val (.cZ m)) (ρ.set x (.val a_ (.cZ m)))|some (.uN kvs)=>.ok (.val (.dv (kvs.map (·.1)) (kvs.map (·.2)))) (ρ.set x (.val a_ (.dv (kvs.map (·.1)) (kvs.map (·.2)))))|some (.own b a)=>.ok (.val (.lst a)) (ρ.set x (.val b (.lst a)))|some (.val _ d)=>.ok (.val d) ρ|_=>.stuck:=(rfl)
theorem E25{c x ks ρ}:ev c (.Kg x ks) ρ=(lift (pk ρ x) ρ).bind λ_ ρ=>(evs c ks ρ).bind λa ρ=>(lift (pk ρ x) ρ).bind λb ρ=>lift (wL b a) ρ:=(rfl)
theorem E26{c x ks d ρ}:ev c (.yC x ks d) ρ=match ρ[x]?with
 |some (.dq _)=>(evs c ks ρ).bind λa ρ=>(bU (isVar d) (ev c d) ρ).bind λb ρ=>match ρ[x]?with|some (.dq m)=>lift ((m.pL a).bind λo=>(fj b).map λv=>.val (.int (o.getD v))) ρ|_=>.stuck
 |_=>.stuck:=(rfl)
theorem E27{c x ks ρ}:ev c (.FQ x ks) ρ=match ρ[x]?with
 |some (.dq _)=>(evs c ks ρ).bind λa ρ=>match ρ[x]?with|some (.dq m)=>lift ((m.pL a).bind λo=>o.map λv=>.val (.int v)) ρ|_=>.stuck
 |_=>.stuck:=(rfl)
noncomputable def pckA(c:Call)(f p x t:Nat)(ρ:List Sl):Res R:=match pk ρ x with|some (.lst (_::_))=>ev c (.call f [.var p,.var x,.var t]) ρ|some (.lst [])=>ev c (.call f [.var p,.lst [.con (.int 0)],.var t]) ρ|_=>.stuck
inductive S where|pass|brk|cont|bad|expr(e:P)|asg(i:Nat)(e:P)|Gi(i:List Nat)(e:P)|FT(x:Nat)(i e:P)|app(x:Nat)(e:P)|ret(e:P)|Zy|ifs(c:P)(a b:List S)|gf(src:P)(i:List Nat)(one:Bool)(body:List S)|aug(x:Nat)(sub:Bool)(e:P)|tu(x:Nat)(t:Bool)|dput(x:Nat)(k e:P)|nZ(x:Nat)(ks:List P)(e:P)|FW(x:Nat)(src:P)(k:Nat)(is:List Nat)(one:Bool)(elt:P)|yD(x:Nat)(i j:P)(sub:Bool)(e:P)|Zz(x:Nat)(i j:P)(e:P)|Kh(x y:Nat)(j k l:P)|yE(src:P)(is:List Nat)(one:Bool)(body:List S)|fO(x:Nat)deriving Inhabited
inductive Fl where|next|brk|cont|ret(r:R)deriving Inhabited
noncomputable def U6:Nat->D->Bool|_,.non=>ck|_,.bl _=>ck|_,.int _=>ck|_,.str _=>ck|k+1,.tup a=>a.all (U6 k)|_,_=>a_
noncomputable def tldF(c:Call)(x y f g a:Nat)(ρ:List Sl):Res Fl:=match ρ[a]?with|some (.val _ d)=>if U6 3 d=ck/\a≠x then(lift (put ρ x .aM) ρ).bind λb _=>match c f [.val a_ d]with|.ok (.val (.tup [.int z,.lst e,.tup es])) _=>if e.all dI=ck/\es.all dI=ck/\e.length<1000 then match c g [.val a_ d,.val a_ (.tup [.int z,.lst e,.tup es])]with|.ok (.val (.bl ck)) _=>(lift (put b y (.val a_ (.tup [.int z,.lst e,.tup es]))) b).bind λh _=>.ok .next h|.ok (.val (.bl a_)) _=>.ok (.ret (.val (.bl a_))) b|_=>.stuck else .stuck|_=>.stuck else .stuck|_=>.stuck
noncomputable def lfs:Sl->Bool|.aM=>ck|.val _ d=>U6 9 d|_=>a_
noncomputable def scl:D->Bool|.bl _=>ck|.int _=>ck|.non=>ck|_=>a_
noncomputable def Bk:Sl->Sl|.val b d=>if U6 9 d=ck then .val b d else .aM|_=>.aM
noncomputable def vlS:Sl->Bool|.aM=>ck|.val _ _=>ck|_=>a_
noncomputable def lckS:Sl->Sl|.val b d=>if U6 9 d=ck then .val b d else .val ck d|s=>s
noncomputable def XJ:Sl->Sl->Sl|.val b d,t=>if U6 9 d=ck then Bk t else .val b d|_,t=>Bk t
noncomputable def Zm(a b:List Sl):List Sl:=List.zipWith XJ a b
noncomputable def Xk:D->Bool
 |.lst a=>decide (a.length<1000)&&a.all λr=>match r with|.lst is=>is.all dI&&decide (3<=is.length)|_=>a_
 |_=>a_
noncomputable def wrkT(b:List Sl)(x o v:Nat)(c:Fl)(a:List Sl):Res Fl:=match c with
 |.ret (.val d)=>if scl d=ck then .ok (.ret (.val d)) (Zm b a)else .stuck|.next=>match a[v]?,a[x]?with|some (.val _ (.int i)),aB (.val ck d)=>if(i≠0\/Xk d=ck)/\o≠x/\o≠v then .ok .next (((Zm b a).set o .aM).set x .aM)else .stuck|_,_=>.stuck
 |_=>.stuck
noncomputable def fshT(y a b:Nat)(f:Fl)(ρ:List Sl):Res Fl:=match f with
 |.ret (.val d)=>if scl d=ck then .ok (.ret (.val d)) (ρ.map Bk)else .stuck|.next=>match ρ[a]?,ρ[b]?with|some (.val a_ (.lst c)),aB (.val a_ (.lst es))=>if c.all dI=ck/\es.all dI=ck/\c.length<1000/\0<es.length/\a≠y/\b≠y then(lift (put (ρ.map Bk) y (.val a_ (.tup [.lst c,.lst es]))) ρ).bind λe _=>.ok .next e else .stuck|_,_=>.stuck
 |_=>.stuck
noncomputable def zr:R->Sl|.val d=>.val a_ d|.own a=>.own a_ a
noncomputable def jh(is:List Nat)(one:Bool)(body:List Sl->Res Fl):List D->List Sl->Res Fl|[],ρ=>.ok .next ρ|d::r,ρ=>match bV ρ is one d with|none=>.stuck|some ρ=>(body ρ).bind λa ρ=>match a with|.next=>jh is one body r ρ|.cont=>jh is one body r ρ|.brk=>.ok .next ρ|.ret r=>.ok (.ret r) ρ
theorem Hv{is:List Nat}{o:Bool}{b:List Sl->Res Fl}{ρ:List Sl}:jh is o b [] ρ=.ok .next ρ:=rfl
theorem zQ{is:List Nat}{o:Bool}{b:List Sl->Res Fl}{d:D}{r:List D}{ρ:List Sl}:jh is o b (d::r) ρ=match bV ρ is o d with|none=>.stuck|some ρ=>(b ρ).bind λa ρ=>match a with|.next=>jh is o b r ρ|.cont=>jh is o b r ρ|.brk=>.ok .next ρ|.ret r=>.ok (.ret r) ρ:=rfl
noncomputable def Ak(a:List Sl->Res Bool)(body:List Sl->Res Fl):Nat->List Sl->Res Fl|0,_=>.stuck|n+1,ρ=>(a ρ).bind λb ρ=>if b then(body ρ).bind λc ρ=>match c with|.next=>Ak a body n ρ|.cont=>Ak a body n ρ|.brk=>.ok .next ρ|.ret r=>.ok (.ret r) ρ else .ok .next ρ
theorem aci{f:List Sl->Res Bool}{b:List Sl->Res Fl}{ρ:List Sl}:Ak f b 0 ρ=.stuck:=rfl
theorem Sv{f:List Sl->Res Bool}{b:List Sl->Res Fl}{n:Nat}{ρ:List Sl}:Ak f b (n+1) ρ=(f ρ).bind λx ρ=>if x then(b ρ).bind λa ρ=>match a with|.next=>Ak f b n ρ|.cont=>Ak f b n ρ|.brk=>.ok .next ρ|.ret r=>.ok (.ret r) ρ else .ok .next ρ:=rfl
noncomputable def iV(is:List Nat)(one:Bool)(b:Ev):List D->List (List D)->List Sl->Res (List (List D))|[],a,ρ=>.ok a ρ|d::r,a,ρ=>match bV ρ is one d with|none=>.stuck|some ρ=>(b ρ).bind λx ρ=>match x with|.own c=>iV is one b r (a++[c]) ρ|.val _=>.stuck
theorem JD{is:List Nat}{o:Bool}{e:Ev}{a:List (List D)}{ρ:List Sl}:iV is o e [] a ρ=.ok a ρ:=rfl
theorem Ib{is:List Nat}{o:Bool}{e:Ev}{d:D}{r:List D}{a:List (List D)}{ρ:List Sl}:iV is o e (d::r) a ρ=match bV ρ is o d with|none=>.stuck|some ρ=>(e ρ).bind λx ρ=>match x with|.own b=>iV is o e r (a++[b]) ρ|.val _=>.stuck:=rfl
noncomputable def rowAt(a:List (List D))(k:Int):Option (List D):=(lD a.length k).bind λr=>a[r]?
noncomputable def gA(a:List (List D))(k:Int)(f:List D->Option (List D)):Option (List (List D)):=(lD a.length k).bind λr=>(a[r]?).bind λrow=>(f row).map λb=>a.set r b
noncomputable def setAt(l:Int)(d:D)(row:List D):Option (List D):=(lD row.length l).map λm=>row.set m d
noncomputable def gh(ρ:List Sl)(x:Nat):Option (List (List D)):=match ρ[x]?with|some (.hold a)=>aB a|_=>b_
noncomputable def fV(ρ:List Sl)(x:Nat)(k:D):Option (List D):=(gh ρ x).bind λa=>(fj k).bind λk=>rowAt a k
noncomputable def vH(ρ:List Sl)(x:Nat)(o:Option (List (List D))):Res Fl:=match o with|some a=>.ok .next (ρ.set x (.hold a))|none=>.stuck
noncomputable def rowOne(x r:Nat)(b c e:List Sl->Res D)(ρ:List Sl):Res Fl:=(c ρ).bind λk ρ=>(lift ((gh ρ x).bind λa=>(a[r]?).bind λrow=>(fj k).bind λk=>(at' row k).bind fj) ρ).bind λu ρ=>(e ρ).bind λl ρ=>(lift ((gh ρ x).bind λa=>(a[r]?).bind λrow=>(fj l).bind λl=>(at' row l).bind fj) ρ).bind λv ρ=>(b ρ).bind λj ρ=>vH ρ x ((gh ρ x).bind λa=>(a[r]?).bind λrow=>(fj j).bind λj=>(setAt j (.int (u+v)) row).map λf=>a.set r f)
noncomputable def iH(x y:Nat)(a b c:List Sl->Res D):Nat->Nat->List Sl->Res Fl|0,_,ρ=>.ok .next ρ|m+1,r,ρ=>(lift (put ρ y .aM) ρ).bind λρ _=>(rowOne x r a b c ρ).bind λ_ ρ=>iH x y a b c m (r+1) ρ
noncomputable def Ra(is:List Nat)(one:Bool)(body:List Sl->Res Fl)(b:List Sl->Option (Nat×List Sl)):List D->List Sl->Option (Nat×List Sl)|[],_=>b_|d::r,ρ=>match bV ρ is one d with|none=>b_|some ρ=>match b ρ with|some x=>aB x|none=>match body ρ with|.ok .next a=>Ra is one body b r a|.ok .cont a=>Ra is one body b r a|_=>b_
noncomputable def WK(a:List Sl->Res Bool)(body:List Sl->Res Fl)(e:List Sl->Option (Nat×List Sl)):Nat->List Sl->Option (Nat×List Sl)|0,_=>b_|n+1,ρ=>match a ρ with
   |.ok ck c=>match e c with|some x=>aB x|none=>match body c with|.ok .next b=>WK a body e n b|.ok .cont b=>WK a body e n b|_=>b_
   |_=>b_
noncomputable def Ry:P->P|.idx a _=>a|.blt .sum [.comp s _ _ _ _ _]=>s|e=>e
noncomputable def arg0:P->P|.call _ (a::_)=>a|e=>e
noncomputable def CZ(c:Call)(e:P)(ρ:List Sl):Option (Nat×List Sl):=match Ry e with
 |.call f as=>match Af c as ρ with
   |.ok xs b=>match cM b xs []with
     |some args=>match c f args with|.exc k a=>aB (k,fX xs a 0 b)|_=>b_
     |none=>b_
   |_=>b_
 |_=>b_
mutual
noncomputable def ex(c:Call)(n:Nat):S->List Sl->Res Fl
 |.pass,ρ=>.ok .next ρ|.brk,ρ=>.ok .brk ρ|.cont,ρ=>.ok .cont ρ|.bad,_=>.stuck|.expr e,ρ=>(ev c e ρ).bind λ_ ρ=>.ok .next ρ|.asg i e,ρ=>(ev c e ρ).bind λr ρ=>(lift (put ρ i (zr r)) ρ).bind λo _=>.ok .next o|.Gi is e,ρ=>(ev c e ρ).bind λr ρ=>match r.d with|.tup h=>(lift (putAll ρ is h) ρ).bind λo _=>.ok .next o|_=>.stuck
 |.FT x i e,ρ=>(ev c e ρ).bind λr ρ=>(lift (pk ρ x) ρ).bind λ_ ρ=>(bU (isVar i) (ev c i) ρ).bind λk ρ=>match ρ[x]?,k with
   |some (.own b h),.int k=>match lD h.length k with|some j=>.ok .next (ρ.set x (.own b (h.set j r.d)))|none=>.stuck
   |_,_=>.stuck
 |.app x e,ρ=>(lift (W0 ρ x) ρ).bind λ_ ρ=>(ev c e ρ).bind λr ρ=>match ρ[x]?with|some (.own b h)=>if h.length<lim then .ok .next (ρ.set x (.own b (h++[r.d])))else .stuck|_=>.stuck
 |.ret e,ρ=>match isVar e with
   |some i=>match ρ[i]?with|some (.own a_ h)=>.ok (.ret (.own h)) (ρ.set i .aM)|_=>(ev c e ρ).bind λr ρ=>.ok (.ret r) ρ
   |none=>(ev c e ρ).bind λr ρ=>.ok (.ret r) ρ
 |.Zy,ρ=>.ok (.ret (.val .non)) ρ|.ifs t a b,ρ=>(kY (ev c t) ρ).bind λk ρ=>if k then ji c n a ρ else ji c n b ρ|.gf src is one body,ρ=>(srcOf (isVar src) (ev c src) ρ).bind λh f=>(jh is one (ji c n body) h f).bind λz p=>.ok z (bH ρ (isVar src) p)|.aug x sub e,ρ=>(lift (pk ρ x) ρ).bind λa ρ=>(bU (isVar e) (ev c e) ρ).bind λb ρ=>match a,b with|.int i,.int j=>(lift (put ρ x (.val a_ (.int (if sub then i-j else i+j)))) ρ).bind λo _=>.ok .next o|_,_=>.stuck
 |.tu x t,ρ=>match ρ[x]?with|some .aM=>.ok .next (ρ.set x (.dq (if t then .t []else .k [])))|_=>.stuck
 |.dput x k e,ρ=>(ev c e ρ).bind λr ρ=>match ρ[x]?with
   |some (.dq _)=>(bU (isVar k) (ev c k) ρ).bind λA ρ=>match ρ[x]?,r with
     |some (.dq m),.val (.int v)=>match m.put A v with|some q=>.ok .next (ρ.set x (.dq q))|none=>.stuck
     |_,_=>.stuck
   |_=>.stuck
 |.nZ x ks e,ρ=>(ev c e ρ).bind λr ρ=>match ρ[x]?with
   |some (.dq _)=>(evs c ks ρ).bind λB ρ=>match ρ[x]?,r with
     |some (.dq m),.val (.int v)=>match m.K8 B v with|some q=>.ok .next (ρ.set x (.dq q))|none=>.stuck
     |_,_=>.stuck
   |_=>.stuck
 |.FW x src k is one s,ρ=>(srcOf (isVar src) (ev c src) ρ).bind λh f=>if h.length<=lim then(iV is one (ev c s) h [] (f++dA k .aM)).bind λg p=>(lift (put (bH ρ (isVar src) (p.take f.length)) x (.hold g)) ρ).bind λo _=>.ok .next o else .stuck|.yD x i j sub e,ρ=>(bU (isVar i) (ev c i) ρ).bind λk ρ=>(lift (fV ρ x k) ρ).bind λ_ ρ=>(bU (isVar j) (ev c j) ρ).bind λl ρ=>(lift ((fV ρ x k).bind λrow=>(fj l).bind λl=>(at' row l).bind fj) ρ).bind λu ρ=>(bU (isVar e) (ev c e) ρ).bind λw ρ=>(bU (isVar i) (ev c i) ρ).bind λk ρ=>(lift (fV ρ x k) ρ).bind λ_ ρ=>(bU (isVar j) (ev c j) ρ).bind λl ρ=>vH ρ x ((gh ρ x).bind λg=>(fj w).bind λv=>(fj k).bind λk=>(fj l).bind λl=>gA g k (setAt l (.int (if sub then u-v else u+v))))|.Zz x i j e,ρ=>(bU (isVar i) (ev c i) ρ).bind λk ρ=>(lift (fV ρ x k) ρ).bind λ_ ρ=>(bU (isVar j) (ev c j) ρ).bind λl ρ=>(lift ((fV ρ x k).bind λrow=>(fj l).bind λl=>(at' row l).bind fj) ρ).bind λu ρ=>(bU (isVar e) (ev c e) ρ).bind λw ρ=>(bU (isVar i) (ev c i) ρ).bind λk ρ=>(lift (fV ρ x k) ρ).bind λ_ ρ=>(bU (isVar j) (ev c j) ρ).bind λl ρ=>vH ρ x ((gh ρ x).bind λg=>(fj w).bind λv=>(fj k).bind λk=>(fj l).bind λl=>gA g k (setAt l (.int (if u<v then v else u))))|.Kh x y j k l,ρ=>(lift (gh ρ x) ρ).bind λg ρ=>iH x y (bU (isVar j) (ev c j)) (bU (isVar k) (ev c k)) (bU (isVar l) (ev c l)) g.length 0 ρ|.yE src is one body,ρ=>(ev c src ρ).bind λr f=>(lift (items r.d) f).bind λh f=>jh is one (ji c n body) h f|.fO x,ρ=>match ρ[x]?with|some (.hold g)=>.ok .next (ρ.set x (.val a_ (.lst (g.map D.lst))))|_=>.stuck
noncomputable def ji(c:Call)(n:Nat):List S->List Sl->Res Fl|[],ρ=>.ok .next ρ|s::r,ρ=>(ex c n s ρ).bind λfl ρ=>match fl with|.next=>ji c n r ρ|fl=>.ok fl ρ
noncomputable def exX(c:Call)(n:Nat):S->List Sl->Option (Nat×List Sl)
 |.ifs t a b,ρ=>match kY (ev c t) ρ with|.ok x f=>if x then GF c n a f else GF c n b f|_=>b_
 |.gf src is one body,ρ=>match CZ c src ρ with|some x=>aB x|none=>match srcOf (isVar src) (ev c src) ρ with|.ok g f=>(Ra is one (ji c n body) (GF c n body) g f).map λx=>(x.1,bH ρ (isVar src) x.2)|_=>b_
 |.ret e,ρ=>CZ c e ρ|.asg _ e,ρ=>CZ c e ρ|.expr e,ρ=>CZ c e ρ|_,_=>b_
noncomputable def GF(c:Call)(n:Nat):List S->List Sl->Option (Nat×List Sl)|[],_=>b_|s::r,ρ=>match exX c n s ρ with|some x=>aB x|none=>match ex c n s ρ with|.ok .next a=>GF c n r a|_=>b_
end
theorem X1{c n ρ}:ex c n (.pass) ρ=.ok .next ρ:=(rfl)
theorem X2{c n ρ}:ex c n (.brk) ρ=.ok .brk ρ:=(rfl)
theorem X3{c n ρ}:ex c n (.cont) ρ=.ok .cont ρ:=(rfl)
theorem X4{c n ρ}:ex c n (.bad) ρ=.stuck:=(rfl)
theorem X5{c n e ρ}:ex c n (.expr e) ρ=(ev c e ρ).bind λ_ ρ=>.ok .next ρ:=(rfl)
theorem X6{c n i e ρ}:ex c n (.asg i e) ρ=(ev c e ρ).bind λr ρ=>(lift (put ρ i (zr r)) ρ).bind λa _=>.ok .next a:=(rfl)
theorem X7{c n is e ρ}:ex c n (.Gi is e) ρ=(ev c e ρ).bind λr ρ=>match r.d with|.tup b=>(lift (putAll ρ is b) ρ).bind λa _=>.ok .next a|_=>.stuck:=(rfl)
theorem X8{c n x i e ρ}:ex c n (.FT x i e) ρ=(ev c e ρ).bind λr ρ=>(lift (pk ρ x) ρ).bind λ_ ρ=>(bU (isVar i) (ev c i) ρ).bind λk ρ=>match ρ[x]?,k with
 |some (.own b a),.int k=>match lD a.length k with|some j=>.ok .next (ρ.set x (.own b (a.set j r.d)))|none=>.stuck
 |_,_=>.stuck:=(rfl)
theorem X9{c n x e ρ}:ex c n (.app x e) ρ=(lift (W0 ρ x) ρ).bind λ_ ρ=>(ev c e ρ).bind λr ρ=>match ρ[x]?with|some (.own b a)=>if a.length<lim then .ok .next (ρ.set x (.own b (a++[r.d])))else .stuck|_=>.stuck:=(rfl)
theorem X10{c n e ρ}:ex c n (.ret e) ρ=match isVar e with
 |some i=>match ρ[i]?with|some (.own a_ a)=>.ok (.ret (.own a)) (ρ.set i .aM)|_=>(ev c e ρ).bind λr ρ=>.ok (.ret r) ρ
 |none=>(ev c e ρ).bind λr ρ=>.ok (.ret r) ρ:=(rfl)
theorem X11{c n ρ}:ex c n (.Zy) ρ=.ok (.ret (.val .non)) ρ:=(rfl)
theorem X12{c n t a b ρ}:ex c n (.ifs t a b) ρ=(kY (ev c t) ρ).bind λk ρ=>if k then ji c n a ρ else ji c n b ρ:=(rfl)
theorem X13{c n src is one body ρ}:ex c n (.gf src is one body) ρ=(srcOf (isVar src) (ev c src) ρ).bind λe a=>(jh is one (ji c n body) e a).bind λf b=>.ok f (bH ρ (isVar src) b):=(rfl)
theorem X14{c n x sub e ρ}:ex c n (.aug x sub e) ρ=(lift (pk ρ x) ρ).bind λa ρ=>(bU (isVar e) (ev c e) ρ).bind λb ρ=>match a,b with|.int i,.int j=>(lift (put ρ x (.val a_ (.int (if sub then i-j else i+j)))) ρ).bind λf _=>.ok .next f|_,_=>.stuck:=(rfl)
theorem X15{c n x t ρ}:ex c n (.tu x t) ρ=match ρ[x]?with|some .aM=>.ok .next (ρ.set x (.dq (if t then .t []else .k [])))|_=>.stuck:=(rfl)
theorem X16{c n x k e ρ}:ex c n (.dput x k e) ρ=(ev c e ρ).bind λr ρ=>match ρ[x]?with
 |some (.dq _)=>(bU (isVar k) (ev c k) ρ).bind λa ρ=>match ρ[x]?,r with
   |some (.dq m),.val (.int v)=>match m.put a v with|some b=>.ok .next (ρ.set x (.dq b))|none=>.stuck
   |_,_=>.stuck
 |_=>.stuck:=(rfl)
theorem X17{c n x ks e ρ}:ex c n (.nZ x ks e) ρ=(ev c e ρ).bind λr ρ=>match ρ[x]?with
 |some (.dq _)=>(evs c ks ρ).bind λa ρ=>match ρ[x]?,r with
   |some (.dq m),.val (.int v)=>match m.K8 a v with|some b=>.ok .next (ρ.set x (.dq b))|none=>.stuck
   |_,_=>.stuck
 |_=>.stuck:=(rfl)
theorem X18{c n x src k is one elt ρ}:ex c n (.FW x src k is one elt) ρ=(srcOf (isVar src) (ev c src) ρ).bind λg a=>if g.length<=lim then(iV is one (ev c elt) g [] (a++dA k .aM)).bind λe b=>(lift (put (bH ρ (isVar src) (b.take a.length)) x (.hold e)) ρ).bind λf _=>.ok .next f else .stuck:=(rfl)
theorem X19{c n x i j sub e ρ}:ex c n (.yD x i j sub e) ρ=(bU (isVar i) (ev c i) ρ).bind λk ρ=>(lift (fV ρ x k) ρ).bind λ_ ρ=>(bU (isVar j) (ev c j) ρ).bind λl ρ=>(lift ((fV ρ x k).bind λrow=>(fj l).bind λl=>(at' row l).bind fj) ρ).bind λu ρ=>(bU (isVar e) (ev c e) ρ).bind λw ρ=>(bU (isVar i) (ev c i) ρ).bind λk ρ=>(lift (fV ρ x k) ρ).bind λ_ ρ=>(bU (isVar j) (ev c j) ρ).bind λl ρ=>vH ρ x ((gh ρ x).bind λa=>(fj w).bind λv=>(fj k).bind λk=>(fj l).bind λl=>gA a k (setAt l (.int (if sub then u-v else u+v)))):=(rfl)
theorem X20{c n x i j e ρ}:ex c n (.Zz x i j e) ρ=(bU (isVar i) (ev c i) ρ).bind λk ρ=>(lift (fV ρ x k) ρ).bind λ_ ρ=>(bU (isVar j) (ev c j) ρ).bind λl ρ=>(lift ((fV ρ x k).bind λrow=>(fj l).bind λl=>(at' row l).bind fj) ρ).bind λu ρ=>(bU (isVar e) (ev c e) ρ).bind λw ρ=>(bU (isVar i) (ev c i) ρ).bind λk ρ=>(lift (fV ρ x k) ρ).bind λ_ ρ=>(bU (isVar j) (ev c j) ρ).bind λl ρ=>vH ρ x ((gh ρ x).bind λa=>(fj w).bind λv=>(fj k).bind λk=>(fj l).bind λl=>gA a k (setAt l (.int (if u<v then v else u)))):=(rfl)
theorem X21{c n x y j k l ρ}:ex c n (.Kh x y j k l) ρ=(lift (gh ρ x) ρ).bind λa ρ=>iH x y (bU (isVar j) (ev c j)) (bU (isVar k) (ev c k)) (bU (isVar l) (ev c l)) a.length 0 ρ:=(rfl)
theorem X22{c n src is one body ρ}:ex c n (.yE src is one body) ρ=(ev c src ρ).bind λr a=>(lift (items r.d) a).bind λb a=>jh is one (ji c n body) b a:=(rfl)
theorem X23{c n x ρ}:ex c n (.fO x) ρ=match ρ[x]?with|some (.hold a)=>.ok .next (ρ.set x (.val a_ (.lst (a.map D.lst))))|_=>.stuck:=(rfl)
structure Fd where
 np:Nat
 nn:Nat
 body:List S deriving Inhabited
noncomputable abbrev Tab:=Nat->Option Fd
noncomputable def enter(c:Call)(n:Nat)(d:Fd)(args:List Sl):Res R:=if args.length=d.np/\d.np<=d.nn then match ji c n d.body (args++dA (d.nn-d.np) .aM)with|.ok .next ρ=>.ok (.val .non) (ρ.take d.np)|.ok (.ret r) ρ=>.ok r (ρ.take d.np)|_=>match GF c n d.body (args++dA (d.nn-d.np) .aM)with|some (k,ρ)=>.exc k (ρ.take d.np)|none=>.stuck else .stuck
noncomputable def run(Γ:Tab)(w:Nat):Nat->Call|0,_,_=>.stuck|n+1,f,args=>match Γ f with|some d=>enter (run Γ w n) w d args|none=>.stuck
end _H
section
namespace _H
open PySem _L
variable{ρ:List Sl}{σ:St}{v:V}
noncomputable def Dc.ho:Dc->HO|.k kvs=>.dK (kvs.map λp=>(eL p.1,V.int p.2))|.t kvs=>.dT (kvs.map λp=>(p.1.map eL,V.int p.2))
noncomputable def Jo(ks:List Int)(vs:List V):HO:=.dK ((ks.zip vs).map λp=>(eL p.1,p.2))
section
variable(K:PySem.W.Frag)
mutual
noncomputable def Rep(F:Hp):V->D->Prop|v,.non=>v=.non|v,.bl b=>v=.bl b|v,.int i=>v=.int i|v,.str x=>v=.str x|v,.tup c=>∃a xs,v=.ref a/\jl K F a xs/\aN F xs c|v,.lst c=>∃a xs,v=.ref a/\fL K F a xs/\aN F xs c|v,.cZ m=>∃a o,v=.ref a/\F a=aB (.fO o m.ho)|v,.dv ks c=>∃a o vs,v=.ref a/\F a=aB (.fO o (Jo ks vs))/\aN F vs c/\ks.length=c.length
noncomputable def aN(F:Hp):List V->List D->Prop|vs,[]=>vs=[]|vs,d::a=>∃v r,vs=v::r/\Rep F v d/\aN F r a
end
end
section
variable{K:PySem.W.Frag}{F F' H H':Hp}
theorem aP.iI{a:df}{xs:List V}(e:aP H H')(h:jl K H a xs):jl K H' a xs:=by
 rcases h with(h|⟨o,h⟩)|h;.exact .inl (.inl (e _ _ h))
 .exact .inl (.inr ⟨o,e _ _ h⟩)
 .exact .inr h
mutual
theorem Rep.mono(e:aP F F'):∀{d:D}{v:V},Rep K F v d->Rep K F' v d|.non,_,h=>by rw[Rep]at h ⊢;exact h|.bl _,_,h=>by rw[Rep]at h ⊢;exact h|.int _,_,h=>by rw[Rep]at h ⊢;exact h|.str _,_,h=>by rw[Rep]at h ⊢;exact h|.tup b,_,h=>by rw[Rep]at h ⊢;obtain⟨a,xs,rfl,hs,r⟩:=h;exact⟨a,xs,rfl,aP.iI e hs,aN.mono e r⟩|.lst b,_,h=>by rw[Rep]at h ⊢;obtain⟨a,xs,rfl,hs,r⟩:=h;exact⟨a,xs,rfl,e.seq hs,aN.mono e r⟩|.cZ m,_,h=>by rw[Rep]at h ⊢;obtain⟨a,o,rfl,hs⟩:=h;exact⟨a,o,rfl,e _ _ hs⟩|.dv ks b,_,h=>by rw[Rep]at h ⊢;obtain⟨a,o,vs,rfl,hs,r,c⟩:=h;exact⟨a,o,vs,rfl,e _ _ hs,aN.mono e r,c⟩theorem aN.mono(e:aP F F'):∀{a:List D}{vs:List V},aN K F vs a->aN K F' vs a|[],_,h=>by rw[aN]at h ⊢;exact h|d::a,_,h=>by rw[aN]at h ⊢;obtain⟨v,r,rfl,h1,b⟩:=h;exact⟨v,r,rfl,Rep.mono e h1,aN.mono e b⟩end
theorem aN.nil:aN K F [] []:=by rw[aN]
theorem aN.cons{v:V}{d:D}{vs:List V}{a:List D}(h:Rep K F v d)(t:aN K F vs a):aN K F (v::vs) (d::a):=by rw[aN];exact⟨v,vs,rfl,h,t⟩
theorem aN.dh{vs:List V}{d:D}{a:List D}(h:aN K F vs (d::a)):∃v r,vs=v::r/\Rep K F v d/\aN K F r a:=by rw[aN]at h;exact h
theorem aN.il{vs:List V}(h:aN K F vs []):vs=[]:=by rw[aN]at h;exact h
theorem aN.length:∀{a:List D}{vs:List V},aN K F vs a->vs.length=a.length|[],_,h=>by rw[h.il];rfl|d::a,_,h=>by obtain⟨v,r,rfl,_,t⟩:=h.dh;simp[aN.length t]
theorem aN.get:∀{a:List D}{vs:List V}{i:Nat}{d:D},aN K F vs a->a[i]?=aB d->∃v,vs[i]?=aB v/\Rep K F v d|[],_,_,_,h,e=>by simp at e|d::a,_,0,_,h,e=>by obtain⟨v,r,rfl,h1,t⟩:=h.dh;simp at e;subst e;exact⟨v,rfl,h1⟩|d::a,_,i+1,_,h,e=>by obtain⟨v,r,rfl,_,t⟩:=h.dh;simp at e;obtain⟨w,b,c⟩:=t.get e;exact⟨w,by simpa using b,c⟩
theorem aN.append:∀{a es:List D}{vs b:List V},aN K F vs a->aN K F b es->aN K F (vs++b) (a++es)|[],_,_,_,h,h'=>by rw[h.il];exact h'|d::a,_,_,_,h,h'=>by obtain⟨v,r,rfl,h1,t⟩:=h.dh;exact .cons h1 (t.append h')
theorem aN.set{v:V}{d:D}(hr:Rep K F v d):∀{a:List D}{vs:List V}(i:Nat),aN K F vs a->aN K F (vs.set i v) (a.set i d)|[],_,_,h=>by rw[h.il];exact .nil|_::_,_,0,h=>by obtain⟨w,r,rfl,h1,t⟩:=h.dh;exact .cons hr t|_::_,_,i+1,h=>by obtain⟨w,r,rfl,h1,t⟩:=h.dh;exact .cons h1 (aN.set hr i t)
theorem aN.take:∀{a:List D}{vs:List V}(n:Nat),aN K F vs a->aN K F (vs.take n) (a.take n)|[],_,n,h=>by rw[h.il];simpa using aN.nil|_::_,_,0,h=>.nil|_::_,_,n+1,h=>by obtain⟨w,r,rfl,h1,t⟩:=h.dh;exact .cons h1 (t.take n)
theorem aN.drop:∀{a:List D}{vs:List V}(n:Nat),aN K F vs a->aN K F (vs.drop n) (a.drop n)|[],_,n,h=>by rw[h.il];simpa using aN.nil|_::_,_,0,h=>h|_::_,_,n+1,h=>by obtain⟨w,r,rfl,h1,t⟩:=h.dh;exact t.drop n
theorem aN.rep{a:List D}{vs:List V}(h:aN K F vs a):∀n,aN K F (dA n vs).flatten (dA n a).flatten|0=>by simpa using aN.nil|n+1=>by simpa[j0]using h.append (aN.rep h n)
inductive Oc where|l(ds:List D)|d(m:Dc)|v(kvs:List (Int×D))
noncomputable def lst?:Sl->Option Oc|.own _ a=>aB (.l a)|.lent a=>aB (.l a)|.dq m=>aB (.d m)|.uN kvs=>aB (.v kvs)|_=>b_
noncomputable def uG(K:PySem.W.Frag)(F:Hp)(o:HO):Oc->Prop|.l a=>∃xs,o=.lst xs/\aN K F xs a|.d m=>o=m.ho|.v kvs=>∃vs,o=Jo (kvs.map (·.1)) vs/\aN K F vs (kvs.map (·.2))
theorem uG.mono{o:HO}{x:Oc}(e:aP F F')(h:uG K F o x):uG K F' o x:=by cases x with|l b=>obtain⟨xs,a,h⟩:=h;exact⟨xs,a,h.mono e⟩|d m=>exact h|v kvs=>obtain⟨xs,a,h⟩:=h;exact⟨xs,a,h.mono e⟩
noncomputable def bN(ρ:List Sl)(σ:St)(i:Nat)(a:df):Prop:=(∃s b,ρ[i]?=aB s/\lst? s=aB b)/\σ[i]?=aB (aB (V.ref a))
noncomputable def Own(ρ:List Sl)(σ:St)(a:df):Prop:=∃i,bN ρ σ i a
structure GS(K:PySem.W.Frag)(F:Hp)(ρ:List Sl)(σ:St)(H:Hp):Prop where
 sub:aP F H
 len:ρ.length=σ.length
 val:∀(i:Nat)(b:Bool)(d:D),ρ[i]?=aB (Sl.val b d)->∃v:V,σ[i]?=aB (aB v)/\Rep K F v d
 own:∀(i:Nat)(s:Sl)(ds:Oc),ρ[i]?=aB s->lst? s=aB ds->∃(a:df)(xs:HO),σ[i]?=aB (aB (V.ref a))/\H a=aB xs/\F a=b_/\uG K F xs ds
 dis:∀(i j:Nat)(a:df),bN ρ σ i a->bN ρ σ j a->i=j
theorem GS.vK(g:GS K F ρ σ H)(i:Nat)(s:Sl)(b:List D)(e:ρ[i]?=aB s)(c:lst? s=aB (.l b)):∃(a:df)(xs:List V),σ[i]?=aB (aB (V.ref a))/\H a=aB (.lst xs)/\F a=b_/\aN K F xs b:=by obtain⟨a,o,h1,f,h,xs,rfl,j⟩:=g.own i s (.l b) e c;exact⟨a,xs,h1,f,h,j⟩
noncomputable def wF:Sl->Bool|.val b _=>b|.own b _=>b|.lent _=>ck|.aM=>a_|.dq _=>a_|.uN _=>a_|.hold _=>ck
noncomputable def nQ:Sl->Sl->Prop|.val ck d,s=>s=.val ck d|.own ck _,s=>(∃a,s=.own ck a)\/∃d,s=.val ck d|.lent a,s=>s=.lent a|.hold a,s=>s=.hold a|_,_=>True
theorem nQ.refl(s:Sl):nQ s s:=by unfold nQ;split<;>first|rfl|exact .inl ⟨_,rfl⟩|trivial
theorem nQ.wF{s a:Sl}(h:nQ s a)(l:wF s=ck):_H.wF a=ck:=by cases s with
 |aM=>cases l|dq _=>cases l|uN _=>cases l|val b d=>cases b with|true=>cases h;rfl|false=>cases l
 |own b d=>cases b with|true=>rcases h with⟨_,rfl⟩|⟨_,rfl⟩<;>rfl|false=>cases l
 |lent d=>cases h;rfl|hold d=>cases h;rfl
theorem nQ.trans{s c a:Sl}(l:_H.wF s=ck)(h:nQ s c)(h':nQ c a):nQ s a:=by cases s with
 |aM=>cases l|dq _=>cases l|uN _=>cases l|val b d=>cases b with|true=>cases h;exact h'|false=>cases l
 |own b d=>cases b with
   | true => rcases h with⟨_,rfl⟩|⟨d,rfl⟩;.exact h'
             .exact .inr ⟨d,h'⟩|false=>cases l
 |lent d=>cases h;exact h'|hold d=>cases h;exact h'
noncomputable def nt:Option HO->Option HO|some (.tup _)=>b_|o=>o
theorem lJ{o:Option HO}(h:o=b_):nt o=b_:=by rw[h];rfl
theorem G3{H:Hp}{b:df}{xs:List V}(h:H b=aB (.lst xs))(z:nt (H b)=b_):False:=by rw[h]at z;cases z
theorem HF{o:HO}{x:Oc}(h:uG K F o x)(z:nt (aB o)=b_):False:=by cases x with|l a=>obtain⟨xs,rfl,_⟩:=h;cases z|d m=>cases m<;>(cases(show o=_ from h);cases z)|v kvs=>obtain⟨xs,rfl,_⟩:=h;cases z
structure bW(K:PySem.W.Frag)(F:Hp)(ρ:List Sl)(σ:St)(H:Hp)(F':Hp)(ρ':List Sl)(σ':St)(H':Hp):Prop where
 gs:GS K F' ρ' σ' H'
 cD:aP F F'
 yF:∀b,F b=b_->F' b≠b_->Own ρ σ b\/nt (H b)=b_
 keep:∀b o,H b=aB o->¬ Own ρ σ b->H' b=aB o
 wJ:∀b,Own ρ' σ' b->Own ρ σ b\/H b=b_
 len:ρ'.length=ρ.length
 lk:∀(i:Nat)(s:Sl),ρ[i]?=aB s->wF s=ck->σ'[i]?=σ[i]?/\∃s',ρ'[i]?=aB s'/\nQ s s'
theorem bW.refl{ρ:List Sl}{σ:St}(g:GS K F ρ σ H):bW K F ρ σ H F ρ σ H:=⟨g,aP.refl _,λb h h'=>absurd h h',λ_ _ h _=>h,λ_ h=>.inl h,rfl,λi s h _=>⟨rfl,s,h,.refl s⟩⟩
theorem bW.trans{F1 r p t:Hp}{ρ f j:List Sl}{σ g m:St}(a:bW K F ρ σ H F1 f g p)(b:bW K F1 f g p r j m t):bW K F ρ σ H r j m t:=by
 have back:∀c,Own f g c\/p c=b_->Own ρ σ c\/H c=b_:=λc h=>by
  rcases h with h|h;.exact a.wJ c h
  . by_cases ho:Own ρ σ c;.exact .inl ho
    .right;cases e:H c with|none=>rfl|some o=>rw[a.keep c o e ho]at h;cases h
 refine⟨b.gs,a.cD.trans b.cD,λc h h'=>?_,λc o h n=>?_,λc h=>back c (b.wJ c h),b.len.trans a.len,λi s h l=>?_⟩
 . by_cases e:F1 c=b_
   . by_cases ho:Own ρ σ c;.exact .inl ho
     . rcases b.yF c e h' with z|z;.exact(back c (.inl z)).imp id lJ
       .right;cases q:H c with|none=>rfl|some o=>rw[a.keep c o q ho]at z;exact z
   .exact a.yF c h e
 . refine b.keep c o (a.keep c o h n) λh'=>?_;rcases a.wJ c h' with h'|h';.exact n h'
   .rw[h]at h';cases h'
 .obtain⟨w,s1,h1,u⟩:=a.lk i s h l;obtain⟨x,s2,y,A⟩:=b.lk i s1 h1 (u.wF l);exact⟨x.trans w,s2,y,.trans l u A⟩
noncomputable def fM(K:PySem.W.Frag)(F H:Hp)(v:V)(d:D):Prop:=Rep K F v d\/∃a xs b,v=.ref a/\H a=aB (.lst xs)/\aN K F xs b/\d=.lst b
noncomputable def dG(K:PySem.W.Frag)(F':Hp)(b:List Sl)(c:St)(H':Hp)(ρ:List Sl)(σ:St)(H:Hp)(v:V):R->Prop|.val d=>Rep K F' v d|.own e=>∃a xs,v=.ref a/\H' a=aB (.lst xs)/\F' a=b_/\aN K F' xs e/\¬ Own b c a/\(Own ρ σ a\/H a=b_)
theorem aP.fC{F:Hp}{a:df}{o:HO}(h:F a=b_):aP F (upd F a o):=λb u e=>by
 have:b≠a:=by rintro rfl;rw[h]at e;cases e
 rw[aL this];exact e
theorem bW.fO{c:List Sl}{f:St}{r:R}(s:bW K F ρ σ H F' c f H')(h:dG K F' c f H' ρ σ H v r):∃g,bW K F ρ σ H g c f H'/\aP F' g/\Rep K g v r.d:=by cases r with|val d=>exact⟨F',s,.refl _,h⟩|own w=>
   obtain⟨a,xs,rfl,h1,x,y,z,A⟩:=h;have sm:aP F' (upd F' a (.lst xs)):=aP.fC x;refine⟨upd F' a (.lst xs),⟨⟨λb o e=>?_,s.gs.len,λi b d e=>?_,λi q l e t=>?_,s.gs.dis⟩,s.cD.trans sm,λb n u=>?_,s.keep,s.wJ,s.len,s.lk⟩,sm,?_⟩
   . by_cases j:b=a;.subst j;rw[aW]at e;cases e;exact h1
     .rw[aL j]at e;exact s.gs.sub b o e
   .obtain⟨v,m,p⟩:=s.gs.val i b d e;exact⟨v,m,p.mono sm⟩
   . obtain⟨b,ys,m,p,B,C⟩:=s.gs.own i q l e t;have j:b≠a:=by rintro rfl;exact z ⟨i,⟨q,l,e,t⟩,m⟩
     exact⟨b,ys,m,p,by rw[aL j];exact B,C.mono sm⟩
   . by_cases j:b=a;.subst j;exact A.imp id lJ
     .rw[aL j]at u;exact s.yF b n u
   .show Rep K _ _ (.lst w);rw[Rep];exact⟨a,xs,rfl,fL.of aW,y.mono sm⟩
theorem GS.pk{ρ:List Sl}{σ:St}{i:Nat}{d:D}(g:GS K F ρ σ H)(e:_H.pk ρ i=aB d):∃v:V,σ[i]?=aB (aB v)/\fM K F H v d:=by
 unfold _H.pk at e;split at e;.rename_i b d' h;cases e;obtain⟨v,h1,c⟩:=g.val i b d h;exact⟨v,h1,.inl c⟩
 .rename_i b f h;cases e;obtain⟨a,xs,h1,c,l,j⟩:=g.vK i _ f h rfl;exact⟨.ref a,h1,.inr ⟨a,xs,f,rfl,c,j,rfl⟩⟩
 .rename_i f h;cases e;obtain⟨a,xs,h1,c,l,j⟩:=g.vK i _ f h rfl;exact⟨.ref a,h1,.inr ⟨a,xs,f,rfl,c,j,rfl⟩⟩
 .cases e
structure Ext(F H F' H':Hp):Prop where
 hs:aP H H'
 fs:aP F F'
 sub:aP F' H'
 gr:∀b,F b=b_->F' b≠b_->nt (H b)=b_
theorem Ext.refl(h:aP F H):Ext F H F H:=⟨.refl _,.refl _,h,λ_ a b=>absurd a b⟩
theorem Ext.stp(g:GS K F ρ σ H)(e:Ext F H F' H'):bW K F ρ σ H F' ρ σ H':=by
 refine⟨⟨e.sub,g.len,λi b d h=>?_,λi s j h h'=>?_,g.dis⟩,e.fs,λb n l=>.inr (e.gr b n l),λb o h _=>e.hs b o h,λ_ h=>.inl h,rfl,λi s h _=>⟨rfl,s,h,.refl s⟩⟩;.obtain⟨v,h1,c⟩:=g.val i b d h;exact⟨v,h1,c.mono e.fs⟩
 .obtain⟨a,xs,h1,c,m,f⟩:=g.own i s j h h';refine⟨a,xs,h1,e.hs _ _ c,?_,f.mono e.fs⟩;cases q:F' a with|none=>rfl|some o=>have:=e.gr a m (by rw[q];simp);rw[c]at this;exact(HF f this).elim
noncomputable def cX(K:PySem.W.Frag)(F' H' H:Hp)(v:V):R->Prop|.val d=>Rep K F' v d|.own b=>∃a xs,v=.ref a/\H' a=aB (.lst xs)/\F' a=b_/\aN K F' xs b/\H a=b_
theorem cX.sW{r:R}(g:GS K F ρ σ H)(h:cX K F' H' H v r):dG K F' ρ σ H' ρ σ H v r:=by cases r with|val d=>exact h|own q=>obtain⟨a,xs,rfl,h1,m,n,f⟩:=h;refine⟨a,xs,rfl,h1,m,n,?_,.inr f⟩;rintro⟨i,⟨s,c,e,o⟩,p⟩;obtain⟨b,ys,j,l,_⟩:=g.own i s c e o;rw[p]at j;cases j;rw[f]at l;cases l
theorem dG.later{F1 j l m:Hp}{c f:List Sl}{g i:St}{r:R}(a:bW K F ρ σ H F1 c g j)(h:dG K l f i m c g j v r):dG K l f i m ρ σ H v r:=by cases r with|val d=>exact h|own s=>
   obtain⟨b,xs,rfl,h1,n,p,q,h5⟩:=h;refine⟨b,xs,rfl,h1,n,p,q,?_⟩;rcases h5 with h5|h5;.exact a.wJ b h5
   . by_cases ho:Own ρ σ b;.exact .inl ho
     .right;cases e:H b with|none=>rfl|some o=>rw[a.keep b o e ho]at h5;cases h5
end
end _H
end
namespace _H
open PySem _L Spec PyProof.Rows
variable{ρ' ρ ρ₀:List Sl}{es:List ek}{K:PySem.W.Frag}{F H H₀:Hp}{σ:_L.St}{i n:Nat}{ds:List D}{x:Str}{v:V}{vs:List V}{op:qf}{p':Pos}{as:List Arg}
theorem aj{c e:Type}{x:Res c}{f:c->List Sl->Res e}{b:e}(h:x.bind f=.ok b ρ'):∃a ρ,x=.ok a ρ/\f a ρ=.ok b ρ':=by cases x with|ok a ρ=>exact⟨a,ρ,rfl,h⟩|exc _ _=>cases h|stuck=>cases h
theorem aH{c:Type}{o:Option c}{a:c}(h:lift o ρ=.ok a ρ'):o=aB a/\ρ=ρ':=by cases o with|none=>cases h|some b=>cases h;exact⟨rfl,rfl⟩
theorem map_some{c e:Type}{o:Option c}{f:c->e}{b:e}(h:o.map f=aB b):∃a,o=aB a/\f a=b:=by cases o with|none=>cases h|some a=>cases h;exact⟨a,rfl,rfl⟩
theorem bz{c e:Type}{o:Option c}{f:c->Option e}{b:e}(h:o.bind f=aB b):∃a,o=aB a/\f a=aB b:=by cases o with|none=>cases h|some a=>exact⟨a,rfl,h⟩
theorem bK{e:Type}{c:Prop}[Decidable c]{a b:e}(h:(if c then aB a else b_)=aB b):c/\a=b:=by
 split at h;.rename_i hc;cases h;exact⟨hc,rfl⟩
 .cases h
section
variable{X:Cx}{c:Call}{e a b:ek}{p pa pb:P}{pos:Pos}
theorem gR{t t':TE}(h:PE X e t)(i:∀σ H Q,t' σ H Q->t σ H Q):PE X e t':=λf s σ H Q I q=>h f s σ H Q I (i σ H Q q)
theorem Cz{t t':TT}(h:PT X e t)(i:∀σ H Q,t' σ H Q->t σ H Q):PT X e t':=λf s σ H Q I q=>h f s σ H Q I (i σ H Q q)
theorem Qi{t t':TT}(h:PW X e t)(i:∀σ H Q,t' σ H Q->t σ H Q):PW X e t':=λg f s σ H Q I q=>h g f s σ H Q I (i σ H Q q)
theorem xg{t t':TA}(h:PA X es t)(i:∀σ H Q,t' σ H Q->t σ H Q):PA X es t':=λpos f s σ H Q I q=>h pos f s σ H Q I (i σ H Q q)
inductive zL(K:PySem.W.Frag)(f:Ev)(σ:_L.St)(H:Hp)(Q:VK):Prop where|mk(F:Hp)(ρ:List Sl)(r:R)(ρ':List Sl)(g:GS K F ρ σ H)(e:f ρ=.ok r ρ')(k:∀v F' H',bW K F ρ σ H F' ρ' σ H'->dG K F' ρ' σ H' ρ σ H v r->Q v H')
inductive Hr(K:PySem.W.Frag)(f:List Sl->Res Bool)(σ:_L.St)(H:Hp)(Q:Bool->Hp->Prop):Prop where|mk(F:Hp)(ρ:List Sl)(b:Bool)(ρ':List Sl)(g:GS K F ρ σ H)(e:f ρ=.ok b ρ')(k:∀F' H',bW K F ρ σ H F' ρ' σ H'->Q b H')
inductive acM(K:PySem.W.Frag)(f:List Sl->Res (List D))(σ:_L.St)(H:Hp)(Q:List V->Hp->Prop):Prop where|mk(F:Hp)(ρ:List Sl)(ds:List D)(ρ':List Sl)(g:GS K F ρ σ H)(e:f ρ=.ok ds ρ')(k:∀vs F' H',bW K F ρ σ H F' ρ' σ H'->aN K F' vs ds->Q vs H')
structure SX(X:Cx)(c:Call)(e:ek)(p:P):Prop where ev:PE X e (zL X.K (_H.ev c p))var:∀i,isVar p=aB i->PE X e (Fj i)
noncomputable def SA(X:Cx)(c:Call)(es:List ek)(ps:List P):Prop:=PA X es (acM X.K (evs c ps))/\ps.length=es.length
theorem SX.bU(h:SX X c e p):∃t,PE X e t/\∀{σ:_L.St}{H F:Hp}{ρ ρ':List Sl}{d:D}{Q:VK},GS X.K F ρ σ H->bU (isVar p) (_H.ev c p) ρ=.ok d ρ'->(∀v j f,bW X.K F ρ σ H j ρ' σ f->fM X.K j f v d->Q v f)->t σ H Q:=by cases hv:isVar p with|none=>refine⟨_,h.ev,λ{σ H F ρ ρ' d Q}g e k=>?_⟩;obtain⟨r,q,l,m⟩:=aj e;cases m;refine⟨F,ρ,r,_,g,l,λv j f s u=>?_⟩;obtain⟨o,w,_,y⟩:=s.fO u;exact k v o f w (.inl y)|some i=>refine⟨_,h.var i hv,λ{σ H F ρ ρ' d Q}g e k=>?_⟩;obtain⟨l,m⟩:=aH e;subst m;obtain⟨v,h1,z⟩:=g.pk l;exact⟨v,h1,k v F H (.refl g) z⟩
theorem SX.jf(I:SX X c a pa)(M:SX X c b pb):∃J h,PE X a J/\PE X b h/\∀{σ:_L.St}{H F:Hp}{ρ ρ':List Sl}{j:D×D}{R:V->V->Hp->Prop},GS X.K F ρ σ H->jf (isVar pa) (_H.ev c pa) (isVar pb) (_H.ev c pb) ρ=.ok j ρ'->(∀v u w l,bW X.K F ρ σ H w ρ' σ l->fM X.K w l v j.1->fM X.K w l u j.2->R v u l)->J σ H λx z=>h σ z λy A=>R x y A:=by obtain⟨h,m,o⟩:=M.bU;cases hv:isVar pa with|none=>refine⟨_,h,I.ev,m,λ{σ H F ρ ρ' j R}g e k=>?_⟩;obtain⟨x,B,q,e⟩:=aj e;obtain⟨y,C,f,e⟩:=aj e;cases e;obtain⟨r,L,q,E⟩:=aj q;cases E;refine⟨F,ρ,r,_,g,q,λv w l s N=>?_⟩;obtain⟨F1,s1,_,O⟩:=s.fO N;refine o s1.gs f λu Q A s2 G=>?_;exact k v u Q A (s1.trans s2) (.inl (O.mono s2.cD)) G|some i=>refine⟨_,h,I.var i hv,m,λ{σ H F ρ ρ' j R}g e k=>?_⟩;obtain⟨x0,U,E,e⟩:=aj e;obtain⟨W,Y⟩:=aH E;subst Y;obtain⟨y,B,q,e⟩:=aj e;obtain⟨x,C,f,e⟩:=aj e;cases e;have Z:=aH f;clear f;obtain⟨f,e3⟩:=Z;subst e3;obtain⟨v,h1,_⟩:=g.pk W;refine⟨v,h1,o g q λu F1 z s1 G=>?_⟩;obtain⟨v',t,pv⟩:=s1.gs.pk f;rw[h1]at t;cases t;exact k v u F1 z s1 pv G
inductive rD(K:PySem.W.Frag)(f:D->D->Option R)(x y:V)(H:Hp)(Q:VK):Prop where|mk(F:Hp)(d e:D)(r:R)(sm:aP F H)(px:fM K F H x d)(py:fM K F H y e)(he:f d e=aB r)(k:∀v F' H',Ext F H F' H'->cX K F' H' H v r->Q v H')
inductive rD1(K:PySem.W.Frag)(f:D->Option R)(x:V)(H:Hp)(Q:VK):Prop where|mk(F:Hp)(d:D)(r:R)(sm:aP F H)(px:fM K F H x d)(he:f d=aB r)(k:∀v F' H',Ext F H F' H'->cX K F' H' H v r->Q v H')
theorem uV{E:ek}{f:D->D->Option R}{q:P}(t:∀{m o},PE X a m->PE X b o->PE X E (Bw (rD X.K f) m o))(y:SX X c a pa)(z:SX X c b pb)(A:∀ρ,_H.ev c q ρ=(_H.jf (isVar pa) (_H.ev c pa) (isVar pb) (_H.ev c pb) ρ).bind λj ρ=>lift (f j.1 j.2) ρ)(hv:isVar q=b_):SX X c E q:=by obtain⟨m,o,h1,B,C⟩:=y.jf z;refine⟨gR (t h1 B) ?_,λi h=>by rw[hv]at h;cases h⟩;rintro σ H Q⟨F,ρ,r,ρ',g,e,k⟩;rw[A]at e;obtain⟨j,G,I,l⟩:=aj e;have J:=aH l;clear l;obtain⟨l,L⟩:=J;subst L;refine C g I λv u M Z s N O=>⟨M,j.1,j.2,r,s.gs.sub,N,O,l,λw U W x Y=>?_⟩;exact k w U W (s.trans (x.stp s.gs)) (.later s (Y.sW s.gs))
theorem JS{E:ek}{f:D->Option R}{q:P}(m:∀{l},PE X a l->PE X E (tUn (rD1 X.K f) l))(o:SX X c a pa)(t:∀ρ,_H.ev c q ρ=(_H.bU (isVar pa) (_H.ev c pa) ρ).bind λx ρ=>lift (f x) ρ)(hv:isVar q=b_):SX X c E q:=by obtain⟨l,h1,u⟩:=o.bU;refine⟨gR (m h1) ?_,λi h=>by rw[hv]at h;cases h⟩;rintro σ H Q⟨F,ρ,r,ρ',g,e,k⟩;rw[t]at e;obtain⟨x,y,z,j⟩:=aj e;have A:=aH j;clear j;obtain⟨j,B⟩:=A;subst B;refine u g z λv C M s G=>⟨C,x,r,s.gs.sub,G,j,λw I J x L=>?_⟩;exact k w I J (s.trans (x.stp s.gs)) (.later s (L.sW s.gs))
theorem GS.freeze{b:Bool}(g:GS K F ρ σ H)(e:ρ[i]?=aB (.own b ds)):∃v z,σ[i]?=aB (aB v)/\bW K F ρ σ H z (ρ.set i (.val b (.lst ds))) σ H/\Rep K z v (.lst ds):=by
 obtain⟨a,xs,h1,C,E,G⟩:=g.vK i _ ds e rfl;have hi:i<ρ.length:=(fZ e).1;have sm:aP F (upd F a (.lst xs)):=aP.fC E;have A:Rep K (upd F a (.lst xs)) (.ref a) (.lst ds):=by rw[Rep];exact⟨a,xs,rfl,fL.of aW,G.mono sm⟩
 have I:Own ρ σ a:=⟨i,⟨_,_,e,rfl⟩,h1⟩;have r:∀j x,bN (ρ.set i (.val b (.lst ds))) σ j x->bN ρ σ j x/\j≠i:=λj x⟨⟨s,h,m,u⟩,y⟩=>by
  by_cases f:j=i;.subst f;rw[dr hi]at m;cases m;cases u
  .rw[iZ f]at m;exact⟨⟨⟨s,h,m,u⟩,y⟩,f⟩
 refine⟨.ref a,upd F a (.lst xs),h1,⟨⟨λx o q=>?_,by simpa using g.len,λj J d q=>?_,λj s h q w=>?_,λj k x q w=>g.dis j k x (r j x q).1 (r k x w).1⟩,sm,λx n B=>?_,λ_ _ q _=>q,λx⟨j,q⟩=>.inl ⟨j,(r j x q).1⟩,by simp,λj s q l=>⟨rfl,?_⟩⟩,A⟩
 . by_cases t:x=a;.subst t;rw[aW]at q;cases q;exact C
   .rw[aL t]at q;exact g.sub x o q
 . by_cases f:j=i;.subst f;rw[dr hi]at q;cases q;exact⟨_,h1,A⟩
   .rw[iZ f]at q;obtain⟨v,m,u⟩:=g.val j J d q;exact⟨v,m,u.mono sm⟩
 . by_cases f:j=i;.subst f;rw[dr hi]at q;cases q;cases w
   . rw[iZ f]at q;obtain⟨x,ys,m,u,y,L⟩:=g.own j s h q w;have t:x≠a:=by rintro rfl;exact f (g.dis j i x ⟨⟨s,h,q,w⟩,m⟩ ⟨⟨_,_,e,rfl⟩,h1⟩)
     exact⟨x,ys,m,u,by rw[aL t];exact y,L.mono sm⟩
 . by_cases t:x=a;.subst t;exact .inl I
   .rw[aL t]at B;exact absurd n B
 . by_cases f:j=i;.subst f;rw[e]at q;cases q;refine⟨_,dr hi,?_⟩;cases b with|true=>exact .inr ⟨_,rfl⟩|false=>cases l
   .exact⟨s,by rw[iZ f];exact q,.refl s⟩
theorem GS.BP{m:Dc}(g:GS K F ρ σ H)(e:ρ[i]?=aB (.dq m)):∃a,σ[i]?=aB (aB (.ref a))/\H a=aB m.ho/\∀u,bW K F ρ σ H (upd F a (.fO u m.ho)) (ρ.set i (.val a_ (.cZ m))) σ (upd H a (.fO u m.ho))/\Rep K (upd F a (.fO u m.ho)) (.ref a) (.cZ m):=by
 obtain⟨a,G,h1,I,J,L⟩:=g.own i _ _ e rfl;cases(show G=m.ho from L);have hi:i<ρ.length:=(fZ e).1;refine⟨a,h1,I,λu=>?_⟩;have sm:aP F (upd F a (.fO u m.ho)):=aP.fC J;have B:Rep K (upd F a (.fO u m.ho)) (.ref a) (.cZ m):=by rw[Rep];exact⟨a,u,rfl,aW⟩
 have C:Own ρ σ a:=⟨i,⟨_,_,e,rfl⟩,h1⟩;have w:∀j x,bN (ρ.set i (.val a_ (.cZ m))) σ j x->bN ρ σ j x/\j≠i:=λj x⟨⟨s,r,t,y⟩,A⟩=>by
  by_cases f:j=i;.subst f;rw[dr hi]at t;cases t;cases y
  .rw[iZ f]at t;exact⟨⟨⟨s,r,t,y⟩,A⟩,f⟩
 refine⟨⟨⟨λx o q=>?_,by simpa using g.len,λj M d q=>?_,λj s r q z=>?_,λj k x q z=>g.dis j k x (w j x q).1 (w k x z).1⟩,sm,λx n E=>?_,λx o q n=>?_,λx⟨j,q⟩=>.inl ⟨j,(w j x q).1⟩,by simp,λj s q l=>⟨rfl,?_⟩⟩,B⟩
 . by_cases h:x=a;.subst h;rw[aW]at q ⊢;exact q
   .rw[aL h]at q ⊢;exact g.sub x o q
 . by_cases f:j=i;.subst f;rw[dr hi]at q;cases q;exact⟨_,h1,B⟩
   .rw[iZ f]at q;obtain⟨v,t,y⟩:=g.val j M d q;exact⟨v,t,y.mono sm⟩
 . by_cases f:j=i;.subst f;rw[dr hi]at q;cases q;cases z
   . rw[iZ f]at q;obtain⟨x,ys,t,y,A,N⟩:=g.own j s r q z;have h:x≠a:=by rintro rfl;exact f (g.dis j i x ⟨⟨s,r,q,z⟩,t⟩ ⟨⟨_,_,e,rfl⟩,h1⟩)
     exact⟨x,ys,t,by rw[aL h];exact y,by rw[aL h];exact A,N.mono sm⟩
 . by_cases h:x=a;.subst h;exact .inl C
   .rw[aL h]at E;exact absurd n E
 . have h:x≠a:=by rintro rfl;exact n C
   rw[aL h];exact q
 . by_cases f:j=i;.subst f;rw[e]at q;cases q;cases l
   .exact⟨s,by rw[iZ f];exact q,.refl s⟩
theorem GS.BR{kvs:List (Int×D)}(g:GS K F ρ σ H)(e:ρ[i]?=aB (.uN kvs)):∃a vs,σ[i]?=aB (aB (.ref a))/\H a=aB (Jo (kvs.map (·.1)) vs)/\∀t,bW K F ρ σ H (upd F a (.fO t (Jo (kvs.map (·.1)) vs))) (ρ.set i (.val a_ (.dv (kvs.map (·.1)) (kvs.map (·.2))))) σ (upd H a (.fO t (Jo (kvs.map (·.1)) vs)))/\Rep K (upd F a (.fO t (Jo (kvs.map (·.1)) vs))) (.ref a) (.dv (kvs.map (·.1)) (kvs.map (·.2))):=by
 obtain⟨a,N,h1,E,G,I⟩:=g.own i _ _ e rfl;obtain⟨vs,rfl,J⟩:=I;have hi:i<ρ.length:=(fZ e).1;refine⟨a,vs,h1,E,λt=>?_⟩;have sm:aP F (upd F a (.fO t (Jo (kvs.map (·.1)) vs))):=aP.fC G;have A:Rep K (upd F a (.fO t (Jo (kvs.map (·.1)) vs))) (.ref a) (.dv (kvs.map (·.1)) (kvs.map (·.2))):=by rw[Rep];exact⟨a,t,vs,rfl,aW,J.mono sm,by simp⟩
 have B:Own ρ σ a:=⟨i,⟨_,_,e,rfl⟩,h1⟩;have u:∀j x,bN (ρ.set i (.val a_ (.dv (kvs.map (·.1)) (kvs.map (·.2))))) σ j x->bN ρ σ j x/\j≠i:=λj x⟨⟨s,m,r,w⟩,z⟩=>by
  by_cases f:j=i;.subst f;rw[dr hi]at r;cases r;cases w
  .rw[iZ f]at r;exact⟨⟨⟨s,m,r,w⟩,z⟩,f⟩
 refine⟨⟨⟨λx o q=>?_,by simpa using g.len,λj L d q=>?_,λj s m q y=>?_,λj k x q y=>g.dis j k x (u j x q).1 (u k x y).1⟩,sm,λx n C=>?_,λx o q n=>?_,λx⟨j,q⟩=>.inl ⟨j,(u j x q).1⟩,by simp,λj s q l=>⟨rfl,?_⟩⟩,A⟩
 . by_cases h:x=a;.subst h;rw[aW]at q ⊢;exact q
   .rw[aL h]at q ⊢;exact g.sub x o q
 . by_cases f:j=i;.subst f;rw[dr hi]at q;cases q;exact⟨_,h1,A⟩
   .rw[iZ f]at q;obtain⟨v,r,w⟩:=g.val j L d q;exact⟨v,r,w.mono sm⟩
 . by_cases f:j=i;.subst f;rw[dr hi]at q;cases q;cases y
   . rw[iZ f]at q;obtain⟨x,ys,r,w,z,M⟩:=g.own j s m q y;have h:x≠a:=by rintro rfl;exact f (g.dis j i x ⟨⟨s,m,q,y⟩,r⟩ ⟨⟨_,_,e,rfl⟩,h1⟩)
     exact⟨x,ys,r,by rw[aL h];exact w,by rw[aL h];exact z,M.mono sm⟩
 . by_cases h:x=a;.subst h;exact .inl B
   .rw[aL h]at C;exact absurd n C
 . have h:x≠a:=by rintro rfl;exact n B
   rw[aL h];exact q
 . by_cases f:j=i;.subst f;rw[e]at q;cases q;cases l
   .exact⟨s,by rw[iZ f];exact q,.refl s⟩
theorem Inv.M3{X:Cx}{f:List (df×Obj)}{s:dc}{a:df}{kvs:List (Key×V)}(I:_L.Inv X f σ H s)(h:H a=aB (.dK kvs)):∃o,_L.Inv X f σ (upd H a (.fO o (.dK kvs))) s:=by obtain⟨j,l,vs,r,g⟩:=(show cJ X.prog X.w H s.heap a (.dK kvs)from I.hok a _ h);obtain⟨o,ho,_⟩:=g.typeIs;exact⟨o,I.write (h':=s.heap) (t':=s.toks) (by rw[h];exact trivial) (.inl rfl) (λb u _ e=>e) ⟨o,ho⟩ ⟨ho,j,l,vs,r,g⟩⟩
theorem QL(z:X.N[i]?=aB x)(hv:u0 X.env.scope x)(hd:(x==("__debug__":Str))=a_:=by decide)(t:(x==("__classdict__":Str))=a_:=by decide):SX X c (.Name x pos) (.var i):=by
 have h:=fc (X:=X) (pos:=pos) z hv hd t;refine⟨?_,λj A=>by cases A;exact h⟩;rintro f s σ H Q I⟨F,ρ,r,ρ',g,e,k⟩;rw[_H.E1]at e;split at e;.rename_i b d q;cases e;obtain⟨v,h1,l⟩:=g.val i b d q;exact h f s σ H Q I ⟨v,h1,k v F H (.refl g) l⟩
 .rename_i b ds q;cases e;obtain⟨v,B,h1,l,m⟩:=g.freeze q;exact h f s σ H Q I ⟨v,h1,k v B H l m⟩
 .rename_i kvs q;cases e;obtain⟨a,h1,l,m⟩:=g.BP q;refine dC (h f s σ H (λv w=>v=.ref a/\w=H) I ⟨.ref a,h1,rfl,rfl⟩) λu s1⟨v,H1,I1,r1,e1,e2⟩=>?_;subst e1 e2;obtain⟨o,y⟩:=Inv.M3 I1 l;exact⟨.ref a,_,y,r1,k _ _ _ (m o).1 (m o).2⟩
 .rename_i kvs q;cases e;obtain⟨a,vs,h1,l,m⟩:=g.BR q;refine dC (h f s σ H (λv w=>v=.ref a/\w=H) I ⟨.ref a,h1,rfl,rfl⟩) λu s1⟨v,H1,I1,r1,e1,e2⟩=>?_;subst e1 e2;obtain⟨o,y⟩:=Inv.M3 I1 l;exact⟨.ref a,_,y,r1,k _ _ _ (m o).1 (m o).2⟩
 .cases e
theorem zR{d:D}(h:PE X e (tC v))(hr:∀F,Rep X.K F v d):SX X c e (.con d):=⟨gR h λσ H Q⟨F,ρ,r,ρ',g,e,k⟩=>by rw[_H.E2]at e;cases e;exact k v F H (.refl g) (hr F),λi h=>by cases h⟩
theorem aa{i j}:SX X c (.Constant (.int i) j pos) (.con (.int i)):=zR HD λF=>by rw[Rep]
theorem iu{i j}:SX X c (.Constant (.bool i) j pos) (.con (.bl i)):=zR YT λF=>by rw[Rep]
theorem qL{j}:SX X c (.Constant .none j pos) (.con .non):=zR Uu λF=>by rw[Rep]
theorem fM.int{K:PySem.W.Frag}{F H:Hp}{v:V}{i:Int}(h:fM K F H v (.int i)):v=.int i:=by
 rcases h with h|⟨_,_,_,_,_,_,h⟩;.rw[Rep]at h;exact h
 .cases h
theorem fM.bl{K:PySem.W.Frag}{F H:Hp}{v:V}{i:Bool}(h:fM K F H v (.bl i)):v=.bl i:=by
 rcases h with h|⟨_,_,_,_,_,_,h⟩;.rw[Rep]at h;exact h
 .cases h
theorem fM.str{K:PySem.W.Frag}{F H:Hp}{v:V}{i:Str}(h:fM K F H v (.str i)):v=.str i:=by
 rcases h with h|⟨_,_,_,_,_,_,h⟩;.rw[Rep]at h;exact h
 .cases h
theorem fM.non{K:PySem.W.Frag}{F H:Hp}{v:V}(h:fM K F H v .non):v=.non:=by
 rcases h with h|⟨_,_,_,_,_,_,h⟩;.rw[Rep]at h;exact h
 .cases h
theorem fM.tup{K:PySem.W.Frag}{F H:Hp}{v:V}{ds:List D}(s:aP F H)(h:fM K F H v (.tup ds)):∃a xs,v=.ref a/\jl K H a xs/\aN K F xs ds/\Rep K F v (.tup ds):=by
 rcases h with h|⟨_,_,_,_,_,_,h⟩;.have h':=h;rw[Rep]at h;obtain⟨a,xs,rfl,h1,f⟩:=h;exact⟨a,xs,rfl,aP.iI s h1,f,h'⟩
 .cases h
theorem fM.lst{K:PySem.W.Frag}{F H:Hp}{v:V}{ds:List D}(s:aP F H)(h:fM K F H v (.lst ds)):∃a xs,v=.ref a/\fL K H a xs/\aN K F xs ds:=by
 rcases h with h|⟨a,xs,es,h1,f,g,h⟩;.rw[Rep]at h;obtain⟨a,xs,rfl,h1,f⟩:=h;exact⟨a,xs,rfl,s.seq h1,f⟩
 .cases h;exact⟨a,xs,h1,fL.of f,g⟩
theorem fM.cZ{m:Dc}(s:aP F H)(h:fM K F H v (.cZ m)):∃a o,v=.ref a/\H a=aB (.fO o m.ho):=by
 rcases h with h|⟨_,_,_,_,_,_,h⟩;.rw[Rep]at h;obtain⟨a,o,rfl,h⟩:=h;exact⟨a,o,rfl,s _ _ h⟩
 .cases h
theorem GJ{X:Cx}{f:List (df×Obj)}{s:dc}{a:df}{g:Obj}{m:Dc}(I:_L.Inv X f σ H s)(h:H a=aB (.fO g m.ho)):∃o,s.heap.get? a=aB o/\o.cls=.type "dict":=by have z:=(show cJ X.prog X.w H s.heap a (.fO g m.ho)from I.hok a _ h).2;cases m with|k kvs=>obtain⟨_,_,vs,_,d2⟩:=(show cJ X.prog X.w H s.heap a (.dK _)from z);exact d2.typeIs|t kvs=>obtain⟨_,_,xs,_,o,es,ep,h1,j,_⟩:=(show cJ X.prog X.w H s.heap a (.dT _)from z);exact⟨o,h1,j.1⟩
theorem fM.dv{ks:List Int}(s:aP F H)(h:fM K F H v (.dv ks ds)):∃a o vs,v=.ref a/\H a=aB (.fO o (Jo ks vs))/\aN K F vs ds/\ks.length=ds.length:=by
 rcases h with h|⟨_,_,_,_,_,_,h⟩;.rw[Rep]at h;obtain⟨a,o,vs,rfl,h,h1,f⟩:=h;exact⟨a,o,vs,rfl,s _ _ h,h1,f⟩
 .cases h
theorem Iu{X:Cx}{f:List (df×Obj)}{s:dc}{a:df}{g:Obj}{ks:List Int}(I:_L.Inv X f σ H s)(h:H a=aB (.fO g (Jo ks vs))):∃o,s.heap.get? a=aB o/\o.cls=.type "dict":=by have z:=(show cJ X.prog X.w H s.heap a (.fO g (Jo ks vs))from I.hok a _ h).2;obtain⟨_,_,vs,_,d2⟩:=(show cJ X.prog X.w H s.heap a (.dK _)from z);exact d2.typeIs
theorem fM.items{d:D}(s:aP F H)(h:fM K F H v d)(e:items d=aB ds):∃a xs,v=.ref a/\(fL K H a xs\/jl K H a xs)/\aN K F xs ds:=by cases d with|tup es=>cases e;obtain⟨a,xs,h1,f,g,_⟩:=h.tup s;exact⟨a,xs,h1,.inr f,g⟩|lst es=>cases e;obtain⟨a,xs,h1,f,g⟩:=h.lst s;exact⟨a,xs,h1,.inl f,g⟩|_=>cases e
theorem cX.eV{Q:VK}{d:D}(s:aP F H)(r:Rep K F v d)(k:∀v g f,Ext F H g f->cX K g f H v (.val d)->Q v f):Q v H:=k v F H (.refl s) r
theorem bM(i:Int):Rep K F (.int i) (.int i):=by rw[Rep]
theorem jq(i:Bool):Rep K F (.bl i) (.bl i):=by rw[Rep]
theorem RB(i:Str):Rep K F (.str i) (.str i):=by rw[Rep]
theorem Sh:Rep K F .non .non:=by rw[Rep]
theorem vZ{Q:VK}{xs:List V}{p:df}(s:aP F H)(r:aN K F xs ds)(f:H p=b_)(k:∀v h g,Ext F H h g->cX K h g H v (.own ds)->Q v g):Q (.ref p) (upd H p (.lst xs)):=by
 have j:F p=b_:=by cases q:F p with|none=>rfl|some o=>rw[s p o q]at f;cases f
 exact k _ F _ ⟨aP.fC f,.refl _,s.trans (aP.fC f),λ_ a b=>absurd a b⟩ ⟨p,xs,rfl,aW,j,r,f⟩
theorem Ep{Q:VK}{xs:List V}{p:df}(s:aP F H)(r:aN K F xs ds)(g:H p=b_)(k:∀v j h,Ext F H j h->cX K j h H v (.val (.tup ds))->Q v h):Q (.ref p) (upd H p (.tup xs)):=by
 have m:F p=b_:=by cases q:F p with|none=>rfl|some o=>rw[s p o q]at g;cases g
 have sm:aP F (upd F p (.tup xs)):=aP.fC m;refine k _ (upd F p (.tup xs)) _ ⟨aP.fC g,sm,λb o e=>?_,λb n l=>?_⟩ ?_
 . by_cases f:b=p;.subst f;rw[aW]at e ⊢;exact e
   .rw[aL f]at e ⊢;exact s b o e
 . by_cases f:b=p;.subst f;exact lJ g
   .rw[aL f]at l;exact absurd n l
 .show Rep K _ _ (.tup ds);rw[Rep];exact⟨p,xs,rfl,jl.of aW,r.mono sm⟩
end
theorem sV(k:Int)(t:Tok)(l:df)(a:Array c_)(n:Nat)(b:Option df)(c:Array (Option c_)):mo (hY.«int.__rmul__» ⟨[.int k t,.ref l],[]⟩) (λ_ R s=>s.heap.get? l=aB ⟨.type "list",b,.seq a n,c⟩/\R (.ok (.ret kb)) s):=.of_wp λprog w A R s h=>by obtain⟨e,g,d,f,os⟩:=s;obtain⟨j,h⟩:=h;wp_walk;exact⟨_,rfl,h⟩
theorem Ea(l:df)(a:Array c_)(n:Nat)(b:Option df)(c:Array (Option c_))(k:Int)(t:Tok)(h0:¬(!Builtin.List.listFitsIndex k)=ck)(h1:¬a.size*k.toNat>(2^63-1)/8)(e:¬rj (a.size*k.toNat)=ck):mo (hY.«list.__mul__» ⟨[.ref l,.int k t],[]⟩) (λ_ R s=>s.heap.get? l=aB ⟨.type "list",b,.seq a n,c⟩/\R (.ok (.ret (eW s.heap.objs.size))) {s with heap:=s.heap.push {cls:=.type "list",data:=.seq (rq (·++·) #[] (dA (if a.isEmpty=ck then 0 else k.toNat) a))}}):=.of_wp λprog w A R s h=>by obtain⟨m,g,d,o,os⟩:=s;obtain⟨f,h⟩:=h;have j:=AutoListH.joined_fits e;wp_walk using gb f;refine wpAny_ite_false (decide_eq_false (Nat.not_lt.mpr j)) ?_;wp_walk;exact⟨_,rfl,h⟩
section
variable{X:Cx}{c:Call}{e a b d:ek}{p pa pb pd:P}{pos:Pos}
theorem Lg:ik X (gL .Add) (λx y H Q=>∃l b xs t,x=.ref l/\y=.ref b/\fL X.K H l xs/\fL X.K H b t/\xs.length+t.length<=sizeLine/\∀p,H p=b_->Q (.ref p) (upd H p (.lst (xs++t)))):=by
 intro A s σ H x y v u Q I G J h;obtain⟨l,b,xs,t,rfl,rfl,L,M,B,q⟩:=h;cases G;cases J;obtain⟨g,r,pl,_⟩:=I.list L;obtain⟨f,C,N,_⟩:=I.list M;obtain⟨⟨cls,O,data,U⟩,ho,hc,n,hd⟩:=id pl.isList;obtain⟨⟨E,w,data2,z⟩,j,m,W,o⟩:=id N.isList;simp only at hc hd m o;subst hc hd m o;have e:g.toArray++f.toArray=(g++f).toArray:=by simp
 refine nc ⟨_,ho,rfl⟩ ⟨_,j,rfl⟩ noFill_list_add seq_list_add PySem.F.slot_list_add PySem.F.entry_list_add (PySem.F.args_list_add_2 _ _) (list_addW l b g.toArray f.toArray n W O w U z (by simp only[dP];rw[<-r.length,<-C.length];exact B)) ⟨ho,j,?_⟩;rw[e];exact⟨.ref _,_,I.QR (t':=s.toks) (r.append C) (by rw[hR];exact B),rfl,q _ I.fresh⟩
theorem Ih:ik X (gL .Add) (λx y H Q=>∃a b ys,x=.ref a/\y=.ref b/\jl X.K H a []/\jl X.K H b ys/\Q (.ref b) H):=by intro t s σ H x y v u Q I z A h;obtain⟨a,b,ys,rfl,rfl,B,C,q⟩:=h;cases z;cases A;obtain⟨m,r1,E,_⟩:=I.tuple B;obtain⟨f,O,G,_⟩:=I.tuple C;obtain⟨⟨cls,J,data,L⟩,ho,hc,n,hd⟩:=id E;obtain⟨⟨w,o,data2,r⟩,g,j,M,l⟩:=id G;simp only at hc hd j l;subst hc hd j l;have N:m=[]:=r1.qm.mpr rfl;subst N;exact nc ⟨_,ho,rfl⟩ ⟨_,g,rfl⟩ nI pS slot_tuple_add entry_tuple_add (args_tuple_add_2 _ _) (tuple_addW0 a b _ f.toArray n M J o L r (by simp)) ⟨ho,g,⟨.ref b,H,I,rfl,q⟩⟩
theorem aC:ik X (gL .Add) (rD X.K (sZ .add)):=by
 rintro f s σ H x y v u Q I g h⟨F,d,e,r,sm,o,q,he,k⟩;replace he:rG d e=aB r:=he;unfold rG at he;split at he;.cases he;rw[o.int]at g;rw[q.int]at h;exact RD f s σ H _ _ v u Q I g h ⟨_,_,rfl,rfl,cX.eV sm (bM _) k⟩
 .rename_i xs ys;obtain⟨m,he⟩:=bK he;subst he;obtain⟨a,vs,rfl,t,j⟩:=o.lst sm;obtain⟨b,w,rfl,z,l⟩:=q.lst sm;exact Lg f s σ H _ _ v u Q I g h ⟨a,b,vs,w,rfl,rfl,t,z,by rw[j.length,l.length];exact m,λp A=>vZ sm (j.append l) A k⟩
 . rename_i xs ys;obtain⟨m,he⟩:=bK he;subst he;obtain⟨a,vs,rfl,t,j,C⟩:=o.tup sm;obtain⟨b,w,rfl,z,l,E⟩:=q.tup sm;by_cases h0:vs=[]
   . subst h0;have B:xs=[]:=by have:=j.length;exact kc this.symm
     subst B;exact Ih f s σ H _ _ v u Q I g h ⟨a,b,w,rfl,rfl,t,z,cX.eV sm E k⟩
   . refine Lq f s σ H _ _ v u Q I g h ⟨a,b,vs,w,rfl,rfl,t,z,h0,by rw[j.length,l.length];exact m,λe=>?_,λ_ p A=>Ep sm (j.append l) A k⟩;subst e;have B:ys=[]:=by have:=l.length;exact kc this.symm
     subst B;rw[ow]at k;exact cX.eV sm C k
 .rename_i G J;obtain⟨m,he⟩:=bK he;subst he;rw[o.str]at g;rw[q.str]at h;exact zq f s σ H _ _ v u Q I g h ⟨_,_,rfl,rfl,m,cX.eV sm (RB _) k⟩
 .cases he
theorem bQ:ik X (gL .Sub) (rD X.K (sZ .sub)):=by
 rintro f s σ H x y v u Q I g h⟨F,d,e,r,sm,j,l,he,k⟩;replace he:xO d e=aB r:=he;unfold xO at he;split at he;.cases he;rw[j.int]at g;rw[l.int]at h;exact QQ f s σ H _ _ v u Q I g h ⟨_,_,rfl,rfl,cX.eV sm (bM _) k⟩
 .cases he
theorem N6:ik X (gL .Mult) (λx y H Q=>∃l k xs,x=.ref l/\y=.int k/\fL X.K H l xs/\-(2^63)<=k/\k<2^63/\xs.length*k.toNat<=sizeLine/\∀p,H p=b_->Q (.ref p) (upd H p (.lst (dA k.toNat xs).flatten))):=by
 intro w s σ H x y v u Q I C E h;obtain⟨l,k,xs,rfl,rfl,G,h1,J,z,q⟩:=h;cases C;obtain⟨t,rfl⟩:=E;obtain⟨f,r,pl,_⟩:=I.list G;obtain⟨⟨cls,A,data,B⟩,ho,hc,n,hd⟩:=id pl.isList;simp only at hc hd;subst hc hd;have g:f.toArray.size*k.toNat<=sizeLine:=by rw[dP,<-r.length];exact z
 have o:¬ f.toArray.size*k.toNat>(2^63-1)/8:=by
  have:(sizeLine:Nat)<=(2^63-1)/8:=by decide
  lia
 have j:rq (·++·) #[] (dA (if f.toArray.isEmpty=ck then 0 else k.toNat) f.toArray)=(dA k.toNat f).flatten.toArray:=by
  have f0:∀m:Nat,rq (·++·) #[] (dA m f.toArray)=(dA m f).flatten.toArray:=λm=>by have:=foldl_rep f m [];rw[mv]at this;exact this
  rw[f0];cases f with|nil=>simp|cons a M=>rw[if_neg (by simp)]
 refine oS (T:="list") (U:="int") (by decide) ⟨_,ho,rfl⟩ (λL=>ms L k t) noFill_list_mul F.fills_int_mul F.slot_int_rmul repeat_list F.slot_int_index.lookup ?_;refine mw F.slot_int_rmul (ms s k t) F.entry_int_rmul (F.args_int_rmul_2 _ _) (sV k t l f.toArray n A B) ⟨ho,rfl,⟨_,ho,rfl⟩,?_⟩;refine mw F.slot_list_mul ⟨_,ho,rfl⟩ F.entry_list_mul (F.args_list_mul_2 _ _) (Ea l f.toArray n A B k t (by rw[fitsIndex_both h1 J];exact eJ) o (by rw[Gu g];exact eJ)) ⟨ho,?_⟩;rw[j];exact⟨.ref _,_,I.QR (t':=s.toks) (r.rep k.toNat) (by rw[len_rep,oB];exact z),rfl,q _ I.fresh⟩
theorem oX:fillsNumberSlot (.type "tuple") "mul"=fI a_:=PySem.fillsNumberSlot_seq (id:="tuple.__mul__") (r:=aB (.builtin "tuple.__rmul__")) slot_tuple_mul.lookup (by decide+kernel) PySem.F.slot_tuple_rmul.lookup (by decide+kernel)
theorem vD:seqRepeat? (.type "tuple")=fI (aB (.builtin "tuple.__mul__")):=by unfold seqRepeat?;rw[PySem.seqSlot_of (T:="tuple") (name:="__mul__") (id:="tuple.__mul__") slot_tuple_mul.lookup (by decide+kernel),PySem.seqSlot_of (T:="tuple") (name:="__rmul__") (id:="tuple.__rmul__") PySem.F.slot_tuple_rmul.lookup (by decide+kernel)];rfl
theorem rW(k:Int)(t:Tok)(l:df)(f:Array c_)(n:Nat)(j:Option df)(m:Array (Option c_)):mo (hY.«int.__rmul__» ⟨[.int k t,.ref l],[]⟩) (λ_ R s=>s.heap.get? l=aB ⟨.type "tuple",j,.seq f n,m⟩/\R (.ok (.ret kb)) s):=.of_wp λprog w A R s h=>by obtain⟨o,g,d,q,os⟩:=s;obtain⟨r,h⟩:=h;wp_walk;exact⟨_,rfl,h⟩
theorem Aa(l:df)(f:Array c_)(n:Nat)(u:Option df)(y:Array (Option c_))(k:Int)(t:Tok)(h0:0<=k)(h1:k<2^63)(r:f.size*k.toNat<=sizeLine)(z:0<f.size):mo (hY.«tuple.__mul__» ⟨[.ref l,.int k t],[]⟩) (λ_ R s=>s.heap.get? l=aB ⟨.type "tuple",u,.seq f n,y⟩/\(k=1->R (.ok (.ret (eW l))) s)/\(k≠1->R (.ok (.ret (eW s.heap.objs.size))) {s with heap:=s.heap.push {cls:=.type "tuple",data:=.seq (rq (·++·) #[] (dA k.toNat f))}})):=.of_wp λprog w A R s h=>by
  obtain⟨B,g,d,L,os⟩:=s;obtain⟨o,C,E⟩:=h;have j:f.isEmpty=a_:=by cases e:f.isEmpty with|false=>rfl|true=>rw[Array.isEmpty_iff_size_eq_zero]at e;lia
  show dL _ _ (asIndex (.int k t)>>=_) _ _ _;wp_walk using gb o;have G:qc B l f:=⟨_,o,rfl,n,rfl⟩;rw[if_neg (by simp;lia)];refine bx (PyProof.Rows.tupleItemsOf_ G ?_);try dsimp only
  by_cases m:k=1;.rw[if_pos (by simp[m])];wp_walk using gb o;exact⟨_,rfl,C m⟩
  . have q:=E m;rw[if_neg (by simp[j,m])];by_cases I:k=0;.subst I;rw[if_pos (by simp)];unfold k8;refine bx (fh ?_);exact de ⟨_,rfl,q⟩
    . have M:(f.size:Int)*k<=sizeLine:=by
       have:((f.size*k.toNat:Nat):Int)<=(sizeLine:Nat):=by exact_mod_cast r
       rw[Int.natCast_mul,show((k.toNat:Nat):Int)=k by lia]at this;exact this
      have J:(sizeLine:Int)<=(2^63-1)/8:=by decide
      rw[if_neg (by simp[j];lia),if_neg (by lia),if_neg (by simp[Builtin.Tuple.tupleTooMany];lia)];unfold k8;refine bx (fh ?_ ?_);.exact de ⟨_,rfl,q⟩
      .have:=foldl_rep f.toList k.toNat [];rw[mv,show f.toList.toArray=f by simp]at this;show(rq (·++·) #[] (dA k.toNat f)).size<=sizeLine;rw[show(#[]:Array c_)=([]:List c_).toArray from rfl,this,dP,len_rep,iP,oB];exact r
theorem Mg:ik X (gL .Mult) (λx y H Q=>∃l k xs,x=.ref l/\y=.int k/\jl X.K H l xs/\0<xs.length/\0<=k/\k<2^63/\xs.length*k.toNat<=sizeLine/\(k=1->Q (.ref l) H)/\(k≠1->∀p,H p=b_->Q (.ref p) (upd H p (.tup (dA k.toNat xs).flatten)))):=by
 intro w s σ H x y v u Q I C E h;obtain⟨l,k,xs,rfl,rfl,G,m,h1,J,z,L,M⟩:=h;cases C;obtain⟨t,rfl⟩:=E;obtain⟨f,r,pl,_⟩:=I.tuple G;obtain⟨⟨cls,A,data,B⟩,ho,hc,n,hd⟩:=id pl;simp only at hc hd;subst hc hd;have g:f.toArray.size*k.toNat<=sizeLine:=by rw[dP,<-r.length];exact z
 have j:rq (·++·) #[] (dA k.toNat f.toArray)=(dA k.toNat f).flatten.toArray:=by have:=foldl_rep f k.toNat [];rw[mv]at this;exact this
 refine oS (T:="tuple") (U:="int") (by decide) ⟨_,ho,rfl⟩ (λN=>ms N k t) oX F.fills_int_mul F.slot_int_rmul vD F.slot_int_index.lookup ?_;refine mw F.slot_int_rmul (ms s k t) F.entry_int_rmul (F.args_int_rmul_2 _ _) (rW k t l f.toArray n A B) ⟨ho,rfl,⟨_,ho,rfl⟩,?_⟩;refine mw slot_tuple_mul ⟨_,ho,rfl⟩ PySem.F.entry_tuple_mul (PySem.F.args_tuple_mul_2 _ _) (Aa l f.toArray n A B k t h1 J g (by rw[dP,<-r.length];exact m)) ⟨ho,λe=>⟨.ref l,H,I,rfl,L e⟩,λe=>?_⟩;rw[j];refine⟨.ref s.heap.objs.size,_,I.laid (t':=s.toks) (o:=.tup (dA k.toNat xs).flatten) (λb O q=>fK q) (dW) ?_,rfl,M e _ (I.hok.fresh (dW))⟩;exact⟨by rw[len_rep,oB];exact z,_,r.rep k.toNat,n1 _ _⟩
theorem jA:ik X (gL .Mult) (rD X.K (sZ .mul)):=by
 rintro f s σ H x y v u Q I l g⟨F,d,e,r,sm,o,q,he,k⟩;replace he:pA d e=aB r:=he;unfold pA at he;split at he;.obtain⟨hc,he⟩:=bK he;subst he;rw[o.int]at l;rw[q.int]at g;exact T9 f s σ H _ _ v u Q I l g ⟨_,_,rfl,rfl,hc,cX.eV sm (bM _) k⟩
 . rename_i xs i;obtain⟨⟨h1,m,j⟩,he⟩:=bK he;subst he;obtain⟨a,vs,rfl,t,h⟩:=o.lst sm;rw[q.int]at g;have w:i<2^63:=by have z:=oD i.toNat m;have B:i.toNat<=16777216:=ja z j;lia
   exact N6 f s σ H _ _ v u Q I l g ⟨a,i,vs,rfl,rfl,t,by lia,w,by rw[h.length];exact j,λp A=>vZ sm (h.rep i.toNat) A k⟩
 . rename_i xs i;obtain⟨⟨h1,m,j⟩,he⟩:=bK he;subst he;obtain⟨a,vs,rfl,t,h,C⟩:=o.tup sm;rw[q.int]at g;have w:i<2^63:=by have z:=oD i.toNat m;have B:i.toNat<=16777216:=ja z j;lia
   refine Mg f s σ H _ _ v u Q I l g ⟨a,i,vs,rfl,rfl,t,by rw[h.length];exact m,h1,w,by rw[h.length];exact j,λe=>?_,λe p A=>Ep sm (h.rep i.toNat) A k⟩;subst e;refine cX.eV sm ?_ k;have E:(dA (1:Int).toNat xs).flatten=xs:=by simp
   rw[E];exact C
 .cases he
theorem yf:ik X (gL .FloorDiv) (rD X.K (sZ .fdiv)):=by
 rintro f s σ H x y v u Q I g h⟨F,d,e,r,sm,l,m,he,k⟩;replace he:rQ d e=aB r:=he;unfold rQ at he;split at he
 . rename_i i j;obtain⟨⟨h1,q⟩,he⟩:=bK he;subst he;rw[l.int]at g;rw[m.int]at h;obtain⟨t,rfl⟩:=g;obtain⟨t',rfl⟩:=h;have o:j.natAbs.log2<9000:=by
    have:j.natAbs<2^200:=by
     have:(2:Nat)^200=1606938044258990275541962092341162602522202993782792835301376:=by decide
     lia
    have w:=(Nat.log2_lt (by lia)).mpr this;lia
   exact floordiv_int (by lia) (by rw[Int.fdiv_eq_ediv_of_nonneg i (by lia)];exact⟨.int _,H,I.tok _,⟨_,rfl⟩,cX.eV sm (bM _) k⟩) (.inl (PyProof.noPylong_of_log2 o))
 .cases he
theorem gG:ik X (gL .Mod) (rD X.K (sZ .mod)):=by
 rintro f s σ H x y v u Q I g h⟨F,d,e,r,sm,j,l,he,k⟩;replace he:xU d e=aB r:=he;unfold xU at he;split at he;.obtain⟨h1,he⟩:=bK he;subst he;rw[j.int]at g;rw[l.int]at h;exact Rf f s σ H _ _ v u Q I g h ⟨_,_,rfl,rfl,h1,cX.eV sm (bM _) k⟩
 .cases he
theorem iy:ik X (gL .Pow) (rD X.K (sZ .pow)):=by
 rintro f s σ H x y v u Q I g h⟨F,d,e,r,sm,j,l,he,k⟩;replace he:wO d e=aB r:=he;unfold wO at he;split at he;.obtain⟨⟨h1,o,m⟩,he⟩:=bK he;subst he;rw[j.int]at g;rw[l.int]at h;exact Ui f s σ H _ _ v u Q I g h ⟨_,_,rfl,rfl,⟨h1,by lia,m⟩,cX.eV sm (bM _) k⟩
 .cases he
theorem au{o:Op}{op:nk}(ho:ik X (gL op) (rD X.K (sZ o)))(f:SX X c a pa)(g:SX X c b pb):SX X c (.BinOp a op b pos) (.bin o pa pb):=uV (λh1 h=>Xv ho h1 h) f g (λρ=>rfl) rfl
theorem Ja(j:SX X c a pa):SX X c (.UnaryOp .USub a pos) (.neg pa):=by refine JS (f:=Jk) (λh1=>O6 ?_ h1) j (λρ=>rfl) rfl;rintro g s σ H x v Q I h⟨F,d,r,sm,l,he,k⟩;unfold Jk at he;obtain⟨i,m,o⟩:=map_some he;subst o;cases d<;>cases m;rw[l.int]at h;exact Jc g s σ H _ v Q I h ⟨_,rfl,cX.eV sm (bM _) k⟩
theorem CN{f:Int->Int->Bool}(ho:ik X (eK op) (Kw λi j=>.bl (f i j))):ik X (eK op) (rD X.K λx y=>(Ky f x y).map λk=>.val (.bl k)):=by
 rintro g s σ H x y v u Q I l m⟨F,d,e,r,sm,o,q,he,k⟩;obtain⟨t,h,w⟩:=map_some (show(Ky f d e).map _=aB r from he);subst w;unfold Ky at h;split at h;.cases h;rw[o.int]at l;rw[q.int]at m;exact ho g s σ H _ _ v u Q I l m ⟨_,_,rfl,rfl,cX.eV sm (jq _) k⟩
 .cases h
theorem zx{f:Int->Int->Bool}(ho:ik X (eK op) (Kw λi j=>.bl (f i j))){o:Cm}(hc:cm o=Ky f):ik X (eK op) (rD X.K (p6 o)):=by
 have e:p6 o=λx y=>(Ky f x y).map λk=>.val (.bl k):=by funext x y;unfold p6;rw[hc]
 rw[e];exact CN ho
theorem Um:ik X (eK .Lt) (rD X.K λx y=>(Ky (λi j=>decide (i<j)) x y).map λk=>.val (.bl k)):=CN Zj
theorem jK:ik X (eK .LtE) (rD X.K (p6 .le)):=zx Yd rfl
theorem kW:ik X (eK .Gt) (rD X.K (p6 .gt)):=zx Xz rfl
theorem JF:ik X (eK .GtE) (rD X.K (p6 .ge)):=zx Xh rfl
theorem uH{d:D}(h:fM K F H v d):decide (v=.non)=kj d:=by cases d with
 |non=>rw[h.non];rfl|bl _=>rw[h.bl];rfl|int _=>rw[h.int];rfl|str _=>rw[h.str];rfl|tup _=>
   rcases h with h|⟨a,_,_,rfl,_⟩;.rw[Rep]at h;obtain⟨a,_,rfl,_⟩:=h;rfl
   .rfl|lst _=>
   rcases h with h|⟨a,_,_,rfl,_⟩;.rw[Rep]at h;obtain⟨a,_,rfl,_⟩:=h;rfl
   .rfl|cZ _=>
   rcases h with h|⟨a,_,_,rfl,_⟩;.rw[Rep]at h;obtain⟨a,_,rfl,_⟩:=h;rfl
   .rfl|dv _ _=>
   rcases h with h|⟨a,_,_,rfl,_⟩;.rw[Rep]at h;obtain⟨a,_,_,rfl,_⟩:=h;rfl
   .rfl
theorem Sd:ik X (eK .Is) (rD X.K (p6 .isN)):=by
 rintro f s σ H x y v u Q I h j⟨F,d,e,r,sm,l,m,he,k⟩;obtain⟨t,g,o⟩:=map_some (show(Vp a_ d e).map _=aB r from he);subst o;unfold Vp at g;split at g;.cases g;exact RW f s σ H x y v u Q I h j ⟨m.non,by rw[uH l];exact cX.eV sm (jq _) k⟩
 .cases g
theorem M9:ik X (eK .IsNot) (rD X.K (p6 .Oj)):=by
 rintro f s σ H x y v u Q I h j⟨F,d,e,r,sm,l,m,he,k⟩;obtain⟨t,g,o⟩:=map_some (show(Vp ck d e).map _=aB r from he);subst o;unfold Vp at g;split at g;.cases g;exact Nz f s σ H x y v u Q I h j ⟨m.non,by rw[uH l];exact cX.eV sm (jq _) k⟩
 .cases g
theorem gn{o:Cm}(ho:ik X (eK op) (rD X.K (p6 o)))(f:SX X c a pa)(g:SX X c b pb)(h:jn op b=a_):SX X c (.Compare a [op] [b] pos) (.cmp o pa pb):=uV (λh1 j=>Le ho h1 j h) f g (λρ=>rfl) rfl
theorem G8{o E:Cm}{l:qf}(ho:ik X (eK op) (rD X.K (p6 o)))(A:ik X (eK l) (rD X.K (p6 E)))(G:SX X c a pa)(I:SX X c b pb)(hd:SX X c d pd)(J:lastMarks [op,l] [b,d]=a_:=by with_unfolding_all rfl):SX X c (.Compare a [op,l] [b,d] pos) (.chain o E pa pb pd):=by
 obtain⟨ta,tb,h1,L,M⟩:=G.jf I;obtain⟨td,N,O⟩:=hd.bU;refine⟨gR (G7 ho A h1 L N J) ?_,λi h=>by cases h⟩;rintro σ H Q⟨F,ρ,r,ρ',g,e,k⟩;rw[_H.E9]at e;obtain⟨m,U,W,e⟩:=aj e;obtain⟨t,Y,j,e⟩:=aj e;have Z:=aH j;clear j;obtain⟨j,B⟩:=Z;subst B;have f:flat m.2=ck/\cm o m.1 m.2=aB t:=by
  split at j;.rename_i hf;exact⟨hf,j⟩
  .cases j
 obtain⟨f,j⟩:=f;refine M g W λv u F' H' s pv y=>⟨F',m.1,m.2,.val (.bl t),s.gs.sub,pv,y,by unfold p6;rw[j];rfl,λw C H2 x q=>?_⟩;have s2:=s.trans (x.stp s.gs);have q:Rep X.K C w (.bl t):=q;rw[Rep]at q;subst q;refine⟨t,rfl,?_⟩;cases t with|false=>rw[if_neg eJ]at e ⊢;cases e;exact k _ C H2 s2 (show Rep X.K C _ _ from jq _)|true=>
   rw[if_pos rfl]at e ⊢;obtain⟨z,ab,B,e⟩:=aj e;obtain⟨e4,e5⟩:=aH e;subst e5;refine O s2.gs B λw F3 H3 s3 pw=>⟨F3,m.2,z,r,s3.gs.sub,?_,pw,e4,λw' F4 H4 x4 q=>?_⟩
   . have x1:=x.fs;have x2:=s3.cD;rcases y with y|⟨_,_,_,_,_,_,h⟩;.exact .inl ((y.mono x1).mono x2)
     .rw[h]at f;cases f
   .have s4:=s2.trans s3;exact k w' F4 H4 (s4.trans (x4.stp s4.gs)) (.later s4 (q.sW s4.gs))
end
section
variable{X:Cx}{c:Call}{e a b d:ek}{p pa pb pd:P}{pos:Pos}{rest:List ek}
theorem rN{x:D}{k:Bool}(h:zp x=aB k):x=.bl k:=by cases x<;>cases h;rfl
theorem bw{x:D}{k:Int}(h:fj x=aB k):x=.int k:=by cases x<;>cases h;rfl
theorem dG.bool{g j:Hp}{f:_L.St}{r:R}{k:Bool}(h:dG K g ρ' f j ρ σ H v r)(e:r.d=.bl k):v=.bl k:=by cases r with|val d=>cases(show d=.bl k from e);have h:Rep K g v (.bl k):=h;rw[Rep]at h;exact h|own ds=>cases e
noncomputable def ST(X:Cx)(c:Call)(e:ek)(p:P):Prop:=PT X e (Hr X.K (kY (_H.ev c p)))
noncomputable def SW(X:Cx)(c:Call)(e:ek)(p:P):Prop:=PW X e (Hr X.K (kY (_H.ev c p)))
theorem SW.st(h:SW X c e p):ST X c e p:=PW.pt h
theorem vI{t:TE}{Q:Bool->Hp->Prop}(hi:∀Q,zL X.K (_H.ev c p) σ H Q->t σ H Q)(h:Hr X.K (kY (_H.ev c p)) σ H Q):t σ H λx l=>∃k,x=.bl k/\Q k l:=by obtain⟨F,ρ,k,ρ',g,e,q⟩:=h;obtain⟨r,j,m,f⟩:=aj e;have o:=aH f;clear f;obtain⟨f,u⟩:=o;subst u;exact hi _ ⟨F,ρ,r,j,g,m,λv w y s z=>⟨k,z.bool (rN f),q w y s⟩⟩
theorem jY(h:SX X c e p)(he:∀whole,isTrue e X.env whole=(do let v<-whole;mR e.pos;im [v] (truthy v)):=by intro _;rfl):ST X c e p:=Cz (Rx h.ev he) λσ H Q q=>vI (λ_ z=>z) q
theorem bL{o:Cm}(ho:ik X (eK op) (rD X.K (p6 o)))(j:SX X c a pa)(l:SX X c b pb)(m:jn op b=a_):ST X c (.Compare a [op] [b] pos) (.cmp o pa pb):=by obtain⟨y,A,h1,B,C⟩:=j.jf l;refine Cz (Oe ho h1 B m) λσ H Q q=>vI (t:=Bw (rD X.K (p6 o)) y A) (λQ z=>?_) q;obtain⟨F,ρ,r,ρ',g,e,k⟩:=z;rw[_H.E8]at e;obtain⟨h,E,G,f⟩:=aj e;have I:=aH f;clear f;obtain⟨f,J⟩:=I;subst J;refine C g G λv u L Y s M N=>⟨L,h.1,h.2,r,s.gs.sub,M,N,f,λw O U x W=>?_⟩;exact k w O U (s.trans (x.stp s.gs)) (.later s (W.sW s.gs))
theorem km(l:ST X c a pa):ST X c (.UnaryOp .Not a pos) (.not pa):=by
 refine Cz (TV l) ?_;rintro σ H Q⟨F,ρ,k,ρ',g,e,q⟩;unfold kY at e;rw[_H.E5]at e;obtain⟨r,m,o,f⟩:=aj e;obtain⟨h,t,u,w⟩:=aj o;cases w;have y:=aH f;clear f;obtain⟨f,z⟩:=y;subst z;have f:(!h)=k:=by cases f;rfl
 exact⟨F,ρ,h,_,g,u,λA j s=>by show Q (!h) j;rw[f];exact q A j s⟩
theorem Mw(ρ:List Sl):kY (_H.ev c (.and pa pb)) ρ=(kY (_H.ev c pa) ρ).bind λx ρ=>if x then kY (_H.ev c pb) ρ else .ok a_ ρ:=by unfold kY;rw[_H.E6];unfold kY;cases _H.ev c pa ρ with|exc _ _=>rfl|stuck=>rfl|ok r f=>simp only[Res.bind];cases h:zp r.d with|none=>rfl|some k=>cases k with|false=>rfl|true=>simp only[lift,if_true];cases _H.ev c pb f with|exc _ _=>rfl|stuck=>rfl|ok g j=>simp only[Res.bind];cases h2:zp g.d with|none=>rfl|some l=>rfl
theorem SN(ρ:List Sl):kY (_H.ev c (.or pa pb)) ρ=(kY (_H.ev c pa) ρ).bind λx ρ=>if x then .ok ck ρ else kY (_H.ev c pb) ρ:=by unfold kY;rw[_H.E7];unfold kY;cases _H.ev c pa ρ with|exc _ _=>rfl|stuck=>rfl|ok r f=>simp only[Res.bind];cases h:zp r.d with|none=>rfl|some k=>cases k with|true=>rfl|false=>simp only[lift,hU,if_false];cases _H.ev c pb f with|exc _ _=>rfl|stuck=>rfl|ok g j=>simp only[Res.bind];cases h2:zp g.d with|none=>rfl|some l=>rfl
theorem qu(f:ST X c a pa):SW X c (.BoolOp .And [a] pos) pa:=KQ f
theorem mq(f:ST X c a pa):SW X c (.BoolOp .Or [a] pos) pa:=Tq f
theorem mG(h:ST X c a pa)(j:SW X c (.BoolOp .And (b::rest) pos) pb):SW X c (.BoolOp .And (a::b::rest) pos) (.and pa pb):=by refine Qi (RV h j) ?_;rintro σ H Q⟨F,ρ,k,ρ',g,e,q⟩;rw[Mw]at e;obtain⟨x,f,l,e⟩:=aj e;refine⟨F,ρ,x,f,g,l,λF1 m s1=>?_⟩;cases x with|true=>rw[if_pos rfl]at e ⊢;exact⟨F1,f,k,ρ',s1.gs,e,λo r s2=>q o r (s1.trans s2)⟩|false=>rw[if_neg eJ]at e ⊢;cases e;exact q F1 m s1
theorem nG(h:ST X c a pa)(j:SW X c (.BoolOp .Or (b::rest) pos) pb):SW X c (.BoolOp .Or (a::b::rest) pos) (.or pa pb):=by refine Qi (Xc h j) ?_;rintro σ H Q⟨F,ρ,k,ρ',g,e,q⟩;rw[SN]at e;obtain⟨x,f,l,e⟩:=aj e;refine⟨F,ρ,x,f,g,l,λF1 m s1=>?_⟩;cases x with|true=>rw[if_pos rfl]at e ⊢;cases e;exact q F1 m s1|false=>rw[if_neg eJ]at e ⊢;exact⟨F1,f,k,ρ',s1.gs,e,λo r s2=>q o r (s1.trans s2)⟩
theorem jH{op}(f:SX X c a pa):PE X (.BoolOp op [a] pos) (zL X.K (_H.ev c pa)):=S7 f.ev
theorem kO(o:SX X c a pa)(q:PE X (.BoolOp .And (b::rest) pos) (zL X.K (_H.ev c pb))):SX X c (.BoolOp .And (a::b::rest) pos) (.and pa pb):=by refine⟨gR (Uc o.ev q) ?_,λi h=>by cases h⟩;rintro σ H Q⟨F,ρ,r,ρ',g,e,k⟩;rw[_H.E6]at e;obtain⟨x,f,s,e⟩:=aj e;refine vI (c:=c) (λ_ z=>z) (Q:=λx j=>if x=ck then zL X.K (_H.ev c pb) σ j Q else Q (.bl a_) j) ⟨F,ρ,x,f,g,s,λF1 j s1=>?_⟩;cases x with|true=>rw[if_pos rfl]at e ⊢;obtain⟨y,t,u,w⟩:=aj e;cases w;obtain⟨A,B,C,l⟩:=aj u;have E:=aH l;clear l;obtain⟨l,G⟩:=E;subst G;refine⟨F1,f,A,_,s1.gs,C,λv m I s2 J=>?_⟩;rw[J.bool (rN l)];exact k _ m I (s1.trans s2) (show Rep X.K m _ _ from jq _)|false=>rw[if_neg eJ]at e ⊢;cases e;exact k _ F1 j s1 (show Rep X.K F1 _ _ from jq _)
theorem jz:∀{ps:List P}{ρ ρ':List Sl}{ds:List D},evs c ps ρ=.ok ds ρ'->ds.length=ps.length|[],_,_,_,h=>by rw[o4]at h;cases h;rfl|p::ps,_,_,_,h=>by rw[kZ]at h;obtain⟨r,f,_,h⟩:=aj h;obtain⟨xs,g,j,h⟩:=aj h;cases h;simp[jz j]
theorem aF:SA X c [] []:=⟨xg iG λσ H Q⟨F,ρ,ds,ρ',g,e,k⟩=>by rw[o4]at e;cases e;exact k [] F H (.refl g) .nil,rfl⟩
theorem qg{ps:List P}(h:SX X c a pa)(hr:SA X c es ps)(hs:dy (a::es) X.env=(a_,fg a X.env)::dy es X.env:=by rfl):SA X c (a::es) (pa::ps):=by refine⟨xg (dm h.ev hr.1 hs) ?_,by simp[hr.2]⟩;rintro σ H Q⟨F,ρ,ds,ρ',g,e,k⟩;rw[kZ]at e;obtain⟨r,f,j,e⟩:=aj e;obtain⟨xs,l,m,e⟩:=aj e;cases e;refine⟨F,ρ,r,f,g,j,λv y z s o=>?_⟩;obtain⟨F1,s1,_,q⟩:=s.fO o;refine⟨F1,f,xs,_,s1.gs,m,λvs t u s2 w=>?_⟩;exact k _ t u (s1.trans s2) (.cons (q.mono s2.cD) w)
theorem Ext.Nf{h j:Hp}{Q:VK}{xs:List V}(s:bW K j ρ σ h F ρ' σ H)(r:aN K F xs ds)(k:∀v g f,bW K j ρ σ h g ρ' σ f->dG K g ρ' σ f ρ σ h v (.val (.tup ds))->Q v f)(p:df)(l:H p=b_):Q (.ref p) (upd H p (.tup xs)):=Ep s.gs.sub r l λv g f x m=>k v g f (s.trans (x.stp s.gs)) m
theorem bJ{ps:List P}{x1}(h:SA X c es ps)(l:ps.length<=sizeLine:=by decide):SX X c (.Tuple es x1 pos) (.tup ps):=by refine⟨gR (qT h.1) ?_,λi h=>by cases h⟩;rintro σ H Q⟨F,ρ,r,ρ',g,e,k⟩;rw[_H.E11]at e;obtain⟨ds,m,f,e⟩:=aj e;cases e;exact⟨F,ρ,ds,_,g,f,λvs q t s j=>⟨by rw[j.length,jz f];exact l,λp o=>Ext.Nf s j k p o⟩⟩
theorem bR{ps:List P}(h:SA X c es ps)(l:ps.length<=sizeLine:=by decide):SX X c (.List es pos) (.lst ps):=by refine⟨gR (Ri h.1) ?_,λi h=>by cases h⟩;rintro σ H Q⟨F,ρ,r,ρ',g,e,k⟩;rw[_H.E12]at e;obtain⟨ds,m,f,e⟩:=aj e;cases e;exact⟨F,ρ,ds,_,g,f,λvs w y s j=>⟨by rw[j.length,jz f];exact l,λp o=>vZ s.gs.sub j o λv q t x u=>k v q t (s.trans (x.stp s.gs)) (.later s (u.sW s.gs))⟩⟩
theorem Io{i:Int}{d:D}(h:at' ds i=aB d):∃j,_L.lD ds.length i=aB j/\ds[j]?=aB d:=bz h
theorem adK:IxR X (rD X.K oO):=by
 rintro f slice g s σ H x y v u Q I m l⟨F,d,e,r,sm,t,A,he,k⟩hs;unfold oO at he;obtain⟨ds,B,he⟩:=bz he;obtain⟨i,C,he⟩:=bz he;obtain⟨z,E,he⟩:=map_some he;subst he;cases bw C;rw[A.int]at l;obtain⟨p,xs,rfl,hq,o⟩:=t.items sm B;obtain⟨j,h1,G⟩:=Io E;obtain⟨w,J,q⟩:=o.get G;have h:Hk xs i=aB w:=by unfold Hk;rw[o.length,h1];exact J
 rcases hq with hq|hq;.exact iB f slice g s σ H _ _ v u Q I m l ⟨p,xs,i,w,rfl,rfl,hq,h,cX.eV sm q k⟩ hs
 .exact Ti f slice g s σ H _ _ v u Q I m l ⟨p,xs,i,w,rfl,rfl,hq,h,cX.eV sm q k⟩ hs
theorem az(g:SX X c a pa)(h:SX X c b pb)(hs:gM b:=by intro _ _;rfl):SX X c (.Subscript a b pos) (.idx pa pb):=uV (f:=oO) (λh1 j=>nC adK h1 j hs) g h (λρ=>rfl) rfl
noncomputable def Gf(K:PySem.W.Frag)(f:D->Option R):List V->Hp->VK->Prop:=λxs H Q=>∃x,xs=[x]/\rD1 K f x H Q
theorem lq{E:ek}{f:D->Option R}{q:P}(l:∀{t},PA X [a] t->PE X E (tCB (Gf X.K f) t))(m:SX X c a pa)(o:∀ρ,_H.ev c q ρ=(_H.bU (isVar pa) (_H.ev c pa) ρ).bind λx ρ=>lift (f x) ρ)(hv:isVar q=b_)(hs:dy [a] X.env=(a_,fg a X.env)::dy [] X.env:=by rfl):SX X c E q:=by obtain⟨M,h1,u⟩:=m.bU;refine⟨gR (l (dm h1 iG hs)) ?_,λi h=>by rw[hv]at h;cases h⟩;rintro σ H Q⟨F,ρ,r,ρ',g,e,k⟩;rw[o]at e;obtain⟨x,y,z,j⟩:=aj e;have A:=aH j;clear j;obtain⟨j,B⟩:=A;subst B;refine u g z λv C N s G=>⟨v,rfl,C,x,r,s.gs.sub,G,j,λw I J x L=>?_⟩;exact k w I J (s.trans (x.stp s.gs)) (.later s (L.sW s.gs))
theorem Yr:dU X (.builtin "len") (Gf X.K λx=>blt .len [x]):=by rintro f s σ H xs g Q I r⟨x,h,F,d,j,sm,l,he,k⟩;obtain⟨ds,m,he⟩:=map_some (show(items d).map _=aB j from he);subst he;obtain⟨p,ys,rfl,o,q⟩:=l.items sm m;exact uY f s σ H xs g Q I r ⟨p,ys,h,o,by rw[q.length];exact cX.eV sm (bM _) k⟩
theorem QM:dU X (.type "list") (Gf X.K λx=>blt .list [x]):=by rintro f s σ H xs g Q I r⟨x,h,F,d,j,sm,m,he,k⟩;obtain⟨ds,o,he⟩:=map_some (show(items d).map _=aB j from he);subst he;obtain⟨p,ys,rfl,q,t⟩:=m.items sm o;exact vz f s σ H xs g Q I r ⟨p,ys,h,q,λl u=>vZ sm t u k⟩
theorem Mu:dU X (.type "tuple") (Gf X.K λx=>blt .tuple [x]):=by rintro f s σ H xs j Q I r⟨x,m,F,d,t,sm,o,he,k⟩;obtain⟨ds,g,he⟩:=map_some (show(items d).map _=aB t from he);subst he;cases d with|tup es=>cases g;obtain⟨a,ys,rfl,h,q,rt⟩:=o.tup sm;exact lW f s σ H xs j Q I r ⟨a,ys,m,.inr ⟨h,cX.eV sm rt k⟩⟩|lst es=>cases g;obtain⟨a,ys,rfl,h,q⟩:=o.lst sm;exact lW f s σ H xs j Q I r ⟨a,ys,m,.inl ⟨h,λl u=>Ep sm q u k⟩⟩|_=>cases g
theorem eY(f:x="len")(g:Gl X x)(j:X.mg x=b_)(l:SX X c a pa)(hs:dy [a] X.env=(a_,fg a X.env)::dy [] X.env:=by rfl):SX X c (.Call (.Name x p') [a] [] pos) (.blt .len [pa]):=by subst f;exact lq (λh=>eN Yr g j PySem.boot_len h (he:=hs)) l (λρ=>rfl) rfl hs
theorem BJ(f:x="list")(g:Gl X x)(j:X.mg x=b_)(l:SX X c a pa)(hs:dy [a] X.env=(a_,fg a X.env)::dy [] X.env:=by rfl):SX X c (.Call (.Name x p') [a] [] pos) (.blt .list [pa]):=by subst f;exact lq (λh=>lN QM g j (by decide+kernel) h (he:=hs)) l (λρ=>rfl) rfl hs
theorem gV(f:x="tuple")(g:Gl X x)(j:X.mg x=b_)(l:SX X c a pa)(hs:dy [a] X.env=(a_,fg a X.env)::dy [] X.env:=by rfl):SX X c (.Call (.Name x p') [a] [] pos) (.blt .tuple [pa]):=by subst f;exact lq (λh=>lN Mu g j (by decide+kernel) h (he:=hs)) l (λρ=>rfl) rfl hs
end
noncomputable def KN(K:PySem.W.Frag)(np:Nat)(f:List Sl->Res R):Sp:=λvs H Q _=>vs.length=np/\∃F args r a,GS K F args (vs.map aB) H/\f args=.ok r a/\∀v e b c,bW K F args (vs.map aB) H e a b c->dG K e a b c args (vs.map aB) H v r->Q v c
section
variable{K:PySem.W.Frag}
noncomputable def Ao(K:PySem.W.Frag)(F:Hp)(ρ:List Sl)(σ:_L.St)(H:Hp)(ρ₀:List Sl)(H₀:Hp)(v:V):Arg->Prop|.dat d=>Rep K F v d|.tmp ds=>∃x xs,v=.ref x/\H x=aB (.lst xs)/\F x=b_/\aN K F xs ds/\¬ Own ρ σ x/\(Own ρ₀ σ x\/H₀ x=b_)|.gO i=>σ[i]?=aB (aB v)
structure xF(K:PySem.W.Frag)(F:Hp)(ρ:List Sl)(σ:_L.St)(H:Hp)(ρ₀:List Sl)(H₀:Hp)(as:List Arg)(vs:List V):Prop where
 len:as.length=vs.length
 one:∀(j:Nat)(a:Arg)(v:V),as[j]?=aB a->vs[j]?=aB v->Ao K F ρ σ H ρ₀ H₀ v a
 dis:∀(j k:Nat)(ds es:List D)(x:df),as[j]?=aB (.tmp ds)->as[k]?=aB (.tmp es)->vs[j]?=aB (.ref x)->vs[k]?=aB (.ref x)->j=k
theorem Ao.later{b f:Hp}{a:Arg}(s:bW K F ρ σ H b ρ' σ f)(h:Ao K F ρ σ H ρ₀ H₀ v a):Ao K b ρ' σ f ρ₀ H₀ v a:=by cases a with|dat d=>exact Rep.mono s.cD h|gO i=>exact h|tmp ds=>
   obtain⟨x,xs,h1,c,g,j,e,l⟩:=h;refine⟨x,xs,h1,s.keep x _ c e,?_,j.mono s.cD,λo=>?_,l⟩;.cases q:b x with|none=>rfl|some o=>
       rcases s.yF x g (by rw[q];simp)with z|z;.exact absurd z e
       .exact(G3 c z).elim
   . rcases s.wJ x o with z|z;.exact e z
     .rw[c]at z;cases z
theorem xF.nil:xF K F ρ σ H ρ₀ H₀ [] []:=⟨rfl,λj a v h=>by simp at h,λj k ds es x h=>by simp at h⟩
theorem xF.cons{F H H₀:Hp}{ρ ρ₀:List Sl}{σ:_L.St}{a:Arg}{v:V}{as:List Arg}{vs:List V}(h:Ao K F ρ σ H ρ₀ H₀ v a)(t:xF K F ρ σ H ρ₀ H₀ as vs)(hd:∀ds x,a=.tmp ds->v=.ref x->∀(k:Nat)es,as[k]?=aB (.tmp es)->vs[k]?≠aB (.ref x)):xF K F ρ σ H ρ₀ H₀ (a::as) (v::vs):=by
 refine⟨by simp[t.len],λj b u h1 c=>?_,λj k ds es x h1 c e f=>?_⟩;.cases j with|zero=>simp at h1 c;subst h1;subst c;exact h|succ j=>exact t.one j b u (by simpa using h1) (by simpa using c)
 .cases j with
   |zero=>cases k with|zero=>rfl|succ k=>simp at h1 e;exact absurd (by simpa using f) (hd ds x h1 e k es (by simpa using c))
   |succ j=>cases k with|zero=>simp at c f;exact absurd (by simpa using e) (hd es x c f j ds (by simpa using h1))|succ k=>rw[t.dis j k ds es x (by simpa using h1) (by simpa using c) (by simpa using e) (by simpa using f)]
noncomputable def Gy(ρ:List Sl):Arg->Sl->Prop|.dat d,s=>s=.val a_ d|.tmp ds,s=>s=.own a_ ds|.gO i,s=>(∃b d,ρ[i]?=aB (.val b d)/\s=.val a_ d)\/(∃b ds,ρ[i]?=aB (.own b ds)/\s=.own ck ds)\/∃ds,ρ[i]?=aB (.lent ds)/\s=.lent ds
theorem qJ{ρ:List Sl}:∀{as:List Arg}{c:List Nat}{args:List Sl},cM ρ as c=aB args->args.length=as.length/\(∀(j:Nat)(a:Arg)(s:Sl),as[j]?=aB a->args[j]?=aB s->Gy ρ a s)/\(∀(j:Nat)(i:Nat)(s:Sl)ds,as[j]?=aB (.gO i)->args[j]?=aB s->lst? s=aB ds->i∉c)/\(∀(j k:Nat)(i:Nat)(s t:Sl)ds es,as[j]?=aB (.gO i)->as[k]?=aB (.gO i)->args[j]?=aB s->args[k]?=aB t->lst? s=aB ds->lst? t=aB es->j=k)
 |[],c,args,h=>by rw[zc]at h;cases h;exact⟨rfl,λj a s h=>by simp at h,λj i s ds h=>by simp at h,λj k i s t ds es h=>by simp at h⟩|a::as,c,args,h=>by--the aeI slot,the aeJ
   have y:∃s0 r p,args=s0::r/\cM ρ as p=aB r/\Gy ρ a s0/\((∃i ds,a=.gO i/\lst? s0=aB ds/\p=i::c/\i∉c)\/((∀i ds,a=.gO i->lst? s0≠aB ds)/\p=c)):=by cases a with|dat d=>rw[zg]at h;obtain⟨r,g,l⟩:=map_some h;exact⟨_,r,c,l.symm,g,rfl,.inr ⟨λi ds z=>(by cases z),rfl⟩⟩|tmp d=>rw[zV]at h;obtain⟨r,g,l⟩:=map_some h;exact⟨_,r,c,l.symm,g,rfl,.inr ⟨λi ds z=>(by cases z),rfl⟩⟩|gO i=>
      rw[qQ]at h;split at h;.rename_i b d q;obtain⟨r,g,l⟩:=map_some h;exact⟨_,r,c,l.symm,g,.inl ⟨b,d,q,rfl⟩,.inr ⟨λ_ _ _ z=>(by cases z),rfl⟩⟩
      . rename_i b ds q;split at h;.cases h
        .rename_i m;obtain⟨r,g,l⟩:=map_some h;exact⟨_,r,_,l.symm,g,.inr (.inl ⟨b,ds,q,rfl⟩),.inl ⟨i,_,rfl,rfl,rfl,by simpa using m⟩⟩
      . rename_i ds q;split at h;.cases h
        .rename_i m;obtain⟨r,g,l⟩:=map_some h;exact⟨_,r,_,l.symm,g,.inr (.inr ⟨ds,q,rfl⟩),.inl ⟨i,_,rfl,rfl,rfl,by simpa using m⟩⟩
      .cases h
   obtain⟨s0,r,p,rfl,hr,A,m⟩:=y;obtain⟨l1,N,B,O⟩:=qJ hr;have sub:∀i,i∉p->i∉c:=λi hi L=>by
    rcases m with⟨_,_,_,_,rfl,_⟩|⟨_,rfl⟩;.exact hi (fv _ L)
    .exact hi L
   refine⟨by simp[l1],λj b s h1 f=>?_,λj i s ds h1 f o=>?_,λj k i s t ds es h1 f o w C E=>?_⟩;.cases j with|zero=>simp at h1 f;subst h1;subst f;exact A|succ j=>exact N j b s (by simpa using h1) (by simpa using f)
   .cases j with|zero=>
       simp at h1 f;subst h1;subst f;rcases m with⟨M,_,e,_,_,hn⟩|⟨hn,_⟩;.cases e;exact hn
       .exact absurd o (hn i ds rfl)|succ j=>exact sub i (B j i s ds (by simpa using h1) (by simpa using f) o)
   . have Q:∀(k:Nat)(t:Sl)es,a=.gO i->lst? s0=aB ds->(as[k]?=aB (.gO i))->r[k]?=aB t->lst? t=aB es->False:=λk t es u G I J he=>by
      rcases m with⟨M,_,e,_,rfl,hn⟩|⟨hn,_⟩;.rw[u]at e;cases e;exact B k i t es I J he iO
      .exact hn i ds u G
     have U:∀(k:Nat)(t:Sl)es,a=.gO i->lst? s0=aB es->(as[k]?=aB (.gO i))->r[k]?=aB t->lst? t=aB ds->False:=λk t es u G I J he=>by
      rcases m with⟨M,_,e,_,rfl,hn⟩|⟨hn,_⟩;.rw[u]at e;cases e;exact B k i t ds I J he iO
      .exact hn i es u G
     cases j with
     |zero=>cases k with|zero=>rfl|succ k=>simp at h1 o;subst o;exact(Q k t es h1 C (by simpa using f) (by simpa using w) E).elim
     |succ j=>cases k with|zero=>simp at f w;subst w;exact(U j s es f E (by simpa using h1) (by simpa using o) C).elim|succ k=>rw[O j k i s t ds es (by simpa using h1) (by simpa using f) (by simpa using o) (by simpa using w) C E]
theorem xF.get(A:xF K F ρ σ H ρ₀ H₀ as vs){args:List Sl}{j:Nat}{s:Sl}(c:args.length=as.length)(h:args[j]?=aB s):∃a v,as[j]?=aB a/\vs[j]?=aB v/\Ao K F ρ σ H ρ₀ H₀ v a:=by
 have e:j<args.length:=(fZ h).1;have h1:j<as.length:=by lia
 have b:j<vs.length:=by rw[<-A.len];exact h1
 exact⟨as[j],vs[j],by simp[h1],by simp[b],A.one j _ _ (by simp[h1]) (by simp[b])⟩
theorem args_gs{args:List Sl}(g:GS K F ρ σ H)(A:xF K F ρ σ H ρ₀ H₀ as vs)(h:cM ρ as []=aB args):GS K F args (vs.map aB) H:=by
 obtain⟨l1,L,l3,Z⟩:=qJ h;have up:∀{j:Nat}{v:V},vs[j]?=aB v->(vs.map aB)[j]?=aB (aB v):=λe=>by rw[ey,e];rfl
 have X:∀{j:Nat}{v:V},(vs.map aB)[j]?=aB (aB v)->vs[j]?=aB v:=λ{j v}e=>by rw[ey]at e;cases q:vs[j]?with|none=>rw[q]at e;cases e|some w=>rw[q]at e;cases e;rfl
 refine⟨g.sub,by rw[l1,A.len,eu],λj b d e=>?_,λj s ds e I=>?_,λj k x⟨⟨s,ds,e1,e2⟩,M⟩⟨⟨t,es,f1,f2⟩,f3⟩=>?_⟩;.obtain⟨a,v,h1,u,m⟩:=A.get l1 e;have B:=L j a _ h1 e;refine⟨v,up u,?_⟩;cases a with|dat d'=>cases B;exact m|tmp ds=>cases B|gO i=>
     rcases B with⟨N,d',r,c⟩|⟨_,_,_,c⟩|⟨_,_,c⟩;.cases c;obtain⟨w,f,p⟩:=g.val i N d r;have m:σ[i]?=aB (aB v):=m;rw[m]at f;cases f;exact p
     .cases c
     .cases c
 .obtain⟨a,v,h1,u,m⟩:=A.get l1 e;have B:=L j a _ h1 e;cases a with|dat d'=>cases B;cases I|tmp es=>cases B;cases I;obtain⟨x,xs,rfl,c,f,p,_⟩:=m;exact⟨x,_,up u,c,f,xs,rfl,p⟩|gO i=>
     have m:σ[i]?=aB (aB v):=m;rcases B with⟨N,d',r,c⟩|⟨N,es,r,c⟩|⟨es,r,c⟩;.cases c;cases I
     .cases c;cases I;obtain⟨x,xs,f,p⟩:=g.own i _ _ r rfl;rw[m]at f;cases f;exact⟨x,xs,up u,p⟩
     .cases c;cases I;obtain⟨x,xs,f,p⟩:=g.own i _ _ r rfl;rw[m]at f;cases f;exact⟨x,xs,up u,p⟩
 . obtain⟨a,v,h1,u,m⟩:=A.get l1 e1;obtain⟨O,v',C,J,E⟩:=A.get l1 f1;have M:=X M;have f3:=X f3;rw[u]at M;cases M;rw[J]at f3;cases f3;have s1:=L j a _ h1 e1;have s2:=L k O _ C f1;have Q:∀{i:Nat}{s:Sl}{ds:Oc},lst? s=aB ds->Gy ρ (.gO i) s->∃G o,ρ[i]?=aB G/\lst? G=aB o:=λ{i s ds}l z=>by
    rcases z with⟨_,_,_,z⟩|⟨b,es,q,_⟩|⟨es,q,_⟩;.subst z;cases l
    .exact⟨_,_,q,rfl⟩
    .exact⟨_,_,q,rfl⟩
   cases a with
   |dat d=>cases s1;cases e2|tmp UG=>cases O with|dat d=>cases s2;cases f2|tmp Y=>exact A.dis j k UG Y x h1 C u J|gO i=>obtain⟨y,_,r,_,_,_,c,_⟩:=m;cases r;obtain⟨G,o,f,p⟩:=Q f2 s2;exact absurd ⟨i,⟨G,o,f,p⟩,E⟩ c
   |gO i=>obtain⟨G,o,f,p⟩:=Q e2 s1;cases O with|dat d=>cases s2;cases f2|tmp Y=>obtain⟨y,_,r,_,_,_,c,_⟩:=E;cases r;exact absurd ⟨i,⟨G,o,f,p⟩,m⟩ c|gO i'=>obtain⟨U,W,q5,q6⟩:=Q f2 s2;have:=g.dis i i' x ⟨⟨G,o,f,p⟩,m⟩ ⟨⟨U,W,q5,q6⟩,E⟩;subst this;exact Z j k i s t ds es h1 C e1 f1 e2 f2
theorem o8{as:List Arg}{ss:List Sl}:∀(ρ:List Sl)(n i:Nat),(fX as ss n ρ)[i]?=(ρ[i]?).map λs=>gk s (bF (n+i) as ss)
 |[],n,i=>by simp[qH,mO]|s::ρ,n,0=>by simp[qH,mO]|s::ρ,n,i+1=>by
   rw[mO];simp only[kM];rw[o8 ρ (n+1) i];have:n+1+i=n+(i+1):=by lia
   rw[this]
theorem oJ{as:List Arg}{ss:List Sl}:∀(ρ:List Sl)(n:Nat),(fX as ss n ρ).length=ρ.length|[],n=>rfl|s::ρ,n=>by rw[mO];simp[oJ ρ]
theorem jE{i:Nat}:∀{as:List Arg}{ss:List Sl}{t:Sl},bF i as ss=aB t->∃j:Nat,as[j]?=aB (.gO i)/\ss[j]?=aB t
 |[],_,_,h=>by simp[bF]at h|a::as,[],_,h=>by cases a<;>simp[bF]at h|a::as,s::ss,t,h=>by
   have tl:bF i as ss=aB t->∃j:Nat,(a::as)[j]?=aB (.gO i)/\(s::ss)[j]?=aB t:=λh=>by obtain⟨j,h1,b⟩:=jE h;exact⟨j+1,by simpa using h1,by simpa using b⟩
   cases a with|dat d=>exact tl (by simpa[bF]using h)|tmp d=>exact tl (by simpa[bF]using h)|gO k=>
     rw[bF]at h;split at h;.rename_i c;cases h;subst c;exact⟨0,rfl,rfl⟩
     .exact tl h
theorem mL{i:Nat}:∀{as:List Arg}{ss:List Sl},as.length=ss.length->bF i as ss=b_->∀j:Nat,as[j]?≠aB (.gO i)
 |[],_,_,_=>λj h=>by simp at h|a::as,[],b,_=>by simp at b|a::as,s::ss,b,h=>λj c=>by
   have f:as.length=ss.length:=by simpa using b
   have tl:bF i as ss=b_/\a≠.gO i:=by cases a with|dat d=>exact⟨by simpa[bF]using h,by simp⟩|tmp d=>exact⟨by simpa[bF]using h,by simp⟩|gO k=>
      rw[bF]at h;split at h;.cases h
      .rename_i g;exact⟨h,λe=>g (by cases e;rfl)⟩
   cases j with|zero=>simp at c;exact tl.2 c|succ j=>exact mL f tl.1 j (by simpa using c)
theorem Jh{Q X H':Hp}{args c:List Sl}{Y:_L.St}(s0:bW K Q ρ₀ σ H₀ F ρ σ H)(A:xF K F ρ σ H ρ₀ H₀ as vs)(hb:cM ρ as []=aB args)(s:bW K F args (vs.map aB) H X c Y H'):bW K Q ρ₀ σ H₀ X (fX as c 0 ρ) σ H'/\∀v r,dG K X c Y H' args (vs.map aB) H v r->dG K X (fX as c 0 ρ) σ H' ρ₀ σ H₀ v r:=by
 have g:=s0.gs;obtain⟨l1,l2,l3,l4⟩:=qJ hb;have up:∀{j:Nat}{v:V},vs[j]?=aB v->(vs.map aB)[j]?=aB (aB v):=λe=>by rw[ey,e];rfl
 have dn:∀{j:Nat}{v:V},(vs.map aB)[j]?=aB (aB v)->vs[j]?=aB v:=λ{j v}e=>by rw[ey]at e;cases q:vs[j]?with|none=>rw[q]at e;cases e|some w=>rw[q]at e;cases e;rfl
 have la:as.length=c.length:=by rw[s.len,l1]--whose are the lists that the callee holds
 have own:∀b,Own args (vs.map aB) b->(∃(j:Nat)(ds:List D),as[j]?=aB (Arg.tmp ds)/\vs[j]?=aB (V.ref b)/\¬ Own ρ σ b/\(Own ρ₀ σ b\/H₀ b=b_))\/Own ρ σ b:=λb⟨j,⟨sl,ds,G,U⟩,e3⟩=>by obtain⟨a,v,h1,E,L⟩:=A.get l1 G;have s1:=l2 j a _ h1 G;have e3:=dn e3;rw[E]at e3;cases e3;cases a with|dat d=>cases s1;cases U|tmp es=>obtain⟨x,_,p,_,_,_,f,N⟩:=L;cases p;exact .inl ⟨j,es,h1,E,f,N⟩|gO i=>
    right;rcases s1 with⟨_,_,_,z⟩|⟨b',es,q,_⟩|⟨es,q,_⟩;.subst z;cases U
    .exact⟨i,⟨_,_,q,rfl⟩,L⟩
    .exact⟨i,⟨_,_,q,rfl⟩,L⟩
 have back:∀b,Own ρ σ b\/H b=b_->Own ρ₀ σ b\/H₀ b=b_:=λb h=>by
  rcases h with h|h;.exact s0.wJ b h
  . by_cases ho:Own ρ₀ σ b;.exact .inl ho
    .right;cases e:H₀ b with|none=>rfl|some o=>rw[s0.keep b o e ho]at h;cases h
 have M:∀b,Own args (vs.map aB) b->Own ρ₀ σ b\/H₀ b=b_:=λb h=>by
  rcases own b h with⟨_,_,_,_,_,z⟩|z;.exact z
  .exact back b (.inl z)--a name's slot behind the call
 have slot:∀{i:Nat}{t:Sl},(fX as c 0 ρ)[i]?=aB t->∃s1,ρ[i]?=aB s1/\t=gk s1 (bF i as c):=λ{i t}h=>by rw[o8]at h;obtain⟨s1,G,U⟩:=map_some h;exact⟨s1,G,by rw[<-U,oz]⟩
 have ZD:∀{i:Nat}{s1:Sl},ρ[i]?=aB s1->(fX as c 0 ρ)[i]?=aB (gk s1 (bF i as c)):=λ{i s1}h=>by rw[o8,h,oz];rfl--what the callee left of a list that was lent to it
 have lent:∀{i j:Nat}{s1 t:Sl}{ds:List D},ρ[i]?=aB s1->lst? s1=aB (.l ds)->as[j]?=aB (.gO i)->c[j]?=aB t->∃v s2,σ[i]?=aB (aB v)/\Y[j]?=aB (aB v)/\args[j]?=aB s2/\nQ s2 t/\((∃b,s1=.own b ds/\s2=.own ck ds)\/(s1=.lent ds/\s2=.lent ds)):=λ{i j s1 t ds}h1 E L h4=>by
  have Z:j<args.length:=by rw[l1];exact(fZ L).1
  have G:args[j]?=aB args[j]:=by simp[Z]
  obtain⟨a,v,p,f,N⟩:=A.get l1 G;rw[L]at p;cases p;have q4:=l2 j _ _ L G;have kind:(∃b,s1=.own b ds/\args[j]=.own ck ds)\/(s1=.lent ds/\args[j]=.lent ds):=by
   rcases q4 with⟨_,_,z,_⟩|⟨b,es,z,z'⟩|⟨es,z,z'⟩;.rw[h1]at z;cases z;cases E
   .rw[h1]at z;cases z;cases E;exact .inl ⟨b,rfl,z'⟩
   .rw[h1]at z;cases z;cases E;exact .inr ⟨rfl,z'⟩
  have lk:wF args[j]=ck:=by rcases kind with⟨_,_,z⟩|⟨_,z⟩<;>rw[z]<;>rfl
  obtain⟨y,s',B,z3⟩:=s.lk j _ G lk;rw[h4]at B;cases B;exact⟨v,_,N,by rw[y];exact up f,G,z3,kind⟩
 have Om:∀{i:Nat}{x:df},bN (fX as c 0 ρ) σ i x->bN ρ σ i x:=λ{i x}⟨⟨t,ds,G,U⟩,e3⟩=>by obtain⟨s1,p,f⟩:=slot G;refine⟨?_,e3⟩;cases s1 with|aM=>subst f;cases U|val b d=>subst f;cases U|own b es=>exact⟨_,_,p,rfl⟩|lent es=>exact⟨_,_,p,rfl⟩|dq m=>exact⟨_,_,p,rfl⟩|uN m=>exact⟨_,_,p,rfl⟩|hold _=>subst f;cases U
 refine⟨?_,λv r h=>?_⟩;rotate_left;.cases r with|val d=>exact h|own ds=>
     obtain⟨x,xs,h1,E,L,h4,h5,h6⟩:=h;refine⟨x,xs,h1,E,L,h4,λ⟨i,h⟩=>?_,?_⟩
     . have hO:=Om h;obtain⟨⟨s1,UG,p,f⟩,N⟩:=hO;obtain⟨x',ag,w1,w2,_⟩:=g.own i s1 UG p f;rw[N]at w1;cases w1;rcases h6 with h6|h6
       . rcases own x h6 with⟨_,_,_,_,z,_⟩|_;.exact z ⟨i,⟨s1,UG,p,f⟩,N⟩
         .--a name was lent
           obtain⟨j,⟨sl,es,w3,w4⟩,w5⟩:=h6;obtain⟨a',v',I,O,y3⟩:=A.get l1 w3;have sa:=l2 j a' _ I w3;have w5:=dn w5;rw[O]at w5;cases w5;cases a' with|dat d=>cases sa;cases w4|tmp ah=>obtain⟨_,_,u1,_,_,_,u2,_⟩:=y3;cases u1;exact u2 ⟨i,⟨s1,UG,p,f⟩,N⟩|gO i'=>
             have ex:∃s' ab,ρ[i']?=aB s'/\lst? s'=aB ab:=by
              rcases sa with⟨_,_,_,z⟩|⟨b,es,q,_⟩|⟨es,q,_⟩;.subst z;cases w4
              .exact⟨_,_,q,rfl⟩
              .exact⟨_,_,q,rfl⟩
             have:=g.dis i i' x ⟨⟨s1,UG,p,f⟩,N⟩ ⟨ex,y3⟩;subst this;have hk:∃Ol,UG=.l Ol:=by
              rcases sa with⟨_,_,_,z⟩|⟨b,es,q,_⟩|⟨es,q,_⟩;.subst z;cases w4
              .rw[p]at q;cases q;cases f;exact⟨_,rfl⟩
              .rw[p]at q;cases q;cases f;exact⟨_,rfl⟩
             obtain⟨Ol,rfl⟩:=hk;have Z:j<c.length:=by rw[<-la];exact(fZ I).1
             have C:c[j]?=aB c[j]:=by simp[Z]
             obtain⟨v2,s2,u1,u2,u3,u4,u5⟩:=lent p f I C;rw[N]at u1;cases u1--the slot behind the call is a list's
             obtain⟨⟨t,dt,t1,t2⟩,_⟩:=h;obtain⟨s3,t3,t4⟩:=slot t1;rw[p]at t3;cases t3;have lo:∃t5,bF i as c=aB t5:=by cases J:bF i as c with|none=>exact absurd I (mL la J j)|some t5=>exact⟨t5,rfl⟩
             obtain⟨t5,J⟩:=lo;obtain⟨j2,t6,t7⟩:=jE J;have ai:j2<args.length:=by rw[l1];exact(fZ t6).1
             obtain⟨_,s6,_,am,ac,ap,ae⟩:=lent p f t6 t7;have af:j2=j:=by
              have a1:lst? s6=aB (.l Ol):=by rcases ae with⟨_,_,z⟩|⟨_,z⟩<;>rw[z]<;>rfl
              have a2:lst? s2=aB (.l Ol):=by rcases u5 with⟨_,_,z⟩|⟨_,z⟩<;>rw[z]<;>rfl
              exact l4 j2 j i s6 s2 _ _ t6 I ac u3 a1 a2
             subst af;rw[C]at t7;cases t7;rw[J]at t4;refine h5 ⟨j2,?_,u2⟩;rcases u5 with⟨b,y,B⟩|⟨y,B⟩
             . subst y;subst B;rcases u4 with⟨d2,z⟩|⟨d2,z⟩;.exact⟨_,.l d2,C,by rw[z];rfl⟩
               .rw[z]at t4;subst t4;cases t2
             .subst y;subst B;exact⟨_,.l Ol,C,by rw[show c[j2]=.lent Ol from u4];rfl⟩
       .rw[w2]at h6;cases h6
     . rcases h6 with h6|h6;.exact M x h6
       .exact back x (.inr h6)
 refine⟨⟨s.gs.sub,by rw[oJ];exact g.len,λi b d e=>?_,λi t ds e C=>?_,λi j x h1 E=>g.dis i j x (Om h1) (Om E)⟩,s0.cD.trans s.cD,λb n n'=>?_,λb o h n=>?_,λb⟨i,h⟩=>back b (.inl ⟨i,Om h⟩),by rw[oJ];exact s0.len,λi s1 h l=>?_⟩;.--data
   obtain⟨s1,p,f⟩:=slot e;cases s1 with|aM=>cases f|lent es=>cases f|dq _=>cases f|uN _=>cases f|hold _=>cases f|val b' d'=>cases f;obtain⟨v,y,B⟩:=g.val i b d p;exact⟨v,y,B.mono s.cD⟩|own b' es=>cases J:bF i as c with|none=>rw[J]at f;cases f|some t=>rw[J]at f;obtain⟨j,y,B⟩:=jE J;obtain⟨v,s2,I,O,y3,y4,u⟩:=lent p rfl y B;cases t with|aM=>cases f|own _ _=>cases f|lent _=>cases f|dq _=>cases f|uN _=>cases f|hold _=>cases f|val b2 d2=>cases f;obtain⟨w,W,x2⟩:=s.gs.val j b2 d B;rw[O]at W;cases W;exact⟨v,I,x2⟩
 .--lists
   obtain⟨s1,p,f⟩:=slot e--a list that was not lent
   have stay:∀es,lst? s1=aB es->(∀j:Nat,as[j]?≠aB (.gO i))->t=s1->∃(a:df)(xs:HO),σ[i]?=aB (aB (V.ref a))/\H' a=aB xs/\X a=b_/\uG K X xs ds:=λes he hn ht=>by
    subst ht;rw[he]at C;cases C;obtain⟨a,xs,y,B,z3,z4⟩:=g.own i _ ds p he;have no:¬ Own args (vs.map aB) a:=λh=>by obtain⟨j,⟨sl,es,w1,w2⟩,w3⟩:=h;obtain⟨a',v,h1,E,L⟩:=A.get l1 w1;have sa:=l2 j a' _ h1 w1;have w3:=dn w3;rw[E]at w3;cases w3;cases a' with|dat d=>cases sa;cases w2|tmp es=>obtain⟨x,_,I,_,_,_,O,_⟩:=L;cases I;exact O ⟨i,⟨_,ds,p,he⟩,y⟩|gO i'=>
       have:∃s' ab,ρ[i']?=aB s'/\lst? s'=aB ab:=by
        rcases sa with⟨_,_,_,z⟩|⟨b,es,q,_⟩|⟨es,q,_⟩;.subst z;cases w2
        .exact⟨_,_,q,rfl⟩
        .exact⟨_,_,q,rfl⟩
       have:=g.dis i i' a ⟨⟨_,ds,p,he⟩,y⟩ ⟨this,L⟩;subst this;exact hn j h1
    refine⟨a,xs,y,s.keep a _ B no,?_,z4.mono s.cD⟩;cases q:X a with|none=>rfl|some o=>
      rcases s.yF a z3 (by rw[q];simp)with z|z;.exact absurd z no
      .rw[B]at z;exact(HF z4 z).elim
   cases J:bF i as c with
   |none=>have hn:=mL la J;rw[J]at f;cases s1 with|aM=>subst f;cases C|val b' d'=>subst f;cases C|own b' es=>exact stay _ rfl hn f|lent es=>exact stay _ rfl hn f|dq m=>exact stay _ rfl hn f|uN m=>exact stay _ rfl hn f|hold _=>subst f;cases C
   |some t2=>rw[J]at f;obtain⟨j,y,B⟩:=jE J;cases s1 with
     |aM=>subst f;cases C|val b' d'=>subst f;cases C|hold _=>subst f;cases C|dq m=>
       have Z:j<args.length:=by rw[l1];exact(fZ y).1
       rcases l2 j _ _ y (show args[j]?=aB args[j]by simp[Z])with⟨_,_,z,_⟩|⟨_,_,z,_⟩|⟨_,z,_⟩<;>(rw[p]at z;cases z)|uN m=>
       have Z:j<args.length:=by rw[l1];exact(fZ y).1
       rcases l2 j _ _ y (show args[j]?=aB args[j]by simp[Z])with⟨_,_,z,_⟩|⟨_,_,z,_⟩|⟨_,z,_⟩<;>(rw[p]at z;cases z)|own b' es=>
       obtain⟨v,s2,I,O,y3,y4,u⟩:=lent p rfl y B;have:t2≠.aM/\∀x,t2≠.lent x:=by
        rcases u with⟨_,_,u⟩|⟨u,_⟩;.subst u;rcases y4 with⟨_,rfl⟩|⟨_,rfl⟩<;>simp
        .cases u
       cases t2 with
       |aM=>exact absurd rfl this.1|hold x=>
         rcases u with⟨_,_,u⟩|⟨u,_⟩;.subst u;rcases y4 with⟨_,h⟩|⟨_,h⟩<;>cases h
         .cases u|dq x=>
         rcases u with⟨_,_,u⟩|⟨u,_⟩;.subst u;rcases y4 with⟨_,h⟩|⟨_,h⟩<;>cases h
         .cases u|uN x=>
         rcases u with⟨_,_,u⟩|⟨u,_⟩;.subst u;rcases y4 with⟨_,h⟩|⟨_,h⟩<;>cases h
         .cases u|lent x=>exact absurd rfl (this.2 x)|val b2 d2=>subst f;cases C|own b2 ar=>subst f;cases C;obtain⟨a,xs,W,x2⟩:=s.gs.own j _ _ B rfl;rw[O]at W;cases W;exact⟨a,xs,I,x2⟩
     |lent es=>
       obtain⟨v,s2,I,O,y3,y4,u⟩:=lent p rfl y B;have ht:t=.lent es:=by rw[f];cases t2<;>rfl
       subst ht;cases C;rcases u with⟨_,u,_⟩|⟨_,u⟩;.cases u
       .subst u;cases(show t2=.lent es from y4);obtain⟨a,xs,W,x2⟩:=s.gs.own j _ _ B rfl;rw[O]at W;cases W;exact⟨a,xs,I,x2⟩
 . by_cases q:F b=b_
   . rcases s.yF b q n' with z|z;.exact(M b z).imp id lJ
     . by_cases ho:Own ρ₀ σ b;.exact .inl ho
       .right;cases f:H₀ b with|none=>rfl|some o=>rw[s0.keep b o f ho]at z;exact z
   .exact s0.yF b n q
 . refine s.keep b o (s0.keep b o h n) λz=>?_;rcases M b z with z|z;.exact n z
   .rw[h]at z;cases z
 .obtain⟨G,s2,E,k2⟩:=s0.lk i s1 h l;refine⟨G,_,ZD E,?_⟩;have Wl:=k2.wF l;refine nQ.trans l k2 ?_;cases s2 with
   |aM=>cases Wl|dq _=>cases Wl|uN _=>cases Wl|hold _=>exact nQ.refl _|val b d=>exact nQ.refl _|lent es=>cases bF i as c with|none=>rfl|some t=>cases t<;>rfl
   |own b es=>cases b with|false=>cases Wl|true=>cases bF i as c with|none=>exact .inl ⟨_,rfl⟩|some t=>cases t with|aM=>exact .inl ⟨_,rfl⟩|lent _=>exact .inl ⟨_,rfl⟩|dq _=>exact .inl ⟨_,rfl⟩|uN _=>exact .inl ⟨_,rfl⟩|hold _=>exact .inl ⟨_,rfl⟩|own _ ds=>exact .inl ⟨_,rfl⟩|val _ d=>exact .inr ⟨_,rfl⟩
theorem xF.rebase{F1 g l m:Hp}{c f:List Sl}(a:bW K F ρ σ H F1 c σ g)(A:xF K l f σ m c g as vs):xF K l f σ m ρ H as vs:=by refine⟨A.len,λj b v h1 p=>?_,A.dis⟩;have h:=A.one j b v h1 p;cases b with|dat d=>exact h|gO i=>exact h|tmp ds=>
   obtain⟨x,xs,q,r,s,t,u,q6⟩:=h;refine⟨x,xs,q,r,s,t,u,?_⟩;rcases q6 with q6|q6;.exact a.wJ x q6
   . by_cases ho:Own ρ σ x;.exact .inl ho
     .right;cases e:H x with|none=>rfl|some o=>rw[a.keep x o e ho]at q6;cases q6
theorem xF.WQ{F1 c e f:Hp}{a b:List Sl}{r:R}(s1:bW K F ρ σ H F1 a σ c)(g:dG K F1 a σ c ρ σ H v r)(s2:bW K F1 a σ c e b σ f)(A:xF K e b σ f a c as vs):xF K e b σ f ρ H (uc r::as) (v::vs):=by
 have h1:Ao K F1 a σ c ρ H v (uc r):=by cases r with|val d=>exact g|own ds=>exact g
 refine .cons (h1.later s2) (A.rebase s1) λds x m ev k es o j=>?_;cases r with|val d=>cases m|own p=>
   obtain⟨y,xs,l,q,t,u,s,w⟩:=g;rw[ev]at l;cases l;have h:=A.one k _ _ o j;obtain⟨z,B,w1,_,_,_,_,w6⟩:=h;cases w1;rcases w6 with w6|w6;.exact s w6
   .rw[q]at w6;cases w6
end
section
variable{K:PySem.W.Frag}{F F1 H H1:Hp}{ρ ρ1 ρ2:List Sl}{σ σ1:_L.St}
theorem iQ{s:Sl}(h:put ρ i s=aB ρ1):∃s0,ρ[i]?=aB s0/\wF s0=a_/\ρ1=ρ.set i s:=by
 unfold put at h;split at h;.rename_i q;cases h;exact⟨_,q,rfl,rfl⟩
 .rename_i q;cases h;exact⟨_,q,rfl,rfl⟩
 .rename_i q;cases h;exact⟨_,q,rfl,rfl⟩
 .cases h
theorem bW.put{r:R}(s:bW K F ρ σ H F1 ρ1 σ1 H1)(y:dG K F1 ρ1 σ1 H1 ρ σ H v r)(h:_H.put ρ1 i (zr r)=aB ρ2):bW K F ρ σ H F1 ρ2 (σ1.set i (aB v)) H1:=by
 obtain⟨s0,h0,B,rfl⟩:=iQ h;have hi:i<ρ1.length:=(fZ h0).1;have m:i<σ1.length:=by rw[<-s.gs.len];exact hi
 have f:∀{j:Nat}{a:df},j≠i->bN (ρ1.set i (zr r)) (σ1.set i (aB v)) j a->bN ρ1 σ1 j a:=λ{j a}c⟨⟨t,ds,o,p⟩,g⟩=>by rw[iZ c]at o g;exact⟨⟨t,ds,o,p⟩,g⟩
 have q:∀{a:df},bN (ρ1.set i (zr r)) (σ1.set i (aB v)) i a->¬ Own ρ1 σ1 a/\(Own ρ σ a\/H a=b_):=λ{a}⟨⟨t,ds,o,p⟩,g⟩=>by rw[dr hi]at o;rw[dr m]at g;cases o;cases g;cases r with|val d=>cases p|own es=>obtain⟨x,xs,I,C,E,G,J,L⟩:=y;cases I;exact⟨J,L⟩
 refine⟨⟨s.gs.sub,by simp[s.gs.len],λj b d e=>?_,λj t ds e z=>?_,λj k a h1 A=>?_⟩,s.cD,s.yF,s.keep,λa⟨j,c⟩=>?_,by simp[s.len],λj t e l=>?_⟩
 . by_cases c:j=i;.subst c;rw[dr hi]at e;cases r with|own es=>cases e|val d'=>cases e;exact⟨v,dr m,y⟩
   .rw[iZ c]at e ⊢;exact s.gs.val j b d e
 . by_cases c:j=i;.subst c;rw[dr hi]at e;cases r with|val d'=>cases e;cases z|own es=>cases e;cases z;obtain⟨x,xs,rfl,C,E,G,_⟩:=y;exact⟨x,_,dr m,C,E,xs,rfl,G⟩
   .rw[iZ c]at e ⊢;exact s.gs.own j t ds e z
 . by_cases c:j=i
   . by_cases u:k=i;.rw[c,u]
     .subst c;exact absurd ⟨k,f u A⟩ (q h1).1
   . by_cases u:k=i;.subst u;exact absurd ⟨j,f c h1⟩ (q A).1
     .exact s.gs.dis j k a (f c h1) (f u A)
 . by_cases w:j=i;.subst w;exact(q c).2
   .exact s.wJ a ⟨j,f w c⟩
 . obtain⟨o,t1,p,g⟩:=s.lk j t e l;have c:j≠i:=by rintro rfl;rw[h0]at p;cases p;rw[g.wF l]at B;cases B
   exact⟨by rw[iZ c];exact o,t1,by rw[iZ c];exact p,g⟩
theorem GS.mut{x:Nat}{b:Bool}{es:List D}{a:df}{ys:List V}(g:GS K F ρ σ H)(e:ρ[x]?=aB (.own b ds))(s:σ[x]?=aB (aB (.ref a)))(r:aN K F ys es):bW K F ρ σ H F (ρ.set x (.own b es)) σ (upd H a (.lst ys)):=by
 have hi:x<ρ.length:=(fZ e).1;have y:bN ρ σ x a:=⟨⟨_,_,e,rfl⟩,s⟩;obtain⟨J,xs,h1,L,z,M⟩:=g.vK x _ ds e rfl;rw[s]at h1;cases h1;have h:∀{j:Nat}{c:df},bN (ρ.set x (.own b es)) σ j c->bN ρ σ j c:=λ{j c}⟨⟨t,m,p,u⟩,q3⟩=>by
  by_cases f:j=x;.subst f;exact⟨⟨_,_,e,rfl⟩,q3⟩
  .rw[iZ f]at p;exact⟨⟨t,m,p,u⟩,q3⟩
 refine⟨⟨λc o q=>?_,by simp[g.len],λj A d q=>?_,λj t m q w=>?_,λj k c p u=>g.dis j k c (h p) (h u)⟩,.refl _,λc n B=>absurd n B,λc o q n=>?_,λc⟨j,q⟩=>.inl ⟨j,h q⟩,by simp,λj t q l=>⟨rfl,?_⟩⟩
 . have:c≠a:=by rintro rfl;rw[z]at q;cases q
   rw[aL this];exact g.sub c o q
 . by_cases f:j=x;.subst f;rw[dr hi]at q;cases q
   .rw[iZ f]at q;exact g.val j A d q
 . by_cases f:j=x;.subst f;rw[dr hi]at q;cases q;cases w;exact⟨a,_,s,aW,z,ys,rfl,r⟩
   . rw[iZ f]at q;obtain⟨c,C,w1,E,G,I⟩:=g.own j t m q w;have:c≠a:=by rintro rfl;exact f (g.dis j x c ⟨⟨t,m,q,w⟩,w1⟩ y)
     exact⟨c,C,w1,by rw[aL this];exact E,G,I⟩
 . have:c≠a:=by rintro rfl;exact n ⟨x,y⟩
   rw[aL this];exact q
 . by_cases f:j=x;.subst f;rw[e]at q;cases q;refine⟨_,dr hi,?_⟩;cases b with|true=>exact .inl ⟨_,rfl⟩|false=>cases l
   .exact⟨t,by rw[iZ f];exact q,.refl t⟩
theorem GS.lend{b:Bool}(g:GS K F ρ σ H)(e:ρ[i]?=aB (.own b ds)):GS K F (ρ.set i (.lent ds)) σ H:=by
 have hi:i<ρ.length:=(fZ e).1;have f:∀{j:Nat}{c:df},bN (ρ.set i (.lent ds)) σ j c->bN ρ σ j c:=λ{j c}⟨⟨t,l,h,m⟩,q3⟩=>by
  by_cases a:j=i;.subst a;exact⟨⟨_,_,e,rfl⟩,q3⟩
  .rw[iZ a]at h;exact⟨⟨t,l,h,m⟩,q3⟩
 refine⟨g.sub,by simp[g.len],λj p d q=>?_,λj t l q o=>?_,λj k c h m=>g.dis j k c (f h) (f m)⟩
 . by_cases a:j=i;.subst a;rw[dr hi]at q;cases q
   .rw[iZ a]at q;exact g.val j p d q
 . by_cases a:j=i;.subst a;rw[dr hi]at q;cases q;cases o;exact g.own j _ _ e rfl
   .rw[iZ a]at q;exact g.own j t l q o
theorem bW.bH{b:Bool}(g:GS K F ρ σ H)(e:ρ[i]?=aB (.own b ds))(s:bW K F (ρ.set i (.lent ds)) σ H F1 ρ1 σ1 H1):bW K F ρ σ H F1 (ρ1.set i (.own b ds)) σ1 H1/\∀v r,dG K F1 ρ1 σ1 H1 (ρ.set i (.lent ds)) σ H v r->dG K F1 (ρ1.set i (.own b ds)) σ1 H1 ρ σ H v r:=by
 have hi:i<ρ.length:=(fZ e).1;have h1:(ρ.set i (.lent ds))[i]?=aB (.lent ds):=dr hi;obtain⟨C,E,A,G⟩:=s.lk i _ h1 rfl;cases(show E=.lent ds from G);have u:i<ρ1.length:=(fZ A).1;have o1:∀{j:Nat}{c:df},bN (ρ.set i (.lent ds)) σ j c->bN ρ σ j c:=λ{j c}⟨⟨t,y,f,p⟩,m⟩=>by
  by_cases a:j=i;.subst a;exact⟨⟨_,_,e,rfl⟩,m⟩
  .rw[iZ a]at f;exact⟨⟨t,y,f,p⟩,m⟩
 have I:∀{c:df},Own ρ σ c->Own (ρ.set i (.lent ds)) σ c:=λ{c}⟨j,⟨t,y,f,p⟩,m⟩=>by
  by_cases a:j=i;.subst a;exact⟨j,⟨_,_,h1,rfl⟩,m⟩
  .exact⟨j,⟨t,y,by rw[iZ a];exact f,p⟩,m⟩
 have z:∀{j:Nat}{c:df},bN (ρ1.set i (.own b ds)) σ1 j c->bN ρ1 σ1 j c:=λ{j c}⟨⟨t,y,f,p⟩,m⟩=>by
  by_cases a:j=i;.subst a;exact⟨⟨_,_,A,rfl⟩,m⟩
  .rw[iZ a]at f;exact⟨⟨t,y,f,p⟩,m⟩
 have w:∀{c:df}{h:Hp},Own (ρ.set i (.lent ds)) σ c\/h c=b_->Own ρ σ c\/h c=b_:=λ{c h}q=>q.imp (λ⟨j,q⟩=>⟨j,o1 q⟩) id;have J:∀{c:df}{h:Hp},Own (ρ.set i (.lent ds)) σ c\/nt (h c)=b_->Own ρ σ c\/nt (h c)=b_:=λ{c h}q=>q.imp (λ⟨j,q⟩=>⟨j,o1 q⟩) id;refine⟨⟨⟨s.gs.sub,by simp[s.gs.len],λj L d q=>?_,λj t y q B=>?_,λj k c f p=>s.gs.dis j k c (z f) (z p)⟩,s.cD,λc n M=>J (s.yF c n M),λc o q n=>s.keep c o q λ⟨j,x⟩=>n ⟨j,o1 x⟩,λc⟨j,q⟩=>w (s.wJ c ⟨j,z q⟩),by simpa using s.len,λj t q l=>?_⟩,λv r h=>?_⟩
 . by_cases a:j=i;.subst a;rw[dr u]at q;cases q
   .rw[iZ a]at q;exact s.gs.val j L d q
 . by_cases a:j=i;.subst a;rw[dr u]at q;cases q;cases B;exact s.gs.own j _ _ A rfl
   .rw[iZ a]at q;exact s.gs.own j t y q B
 . by_cases a:j=i;.subst a;rw[e]at q;cases q;refine⟨C,_,dr u,?_⟩;cases b with|true=>exact .inl ⟨_,rfl⟩|false=>cases l
   .obtain⟨N,t',O,Q⟩:=s.lk j t (by rw[iZ a];exact q) l;exact⟨N,t',by rw[iZ a];exact O,Q⟩
 .cases r with|val d=>exact h|own es=>obtain⟨x,xs,f,p,m,U,W,X⟩:=h;exact⟨x,xs,f,p,m,U,λ⟨j,q⟩=>W ⟨j,z q⟩,w X⟩
theorem GS.give(g:GS K F ρ σ H)(e:ρ[i]?=aB (.own a_ ds)):∃v,σ[i]?=aB (aB v)/\bW K F ρ σ H F (ρ.set i .aM) σ H/\dG K F (ρ.set i .aM) σ H ρ σ H v (.own ds):=by
 have hi:i<ρ.length:=(fZ e).1;obtain⟨a,xs,h1,s,u,w⟩:=g.vK i _ ds e rfl;have f:∀{j:Nat}{c:df},bN (ρ.set i .aM) σ j c->bN ρ σ j c/\j≠i:=λ{j c}⟨⟨t,o,h,m⟩,q3⟩=>by
  by_cases b:j=i;.subst b;rw[dr hi]at h;cases h;cases m
  .rw[iZ b]at h;exact⟨⟨⟨t,o,h,m⟩,q3⟩,b⟩
 have p:bN ρ σ i a:=⟨⟨_,_,e,rfl⟩,h1⟩;refine⟨.ref a,h1,⟨⟨g.sub,by simp[g.len],λj y d q=>?_,λj t o q r=>?_,λj k c h m=>g.dis j k c (f h).1 (f m).1⟩,.refl _,λc n z=>absurd n z,λ_ _ q _=>q,λc⟨j,q⟩=>.inl ⟨j,(f q).1⟩,by simp,λj t q l=>⟨rfl,?_⟩⟩,a,xs,rfl,s,u,w,λ⟨j,q⟩=>?_,.inl ⟨i,p⟩⟩
 . by_cases b:j=i;.subst b;rw[dr hi]at q;cases q
   .rw[iZ b]at q;exact g.val j y d q
 . by_cases b:j=i;.subst b;rw[dr hi]at q;cases q;cases r
   .rw[iZ b]at q;exact g.own j t o q r
 . by_cases b:j=i;.subst b;rw[e]at q;cases q;cases l
   .exact⟨t,by rw[iZ b];exact q,.refl t⟩
 .exact(f q).2 (g.dis j i a (f q).1 p)
theorem GS.more{τ:List (Option V)}(g:GS K F ρ σ H)(hn:τ.length=n):GS K F (ρ++dA n .aM) (σ++τ) H:=by
 have get:∀{j:Nat}{t:Sl},(ρ++dA n Sl.aM)[j]?=aB t->t≠.aM->ρ[j]?=aB t/\j<ρ.length:=λ{j t}q ne=>by
  by_cases h:j<ρ.length;.rw[dQ h]at q;exact⟨q,h⟩
  . rw[eF (by lia),i9]at q;split at q;.cases q;exact absurd rfl ne
    .cases q
 have up:∀{j:Nat}{v:Option V},j<ρ.length->(σ[j]?=aB v↔(σ++τ)[j]?=aB v):=λ{j v}h=>by rw[dQ (by rw[<-g.len];exact h)]
 have e:∀{j:Nat}{c:df},bN (ρ++dA n .aM) (σ++τ) j c->bN ρ σ j c:=λ{j c}⟨⟨t,m,o,l⟩,q3⟩=>by obtain⟨h1,f⟩:=get o (by rintro rfl;cases l);exact⟨⟨t,m,h1,l⟩,(up f).mpr q3⟩
 refine⟨g.sub,by simp[g.len,hn],λj b d q=>?_,λj t m q s=>?_,λj k c o l=>g.dis j k c (e o) (e l)⟩;.obtain⟨h1,f⟩:=get q (by simp);obtain⟨v,p,r⟩:=g.val j b d h1;exact⟨v,(up f).mp p,r⟩
 .obtain⟨h1,f⟩:=get q (by rintro rfl;cases s);obtain⟨a,xs,p,r⟩:=g.own j t m h1 s;exact⟨a,xs,(up f).mp p,r⟩
theorem bW.less{τ:List (Option V)}{m:Nat}(L:m=ρ.length)(g:GS K F ρ σ H)(hn:τ.length=n)(s:bW K F (ρ++dA n .aM) (σ++τ) H F1 ρ1 σ1 H1):bW K F ρ σ H F1 (ρ1.take m) (σ1.take m) H1/\∀v r,dG K F1 ρ1 σ1 H1 (ρ++dA n .aM) (σ++τ) H v r->dG K F1 (ρ1.take m) (σ1.take m) H1 ρ σ H v r:=by
 subst L;have l1:ρ.length<=ρ1.length:=by rw[s.len];simp
 have Z:ρ.length<=σ1.length:=by rw[<-s.gs.len];exact l1
 have A:∀{y:Type}{l:List y}{j:Nat}{x:y},(l.take ρ.length)[j]?=aB x->l[j]?=aB x/\j<ρ.length:=λ{y l j x}q=>by
  rw[lv]at q;split at q;.exact⟨q,by assumption⟩
  .cases q
 have B:∀{y:Type}{l:List y}{j:Nat}{x:y},j<ρ.length->l[j]?=aB x->(l.take ρ.length)[j]?=aB x:=λ{y l j x}f q=>by rw[lv,if_pos f];exact q
 have C:∀{c:df},Own (ρ++dA n .aM) (σ++τ) c->Own ρ σ c:=λ{c}⟨j,⟨t,z,e,p⟩,u⟩=>by
  by_cases f:j<ρ.length;.rw[dQ f]at e;rw[dQ (by rw[<-g.len];exact f)]at u;exact⟨j,⟨t,z,e,p⟩,u⟩
  . rw[eF (by lia),i9]at e;split at e;.cases e;cases p
    .cases e
 have M:∀{c:df},Own ρ σ c->Own (ρ++dA n .aM) (σ++τ) c:=λ{c}⟨j,⟨t,z,e,p⟩,u⟩=>by have f:j<ρ.length:=(fZ e).1;exact⟨j,⟨t,z,by rw[dQ f];exact e,p⟩,by rw[dQ (by rw[<-g.len];exact f)];exact u⟩
 have o1:∀{j:Nat}{c:df},bN (ρ1.take ρ.length) (σ1.take ρ.length) j c->bN ρ1 σ1 j c:=λ{j c}⟨⟨t,z,e,p⟩,u⟩=>⟨⟨t,z,(A e).1,p⟩,(A u).1⟩;have w:∀{c:df}{h:Hp},Own (ρ++dA n .aM) (σ++τ) c\/h c=b_->Own ρ σ c\/h c=b_:=λ{c h}q=>q.imp C id;have N:∀{c:df}{h:Hp},Own (ρ++dA n .aM) (σ++τ) c\/nt (h c)=b_->Own ρ σ c\/nt (h c)=b_:=λ{c h}q=>q.imp C id;refine⟨⟨⟨s.gs.sub,by simp only[lS];lia,λj b d q=>?_,λj t z q O=>?_,λj k c e p=>s.gs.dis j k c (o1 e) (o1 p)⟩,s.cD,λc a b=>N (s.yF c a b),λc o q n=>s.keep c o q λx=>n (C x),λc⟨j,q⟩=>w (s.wJ c ⟨j,o1 q⟩),by simp only[lS];lia,λj t q l=>?_⟩,λv r h=>?_⟩;.obtain⟨h1,E⟩:=A q;obtain⟨v,G,I⟩:=s.gs.val j b d h1;exact⟨v,B E G,I⟩
 .obtain⟨h1,E⟩:=A q;obtain⟨a,xs,G,I⟩:=s.gs.own j t z h1 O;exact⟨a,xs,B E G,I⟩
 .have f:j<ρ.length:=(fZ q).1;obtain⟨J,t',Q,U⟩:=s.lk j t (by rw[dQ f];exact q) l;rw[dQ (by rw[<-g.len];exact f)]at J;refine⟨?_,t',B f Q,U⟩;rw[lv,if_pos f];exact J
 .cases r with|val d=>exact h|own es=>obtain⟨x,xs,e,p,u,W,X,Y⟩:=h;exact⟨x,xs,e,p,u,W,λ⟨j,q⟩=>X ⟨j,o1 q⟩,w Y⟩
end
section
variable{X:Cx}{c:Call}{n:Nat}{e a b d:ek}{p pa pb pd:P}{pos:Pos}{es:List ek}{ps:List P}
inductive ade(K:PySem.W.Frag)(f:List Sl->Res (List Arg))(σ:_L.St)(H:Hp)(Q:List V->Hp->Prop):Prop where|mk(F:Hp)(ρ:List Sl)(as:List Arg)(ρ':List Sl)(g:GS K F ρ σ H)(e:f ρ=.ok as ρ')(k:∀vs F' H',bW K F ρ σ H F' ρ' σ H'->xF K F' ρ' σ H' ρ H as vs->Q vs H')
noncomputable def SG(X:Cx)(c:Call)(es:List ek)(ps:List P):Prop:=PA X es (ade X.K (Af c ps))
theorem aG:SG X c [] []:=xg iG λσ H Q⟨F,ρ,as,ρ',g,e,k⟩=>by rw[JL]at e;cases e;exact k [] F H (.refl g) .nil
theorem MK(o:SX X c a pa)(hr:SG X c es ps)(hs:dy (a::es) X.env=(a_,fg a X.env)::dy es X.env:=by rfl):SG X c (a::es) (pa::ps):=by cases hv:isVar pa with|none=>refine xg (dm o.ev hr hs) ?_;rintro σ H Q⟨F,ρ,as,ρ',g,e,k⟩;rw[zT,hv]at e;obtain⟨r,f,q,e⟩:=aj e;obtain⟨xs,h,j,e⟩:=aj e;cases e;refine⟨F,ρ,r,f,g,q,λv F1 B s1 s=>⟨F1,f,xs,_,s1.gs,j,λvs l m s2 A=>k _ l m (s1.trans s2) (xF.WQ s1 s s2 A)⟩⟩|some i=>refine xg (dm (o.var i hv) hr hs) ?_;rintro σ H Q⟨F,ρ,as,ρ',g,e,k⟩;rw[zT,hv]at e;obtain⟨x0,t,u,e⟩:=aj e;obtain⟨w,y⟩:=aH u;subst y;obtain⟨xs,h,j,e⟩:=aj e;cases e;obtain⟨v,h1,_⟩:=g.pk w;exact⟨v,h1,F,ρ,xs,_,g,j,λvs l m s2 A=>k _ l m s2 (.cons h1 A λds x z=>by cases z)⟩
theorem MP{k f:Nat}{t:df}{fd:iF}{j:List Str}(I:oM X.prog X.w X.K X.mg X.base GX k t fd j (KN X.K j.length (c f)))(hr:j7 k X.A)(J:Gl X x)(L:X.mg x=aB (.ref t))(M:keepIn X.K (.ref t)=ck)(N:Binds X.K fd j [])(O:SG X c (e::es) ps)(U:(e::es).length=j.length)(hdb:(x==("__debug__":Str))=a_:=by decide)(he:dy (e::es) X.env=(a_,fg e X.env)::dy es X.env:=by rfl)(hpl:(ka pos (dy es X.env)).any (·.1)=a_:=by rfl)(u:ps.length=(e::es).length:=by rfl):SX X c (.Call (.Name x p') (e::es) [] pos) (.call f ps):=by
 refine⟨gR (Lr (E:=E0) I hr J L M N .nil YX O hdb he hpl) ?_,λi h=>by cases h⟩;rintro σ H Q⟨F,ρ,r,ρ',g,e,k⟩;rw[_H.E15]at e;obtain⟨as,y,C,e⟩:=aj e;unfold qG at e;split at e;.cases e
 . rename_i args m;split at e
   . rename_i r' l hc;cases e;refine⟨F,ρ,as,y,g,C,λvs F1 W s1 A=>?_⟩;have o:vs.length=j.length:=by
      have:∀{ps:List P}{ρ ρ':List Sl}{as:List Arg},Af c ps ρ=.ok as ρ'->as.length=ps.length:=by intro ps;induction ps with|nil=>intro ρ ρ' as h;rw[JL]at h;cases h;rfl|cons q j G=>
         intro ρ ρ' as h;rw[zT]at h;split at h;.obtain⟨_,_,_,h⟩:=aj h;obtain⟨xs,z,B,h⟩:=aj h;cases h;simp[G B]
         .obtain⟨_,_,_,h⟩:=aj h;obtain⟨xs,z,B,h⟩:=aj h;cases h;simp[G B]
      rw[<-A.len,this C,u,U]
     show KN X.K j.length (c f) (vs++[]) W Q E0;rw[ow];refine⟨o,F1,args,r,l,args_gs s1.gs A m,hc,λv Y Z H' s rr=>?_⟩;obtain⟨z1,z2⟩:=Jh s1 A m s;exact k v Y H' z1 (z2 v r rr)
   .cases e
   .cases e
noncomputable def HY(K:PySem.W.Frag)(D:Ends)(h:Hp)(ρ':List Sl)(f:_L.St)(g:Hp)(ρ:List Sl)(σ:_L.St)(H:Hp)(j:Fl):Prop:=match j with|.next=>D.nx f g|.brk=>D.bk f g|.cont=>D.ct f g|.ret r=>∀v,dG K h ρ' f g ρ σ H v r->D.rt v g
inductive tEx(K:PySem.W.Frag)(f:List Sl->Res Fl)(D:Ends)(σ:_L.St)(H:Hp):Prop where|mk(F:Hp)(ρ:List Sl)(fl:Fl)(ρ':List Sl)(g:GS K F ρ σ H)(e:f ρ=.ok fl ρ')(k:∀F' σ' H',bW K F ρ σ H F' ρ' σ' H'->HY K D F' ρ' σ' H' ρ σ H fl)
noncomputable def SS(X:Cx)(c:Call)(n:Nat)(st:fR)(s:S):Prop:=PS X st (tEx X.K (ex c n s))
noncomputable def SB(X:Cx)(c:Call)(n:Nat)(st:List fR)(s:List S):Prop:=yR X st (tEx X.K (ji c n s))
theorem fY{st:fR}{t t':TS}(h:PS X st t)(i:∀D σ H,t' D σ H->t D σ H):PS X st t':=λf s σ H D I q=>h f s σ H D I (i D σ H q)
theorem o5{st:List fR}{t t':TS}(h:yR X st t)(i:∀D σ H,t' D σ H->t D σ H):yR X st t':=λf s σ H D I q=>h f s σ H D I (i D σ H q)
theorem xs0{c:Call}:ji c n [] ρ=.ok .next ρ:=rfl
theorem Vi{c:Call}{s:S}{r:List S}:ji c n (s::r) ρ=(ex c n s ρ).bind λfl ρ=>match fl with|.next=>ji c n r ρ|fl=>.ok fl ρ:=rfl
theorem aA:SB X c n [] []:=o5 vY λD σ H⟨F,ρ,fl,ρ',g,e,k⟩=>by rw[xs0]at e;cases e;exact k F σ H (.refl g)
theorem bj{st:fR}{s:S}{f:List fR}{ss:List S}(h1:SS X c n st s)(o:SB X c n f ss):SB X c n (st::f) (s::ss):=by refine o5 (jW h1 o) ?_;rintro D σ H⟨F,ρ,m,ρ',g,e,k⟩;rw[Vi]at e;obtain⟨f1,h,j,e⟩:=aj e;cases f1 with
 |next=>refine⟨F,ρ,.next,h,g,j,λF1 t z s1=>⟨F1,h,m,ρ',s1.gs,e,λu l w s2=>?_⟩⟩;have q:=k u l w (s1.trans s2);cases m with|next=>exact q|brk=>exact q|cont=>exact q|ret r=>exact λv y=>q v (y.later s1)
 |brk=>cases e;exact⟨F,ρ,.brk,_,g,j,k⟩|cont=>cases e;exact⟨F,ρ,.cont,_,g,j,k⟩|ret r=>cases e;exact⟨F,ρ,.ret r,_,g,j,k⟩
theorem Tz:SS X c n (.Break pos) .brk:=fY Hz λD σ H⟨F,ρ,fl,ρ',g,e,k⟩=>by rw[_H.X2]at e;cases e;exact k F σ H (.refl g)
theorem XX{t1 g:TE}(h1:PE X e t1)(j:PE X e g):PE X e (λσ H Q=>t1 σ H Q\/g σ H Q):=λf s σ H Q I h=>h.elim (h1 f s σ H Q I) (j f s σ H Q I)
theorem Rz(he:SX X c e p):SS X c n (.Return (aB e) pos) (.ret p):=by
 have plain:∀(D:Ends)(σ:_L.St)(H:Hp),(∃F ρ h ρ',GS X.K F ρ σ H/\((_H.ev c p ρ).bind λr ρ=>.ok (Fl.ret r) ρ)=.ok h ρ'/\∀l f j,bW X.K F ρ σ H l ρ' f j->(match h with|.next=>D.nx f j|.brk=>D.bk f j|.cont=>D.ct f j|.ret r=>∀v,dG X.K l ρ' f j ρ σ H v r->D.rt v j))->zL X.K (_H.ev c p) σ H D.rt:=λD σ H⟨F,ρ,h,ρ',g,e,k⟩=>by obtain⟨r,m,o,e⟩:=aj e;cases e;exact⟨F,ρ,r,_,g,o,λv F1 s s1 t=>k F1 σ s s1 v t⟩
 cases hv:isVar p with|none=>refine fY (JV he.ev) λD σ H⟨F,ρ,h,ρ',g,e,k⟩=>plain D σ H ⟨F,ρ,h,ρ',g,?_,k⟩;rw[_H.X10,hv]at e;exact e|some i=>--by the name itself:its own list is handed back,else its data
   have u:p=.var i:=by cases p<;>cases hv;rfl
   subst u;refine fY (JV (XX (he.var i hv) he.ev)) ?_;rintro D σ H⟨F,ρ,h,ρ',g,e,k⟩;rw[_H.X10,hv]at e;dsimp only at e;split at e;.rename_i ds q;cases e;obtain⟨v,h1,w,y⟩:=g.give q;exact .inl ⟨v,h1,k F σ H w v y⟩
   .exact .inr (plain D σ H ⟨F,ρ,h,ρ',g,e,k⟩)
theorem eX{o s:List fR}{t u:List S}(hc:ST X c e p)(w:SB X c n o t)(y:SB X c n s u):SS X c n (.If e o s pos) (.ifs p t u):=by refine fY (Ym hc w y) ?_;rintro D σ H⟨F,ρ,l,ρ',g,e,k⟩;rw[_H.X12]at e;obtain⟨x,j,z,e⟩:=aj e;refine⟨F,ρ,x,j,g,z,λF1 A s1=>?_⟩;have go:∀{f:List Sl->Res Fl},f j=.ok l ρ'->tEx X.K f D σ A:=λ{f}h=>⟨F1,j,l,ρ',s1.gs,h,λB m C s2=>by have q:=k B m C (s1.trans s2);cases l with|next=>exact q|brk=>exact q|cont=>exact q|ret r=>exact λv E=>q v (E.later s1)⟩;cases x with|true=>rw[if_pos rfl]at e;exact go e|false=>rw[if_neg eJ]at e;exact go e
theorem mJ{f:Pos}(l:X.N.Nodup)(hi:X.N[i]?=aB x)(m:Loc X.env.scope x)(he:SX X c e p)(hs:iL e (aB (.Name x f)) pos.line X.env=fI a_:=by rfl)(o:X.fn x=ck\/X.env.scope.names.lookup x=aB .local:=by first|(left;rfl)|(right;rfl)|assumption):SS X c n (.Assign [.Name x f] e pos) (.asg i p):=by refine fY (yW l hi m he.ev hs o) ?_;rintro D σ H⟨F,ρ,z,ρ',g,e,k⟩;rw[_H.X6]at e;obtain⟨r,j,q,e⟩:=aj e;obtain⟨s,t,h,e⟩:=aj e;cases e;have u:=aH h;clear h;obtain⟨h,A⟩:=u;exact⟨F,ρ,r,j,g,q,λv F1 w s1 y=>k F1 _ w (s1.put y h)⟩
end
end _H
namespace _L
open PySem Spec PyProof.Rows
variable{env:Env}{scope:kB}{X:Cx}
noncomputable def uh(X:Cx)(scope:kB)(N':List Str)(cl:List (Str×df))(C:df)(s₀:dc)(H₀:Hp)(ex:List df):Cx:={X with N:=N',s₀:=s₀,H₀:=H₀,env:=compEnvC scope cl C X.env,outer:=X.stack,stack:=X.stack,ex:=ex,fn:=λx=>scope.names.lookup x==aB .cell,pn:=[],xe:=λ_ _=>False}
theorem zN(l:List (Str×kL)):∀(b:List (Str×df)),(∀n,(n,fo)∈l->∃c,env.cells.lookup n=aB c)->(∀n c,b.lookup n=aB c->env.cells.lookup n=aB c)->∃ cl,(forIn l b (λ(x:Str × kL)(r:List (Str × df))=>(if(x.2==fo)=ck then(do let a<-cellOf env x.1;fI (hV ((x.1,a)::r)))else fI (hV r):Sem (ForInStep (List (Str × df))))):Sem (List (Str × df)))=fI cl/\(∀n c,cl.lookup n=aB c->env.cells.lookup n=aB c)/\(∀n,((n,fo)∈l\/(b.lookup n).isSome)->(cl.lookup n).isSome):=by induction l with|nil=>intro b _ h;exact⟨b,rfl,h,λn hn=>by rcases hn with hn|hn;cases hn;exact hn⟩|cons y l j=>
   obtain⟨n,k⟩:=y;intro b f hc;rw[forIn_cons];by_cases g:k=.free
   . subst g;obtain⟨a,o⟩:=f n iO;obtain⟨cl,e,h1,i⟩:=j ((n,a)::b) (λm hm=>f m (fv _ hm)) λm c hm=>by
      rw[gX]at hm;split at hm;.rename_i q;have q:=eq_of_beq q;subst q;cases hm;exact o
      .exact hc m c hm
     refine⟨cl,?_,h1,λm hm=>i m ?_⟩
     . rw[<-e];have:cellOf env n=fI a:=by unfold cellOf;rw[o]
       simp only[beq_self_eq_true,if_true,this];rfl
     . rcases hm with hm|hm
       . rcases et.mp hm with hm|hm;.cases hm;right;simp[gX]
         .exact .inl hm
       . right;rw[gX];split;.rfl
         .exact hm
   . obtain⟨cl,e,h1,i⟩:=j b (λm hm=>f m (fv _ hm)) hc;refine⟨cl,?_,h1,λm hm=>i m ?_⟩
     . rw[<-e];have:(k==fo)=a_:=by simpa using g
       simp only[this,hU,if_false];rfl
     . rcases hm with hm|hm
       . rcases et.mp hm with hm|hm;.cases hm;exact absurd rfl g
         .exact .inl hm
       .exact .inr hm
theorem zY(a:∀n,(n,fo)∈scope.names->∃c,env.cells.lookup n=aB c):∃cl,closureFor scope env=fI cl/\(∀n c,cl.lookup n=aB c->env.cells.lookup n=aB c)/\∀n,(n,fo)∈scope.names->(cl.lookup n).isSome:=by obtain⟨cl,e,h1,b⟩:=zN (env:=env) scope.names [] a (by simp);refine⟨cl,?_,h1,λn hn=>b n (.inl hn)⟩;unfold closureFor;exact(congrArg (λt=>t>>=λr=>fI r) e).trans rfl
theorem fU{env:Env}:∀(names:List (Str×kL))(x:Str),(names.map λ(n,k)=>if(k==fo&&env.scope.kind==.function&&env.kindOf n==aB .cell)then(n,hB)else(n,k)).lookup x=(names.lookup x).map λk=>if(k==fo&&env.scope.kind==.function&&env.kindOf x==aB .cell)=ck then hB else k
 |[],x=>rfl|(n,k)::r,x=>by
   have a:=fU (env:=env) r x;show List.lookup x ((if(k==fo&&env.scope.kind==.function&&env.kindOf n==aB .cell)=ck then(n,hB)else(n,k))::_)=_;by_cases hc:(k==fo&&env.scope.kind==.function&&env.kindOf n==aB .cell)=ck;.rw[if_pos hc,gX,gX];cases hx:x==n with|true=>have:=eq_of_beq hx;subst this;show aB hB=aB (if _ then _ else _);rw[if_pos hc]|false=>exact a
   .rw[if_neg hc,gX,gX];cases hx:x==n with|true=>have:=eq_of_beq hx;subst this;show aB k=aB (if _ then _ else _);rw[if_neg hc]|false=>exact a
noncomputable def W8(N N':List Str)(a:kB):Bool:=(N.zip N').all λp=>(p.1==p.2&&a.names.lookup p.2==aB .free)||(a.names.lookup p.2!=aB .local&&a.names.lookup p.2!=aB .cell&&a.names.lookup p.2!=aB .free)
structure ie(X:Cx)(scope:kB)(N':List Str)(n:Nat):Prop where
 kind:scope.kind=.function
 cons:∀y∈scope.names,scope.names.lookup y.1=aB y.2
 names:∀y∈scope.names,y.2=.local->scope.names.lookup y.1=aB .local
 cap:∀y∈scope.names,y.2=.free->X.env.scope.names.lookup y.1=aB .cell\/X.env.scope.names.lookup y.1=aB .free
 len:N'.length=X.N.length+n
 same:W8 X.N N' scope=ck
theorem ie.get{N':List Str}{n:Nat}(c:ie X scope N' n){i:Nat}{x:Str}(hi:i<X.N.length)(h:N'[i]?=aB x)(hv:u0 (kn scope X.env) x):X.N[i]?=aB x/\scope.names.lookup x=aB .free:=by
 have f:(X.N.zip N')[i]?=aB (X.N[i],x):=by rw[i4];exact⟨by simp[hi],h⟩
 have:=(eB.mp c.same) _ (jv f);simp only[kK,fE]at this;rcases this with⟨h1,a⟩|⟨⟨h1,a⟩,b⟩;.have h1:=eq_of_beq h1;have a:=eq_of_beq a;exact⟨by simp[hi,h1],a⟩
 . exfalso;have h1:scope.names.lookup x≠aB .local:=by simpa using h1
   have a:scope.names.lookup x≠aB .cell:=by simpa using a
   have b:scope.names.lookup x≠aB .free:=by simpa using b
   have e:=fU (env:=X.env) scope.names x;have hv:(kn scope X.env).names.lookup x=aB .local\/(kn scope X.env).names.lookup x=aB .cell\/(kn scope X.env).names.lookup x=aB .free:=hv;rw[show(kn scope X.env).names.lookup x=_ from e]at hv;cases q:scope.names.lookup x with|none=>rw[q]at hv;simp at hv|some k=>
     rw[q]at hv h1 a b;have g:(k==fo)=a_:=by cases k<;>first|rfl|exact absurd rfl b
     simp only[eT,g,ny,hU,if_false,Option.some.injEq]at hv;rcases hv with rfl|rfl|rfl;.exact h1 rfl
     .exact a rfl
     .exact b rfl
structure CI(cl:List (Str×df))(z:Nat)(h:fk)(acc:List (Str×df)):Prop where from':∀n c,acc.lookup n=aB c->cl.lookup n=aB c\/(z<=c/\h.IsCell c b_)inj:∀n n' c,acc.lookup n=aB c->acc.lookup n'=aB c->n=n'
theorem GZ{cl:List (Str×df)}{z:Nat}(i:∀n c,cl.lookup n=aB c->c<z):∀(names:List (Str×kL))(h:fk)(f:List (Str×df)),z<=h.objs.size->CI cl z h f->CI cl z (pushCells h names) (kG h.objs.size names f)/\(∀n,(f.lookup n).isSome->((kG h.objs.size names f).lookup n).isSome)/\(∀n,((∃c,f.lookup n=aB c/\z<=c)\/(n,hB)∈names)->∃c,(kG h.objs.size names f).lookup n=aB c/\z<=c)/\(∀n c,(n,hB)∉names->(kG h.objs.size names f).lookup n=aB c->f.lookup n=aB c)
 |[],h,f,j,x=>by
   refine⟨x,λ_ q=>q,λn q=>?_,λ_ _ _ q=>q⟩;rcases q with q|q;.exact q
   .cases q|(name,kind)::r,h,f,j,x=>by
   unfold pushCells kG;by_cases p:kind=.cell
   . subst p;rw[if_pos (by rfl),if_pos (by rfl)];have t:CI cl z (h.push {cls:=.type "cell",data:=.cell b_}) ((name,h.objs.size)::f):=by
      have lt:∀n c,f.lookup n=aB c->c<h.objs.size:=λn c e=>by
       rcases x.from' n c e with q|q;.exact eI (i n c q) j
       .exact q.2.lt
      refine⟨λn c e=>?_,λn s c e l=>?_⟩
      . rw[gX]at e;split at e;.cases e;exact .inr ⟨j,_,dE _ rfl,rfl⟩
        . rcases x.from' n c e with q|q;.exact .inl q
          .exact .inr ⟨q.1,q.2.keeps λb o e=>fK e⟩
      . rw[gX]at e l;split at e<;>split at l;.rename_i _ a _ b;rw[eq_of_beq a,eq_of_beq b]
        .cases e;exact absurd (lt s _ l) (jO _)
        .cases l;exact absurd (lt n _ e) (jO _)
        .exact x.inj n s c e l
     have g:=GZ i r (h.push {cls:=.type "cell",data:=.cell b_}) ((name,h.objs.size)::f) (by rw[eS];lia) t;rw[eS]at g;refine⟨g.1,λn q=>g.2.1 n ?_,λn q=>g.2.2.1 n ?_,λn c q e=>?_⟩
     . rw[gX];split;.rfl
       .exact q
     . rcases q with⟨c,e,hc⟩|q
       . left;rw[gX];split;.exact⟨_,rfl,j⟩
         .exact⟨c,e,hc⟩
       . rcases et.mp q with q|q;.cases q;left;exact⟨_,by simp[gX],j⟩
         .exact .inr q
     . have:=g.2.2.2 n c (λz=>q (fv _ z)) e;rw[gX]at this;split at this;.rename_i a;exact absurd (by rw[eq_of_beq a];exact iO) q
       .exact this
   . have m:(kind==hB)=a_:=by simpa using p
     rw[if_neg (by rw[m];decide),if_neg (by rw[m];decide)];have g:=GZ i r h f j x;refine⟨g.1,g.2.1,λn q=>g.2.2.1 n ?_,λn c q e=>g.2.2.2 n c (λz=>q (fv _ z)) e⟩;rcases q with q|q;.exact .inl q
     . rcases et.mp q with q|q;.cases q;exact absurd rfl p
       .exact .inr q
structure Iz(X:Cx)(scope:kB)(z:Nat)(h:fk)(cs:List (Str×df)):Prop where
 from':∀n c,cs.lookup n=aB c->X.env.cells.lookup n=aB c\/(z<c/\h.IsCell c b_)inj:∀n n' c,cs.lookup n=aB c->cs.lookup n'=aB c->n=n'
 has:∀n,(scope.names.lookup n=aB .free\/scope.names.lookup n=aB .cell)->∃c,cs.lookup n=aB c
 fre:∀n c,scope.names.lookup n=aB .free->cs.lookup n=aB c->X.env.cells.lookup n=aB c
 own:∀n c,scope.names.lookup n=aB .cell->cs.lookup n=aB c->z<c
theorem DX{M:n0}{A:e_}{E:c_->dc->Prop}{s:dc}{N':List Str}{n:Nat}{cl:List (Str×df)}{Q:Env->dc->Prop}(ok:ie X scope N' n)(h:∀n c,X.env.cells.lookup n=aB c->c<s.heap.objs.size)(f:∀x y c,X.env.cells.lookup x=aB c->X.env.cells.lookup y=aB c->x=y)(a:∀n c,cl.lookup n=aB c->X.env.cells.lookup n=aB c)(p:∀n,(n,fo)∈scope.names->(cl.lookup n).isSome)(r:∀ l h',h'.Ns s.heap.objs.size (λ_=>b_)->(∀ b o,s.heap.get? b=aB o->h'.get? b=aB o)->Iz X scope s.heap.objs.size h' l->Q {scope:=scope,locals:=s.heap.objs.size,globals:=X.env.globals,cells:=l,qual:=X.env.qual,func:=b_,code:=X.env.code,frame:=X.env.frame,builtins:=X.env.builtins} {s with heap:=h'}):dL M A (on scope X.env.globals cl [] X.env.qual b_ .none (aB X.env)) Q E s:=by
 simp only[on,Option.isSome_some,if_true];refine bx (wpAny_alloc ?_);refine bx (wpAny_layCells _ (λname kind cells=>by cases i:kind==hB<;>simp[i]) _ _ _ _ ?_);have t:=GZ (cl:=cl) (z:=s.heap.objs.size+1) (λn c e=>me (h n c (a n c e))) scope.names (s.heap.push {cls:=.type "dict",data:=.dict #[]}) cl (by rw[eS];exact dW) ⟨λn c e=>.inl e,λn m c e g=>f n m c (a n c e) (a m c g)⟩;obtain⟨c1,c2,c3,c4⟩:=t;rw[show({s with heap:=s.heap.push {cls:=.type "dict",data:=.dict #[]}}:dc).heap.objs.size=(s.heap.push {cls:=.type "dict",data:=.dict #[]}).objs.size from rfl];refine bx ?_;rw[forIn_nil];refine de (de (r _ _ ((Heap.Ns.new s.heap (.type "dict")).keeps (pushCells_keeps _ _)) (λb o e=>pushCells_keeps _ _ b o (fK e)) ⟨λn c e=>?_,c1.inj,λn q=>?_,λn c q e=>?_,λn c q e=>?_⟩))
 . rcases c1.from' n c e with z|z;.exact .inl (a n c z)
   .exact .inr ⟨z.1,z.2⟩
 . rcases q with q|q;.exact nr.mp (c2 n (p n (PySem.mem_of_lookup q)))
   .obtain⟨c,e,_⟩:=c3 n (.inr (PySem.mem_of_lookup q));exact⟨c,e⟩
 .refine a n c (c4 n c (λz=>?_) e);have:=ok.cons _ z;rw[q]at this;cases this
 .obtain⟨u,g,j⟩:=c3 n (.inr (PySem.mem_of_lookup q));rw[e]at g;cases g;exact j
section
variable{X:Cx}{pins:List (df×Obj)}{σ:_L.St}{H:Hp}{s:dc}{scope:kB}{N':List Str}{n:Nat}{fp:List df}{cl:List (Str×df)}
theorem Hh{h1:fk}{m:Str->Option c_}{t:Nat}{Q:List (Str×df)}(ok:ie X scope N' n)(I:Inv X pins σ H s)(G:∀b∈fp,oW X pins H b/\b<s.heap.objs.size)(w:Iz X scope s.heap.objs.size h1 Q)(hn:h1.Ns s.heap.objs.size m)(j:∀b u,s.heap.get? b=aB u->h1.get? b=aB u):Inv (uh X scope N' Q s.heap.objs.size s H fp) [] (σ++dA n b_) H {s with heap:=h1,toks:=t}:=by
 have U:∀x,scope.names.lookup x=aB .free->(kn scope X.env).names.lookup x=aB .cell\/(kn scope X.env).names.lookup x=aB .free:=λx h=>by
  have e:=fU (env:=X.env) scope.names x;rw[h]at e;have J:(kn scope X.env).names.lookup x=_:=e;rw[J];simp only[eT];split;.exact .inl rfl
  .exact .inr rfl
 refine⟨⟨I.ok.mod,ok.kind,I.ok.glob,I.ok.blt,dW,λx y c h1 W=>w.inj x y c h1 W,λx z=>?_,λx c h e=>m4 (w.own x c (eq_of_beq (show(scope.names.lookup x==aB hB)=ck from h)) e),I.ok.hd,I.ok.frames,.inl rfl,λb B=>?_,I.bs,ja I.ok.Qp I.sz,λb u e B=>?_,λb B L=>?_,I.stack,I.By⟩,rfl,I.bare,Un.kept j,⟨m,hn,λi x v Y C hv=>?_⟩,λx c e=>?_,I.hok.fresh (dW),λx c e=>?_,λp Z=>(by cases Z),I.hok.kept j,?_⟩;.--a ZG name has its cell
   have z:(kn scope X.env).names.lookup x=aB .cell\/(kn scope X.env).names.lookup x=aB .free:=z;have e:=fU (env:=X.env) scope.names x;have J:(kn scope X.env).names.lookup x=_:=e;rw[J]at z;refine w.has x ?_;cases q:scope.names.lookup x with|none=>rw[q]at z;simp at z|some k=>
     rw[q]at z;by_cases hk:k=.free;.rw[hk];exact .inl rfl
     . have g:(k==fo)=a_:=by simpa using hk
       simp only[eT,g,ny,hU,if_false,Option.some.injEq]at z;rcases z with rfl|rfl;.exact .inr rfl
       .exact absurd rfl hk
 . obtain⟨f,lt⟩:=G b B;refine⟨eH lt,λx c e=>?_⟩;rcases w.from' x c e with e|e;.exact f.2.2.2.2.1 x c e
   .rintro rfl;exact absurd (oC e.1 lt) (jO _)
 . obtain⟨f,lt⟩:=G b B;rcases f.2.2.2.1 with h|h;.exact I.ok.J9 b u e h
   .have this:b<X.base.objs.size:=ej e;exact absurd (eI this (ja I.ok.Qp h)) (jO _)
 . obtain⟨f,lt⟩:=G b B;rcases et.mp (I.uU b L)with h|h;.exact f.2.1 h
   .exact f.2.2.1 h
 .--the names
   have hi:i<σ.length:=by
    by_cases hi:i<σ.length;.exact hi
    .rw[eF (by lia),i9]at C;split at C<;>cases C
   rw[dQ hi]at C;obtain⟨M,o⟩:=ok.get (by rw[<-I.len];exact hi) Y hv;have hk:=ok.cap (x,.free) (PySem.mem_of_lookup o) rfl;obtain⟨m0,ab,hl⟩:=I.loc;obtain⟨u,r,l⟩:=hl i x v M C (.inr hk);refine⟨u,r,.inr ⟨U x o,?_⟩⟩;rcases l with⟨g,_⟩|⟨_,c,hc,A⟩;.have g:X.env.scope.names.lookup x=aB .local:=g;rcases hk with hk|hk<;>(rw[g]at hk;cases hk)
   .obtain⟨c',E⟩:=w.has x (.inl o);have:=w.fre x c' o E;rw[hc]at this;cases this;refine⟨c,E,?_⟩;obtain⟨F,N,O⟩:=A;exact⟨F,j c F N,O⟩
 . rcases w.from' x c e with e|e;.obtain⟨v,F,N,O⟩:=I.cell x c e;exact⟨v,F,j c F N,O⟩
   .exact⟨_,e.2⟩
 . rcases w.from' x c e with e|e;.exact I.mj x c e
   .exact I.hok.fresh (m4 e.1)
 .show(σ++dA n b_).length=N'.length;rw[hR,oI,I.len,ok.len]
theorem uZ{prog:d_}{w:fb}{A:e_}{R:Result->dc->Prop}{q a iter:ek}{ifs:List ek}{pos:Pos}{it t:c_}(I:Nat->dc->Prop)(u:∀ n s,I n s->dL (dS prog w) A (k9 it) (λr b=>match r with|none=>R (.ok .next) b|some v=>dL (dS prog w) A (lh a it v) (λ_ b=>dL (dS prog w) A (i8 a env v) (λ_ j=>dL (dS prog w) A (forIn ifs ck λc r=>if r=ck then do let ok<-isTrue c env (fg c env);fI (hV ok)else fI (hV r)) (λok g=>if ok=ck then dL (dS prog w) A (fg q env) (λx l=>dL (dS prog w) A (call (.builtin "list.append") [t,x]) (λ_ o=>∃m,m<n/\I m o) (n8 (dS prog w) A env λe i=>R (.error e) i) l) (n8 (dS prog w) A env λe i=>R (.error e) i) g else ∃m,m<n/\I m g) (n8 (dS prog w) A env λe i=>R (.error e) i) j) (n8 (dS prog w) A env λe i=>R (.error e) i) b) (n8 (dS prog w) A env λe i=>R (.error e) i) b) (n8 (dS prog w) A env λe i=>R (.error e) i) s)(n:Nat){s:dc}(h:I n s):ng (dS prog w) A (.compLoop (.ListComp q [⟨a,iter,ifs,0⟩] scope pos) 0 it t env) R s:=by refine codeAny_loop rfl I (λn s C=>?_) n h;show dL _ A ((compTurn (.ListComp q [⟨a,iter,ifs,0⟩] scope pos) 0 it t env).onRaise (λx=>do noteFrame x env;theTreesLotGoes x)) _ _ s;refine wpAny_noted ?_;rw[compTurn_list];refine bx (pp (bx (fe (u n s C) (λr b f=>?_) λ_ _ h'=>h')));cases r with|none=>exact de f|some v=>refine bx (fe f (λ_ b f=>?_) λ_ _ h'=>h');refine bx (fe f (λ_ j y=>bx (fe y (λok g p=>?_) λ_ _ h'=>h')) λ_ _ h'=>h');cases ok with|false=>exact de ⟨rfl,p⟩|true=>exact bx (bx (fe p (λx l z=>bx (fe z (λ_ o B=>de (de ⟨rfl,B⟩)) λ_ _ h'=>h')) λ_ _ h'=>h'))
noncomputable def Tv(X:Cx)(ifs:List ek)(t:TT):Prop:=∀(pins:List (df × Obj))(s:dc)(σ:_L.St)(H:Hp)(Q:Bool->Hp->Prop),Inv X pins σ H s->t σ H Q->dL (dS X.prog X.w) X.A (forIn ifs ck λc r=>if r=ck then do let ok<-isTrue c X.env (fg c X.env);fI (hV ok)else fI (hV r)) (TP X pins σ Q) X.xe s
theorem Mm:Tv X [] (λ_ H Q=>Q ck H):=λpins s σ H Q I h=>wpAny_tests_nil ⟨H,I,h⟩
theorem N5{c:ek}{t:TT}(h:PT X c t):Tv X [c] t:=λpins s σ H Q I q=>wpAny_tests_one (h pins s σ H Q I q)
noncomputable def Pb(J:It)(g:TG)(tt:TT)(te:TE)(D:df)(Q:Hp->Prop)(W:Nat->Nat->List V->_L.St->Hp->Prop):Prop:=∀ i m ys σ H,W i m ys σ H->H D=aB (.lst ys)/\((J.stop i H/\Q H)\/(J.go i H/\∀ x e,J.Kc i H x e->g x σ e λa j=>tt a j λb f=>if b=ck then te a f λy h=>h D=aB (.lst ys)/\ys.length<sizeLine/\∃c,c<m/\W (i+1) c (ys++[y]) a (upd h D (.lst (ys++[y])))else ∃c,c<m/\W (i+1) c ys a f))
theorem tQ{E:c_->dc->Prop}{ae a iter:ek}{ifs:List ek}{pos:Pos}{it:df}{tn:Nat->fk->Prop}{J:It}{g:TG}{tt:TT}{te:TE}{Q:df->Hp->Prop}{RR:c_->df->Result->dc->Prop}(hc:X.calm=ck)(ok:ie X scope N' n)(I:Inv X pins σ H s)(bm:∀n c,cl.lookup n=aB c->X.env.cells.lookup n=aB c)(Az:∀n,(n,fo)∈scope.names->(cl.lookup n).isSome)(T:Turn X.prog X.w X.K a J fp it tn)(h0:tn 0 s.heap)(hf:∀b∈fp,oW X pins H b)(hg:∀cl C s₀ H₀ ex,PG (uh X scope N' cl C s₀ H₀ ex) a g)(ht:∀cl C s₀ H₀ ex,Tv (uh X scope N' cl C s₀ H₀ ex) ifs tt)(he:∀cl C s₀ H₀ ex,PE (uh X scope N' cl C s₀ H₀ ex) ae te)(hw:∀D,H D=b_->∃W,(∃m,W 0 m [] (σ++dA n b_) (upd H D (.lst [])))/\Pb J g tt te D (Q D) W)(bn:∀D C B l,Q D l->(∃m,B.heap.Ns C m)->oW X pins l C->Inv X pins σ l B->RR (.ref D) C (.ok .next) B):dL (dS X.prog X.w) X.A (newList []) (λav aw=>dL (dS X.prog X.w) X.A (on scope X.env.globals cl [] X.env.qual b_ .none (aB X.env)) (λai ax=>ng (dS X.prog X.w) X.A (.compStart (.ListComp ae [⟨a,iter,ifs,0⟩] scope pos) 0 (.ref it) av {ai with scope:=kn scope X.env}) (RR av ai.locals) ax) E aw) E s:=by
 refine fh (DX ok (λx c e=>?lt) I.ok.inj bm Az (λcs L am hold bc=>?_));case lt=>obtain⟨v,z⟩:=I.cell x c e;exact eI z.lt (by show _<=(s.heap.push _).objs.size;rw[eS];exact le_succ _)
 dsimp only at am hold bc ⊢--the new list,tracked
 have I3:Inv X pins σ (upd H s.heap.objs.size (.lst [])) {s with heap:=s.heap.push {cls:=.type "list",data:=.seq ([]:List c_).toArray}}:=I.QR (t':=s.toks) .nil (wI);generalize ap:({s with heap:=s.heap.push {cls:=.type "list",data:=.seq ([]:List c_).toArray}}:dc)=s3 at I3;have hsz:s3.heap.objs.size=s.heap.objs.size+1:=by rw[<-ap];exact eS _ _
 have Qu:s3.heap=s.heap.push {cls:=.type "list",data:=.seq ([]:List c_).toArray}:=by rw[<-ap]
 obtain⟨W,⟨m0,w0⟩,ay⟩:=hw s.heap.objs.size I.fresh;have aE:∀{h':fk},(∀b o,s.heap.get? b=aB o->h'.get? b=aB o)->tn 0 h':=λk=>T.keep _ _ _ h0 λb j o e=>k b o e;have af:∀b∈fp,oW X pins (upd H s.heap.objs.size (.lst [])) b/\b<s3.heap.objs.size:=λb j=>by obtain⟨o,e,_⟩:=T.obj 0 _ h0 b j;have lt:=ej e;obtain⟨f1,f2⟩:=hf b j;exact⟨⟨by rw[aL (eH lt)];exact f1,f2⟩,by rw[hsz];exact me lt⟩
 rw[<-Qu]at am hold bc ⊢;have I4:=Hh (t:=s3.toks) ok I3 af bc am hold;have ZJ:∀b o,s.heap.get? b=aB o->L.get? b=aB o:=λb o e=>hold b o (by rw[Qu];exact fK e);generalize O:uh X scope N' cs s3.heap.objs.size s3 (upd H s.heap.objs.size (.lst [])) fp=F at I4;have hA:F.A=X.A:=by rw[<-O];rfl
 have M:F.prog=X.prog:=by rw[<-O];rfl
 have N:F.w=X.w:=by rw[<-O];rfl
 have aI:F.K=X.K:=by rw[<-O];rfl
 have U:F.calm=ck:=by rw[<-O];exact hc
 have bo:F.xe=λ_ _=>False:=by rw[<-O];rfl
 have aS:F.env=compEnvC scope cs s3.heap.objs.size X.env:=by rw[<-O];rfl
 have bp:PG F a g:=by rw[<-O];exact hg _ _ _ _ _
 have bq:Tv F ifs tt:=by rw[<-O];exact ht _ _ _ _ _
 have br:PE F ae te:=by rw[<-O];exact he _ _ _ _ _
 have ff:∀{l:Hp}{b:df},b∈fp->l b=b_->oW F [] l b:=λ{l b}j hn=>by
  obtain⟨f,lt⟩:=af b j;rw[<-O];refine⟨hn,eH lt,λbt=>?_,.inl j,λx c e=>?_,λp hp=>by cases hp⟩
  . rcases et.mp (I3.uU b bt)with h|h;.exact f.2.1 h
    .exact f.2.2.1 h
  . rcases bc.from' x c e with e|e;.exact f.2.2.2.2.1 x c e
    .rintro rfl;exact absurd (oC e.1 lt) (jO _)--behind the block
 have fin:∀{G:_L.St}{l:Hp}{B:dc},Inv F [] G l B->Q s.heap.objs.size l->RR (.ref s.heap.objs.size) s3.heap.objs.size (.ok .next) B:=λ{G l B}Y q=>by
  rw[<-O]at Y;have hC:l s3.heap.objs.size=b_:=Y.free;obtain⟨hh,gg,dd,bv,bE⟩:=B;have bP:bE=s3.os:=Y.os;subst bP;refine bn _ _ _ l q (let⟨m,hm,_⟩:=Y.loc;⟨m,hm⟩) ?_ (I3.call (h':=hh) (g':=gg) (d':=dd) (t':=bv) (ch:=fp) Y.base Y.hok Y.bare λb j=>?_);.exact I3.zm (dW) hC
  .obtain⟨f,lt⟩:=af b j;exact⟨f.2.2.2.1,f.2.1,f.2.2.2.2.1,f.2.2.2.2.2⟩
 have ab:ng (dS X.prog X.w) X.A (.compLoop (.ListComp ae [⟨a,iter,ifs,0⟩] scope pos) 0 (.ref it) (.ref s.heap.objs.size) F.env) (RR (.ref s.heap.objs.size) s3.heap.objs.size) {s3 with heap:=L,toks:=s3.toks}:=by
  refine uZ (λk B=>∃i ys G l,Inv F [] G l B/\tn i B.heap/\(∀b∈fp,l b=b_)/\W i k ys G l) (λk s5 hI=>?_) m0 ⟨0,[],_,_,I4,aE ZJ,λb j=>(af b j).1.1,w0⟩;obtain⟨i,ys,ag,H5,I5,t5,f5,w5⟩:=hI;obtain⟨hD,ar⟩:=ay i k ys ag H5 w5;have ah:∀{Z:c_->dc->Prop},∀(e:c_)(B:dc),F.xe e B->Z e B:=λe B z=>by rw[bo]at z;exact f_ z
  rcases ar with⟨stop,q⟩|⟨go,step⟩;.have z:=T.done F M N aI U i [] s5 ag H5 (λ_ _=>False) I5 (λb j=>ff j (f5 b j)) t5 stop;rw[hA]at z;refine fe z (?_) λ_ _ z=>f_ z;rintro r s6⟨hr,I6⟩;subst hr;exact fin I6 q
  . have z:=T.item F M N aI U i [] s5 ag H5 (λ_ _=>False) I5 (λb j=>ff j (f5 b j)) t5 go;rw[hA]at z;refine fe z (?_) λ_ _ z=>f_ z;rintro r s6⟨u,hr,z6⟩;subst hr;refine fe z6 (?_) λ_ _ z=>f_ z;rintro _ s7⟨x,H7,I7,r7,y7,t7,f7⟩;have bS:=I7.pinned (λb j=>ff j (f7 b j)) (T.obj _ _ t7)--what the pins keep
    have back:∀{G:_L.St}{l:Hp}{B:dc},Inv F ([]++rJ fp s7.heap) G l B->Inv F [] G l B/\tn (i+1) B.heap/\∀b∈fp,l b=b_:=λ{G l B}Y=>by refine⟨Y.mZ,T.keep _ _ _ t7 λb j o e=>(Y.pin (b,o) (gp _ (gp _ (jG j e)))).1,λb j=>?_⟩;obtain⟨o,e,_⟩:=T.obj _ _ t7 b j;exact(Y.pin (b,o) (gp _ (gp _ (jG j e)))).2.1
    have z7:=bp _ s7 ag H7 x u _ bS r7 (step x H7 y7);rw[hA,M,N]at z7;refine fe z7 (?_) ah;rintro _ s8⟨ac,H8,I8,q8⟩;have z8:=bq _ s8 ac H8 _ I8 q8;rw[hA,M,N]at z8;refine fe z8 (?_) ah;rintro b s9⟨H9,I9,q9⟩;cases b with|false=>rw[if_neg eJ]at q9 ⊢;obtain⟨m',hm,w'⟩:=q9;obtain⟨b1,b2,b3⟩:=back I9;exact⟨m',hm,i+1,ys,ac,H9,b1,b2,b3,w'⟩|true=>rw[if_pos rfl]at q9 ⊢;have z9:=br _ s9 ac H9 _ I9 q9;rw[hA,M,N]at z9;refine fe z9 (?_) ah;rintro y fP⟨yv,aT,bX,ca,cb,ba,m',hm,w'⟩;have bg:=tY _ fP ac aT (.ref s.heap.objs.size) [yv] (.ref s.heap.objs.size) [y] (λv bi=>bi=upd aT s.heap.objs.size (.lst (ys++[yv]))) bX rfl (.cons ca .nil) ⟨_,ys,yv,rfl,rfl,cb,ba,rfl⟩;rw[hA,M,N]at bg;refine fe bg (?_) ah;rintro _ fW⟨_,bi,cf,_,ci⟩;subst ci;obtain⟨b1,b2,b3⟩:=back cf;exact⟨m',hm,i+1,ys++[yv],ac,_,b1,b2,b3,w'⟩
 have e3:({s3 with heap:=L,toks:=s3.toks}:dc)={s with heap:=L}:=by rw[<-ap]
 rw[aS,e3]at ab;exact codeAny_compStart_list ab (T.self _ 0 _ _ _ (aE ZJ) ab)
end
section
variable{X:Cx}{elt target iter:ek}{ifs:List ek}{scope:kB}{pos:Pos}{N':List Str}{n:Nat}{wi:TI}{g:TG}{tt:TT}{te:TE}
noncomputable def tM(n:Nat)(wi:TI)(g:TG)(tt:TT)(te:TE):TE:=λσ H Q=>wi σ H λJ a=>∀D,a D=b_->∃W,(∃m,W 0 m [] (σ++dA n b_) (upd a D (.lst [])))/\Pb J g tt te D (λb=>Q (.ref D) b) W
theorem m6{a:List (df×Obj)}{σ:_L.St}{H:Hp}{s:dc}(I:Inv X a σ H s)(ok:ie X scope N' n):∃cl,closureFor scope X.env=fI cl/\(∀n c,cl.lookup n=aB c->X.env.cells.lookup n=aB c)/\∀n,(n,fo)∈scope.names->(cl.lookup n).isSome:=zY λm b=>I.ok.has m (ok.cap (m,.free) b rfl)
theorem NP(hc:X.calm=ck)(ok:ie X scope N' n)(hi:PI X target iter wi)(t:∀cl C s₀ H₀ ex,PG (uh X scope N' cl C s₀ H₀ ex) target g)(u:∀cl C s₀ H₀ ex,Tv (uh X scope N' cl C s₀ H₀ ex) ifs tt)(he:∀cl C s₀ H₀ ex,PE (uh X scope N' cl C s₀ H₀ ex) elt te)(hs:∀x,fT iter X.env x=fI x:=by intro _;rfl):PE X (.ListComp elt [⟨target,iter,ifs,0⟩] scope pos) (tM n wi g tt te):=by intro a s σ H Q I h;obtain⟨cl,c,i,y⟩:=m6 I ok;rw[eval_ListComp];refine pE (use:=b_) rfl hs c ok.kind ok.names (dC (hi a s σ H _ I h) λv s1 h1=>dC h1 λz s2 B=>?_);obtain⟨it,N,O,J,U,rfl,E,T,t0,f2,F⟩:=B;refine tQ (Q:=λD j=>Q (.ref D) j) (RR:=λl C=>compPost (dS X.prog X.w) X.A X.xe b_ (EP X a σ Q) l C) hc ok E i y T t0 f2 t u he F λD C G j q p f L=>?_;obtain⟨m,p⟩:=p;refine⟨m,p,λh' r=>⟨.ref D,j,?_,rfl,q⟩⟩;exact L.turned (t':=G.toks) (λb o M e=>r.extBut b o M e) f.1 f.2.1 f.2.2.2.1 f.2.2.2.2.1 f.2.2.2.2.2
theorem Cj{i:Nat}{x:Str}{c j:Pos}(hc:X.calm=ck)(U:X.N.Nodup)(t:X.N[i]?=aB x)(W:Loc X.env.scope x)(ok:ie X scope N' n)(hi:PI X target iter wi)(Y:∀cl C s₀ H₀ ex,PG (uh X scope N' cl C s₀ H₀ ex) target g)(Z:∀cl C s₀ H₀ ex,Tv (uh X scope N' cl C s₀ H₀ ex) ifs tt)(he:∀cl C s₀ H₀ ex,PE (uh X scope N' cl C s₀ H₀ ex) elt te)(u:iL (.ListComp elt [⟨target,iter,ifs,0⟩] scope pos) (aB (.Name x c)) j.line X.env=fI ck)(hs:∀x,fT iter X.env x=fI x:=by intro _;rfl)(hf:X.fn x=ck\/X.env.scope.names.lookup x=aB .local:=by first|(left;rfl)|(right;rfl)|assumption):PS X (.Assign [.Name x c] (.ListComp elt [⟨target,iter,ifs,0⟩] scope pos) j) (Nq (tM n wi g tt te) (gj i)):=by
 intro f s σ H D I h;obtain⟨cl,l,y,Az⟩:=m6 I ok;rw[exec_Assign_Name_used _ _ _ _ u];refine bx (pp (bx ?_));show dL _ X.A (do let _<-comprehension (.ListComp elt [⟨target,iter,ifs,0⟩] scope pos) scope X.env _ (newList []) a_ (fg iter X.env) (aB (i8 (.Name x c) X.env))) _ _ s;refine bx (fe (pE (use:=aB (i8 (.Name x c) X.env)) (Q:=λ_ r=>SP X f D .next r) rfl hs l ok.kind ok.names (dC (hi f s σ H _ I h) λv s1 h1=>dC h1 λab s2 h2=>?_)) (λ_ r hq=>de (de hq)) λ_ _ e=>e);obtain⟨it,fp,tn,J,H2,rfl,I2,T,t0,f2,hw⟩:=h2;refine tQ (Q:=λDa B=>D.nx (σ.set i (aB (.ref Da))) B) (RR:=λE C=>compPost (dS X.prog X.w) X.A X.xe (aB (i8 (.Name x c) X.env)) (λ_ r=>SP X f D .next r) E C) hc ok I2 y Az T t0 f2 Y Z he hw λDa C r B q F p I'=>?_;obtain⟨m,F⟩:=F;show dL _ X.A (i8 (.Name x c) X.env (.ref Da)) _ _ _;refine wpAny_assign_Name (ue I' U t W (show RelV (.ref Da) (.ref Da)from rfl) (?_) hf);rintro G L⟨a,sb,ha⟩;have M:C≠a:=by
  rcases ha with rfl|ha;.exact p.2.1
  .exact λz=>p.2.2.2.2.1 x a ha z.symm
 refine⟨m,F.sameBut sb M,λh' O=>⟨_,B,?_,q⟩⟩;exact L.turned (t':=G.toks) (λb o hb e=>O.extBut b o hb e) p.1 p.2.1 p.2.2.2.1 p.2.2.2.2.1 p.2.2.2.2.2
noncomputable def acW(K:PySem.W.Frag)(tl:TE):TI:=λσ H R=>tl σ H λx b=>∃a,x=.ref a/\(((∃xs,fL K b a xs)/\R (QS K a) b)\/((∃xs,jl K b a xs)/\R (Va K a) b))
theorem uQ{u l:ek}{tl:TE}(w:PE X l tl):PI X u l (acW X.K tl):=by
 intro f s σ H R I h;refine dC (w f s σ H _ I h) ?_;rintro v s1⟨x,t,c,r1,j⟩;obtain⟨a,e,j⟩:=j;subst e;cases r1;rcases j with⟨⟨xs,m⟩,q⟩|⟨⟨xs,m⟩,q⟩
 . obtain⟨i,y,p,z⟩:=c.list m;refine hE p.isList ?_;refine⟨s1.heap.objs.size,[s1.heap.objs.size],_,_,t,rfl,c.kept (t':=s1.toks) λb o e=>fK e,DQ a _,⟨_,dE _ rfl,rfl,rfl⟩,λb r=>?_,q⟩;have e:b=s1.heap.objs.size:=by simpa using r
   subst e;exact c.zm (dW) (c.hok.fresh (dW))
 . obtain⟨i,y,p,z⟩:=c.tuple m;refine gd (show s1.heap.IsTuple a i.toArray from p) ?_;refine⟨s1.heap.objs.size,[s1.heap.objs.size],_,_,t,rfl,c.kept (t':=s1.toks) λb o e=>fK e,Al a _,⟨_,dE _ rfl,rfl,rfl⟩,λb r=>?_,q⟩;have e:b=s1.heap.objs.size:=by simpa using r
   subst e;exact c.zm (dW) (c.hok.fresh (dW))
end
end _L
namespace _H
open PySem _L Spec PyProof.Rows
variable{v:V}{i m:Nat}{K:PySem.W.Frag}{F H:Hp}{ρ:List Sl}{σ:_L.St}{x:Str}{p':Pos}{is:List Nat}{ds:List D}{s:dc}{A:e_}{u':c_}
structure Walk(K:PySem.W.Frag)(F:Hp)(ρ:List Sl)(σ:_L.St)(H:Hp)(ul:List Sl->List Sl)(J:It)(ds:List D)(F1:Hp)(ρ1:List Sl)(H1:Hp):Prop where
 gs:GS K F1 ρ1 σ H1
 src:∀(n k:Nat)(F':Hp)(ρ':List Sl)(σ':_L.St)(H':Hp),bW K F1 (ρ1++dA n .aM) (σ++dA n b_) H1 F' ρ' σ' H'->(∀d,ds[k]?=aB d->J.go k H'/\∀x lU,J.Kc k H' x lU->∃F'',Ext F' H' F'' lU/\Rep K F'' x d)/\(ds.length<=k->J.stop k H')fin:∀F2 ρ2 σ2 H2,bW K F1 ρ1 σ H1 F2 ρ2 σ2 H2->bW K F ρ σ H F2 (ul ρ2) σ2 H2/\∀v r,dG K F2 ρ2 σ2 H2 ρ1 σ H1 v r->dG K F2 (ul ρ2) σ2 H2 ρ σ H v r
inductive tIt(K:PySem.W.Frag)(iv:Option Nat)(f:Ev)(σ:_L.St)(H:Hp)(R:It->Hp->Prop):Prop where|mk(F:Hp)(ρ:List Sl)(ds:List D)(ρ1:List Sl)(g:GS K F ρ σ H)(e:srcOf iv f ρ=.ok ds ρ1)(k:∀J F1 H1,Walk K F ρ σ H (bH ρ iv) J ds F1 ρ1 H1->R J H1)
section
variable{K:PySem.W.Frag}{F F1 H H1:Hp}{ρ ρ1:List Sl}{σ:_L.St}{ds:List D}{a:df}
theorem Dg{xs:List V}{f b:Hp}(g:jl K b a xs)(r:aN K f xs ds)(s:aP f b)(k:Nat):(∀d,ds[k]?=aB d->(Va K a).go k b/\∀x j,(Va K a).Kc k b x j->∃c,Ext f b c j/\Rep K c x d)/\(ds.length<=k->(Va K a).stop k b):=by refine⟨λd hd=>?_,λh=>⟨xs,g,by rw[r.length];exact h⟩⟩;obtain⟨w,h1,l⟩:=r.get hd;refine⟨⟨xs,w,g,h1⟩,?_⟩;rintro x j⟨e,y⟩;subst e;have:=y xs g;rw[h1]at this;cases this;exact⟨f,.refl s,l⟩
theorem rA{xs:List V}{f b:Hp}(g:fL K b a xs)(r:aN K f xs ds)(s:aP f b)(k:Nat):(∀d,ds[k]?=aB d->(QS K a).go k b/\∀x j,(QS K a).Kc k b x j->∃c,Ext f b c j/\Rep K c x d)/\(ds.length<=k->(QS K a).stop k b):=by refine⟨λd hd=>?_,λh=>⟨xs,g,by rw[r.length];exact h⟩⟩;obtain⟨w,h1,l⟩:=r.get hd;refine⟨⟨xs,w,g,h1⟩,?_⟩;rintro x j⟨e,y⟩;subst e;have:=y xs g;rw[h1]at this;cases this;exact⟨f,.refl s,l⟩
theorem xf{ul:List Sl->List Sl}{d:D}(s:bW K F ρ σ H F1 ρ1 σ H1)(r:Rep K F1 v d)(hi:items d=aB ds)(fin:∀f b c g,bW K F1 ρ1 σ H1 f b c g->bW K F ρ σ H f (ul b) c g/\∀v r,dG K f b c g ρ1 σ H1 v r->dG K f (ul b) c g ρ σ H v r):∃a,v=.ref a/\(((∃xs,fL K H1 a xs)/\Walk K F ρ σ H ul (QS K a) ds F1 ρ1 H1)\/((∃xs,jl K H1 a xs)/\Walk K F ρ σ H ul (Va K a) ds F1 ρ1 H1)):=by cases d with|tup es=>cases hi;rw[Rep]at r;obtain⟨a,xs,rfl,h1,h⟩:=r;exact⟨a,rfl,.inr ⟨⟨xs,aP.iI s.gs.sub h1⟩,s.gs,λn k o j l p e=>Dg (aP.iI e.gs.sub (aP.iI e.cD h1)) (h.mono e.cD) e.gs.sub k,fin⟩⟩|lst es=>cases hi;rw[Rep]at r;obtain⟨a,xs,rfl,h1,h⟩:=r;exact⟨a,rfl,.inl ⟨⟨xs,s.gs.sub.seq h1⟩,s.gs,λn k o j l p e=>rA (e.gs.sub.seq (e.cD.seq h1)) (h.mono e.cD) e.gs.sub k,fin⟩⟩|_=>cases hi
theorem uD{ul:List Sl->List Sl}(g:GS K F ρ1 σ H)(e:ρ1[i]?=aB (.lent ds))(fin:∀f b c h,bW K F ρ1 σ H f b c h->bW K F ρ σ H f (ul b) c h/\∀v r,dG K f b c h ρ1 σ H v r->dG K f (ul b) c h ρ σ H v r):∃a,σ[i]?=aB (aB (.ref a))/\(∃xs,fL K H a xs)/\Walk K F ρ σ H ul (QS K a) ds F ρ1 H:=by obtain⟨a,xs,h1,o,B,C⟩:=g.vK i _ ds e rfl;have hi:i<ρ1.length:=(fZ e).1;refine⟨a,h1,⟨xs,fL.of o⟩,g,λn k E p q G j=>?_,fin⟩;obtain⟨l,t,u,w⟩:=j.lk i _ (by rw[dQ hi];exact e) rfl;cases(show t=.lent ds from w);rw[dQ (by rw[<-g.len];exact hi),h1]at l;obtain⟨I,ys,w1,y,J,z⟩:=j.gs.vK i _ ds u rfl;rw[l]at w1;cases w1;exact rA (fL.of y) z j.gs.sub k
end
section
variable{X:Cx}{c:Call}{n:Nat}{e a b d tg:ek}{p pa pb pd:P}{pos:Pos}
theorem mX{t t':TI}(h:PI X tg e t)(i:∀σ H R,t' σ H R->t σ H R):PI X tg e t':=λf s σ H R I q=>h f s σ H R I (i σ H R q)
noncomputable def SI(X:Cx)(c:Call)(tg e:ek)(p:P):Prop:=PI X tg e (tIt X.K (isVar p) (_H.ev c p))
theorem cN(h:SX X c e p):SI X c tg e p:=by unfold SI;cases hv:isVar p with|none=>refine mX (uQ h.ev) ?_;rintro σ H R⟨F,ρ,ds,u,g,e,k⟩;obtain⟨r,f,L,t⟩:=aj e;have y:=aH t;clear t;obtain⟨t,B⟩:=y;subst B;refine⟨F,ρ,r,_,g,L,λv U W s C=>?_⟩;obtain⟨l,s2,_,M⟩:=s.fO C;obtain⟨a,E,G⟩:=xf (ul:=bH ρ b_) s2 M t λF3 N O Y s3=>⟨s2.trans s3,λv r C=>C.later s2⟩;exact⟨a,E,G.imp (λ⟨z,w⟩=>⟨z,k _ _ _ w⟩) (λ⟨z,w⟩=>⟨z,k _ _ _ w⟩)⟩|some i=>
   refine mX (uQ (h.var i hv)) ?_;rintro σ H R⟨F,ρ,ds,u,g,e,k⟩;unfold srcOf at e;dsimp only at e;split at e
   . rename_i b d q;have y:=aH e;clear e;obtain⟨t,B⟩:=y;subst B;obtain⟨v,h1,Q⟩:=g.val i b d q;have fin:∀l f j o,bW X.K F ρ σ H l f j o->bW X.K F ρ σ H l (bH ρ (aB i) f) j o/\∀v r,dG X.K l f j o ρ σ H v r->dG X.K l (bH ρ (aB i) f) j o ρ σ H v r:=λl f j o s=>by unfold bH;dsimp only;rw[q];exact⟨s,λ_ _ z=>z⟩
     obtain⟨a,E,G⟩:=xf (ul:=bH ρ (aB i)) (.refl g) Q t fin;exact⟨v,h1,a,E,G.imp (λ⟨z,w⟩=>⟨z,k _ _ _ w⟩) (λ⟨z,w⟩=>⟨z,k _ _ _ w⟩)⟩
   . rename_i b I q;cases e;have hi:i<ρ.length:=(fZ q).1;have fin:∀l f j o,bW X.K F (ρ.set i (.lent ds)) σ H l f j o->bW X.K F ρ σ H l (bH ρ (aB i) f) j o/\∀v r,dG X.K l f j o (ρ.set i (.lent ds)) σ H v r->dG X.K l (bH ρ (aB i) f) j o ρ σ H v r:=λl f j o s=>by unfold bH;dsimp only;rw[q];exact bW.bH g q s
     obtain⟨a,h1,J,w⟩:=uD (ul:=bH ρ (aB i)) (g.lend q) (dr hi) fin;exact⟨_,h1,a,rfl,.inl ⟨J,k _ _ _ w⟩⟩
   . rename_i I q;cases e;have fin:∀l f j o,bW X.K F ρ σ H l f j o->bW X.K F ρ σ H l (bH ρ (aB i) f) j o/\∀v r,dG X.K l f j o ρ σ H v r->dG X.K l (bH ρ (aB i) f) j o ρ σ H v r:=λl f j o s=>by unfold bH;dsimp only;rw[q];exact⟨s,λ_ _ z=>z⟩
     obtain⟨a,h1,J,w⟩:=uD (ul:=bH ρ (aB i)) g q fin;exact⟨_,h1,a,rfl,.inl ⟨J,k _ _ _ w⟩⟩
   .cases e
theorem wX{F1 g:Hp}{f:List Sl}(s:bW K F ρ σ H F1 f σ g)(i j:Int):Walk K F ρ σ H (bH ρ b_) (Vw i (j-i).toNat) ((dV (j-i).toNat).map λ(k:Nat)=>D.int (i+(k:Int))) F1 f g:=by
 refine⟨s.gs,λn k o q t I u=>⟨λd hd=>?_,λh=>?_⟩,λF3 w y J s3=>⟨s.trans s3,λv r z=>z.later s⟩⟩;.rw[ey]at hd;obtain⟨m,B,C⟩:=map_some hd;obtain⟨h1,l⟩:=fZ B;rw[mn]at l;subst l;subst C;rw[j_]at h1;refine⟨h1,?_⟩;rintro x L⟨E,G⟩;subst E;subst G;exact⟨o,.refl u.gs.sub,bM _⟩
 .rw[eu,j_]at h;exact h
theorem dN(t:x="range")(u:Gl X x)(w:X.mg x=b_)(y:SX X c a pa)(hs:dy [a] X.env=[(a_,fg a X.env)]:=by rfl):SI X c tg (.Call (.Name x p') [a] [] pos) (.nY (.con (.int 0)) pa):=by
 subst t;obtain⟨U,h1,z⟩:=y.bU;refine mX (Ei u w (dm h1 iG hs) hs) ?_;rintro σ H R⟨F,ρ,ds,B,g,e,k⟩;obtain⟨r,C,q,h⟩:=aj e;have l:=aH h;clear h;obtain⟨h,E⟩:=l;subst E;rw[_H.E20]at q;obtain⟨W,G,I,f⟩:=aj q;have l:=aH f;clear f;obtain⟨f,J⟩:=l;subst J;obtain⟨Y,L,M,o⟩:=aj I;cases o;obtain⟨i,f1,f⟩:=bz f;obtain⟨j,f2,f⟩:=bz f;obtain⟨⟨b1,b2,b3,b4⟩,f⟩:=bK f;have f1:i=0:=by cases f1;rfl
 subst f1;subst f;cases h;cases bw f2;refine z g M λv N O s Q=>⟨j,by rw[Q.int],by lia,by lia,?_⟩;have:=wX s 0 j;rw[Int.sub_zero]at this;refine k _ N O ?_;rw[Int.sub_zero];exact this
theorem qe(y:x="range")(z:Gl X x)(B:X.mg x=b_)(C:SX X c a pa)(E:SX X c b pb)(hs:dy [a,b] X.env=[(a_,fg a X.env),(a_,fg b X.env)]:=by rfl)(h:dy [b] X.env=[(a_,fg b X.env)]:=by rfl):SI X c tg (.Call (.Name x p') [a,b] [] pos) (.nY pa pb):=by subst y;obtain⟨Y,Z,h1,G,I⟩:=C.jf E;refine mX (uE z B (dm h1 (dm G iG h) (by rw[hs,h])) hs h) ?_;rintro σ H R⟨F,ρ,ds,J,g,e,k⟩;obtain⟨r,L,o,l⟩:=aj e;have q:=aH l;clear l;obtain⟨l,M⟩:=q;subst M;rw[_H.E20]at o;obtain⟨xy,N,O,f⟩:=aj o;have q:=aH f;clear f;obtain⟨f,Q⟩:=q;subst Q;obtain⟨i,f1,f⟩:=bz f;obtain⟨j,f2,f⟩:=bz f;obtain⟨⟨b1,b2,b3,b4⟩,f⟩:=bK f;subst f;cases l;refine I g O λv u U W s t w=>⟨i,j,?_,by lia,k _ U W (wX s i j)⟩;have o:=bw f1;have l:=bw f2;rw[o]at t;rw[l]at w;rw[t.int,w.int]
end
section
variable{X:Cx}{c:Call}{n:Nat}{e a b d tg iter:ek}{p pa pb pd:P}{pos:Pos}{body:List fR}{ss:List S}
noncomputable def Jq(K:PySem.W.Frag)(bd:List Sl->D->Option (List Sl))(g:TG):Prop:=∀(x:V)(d:D)(F:Hp)(ρ f:List Sl)(σ:_L.St)(H:Hp)(Q:_L.St->Hp->Prop),GS K F ρ σ H->Rep K F x d->bd ρ d=aB f->(∀h,bW K F ρ σ H F f h H->Q h H)->g x σ H Q
theorem Ci(i:Nat):Jq K (λρ d=>put ρ i (.val a_ d)) (gj i):=λx d F ρ f σ H Q g r h k=>k _ (bW.put (r:=.val d) (.refl g) r h)
theorem aJ:∀(is:List Nat)(gs:Gg),(∀(xs:List V)(ds:List D)(F:Hp)(ρ f:List Sl)(σ:_L.St)(H:Hp)(Q:_L.St->Hp->Prop),GS K F ρ σ H->aN K F xs ds->putAll ρ is ds=aB f->(∀j,bW K F ρ σ H F f j H->Q j H)->gs xs σ H Q)->∀i,∀(xs:List V)(ds:List D)(F:Hp)(ρ f:List Sl)(σ:_L.St)(H:Hp)(Q:_L.St->Hp->Prop),GS K F ρ σ H->aN K F xs ds->putAll ρ (i::is) ds=aB f->(∀j,bW K F ρ σ H F f j H->Q j H)->lY (gj i) gs xs σ H Q:=by intro is gs o i xs ds F ρ f σ H Q g r h k;cases ds with|nil=>simp[kI,gw,o7,oV]at h|cons d ds=>obtain⟨v,vs,rfl,h1,q⟩:=r.dh;rw[gw]at h;obtain⟨l,t,u⟩:=bz h;have s1:=bW.put (r:=.val d) (.refl g) h1 t;refine⟨v,vs,rfl,o vs ds F l f _ H _ s1.gs q u λj s2=>k j (s1.trans s2)⟩
theorem cV:∀(xs:List V)(ds:List D)(F:Hp)(ρ f:List Sl)(σ:_L.St)(H:Hp)(Q:_L.St->Hp->Prop),GS K F ρ σ H->aN K F xs ds->putAll ρ [] ds=aB f->(∀j,bW K F ρ σ H F f j H->Q j H)->Fg xs σ H Q:=by intro xs ds F ρ f σ H Q g r h k;cases ds with|nil=>rw[kI]at h;cases h;exact⟨r.il,k σ (.refl g)⟩|cons d ds=>simp[kI,gw,o7,oV]at h
theorem mD:∀{is:List Nat}{ds:List D}{ρ f:List Sl},putAll ρ is ds=aB f->ds.length=is.length|[],[],_,_,_=>rfl|[],_::_,_,_,h=>by simp[kI,gw,o7,oV]at h|_::_,[],_,_,h=>by simp[kI,gw,o7,oV]at h|i::is,d::ds,ρ,f,h=>by rw[gw]at h;obtain⟨g,l,j⟩:=bz h;simp[mD j]
theorem dM{gs:Gg}(q:m=is.length)(h:∀(xs:List V)(ds:List D)(F:Hp)(ρ f:List Sl)(σ:_L.St)(H:Hp)(Q:_L.St->Hp->Prop),GS K F ρ σ H->aN K F xs ds->putAll ρ is ds=aB f->(∀l,bW K F ρ σ H F f l H->Q l H)->gs xs σ H Q):Jq K (λρ d=>bV ρ is a_ d) (Fe K m gs):=by intro x d F ρ f σ H Q g r j k;replace j:bV ρ is a_ d=aB f:=j;cases d with|tup ds=>replace j:putAll ρ is ds=aB f:=j;rw[Rep]at r;obtain⟨a,xs,rfl,h1,o⟩:=r;exact⟨a,xs,rfl,aP.iI g.sub h1,by rw[o.length,mD j,q],h xs _ F ρ f σ H Q g o j k⟩|_=>cases j
theorem j4{g:TG}{one:Bool}(hp:nL (dS X.prog X.w) X.A X.env X.xe)(hc:X.calm=ck)(hi:SI X c tg iter p)(hg:PG X tg g)(ab:Jq X.K (λρ d=>bV ρ is one d) g)(hb:SB X c n body ss)(hs:∀x,fT iter X.env x=fI x:=by intro _;rfl):SS X c n (.For tg iter body [] pos) (.gf p is one ss):=by
 refine fY (zB hp hc hi hg hb hs) ?_;rintro D σ H⟨F,ρ,fl,t,g0,e,k⟩;rw[_H.X13]at e;obtain⟨ds,o,e1,e⟩:=aj e;obtain⟨ae,I,e2,e⟩:=aj e;cases e;refine⟨F,ρ,ds,o,g0,e1,λJ F1 H1 w=>?_⟩;have src:∀(i:Nat)(U:Hp)(t:List Sl)(h:_L.St)(j:Hp),bW X.K F1 o σ H1 U t h j->(∀d,ds[i]?=aB d->J.go i j/\∀x lU,J.Kc i j x lU->∃L,Ext U j L lU/\Rep X.K L x d)/\(ds.length<=i->J.stop i j):=λi U t h j s=>w.src 0 i U t h j (by simpa using s);refine⟨λi m q W=>∃G f,bW X.K F1 o σ H1 G f q W/\m=ds.length-i/\i<=ds.length/\jh is one (ji c n ss) (ds.drop i) f=.ok fl I,⟨_,F1,o,.refl w.gs,rfl,wI,e2⟩,?_⟩;rintro i m q W⟨G,f,Y,rfl,af,l⟩;obtain⟨s1,s2⟩:=src i G f q W Y;by_cases u:i<ds.length
 . right;have hd:ds[i]?=aB ds[i]:=by simp[u]
   obtain⟨go,step⟩:=s1 _ hd;refine⟨go,λh j=>∃m',m'<ds.length-i/\∃G f,bW X.K F1 o σ H1 G f h j/\m'=ds.length-(i+1)/\i+1<=ds.length/\jh is one (ji c n ss) (ds.drop (i+1)) f=.ok fl I,λh j z=>z,λx j y=>?_⟩;obtain⟨F2,ext,rx⟩:=step x j y;have M:=Y.trans (ext.stp Y.gs);rw[gY u,zQ]at l;cases hbd:bV f is one ds[i]with|none=>rw[hbd]at l;cases l|some N=>rw[hbd]at l;obtain⟨O,C,eb,l⟩:=aj l;refine ab x _ F2 f N q j _ M.gs rx hbd λag sb=>?_;have E:=M.trans sb;refine⟨F2,N,O,C,E.gs,eb,λZ Q H4 s4=>?_⟩;have B:=E.trans s4;cases O with|next=>exact⟨_,by lia,Z,C,B,rfl,u,l⟩|cont=>exact⟨_,by lia,Z,C,B,rfl,u,l⟩|brk=>cases l;exact k Z Q H4 (w.fin _ _ _ _ B).1|ret r=>cases l;intro v rr;obtain⟨z1,z2⟩:=w.fin _ _ _ _ B;exact k Z Q H4 z1 v (z2 v r (rr.later E))
 . left;have ac:ds.drop i=[]:=by rw[li];lia
   rw[ac,Hv]at l;cases l;exact⟨s2 (by lia),k G q W (w.fin _ _ _ _ Y).1⟩
theorem uo(i:Nat):(λ(ρ:List Sl)(d:D)=>bV ρ [i] ck d)=λρ d=>put ρ i (.val a_ d):=by funext ρ d;rfl
theorem Dh{f:Pos}(h:nL (dS X.prog X.w) X.A X.env X.xe)(hc:X.calm=ck)(j:X.N.Nodup)(g:X.N[i]?=aB x)(l:Loc X.env.scope x)(hi:SI X c (.Name x f) iter p)(o:SB X c n body ss)(hs:∀x,fT iter X.env x=fI x:=by intro _;rfl)(q:X.fn x=ck\/X.env.scope.names.lookup x=aB .local:=by first|(left;rfl)|(right;rfl)|assumption):SS X c n (.For (.Name x f) iter body [] pos) (.gf p [i] ck ss):=j4 h hc hi (ak j g l q) (by rw[uo];exact Ci i) o hs
end
section
variable{X:Cx}{c:Call}{n:Nat}{e elt tg iter:ek}{p ps pe:P}{pos:Pos}{scope:kB}{N':List Str}{ifs:List ek}
theorem QW{t t':TE}(h:PE X e t)(i:∀σ H Q,σ.length=X.N.length->t' σ H Q->t σ H Q):PE X e t':=λa s σ H Q I q=>h a s σ H Q I (i σ H Q I.len q)
theorem Tj{st:fR}{t t':TS}(h:PS X st t)(i:∀D σ H,σ.length=X.N.length->t' D σ H->t D σ H):PS X st t':=λa s σ H D I q=>h a s σ H D I (i D σ H I.len q)
noncomputable def pJ(K:PySem.W.Frag)(m:Nat)(is:List Nat)(one:Bool)(g:TG):Prop:=∀(x:V)(d:D)(F:Hp)(ρ b:List Sl)(σ:_L.St)(H:Hp)(Q:_L.St->Hp->Prop),GS K F ρ σ H->Rep K F x d->bV ρ is one d=aB b->(∀a,bW K F ρ σ H F b a H->a.take m=σ.take m->Q a H)->g x σ H Q
theorem take_set{b:Type}{l:List b}{a:b}(h:m<=i):(l.set i a).take m=l.take m:=by rw[List.take_set_of_le h]
theorem cU(h:m<=i):pJ K m [i] ck (gj i):=λx d F ρ a σ H Q g r b k=>k _ (bW.put (r:=.val d) (.refl g) r b) (take_set h)
noncomputable def Nh(K:PySem.W.Frag)(m:Nat)(is:List Nat)(gs:Gg):Prop:=∀(xs:List V)(ds:List D)(F:Hp)(ρ b:List Sl)(σ:_L.St)(H:Hp)(Q:_L.St->Hp->Prop),GS K F ρ σ H->aN K F xs ds->putAll ρ is ds=aB b->(∀a,bW K F ρ σ H F b a H->a.take m=σ.take m->Q a H)->gs xs σ H Q
theorem bC{gs:Gg}(hi:m<=i)(j:Nh K m is gs):Nh K m (i::is) (lY (gj i) gs):=by intro xs ds F ρ a σ H Q g r h k;cases ds with|nil=>simp[kI,gw,o7,oV]at h|cons d ds=>obtain⟨v,vs,rfl,h1,l⟩:=r.dh;rw[gw]at h;obtain⟨b,o,q⟩:=bz h;have s1:=bW.put (r:=.val d) (.refl g) h1 o;exact⟨v,vs,rfl,j vs ds F b a _ H _ s1.gs l q λf s2 z=>k f (s1.trans s2) (z.trans (take_set hi))⟩
theorem gJ:Nh K m [] Fg:=by intro xs ds F ρ a σ H Q g r h k;cases ds with|nil=>rw[kI]at h;cases h;exact⟨r.il,k σ (.refl g) rfl⟩|cons d ds=>simp[kI,gw,o7,oV]at h
theorem gF{gs:Gg}{l:Nat}(o:l=is.length)(h:Nh K m is gs):pJ K m is a_ (Fe K l gs):=by intro x d F ρ b σ H Q g r f k;cases d with|tup ds=>replace f:putAll ρ is ds=aB b:=f;rw[Rep]at r;obtain⟨a,xs,rfl,h1,j⟩:=r;exact⟨a,xs,rfl,aP.iI g.sub h1,by rw[j.length,mD f,o],h xs _ F ρ b σ H Q g j f k⟩|_=>cases f
noncomputable def SQ(X:Cx)(c:Call)(ifs:List ek)(t:Option P):Prop:=Tv X ifs (Hr X.K (jR c t))
theorem cg:SQ X c [] b_:=λa s σ H Q I⟨F,ρ,k,ρ',g,e,q⟩=>by rw[jR]at e;cases e;exact Mm a s σ H Q I (q F H (.refl g))
theorem wg(h:ST X c e p):SQ X c [e] (aB p):=λa s σ H Q I⟨F,ρ,k,ρ',g,e,q⟩=>by rw[jR]at e;exact N5 h a s σ H Q I ⟨F,ρ,k,ρ',g,e,q⟩
theorem bW.J4{F1 j:Hp}{f:List Sl}{g:_L.St}{Da:df}{o:HO}(s:bW K F ρ σ H F1 f g j)(h:H Da=b_)(r:F1 Da=b_)(ho:¬ Own f g Da):bW K F ρ σ H F1 f g (upd j Da o):=by
 refine⟨⟨λb u e=>?_,s.gs.len,s.gs.val,λi t ds e l=>?_,s.gs.dis⟩,s.cD,s.yF,λb u e n=>?_,s.wJ,s.len,s.lk⟩
 . have:b≠Da:=by rintro rfl;rw[r]at e;cases e
   rw[aL this];exact s.gs.sub b u e
 . obtain⟨a,xs,q,w,y,z⟩:=s.gs.own i t ds e l;have:a≠Da:=by rintro rfl;exact ho ⟨i,⟨t,ds,e,l⟩,q⟩
   exact⟨a,xs,q,by rw[aL this];exact w,y,z⟩
 . have:b≠Da:=by rintro rfl;rw[h]at e;cases e
   rw[aL this];exact s.keep b u e n
theorem Jm{b r:List Sl}{ul:List Sl->List Sl}{ti:TI}{one:Bool}{u:List Sl->Res Bool}{el:Ev}{g:TG}{Q:VK}{xs:List D}(hm:σ.length=m)(ah:pJ K m is one g)(ai:∀R:It->Hp->Prop,(∀J F1 W,Walk K F ρ σ H ul J ds F1 b W->R J W)->ti σ H R)(ar:ds.length<=lim)(e2:turns is one u el ds [] (b++dA n .aM)=.ok xs r)(k:∀v F' H',bW K F ρ σ H F' (ul (r.take b.length)) σ H'->dG K F' (ul (r.take b.length)) σ H' ρ σ H v (.own xs)->Q v H'):tM n ti g (Hr K u) (zL K el) σ H Q:=by
 refine ai _ λJ F1 W w Da O=>?_;have am:b.length=σ.length:=w.gs.len;have gm:=w.gs.more (n:=n) (τ:=dA n b_) (by simp);have fD:F1 Da=b_:=by cases q:F1 Da with|none=>rfl|some o=>rw[w.gs.sub Da o q]at O;cases O
 have nO:¬ Own (b++dA n .aM) (σ++dA n b_) Da:=λ⟨i,⟨t,dt,q1,q2⟩,q3⟩=>by obtain⟨a,ys,z1,z2,_⟩:=gm.own i t dt q1 q2;rw[q3]at z1;cases z1;rw[O]at z2;cases z2
 refine⟨λi mm ys f G=>∃E h l,bW K F1 (b++dA n .aM) (σ++dA n b_) W E h f G/\f.take m=σ/\G Da=aB (.lst ys)/\E Da=b_/\¬ Own h f Da/\aN K E ys l/\l.length<=i/\mm=ds.length-i/\i<=ds.length/\turns is one u el (ds.drop i) l h=.ok xs r,⟨_,F1,_,[],(bW.refl gm).J4 O fD nO,by rw[mA (by lia),jU (by lia)],aW,fD,nO,.nil,wI,rfl,wI,e2⟩,?_⟩;rintro i mm ys f G⟨E,h,l,Y,I,Z,hF,hO,rs,av,rfl,aw,j⟩;refine⟨Z,?_⟩--what stays of the new list through a step
 have stay:∀{L U:Hp}{M:List Sl}{B:_L.St},bW K E h f G L M B U->U Da=aB (.lst ys)/\L Da=b_/\¬ Own M B Da:=λ{L U M B}s=>by
  refine⟨s.keep Da _ Z hO,?_,λo=>?_⟩;.cases q:L Da with|none=>rfl|some o=>
      rcases s.yF Da hF (by rw[q];simp)with z|z;.exact absurd z hO
      .exact(G3 Z z).elim
  . rcases s.wJ Da o with z|z;.exact hO z
    .rw[Z]at z;cases z
 obtain⟨s1,s2⟩:=w.src n i E h f G Y;by_cases C:i<ds.length
 . right;have hd:ds[i]?=aB ds[i]:=by simp[C]
   obtain⟨go,step⟩:=s1 _ hd;refine⟨go,λx U y=>?_⟩;obtain⟨L,ext,rx⟩:=step x U y;have t2:=ext.stp Y.gs;rw[gY C,vp]at j;cases hbd:bV h is one ds[i]with|none=>rw[hbd]at j;cases j|some ab=>rw[hbd]at j;obtain⟨bb,N,eb,j⟩:=aj j;refine ah x _ L h ab f U _ t2.gs rx hbd λB sb ac=>?_;have t3:=t2.trans sb;refine⟨L,ab,bb,N,t3.gs,eb,λF4 H4 s4=>?_⟩;have t4:=t3.trans s4;cases bb with|false=>rw[if_neg eJ]at j;obtain⟨y1,y2,y3⟩:=stay t4;exact⟨_,by lia,F4,N,l,Y.trans t4,ac.trans I,y1,y2,y3,rs.mono t4.cD,by lia,rfl,C,j⟩|true=>
       rw[if_pos rfl]at j;obtain⟨re,ae,ee,j⟩:=aj j;refine(show zL K el B H4 _ from⟨F4,N,re,ae,t4.gs,ee,λv F5 H5 s5 rr=>?_⟩);obtain⟨F6,s6,_,rp⟩:=s5.fO rr;have t6:=t4.trans s6;obtain⟨y1,y2,y3⟩:=stay t6;have af:ys.length<sizeLine:=by have h1:=rs.length;have h2:lim=sizeLine:=rfl;lia
       exact⟨y1,af,_,by lia,F6,ae,l++[re.d],(Y.trans t6).J4 O y2 y3,ac.trans I,aW,y2,y3,(rs.mono t6.cD).append (.cons rp .nil),by simp;lia,rfl,C,j⟩
 . left;have ap:ds.drop i=[]:=by rw[li];lia
   rw[ap,vQ]at j;cases j;refine⟨s2 (by lia),?_⟩;obtain⟨l1,l2⟩:=bW.less (m:=b.length) rfl w.gs (by simp) Y;have ag:f.take b.length=σ:=by rw[am,hm];exact I
   rw[ag]at l1;have rr:dG K E r f G (b++dA n .aM) (σ++dA n b_) W (.ref Da) (.own xs):=⟨Da,ys,rfl,Z,hF,rs,hO,.inr O⟩;have Qv:=l2 _ _ rr;rw[ag]at Qv;obtain⟨z1,z2⟩:=w.fin _ _ _ _ l1;exact k _ E G z1 (z2 _ _ Qv)
theorem BW{q:Option Nat}{f:Ev}{one:Bool}{b:List Sl->Res Bool}{y:Ev}{g:TG}{Q:VK}{r:R}{j:List Sl}(B:σ.length=m)(t:pJ K m is one g)(C:GS K F ρ σ H)(e:((srcOf q f ρ).bind λds a=>if ds.length<=lim then(turns is one b y ds [] (a++dA n .aM)).bind λxs l=>Res.ok (R.own xs) (bH ρ q (l.take a.length))else .stuck)=.ok r j)(k:∀v z u,bW K F ρ σ H z j σ u->dG K z j σ u ρ σ H v r->Q v u):tM n (tIt K q f) g (Hr K b) (zL K y) σ H Q:=by
 obtain⟨ds,w,E,e⟩:=aj e;split at e;.rename_i o;obtain⟨xs,G,I,e⟩:=aj e;cases e;exact Jm B t (λR h=>⟨F,ρ,ds,w,C,E,h⟩) o I k
 .cases e
theorem cO{g:TG}{one:Bool}{t:Option P}(hc:X.calm=ck)(ok:ie X scope N' n)(hi:SI X c tg iter ps)(b:∀cl C s₀ H₀ ex,PG (uh X scope N' cl C s₀ H₀ ex) tg g)(a:pJ X.K X.N.length is one g)(f:∀cl C s₀ H₀ ex,SQ (uh X scope N' cl C s₀ H₀ ex) c ifs t)(he:∀cl C s₀ H₀ ex,SX (uh X scope N' cl C s₀ H₀ ex) c elt pe)(hs:∀x,fT iter X.env x=fI x:=by intro _;rfl):SX X c (.ListComp elt [⟨tg,iter,ifs,0⟩] scope pos) (.comp ps n is one t pe):=by refine⟨QW (NP (tt:=Hr X.K (jR c t)) (te:=zL X.K (_H.ev c pe)) hc ok hi b f (λcl C s₀ H₀ ex=>(he cl C s₀ H₀ ex).ev) hs) ?_,λi h=>by cases h⟩;rintro σ H Q j⟨F,ρ,r,l,o,e,k⟩;rw[_H.E19]at e;exact BW j a o e k
theorem p8{a b:Pos}{nn:Nat}{g:TG}{one:Bool}{t:Option P}(hc:X.calm=ck)(q:X.N.Nodup)(h:X.N[i]?=aB x)(u:Loc X.env.scope x)(ok:ie X scope N' n)(hi:SI X c tg iter ps)(w:∀cl C s₀ H₀ ex,PG (uh X scope N' cl C s₀ H₀ ex) tg g)(j:pJ X.K X.N.length is one g)(y:∀cl C s₀ H₀ ex,SQ (uh X scope N' cl C s₀ H₀ ex) c ifs t)(he:∀cl C s₀ H₀ ex,SX (uh X scope N' cl C s₀ H₀ ex) c elt pe)(l:iL (.ListComp elt [⟨tg,iter,ifs,0⟩] scope pos) (aB (.Name x a)) b.line X.env=fI ck:=by rfl)(hs:∀x,fT iter X.env x=fI x:=by intro _;rfl)(z:X.fn x=ck\/X.env.scope.names.lookup x=aB .local:=by first|(left;rfl)|(right;rfl)|assumption):SS X c nn (.Assign [.Name x a] (.ListComp elt [⟨tg,iter,ifs,0⟩] scope pos) b) (.asg i (.comp ps n is one t pe)):=by refine Tj (Cj (tt:=Hr X.K (jR c t)) (te:=zL X.K (_H.ev c pe)) hc q h u ok hi w y (λcl C s₀ H₀ ex=>(he cl C s₀ H₀ ex).ev) l hs z) ?_;rintro D σ H B⟨F,ρ,U,E,G,e,k⟩;rw[_H.X6]at e;obtain⟨r,I,o,e⟩:=aj e;obtain⟨J,L,f,e⟩:=aj e;cases e;have M:=aH f;clear f;obtain⟨f,W⟩:=M;rw[_H.E19]at o;exact BW B j G o λv F1 O s1 Q=>k F1 _ O (s1.put Q f)
end
section
variable{X:Cx}{c:Call}{n:Nat}{e a b d:ek}{p pa pb pd:P}{pos:Pos}{es:List ek}{ps:List P}
noncomputable def tyN:D->String|.non=>"NoneType"|.bl _=>"bool"|.int _=>"int"|.str _=>"str"|.tup _=>"tuple"|.lst _=>"list"|.cZ _=>"dict"|.dv _ _=>"dict"
noncomputable def XD:Ty->String|.none=>"NoneType"|.bool=>"bool"|.int=>"int"|.str=>"str"|.tuple=>"tuple"|.list=>"list"
theorem Yi(K:PySem.W.Frag)(t:Ty)(d:D):PySem.W.kitOne K (.type (tyN d)) (.type (XD t))=aB (dB t d):=by cases t<;>cases d<;>rfl
theorem Zi{l:List (df×Obj)}{x:V}{u:c_}{r:D}(I:_L.Inv X l σ H s)(sm:aP F H)(g:fM X.K F H x r)(f:RelV x u):(∃z,PySem.W.KitX X.K u (.type (tyN r)) z/\z s.heap)/\u≠.builtin "__main__.__loader__#opaque":=by cases r with|non=>rw[g.non]at f;cases f;exact⟨⟨_,PySem.W.kitx_none,trivial⟩,nofun⟩|bl y=>rw[g.bl]at f;cases f;exact⟨⟨_,PySem.W.kitx_bool,trivial⟩,nofun⟩|int i=>rw[g.int]at f;obtain⟨t,rfl⟩:=f;exact⟨⟨_,PySem.W.kitx_int,trivial⟩,nofun⟩|str y=>rw[g.str]at f;obtain⟨t,rfl⟩:=f;exact⟨⟨_,PySem.W.kitx_str,trivial⟩,nofun⟩|tup ds=>obtain⟨q,xs,rfl,h,_⟩:=g.tup sm;cases f;obtain⟨w,_,⟨o,h1,j,_⟩,_⟩:=I.tuple h;exact⟨⟨_,PySem.W.kitx_tuple,⟨o,h1,j⟩⟩,nofun⟩|lst ds=>obtain⟨q,xs,rfl,h,_⟩:=g.lst sm;cases f;obtain⟨w,_,pl,_⟩:=I.list h;obtain⟨o,h1,j,_⟩:=pl.isList;exact⟨⟨_,PySem.W.kitx_list,⟨o,h1,j⟩⟩,nofun⟩|cZ m=>obtain⟨q,_,rfl,h⟩:=g.cZ sm;cases f;obtain⟨o,h1,j⟩:=GJ I h;exact⟨⟨_,PySem.W.kitx_dict,⟨o,h1,j⟩⟩,nofun⟩|dv ks ds=>obtain⟨q,_,vs,rfl,h,_⟩:=g.dv sm;cases f;obtain⟨o,h1,j⟩:=Iu I h;exact⟨⟨_,PySem.W.kitx_dict,⟨o,h1,j⟩⟩,nofun⟩
theorem R8(t:Ty):dU X (.builtin "isinstance") (λxs H Q=>∃x F f,xs=[x,.ty (XD t)]/\aP F H/\fM X.K F H x f/\Q (.bl (dB t f)) H):=by rintro h s σ H xs B Q I r⟨x,F,f,j,sm,l,q⟩;subst j;obtain⟨u,o,rfl,w,rt⟩:=r.two;cases(show o=hX (XD t)from rt);obtain⟨⟨C,Z,y⟩,g⟩:=Zi I sm l w;exact PySem.W.kia_one Z I.Tg y (Yi _ t f) g λz=>⟨.bl _,H,I.tok z,rfl,q⟩
theorem JR:fw "isinstance"=aB (.builtin "isinstance"):=by decide+kernel
theorem Ha{y:Str}{f:Pos}(t:Ty)(w:x="isinstance")(z:Gl X x)(B:X.mg x=b_)(C:SX X c a pa)(j:Gl X y)(l:X.mg y=b_)(E:fw y=aB (.type (XD t)))(o:y≠"__name__":=by decide)(q:(y==("__debug__":Str))=a_:=by decide)(hs:dy [a,.Name y f] X.env=(a_,fg a X.env)::dy [.Name y f] X.env:=by rfl):SX X c (.Call (.Name x p') [a,.Name y f] [] pos) (.inst [t] pa):=by subst w;obtain⟨U,h1,G⟩:=C.bU;refine⟨gR (eN (R8 t) z B JR (dm h1 (dm (LK (v:=.ty (XD t)) j l E rfl o q) iG) hs) (he:=hs)) ?_,λi h=>by cases h⟩;rintro σ H Q⟨F,ρ,r,I,g,e,k⟩;rw[_H.E18]at e;obtain⟨J,L,M,e⟩:=aj e;cases e;refine G g M λv u N s O=>⟨v,u,J,rfl,s.gs.sub,O,k _ u N s ?_⟩;show Rep X.K u _ _;rw[ox,List.any_nil,Bool.or_false];exact jq _
inductive rBn(K:PySem.W.Frag)(f:List D->Option R)(xs:List V)(H:Hp)(Q:VK):Prop where|mk(F:Hp)(ds:List D)(r:R)(sm:aP F H)(rs:aN K F xs ds)(he:f ds=aB r)(k:∀v F' H',Ext F H F' H'->cX K F' H' H v r->Q v H')
theorem O5{E:ek}{f:List D->Option R}{q:P}(o:∀{t},PA X es t->PE X E (tCB (rBn X.K f) t))(u:SA X c es ps)(y:∀ρ,_H.ev c q ρ=(evs c ps ρ).bind λds ρ=>lift (f ds) ρ)(hv:isVar q=b_):SX X c E q:=by refine⟨gR (o u.1) ?_,λi h=>by rw[hv]at h;cases h⟩;rintro σ H Q⟨F,ρ,r,z,g,e,k⟩;rw[y]at e;obtain⟨ds,l,B,j⟩:=aj e;have C:=aH j;clear j;obtain⟨j,G⟩:=C;subst G;exact⟨F,ρ,ds,l,g,B,λvs I O s J=>⟨I,ds,r,s.gs.sub,J,j,λw L M x N=>k w L M (s.trans (x.stp s.gs)) (.later s (N.sW s.gs))⟩⟩
theorem PB{xs:List V}{i j:Int}(h:aN K F xs [.int i,.int j]):xs=[.int i,.int j]:=by obtain⟨v,r,rfl,h1,g⟩:=h.dh;obtain⟨u,o,rfl,f,l⟩:=g.dh;rw[Rep]at h1 f;rw[h1,f,l.il]
theorem inv2{f:Blt}{g:Int->Int->Int}{r:R}(h0:blt f []=b_)(h1:∀a,blt f [a]=b_)(q:∀a b c l,blt f (a::b::c::l)=b_)(hn:∀a b,dI a=a_->blt f [a,b]=b_)(t:∀i b,dI b=a_->blt f [.int i,b]=b_)(hi:∀i j,blt f [.int i,.int j]=aB (.val (.int (g i j))))(he:blt f ds=aB r):∃i j,ds=[.int i,.int j]/\r=.val (.int (g i j)):=by
 rcases ds with _|⟨a,_|⟨b,_|⟨c,l⟩⟩⟩;.rw[h0]at he;cases he
 .rw[h1]at he;cases he
 . by_cases h:dI a=ck
   . obtain⟨i,rfl⟩:∃i,a=.int i:=by cases a<;>first|exact⟨_,rfl⟩|cases h
     by_cases o:dI b=ck
     . obtain⟨j,rfl⟩:∃j,b=.int j:=by cases b<;>first|exact⟨_,rfl⟩|cases o
       rw[hi]at he;cases he;exact⟨i,j,rfl,rfl⟩
     .rw[t i b (by simpa using o)]at he;cases he
   .rw[hn a b (by simpa using h)]at he;cases he
 .rw[q]at he;cases he
theorem Rw(hc:X.calm=ck):dU X (.builtin "min") (rBn X.K (blt .min2)):=by rintro f s σ H xs o Q I r⟨F,ds,t,sm,q,he,k⟩;obtain⟨i,j,rfl,rfl⟩:=inv2 (g:=λi j=>if j<i then j else i) rfl (λa=>by cases a<;>rfl) (λa b c l=>by cases a<;>first|rfl|(cases b<;>rfl)) (λa b h=>by cases a<;>first|rfl|cases h) (λi b h=>by cases b<;>first|rfl|cases h) (λ_ _=>rfl) he;rw[PB q]at r;exact Dz hc f s σ H _ o Q I r ⟨_,_,rfl,cX.eV sm (bM _) k⟩
theorem RQ(hc:X.calm=ck):dU X (.builtin "max") (rBn X.K (blt .max2)):=by rintro f s σ H xs o Q I r⟨F,ds,t,sm,q,he,k⟩;obtain⟨i,j,rfl,rfl⟩:=inv2 (g:=λi j=>if i<j then j else i) rfl (λa=>by cases a<;>rfl) (λa b c l=>by cases a<;>first|rfl|(cases b<;>rfl)) (λa b h=>by cases a<;>first|rfl|cases h) (λi b h=>by cases b<;>first|rfl|cases h) (λ_ _=>rfl) he;rw[PB q]at r;exact tZ hc f s σ H _ o Q I r ⟨_,_,rfl,cX.eV sm (bM _) k⟩
theorem boot_min:fw "min"=aB (.builtin "min"):=by decide+kernel
theorem boot_max:fw "max"=aB (.builtin "max"):=by decide+kernel
theorem uX(f:x="min")(hc:X.calm=ck)(g:Gl X x)(j:X.mg x=b_)(l:SA X c [a,b] [pa,pb])(hs:dy [a,b] X.env=(a_,fg a X.env)::dy [b] X.env:=by rfl)(hpl:(ka pos (dy [b] X.env)).any (·.1)=a_:=by rfl):SX X c (.Call (.Name x p') [a,b] [] pos) (.blt .min2 [pa,pb]):=by subst f;exact O5 (λh=>eN (Rw hc) g j boot_min h (he:=hs) (hpl:=hpl)) l (λρ=>rfl) rfl
theorem Ln(f:x="max")(hc:X.calm=ck)(g:Gl X x)(j:X.mg x=b_)(l:SA X c [a,b] [pa,pb])(hs:dy [a,b] X.env=(a_,fg a X.env)::dy [b] X.env:=by rfl)(hpl:(ka pos (dy [b] X.env)).any (·.1)=a_:=by rfl):SX X c (.Call (.Name x p') [a,b] [] pos) (.blt .max2 [pa,pb]):=by subst f;exact O5 (λh=>eN (RQ hc) g j boot_max h (he:=hs) (hpl:=hpl)) l (λρ=>rfl) rfl
end
section
variable{X:Cx}{c:Call}{n:Nat}{e a b d:ek}{p pa pb pd:P}{pos:Pos}{es:List ek}{ps:List P}
theorem NZ(g:GS K F ρ σ H)(h:W0 ρ i=aB ds):∃a xs,σ[i]?=aB (aB (V.ref a))/\fL K H a xs:=by
 unfold W0 at h;split at h;.rename_i q;cases h;obtain⟨v,h1,f⟩:=g.pk q;obtain⟨a,xs,rfl,j,_⟩:=f.lst g.sub;exact⟨a,xs,h1,j⟩
 .cases h
theorem vL{k:Nat}{h f:Pos}(J:X.N[k]?=aB x)(hv:u0 X.env.scope x)(hi:SX X c b pb)(he:SX X c e p)(L:∀ v,i8 (.Subscript (.Name x h) b f) X.env v=(do
  let l<-im [v] (fg (.Name x h) X.env)let u<-im [v,l] (fg b X.env)mR f
  im [v,l,u] (mS l u v)qB [v,l,u] []):=by intro _;rfl)(hs:ki [.Subscript (.Name x h) b f] e pos.line X.env=fI a_:=by rfl)(M:kl [.Subscript (.Name x h) b f] e X.env=fI b_:=by rfl)(h1:(ip [.Subscript (.Name x h) b f] X.env).map (·.2)=[i8 (.Subscript (.Name x h) b f) X.env]:=by rfl)(hd:(x==("__debug__":Str))=a_:=by decide)(w:(x==("__classdict__":Str))=a_:=by decide):SS X c n (.Assign [.Subscript (.Name x h) b f] e pos) (.FT k pb p):=by
 obtain⟨ti,y,z⟩:=hi.bU;refine fY (sI he.ev (vm (fc J hv hd w) y set_list L) hs M h1) ?_;rintro D σ H⟨F,ρ,fl,O,g,e,Q⟩;rw[_H.X8]at e;obtain⟨r,B,U,e⟩:=aj e;obtain⟨x0,E,t,e⟩:=aj e;have W:=aH t;clear t;obtain⟨t,Y⟩:=W;subst Y;obtain⟨dk,Z,e2,e⟩:=aj e;refine⟨F,ρ,r,B,g,U,λv F1 H1 s1 rr=>?_⟩;obtain⟨F2,s2,_,rp⟩:=s1.fO rr;obtain⟨o,ho,_⟩:=s2.gs.pk t;refine⟨o,ho,z s2.gs e2 λvi F3 H3 s3 pi=>?_⟩;split at e
 . rename_i bb ds C q;split at e;.rename_i j hj;cases e;obtain⟨ad,xs,G,q2,q3,I⟩:=s3.gs.vK k _ ds q rfl;rw[ho]at G;cases G;refine⟨ad,xs,C,j,rfl,pi.int,q2,by rw[I.length];exact hj,?_⟩;exact Q F3 σ _ ((s2.trans s3).trans (s3.gs.mut q ho (I.set (rp.mono s3.cD) j)))
   .cases e
 .cases e
theorem bB{k:Nat}{o h f:Pos}(G:X.N[k]?=aB x)(hv:u0 X.env.scope x)(he:SX X c e p)(j:(h.endLine==f.line)=ck:=by rfl)(hs:dy [e] X.env=(a_,fg e X.env)::dy [] X.env:=by rfl)(l:p4 (.Name x o) "append" X.env (fg (.Name x o) X.env)=fg (.Name x o) X.env:=by rfl)(t:((ka f (dy [e] X.env)).all (λx=>!x.1)&&(backToKw f (rk [] X.env)).all (λx=>x.1.isSome)&&decide ([e].length+([]:List n_).length+(if([]:List n_).isEmpty then 0 else 1)<30))=ck:=by rfl)(w:iL (.Call (.Attribute (.Name x o) "append" h) [e] [] f) b_ pos.line X.env=fI a_:=by rfl)(hd:(x==("__debug__":Str))=a_:=by decide)(y:(x==("__classdict__":Str))=a_:=by decide):SS X c n (.Expr (.Call (.Attribute (.Name x o) "append" h) [e] [] f) pos) (.app k p):=by
 refine fY (K1 (Zb PySem.F.plainAttrs_list PySem.F.slot_list_append PySem.F.type_list_append tY (fc G hv hd y) (dm he.ev iG hs) l t j hs) w) ?_;rintro D σ H⟨F,ρ,fl,I,g,e,J⟩;rw[_H.X9]at e;obtain⟨d0,L,u,e⟩:=aj e;have M:=aH u;clear u;obtain⟨u,O⟩:=M;subst O;obtain⟨r,z,Q,e⟩:=aj e;obtain⟨a,xs,h1,U⟩:=NZ g u;refine⟨.ref a,h1,.inl ⟨rfl,xs,U⟩,F,ρ,r,z,g,Q,λv F1 H1 s1 W=>?_⟩;obtain⟨Y,s2,_,Z⟩:=s1.fO W;split at e
 . rename_i bb ds q;split at e;.rename_i B;cases e;obtain⟨ad,ys,C,q2,q3,E⟩:=s2.gs.vK k _ ds q rfl;rw[h1]at C;cases C;exact⟨_,ys,v,rfl,rfl,q2,by rw[E.length];exact B,J Y σ _ (s2.trans (s2.gs.mut q h1 (E.append (.cons Z .nil))))⟩
   .cases e
 .cases e
theorem Jd{bs:List Bool}(h:ds.mapM zp=aB bs):ds=bs.map D.bl:=by induction ds generalizing bs with|nil=>simp at h;subst h;rfl|cons d ds f=>rw[mapM_cons]at h;cases hd:zp d with|none=>rw[hd]at h;cases h|some k=>rw[hd]at h;cases hr:ds.mapM zp with|none=>rw[hr]at h;cases h|some r=>rw[hr]at h;cases h;rw[er,<-f hr,rN hd]
theorem BK{K:PySem.W.Frag}{F:Hp}:∀{bs:List Bool}{xs:List V},aN K F xs (bs.map D.bl)->xs=bs.map V.bl|[],_,h=>h.il|k::bs,_,h=>by obtain⟨v,r,rfl,h1,f⟩:=h.dh;rw[Rep]at h1;rw[h1,BK f];rfl
theorem Bq:∀{bs:List Bool}{f:List c_},Vals (bs.map V.bl) f->f=bs.map jP|[],_,h=>h.zero|k::bs,_,.cons r t=>by rw[er,<-Bq t,show _=_ from r]
theorem Lf{id:String}{f:List Bool->Bool}(hc:X.calm=ck)(rule:∀{x:c_}{Q:c_->dc->Prop}{s:dc},dL (dS X.prog X.w) X.A.in1 (om x) (λit g=>∃ I E q n P St t,it=.ref I/\Walks X.prog X.w X.A.in1 I E q n P St/\St 0 g.heap/\TruthOf X.prog X.w X.A.in1 P t/\∀h' y,(∀b o,b∉q->g.heap.get? b=aB o->h'.get? b=aB o)->Q (.bool (f ((dV n).map t))) {g with heap:=h',toks:=y}) X.xe s->dL (dS X.prog X.w) X.A (call (.builtin id) [x]) Q X.xe s):dU X (.builtin id) (λxs H Q=>∃p ys bs,xs=[.ref p]/\fL X.K H p ys/\ys=bs.map V.bl/\Q (.bl (f bs)) H):=by
 rintro B s σ H xs Z Q I r⟨p,ys,bs,G,J,L,k⟩;subst G;subst L;obtain⟨u,rfl,M⟩:=r.one;cases M;obtain⟨N,O,pl,hz⟩:=I.list J;have h:=Bq O;subst h;refine rule (hE pl.isList ?_);have l:p≠s.heap.objs.size:=by obtain⟨o,h1,_⟩:=pl.isList;exact eH (ej h1)
 refine⟨s.heap.objs.size,_,_,_,_,_,λi=>bs.getD i a_,rfl,Walks.list (prog:=X.prog) (w:=X.w) (A:=X.A.in1) (show X.A.in1.handled=b_ from I.ok.hd hc) s.heap.objs.size p l (bs.map jP).toArray,⟨⟨_,dE _ rfl,rfl,rfl⟩,?_⟩,?_,λh' y kp=>?_⟩;.obtain⟨o,h1,C⟩:=pl.isList;exact⟨o,fK h1,C⟩
 . intro i v s' Q' E' j U;have hv:v=.bool (bs.getD i a_):=by
    have j:(bs.map jP)[i]?=aB v:=by simpa using j
    rw[ey]at j;obtain⟨k',W,Y⟩:=map_some j;rw[<-Y,List.getD_eq_getElem?_getD,W];rfl
   subst hv;exact iX U
 . have e:f ((dV (bs.map jP).toArray.size).map λi=>bs.getD i a_)=f bs:=by
    congr 1;apply ii;.simp
    .intro i h1 C;simp at h1;simp[h1]
   rw[e];exact⟨.bl _,H,I.kept (λb o z=>kp b o (by simp;exact eH (ej z)) (fK z)),rfl,k⟩
theorem Xo(hc:X.calm=ck):dU X (.builtin "all") (Gf X.K λx=>blt .all [x]):=by rintro g s σ H xs q Q I r⟨x,t,F,d,u,sm,w,he,k⟩;obtain⟨bs,y,he⟩:=map_some (show((rZ d).bind λds=>ds.mapM zp).map _=aB u from he);subst he;obtain⟨ds,j,B⟩:=bz y;have C:=Jd B;cases d with|lst es=>cases j;obtain⟨p,ys,rfl,E,l⟩:=w.lst sm;rw[C]at l;refine Lf (f:=λbs=>bs.all id) hc (λh=>call_all_walk (fe h (λit o⟨I,fp,wr,n,P,Sx,tr,h1,h2,h3,h4,h5⟩=>⟨I,fp,wr,n,P,Sx,tr,h1,h2,h3,h4,λh' G kp=>?_⟩) λ_ _ z=>z)) g s σ H xs q Q I r ⟨p,ys,bs,t,E,BK l,cX.eV sm (jq _) k⟩;have z:=h5 h' G kp;rw[kN]at z;exact z|_=>cases j
theorem boot_all:fw "all"=aB (.builtin "all"):=by decide+kernel
theorem jg(f:x="all")(hc:X.calm=ck)(g:Gl X x)(j:X.mg x=b_)(l:SX X c a pa)(hs:dy [a] X.env=(a_,fg a X.env)::dy [] X.env:=by rfl):SX X c (.Call (.Name x p') [a] [] pos) (.blt .all [pa]):=by subst f;exact lq (λh=>eN (Xo hc) g j boot_all h (he:=hs)) l (λρ=>rfl) rfl hs
end
section
variable{K:PySem.W.Frag}
theorem kh:∀{xs ys:List D},xs.length≠ys.length->jB xs ys=a_|[],[],h=>absurd rfl h|[],_::_,_=>by simp[mK,jF,qZ,qP]|_::_,[],_=>by simp[mK,jF,qZ,qP]|x::xs,y::ys,h=>by rw[jF,kh (xs:=xs) (ys:=ys) (by simpa using h),nz]
theorem iJ:∀{xs ys:List D},xs.length=ys.length->jB xs ys=(dV xs.length).all λj=>lX (xs.getD j .non) (ys.getD j .non)|[],[],_=>by rw[mK];rfl|[],_::_,h=>by simp at h|_::_,[],h=>by simp at h|x::xs,y::ys,h=>by rw[jF,iJ (xs:=xs) (ys:=ys) (by simpa using h),g_,List.range_succ_eq_map,nh,kN];rfl
mutual
theorem xr:∀d:D,lX d d=ck|.non=>rfl|.bl _=>by exact beq_self_eq_true _|.int _=>by exact beq_self_eq_true _|.str _=>by exact beq_self_eq_true _|.tup ds=>by exact lF ds|.lst ds=>by exact lF ds|.cZ _=>by exact decide_eq_true rfl|.dv ks ds=>by show(decide (ks=ks)&&jB ds ds)=ck;rw[lF ds];simp
theorem lF:∀ds:List D,jB ds ds=ck|[]=>by rw[mK]|d::ds=>by rw[jF,xr d,lF ds];rfl
end
theorem gW{d e:D}(b:flat d=ck)(h1:Rep K F v d)(a:Rep K F v e):d=e:=by cases d with
 |tup _=>cases b|lst _=>cases b|cZ _=>cases b|dv _ _=>cases b|non=>rw[Rep]at h1;subst h1;cases e with|non=>rfl|tup _=>rw[Rep]at a;obtain⟨_,_,q,_⟩:=a;cases q|lst _=>rw[Rep]at a;obtain⟨_,_,q,_⟩:=a;cases q|cZ _=>rw[Rep]at a;obtain⟨_,_,q,_⟩:=a;cases q|dv _ _=>rw[Rep]at a;obtain⟨_,_,_,q,_⟩:=a;cases q|_=>rw[Rep]at a;cases a
 |bl k=>rw[Rep]at h1;subst h1;cases e with|bl _=>rw[Rep]at a;cases a;rfl|tup _=>rw[Rep]at a;obtain⟨_,_,q,_⟩:=a;cases q|lst _=>rw[Rep]at a;obtain⟨_,_,q,_⟩:=a;cases q|cZ _=>rw[Rep]at a;obtain⟨_,_,q,_⟩:=a;cases q|dv _ _=>rw[Rep]at a;obtain⟨_,_,_,q,_⟩:=a;cases q|_=>rw[Rep]at a;cases a
 |int k=>rw[Rep]at h1;subst h1;cases e with|int _=>rw[Rep]at a;cases a;rfl|tup _=>rw[Rep]at a;obtain⟨_,_,q,_⟩:=a;cases q|lst _=>rw[Rep]at a;obtain⟨_,_,q,_⟩:=a;cases q|cZ _=>rw[Rep]at a;obtain⟨_,_,q,_⟩:=a;cases q|dv _ _=>rw[Rep]at a;obtain⟨_,_,_,q,_⟩:=a;cases q|_=>rw[Rep]at a;cases a
 |str k=>rw[Rep]at h1;subst h1;cases e with|str _=>rw[Rep]at a;cases a;rfl|tup _=>rw[Rep]at a;obtain⟨_,_,q,_⟩:=a;cases q|lst _=>rw[Rep]at a;obtain⟨_,_,q,_⟩:=a;cases q|cZ _=>rw[Rep]at a;obtain⟨_,_,q,_⟩:=a;cases q|dv _ _=>rw[Rep]at a;obtain⟨_,_,_,q,_⟩:=a;cases q|_=>rw[Rep]at a;cases a
theorem Ld{X:Cx}{t:List (df×Obj)}(I:_L.Inv X t σ H s)(sm:aP F H):∀n:Nat,(∀d:D,jm n d=ck->∀(v:V)(e:D),Rep X.K F v d->Rep X.K F v e->d=e):=by
 have tl:∀{a:df}{xs ys:List V},jl X.K F a xs->fL X.K F a ys->False:=λ{a xs ys}h1 b=>by obtain⟨_,_,⟨o,g,j,_⟩,_⟩:=I.tuple (aP.iI sm h1);obtain⟨_,_,pl,_⟩:=I.list (sm.seq b);obtain⟨z,c,f,_⟩:=pl.isList;rw[g]at c;cases c;rw[j]at f;exact absurd f (by decide)
 have L:∀{a:df}{kvs:Dc},Rep X.K F (.ref a) (.cZ kvs)->∃o,s.heap.get? a=aB o/\o.cls=.type "dict":=λ{a kvs}h=>by rw[Rep]at h;obtain⟨u,_,q,B⟩:=h;cases q;exact GJ I (sm _ _ B)
 have M:∀{a:df}{xs:List V}{kvs:Dc},jl X.K F a xs->Rep X.K F (.ref a) (.cZ kvs)->False:=λ{a xs kvs}h1 b=>by obtain⟨_,_,⟨o,g,j,_⟩,_⟩:=I.tuple (aP.iI sm h1);obtain⟨z,c,f⟩:=L b;rw[g]at c;cases c;rw[j]at f;exact absurd f (by decide)
 have ld:∀{a:df}{xs:List V}{kvs:Dc},fL X.K F a xs->Rep X.K F (.ref a) (.cZ kvs)->False:=λ{a xs kvs}h1 b=>by obtain⟨_,_,pl,_⟩:=I.list (sm.seq h1);obtain⟨o,g,j,_⟩:=pl.isList;obtain⟨z,c,f⟩:=L b;rw[g]at c;cases c;rw[j]at f;exact absurd f (by decide)
 have w:∀{a:df}{ks:List Int}{es:List D},Rep X.K F (.ref a) (.dv ks es)->∃o,s.heap.get? a=aB o/\o.cls=.type "dict":=λ{a ks es}h=>by rw[Rep]at h;obtain⟨u,_,_,q,B,_⟩:=h;cases q;exact Iu I (sm _ _ B)
 have C:∀{a:df}{xs:List V}{ks:List Int}{es:List D},jl X.K F a xs->Rep X.K F (.ref a) (.dv ks es)->False:=λ{a xs ks es}h1 b=>by obtain⟨_,_,⟨o,g,j,_⟩,_⟩:=I.tuple (aP.iI sm h1);obtain⟨z,c,f⟩:=w b;rw[g]at c;cases c;rw[j]at f;exact absurd f (by decide)
 have E:∀{a:df}{xs:List V}{ks:List Int}{es:List D},fL X.K F a xs->Rep X.K F (.ref a) (.dv ks es)->False:=λ{a xs ks es}h1 b=>by obtain⟨_,_,pl,_⟩:=I.list (sm.seq h1);obtain⟨o,g,j,_⟩:=pl.isList;obtain⟨z,c,f⟩:=w b;rw[g]at c;cases c;rw[j]at f;exact absurd f (by decide)
 intro n;induction n with
 |zero=>intro d hd v e h1 b;cases d with|tup _=>simp[cB,bZ,cA,cC,cz,cu]at hd|lst _=>simp[cB,bZ,cA,cC,cz,cu]at hd|cZ _=>simp[cB,bZ,cA,cC,cz,cu]at hd|dv _ _=>simp[cB,bZ,cA,cC,cz,cu]at hd|non=>exact gW rfl h1 b|bl k=>exact gW rfl h1 b|int k=>exact gW rfl h1 b|str k=>exact gW rfl h1 b
 |succ n N=>
   have all:∀{xs:List V}{ds es:List D},ds.all (jm n)=ck->aN X.K F xs ds->aN X.K F xs es->ds=es:=λ{xs ds}=>by induction ds generalizing xs with|nil=>intro es _ h1 b;rw[h1.il]at b;have:=b.length;exact(kc this.symm).symm|cons d ds G=>intro es p h1 b;rw[nh,fE]at p;obtain⟨v,r,rfl,g,j⟩:=h1.dh;cases es with|nil=>cases b.il|cons e es=>obtain⟨Q,U,O,c,f⟩:=b.dh;cases O;rw[N d p.1 v e g c,G p.2 j f]
   intro d hd v e h1 b;cases d with
   |cZ _=>simp[cB,bZ,cA,cC,cz,cu]at hd|dv _ _=>simp[cB,bZ,cA,cC,cz,cu]at hd|tup ds=>
     have p:ds.all (jm n)=ck:=by simpa[cB,bZ,cA,cC,cz,cu]using hd
     rw[Rep]at h1;obtain⟨a,xs,rfl,l,J⟩:=h1;cases e with|tup es=>rw[Rep]at b;obtain⟨u,ys,q,w1,y⟩:=b;cases q;have:=I.lO (aP.iI sm l) (aP.iI sm w1);subst this;rw[all p J y]|lst es=>rw[Rep]at b;obtain⟨u,ys,q,w1,y⟩:=b;cases q;exact(tl l w1).elim|cZ _=>exact(M l b).elim|dv _ _=>exact(C l b).elim|_=>rw[Rep]at b;cases b
   |lst ds=>
     have p:ds.all (jm n)=ck:=by simpa[cB,bZ,cA,cC,cz,cu]using hd
     rw[Rep]at h1;obtain⟨a,xs,rfl,l,J⟩:=h1;cases e with|lst es=>rw[Rep]at b;obtain⟨u,ys,q,w1,y⟩:=b;cases q;have:=I.nT (sm.seq l) (sm.seq w1);subst this;rw[all p J y]|tup es=>rw[Rep]at b;obtain⟨u,ys,q,w1,y⟩:=b;cases q;exact(tl w1 l).elim|cZ _=>exact(ld l b).elim|dv _ _=>exact(E l b).elim|_=>rw[Rep]at b;cases b
   |non=>exact gW rfl h1 b|bl k=>exact gW rfl h1 b|int k=>exact gW rfl h1 b|str k=>exact gW rfl h1 b
theorem Bo{d e:D}{u:V}{c:c_}(hd:flat d=ck)(he:flat e=ck)(h1:Rep K F v d)(a:Rep K F u e)(r1:RelV v c)(b:RelV u u'):i7 A s c u' (lX d e):=by cases d with
 |tup _=>cases hd|lst _=>cases hd|cZ _=>cases hd|dv _ _=>cases hd|non=>rw[Rep]at h1;subst h1;cases(show c=.none from r1);cases e with|tup _=>cases he|lst _=>cases he|cZ _=>cases he|dv _ _=>cases he|non=>rw[Rep]at a;subst a;cases(show u'=.none from b);exact SeqAt.EqAt.same _|bl _=>rw[Rep]at a;subst a;cases(show u'=.bool _ from b);exact SeqAt.EqAt.none_bool _|int _=>rw[Rep]at a;subst a;obtain⟨t,rfl⟩:=b;exact SeqAt.EqAt.none_int _ _|str _=>rw[Rep]at a;subst a;obtain⟨t,rfl⟩:=b;exact SeqAt.EqAt.none_str _ _
 |bl _=>rw[Rep]at h1;subst h1;cases(show c=.bool _ from r1);cases e with|tup _=>cases he|lst _=>cases he|cZ _=>cases he|dv _ _=>cases he|non=>rw[Rep]at a;subst a;cases(show u'=.none from b);exact SeqAt.EqAt.bool_none _|bl _=>rw[Rep]at a;subst a;cases(show u'=.bool _ from b);exact SeqAt.EqAt.bool_bool _ _|int _=>rw[Rep]at a;subst a;obtain⟨t,rfl⟩:=b;exact SeqAt.EqAt.bool_int _ _ _|str _=>rw[Rep]at a;subst a;obtain⟨t,rfl⟩:=b;exact SeqAt.EqAt.bool_str _ _ _
 |int _=>rw[Rep]at h1;subst h1;obtain⟨t0,rfl⟩:=r1;cases e with|tup _=>cases he|lst _=>cases he|cZ _=>cases he|dv _ _=>cases he|non=>rw[Rep]at a;subst a;cases(show u'=.none from b);exact SeqAt.EqAt.int_none _ _|bl _=>rw[Rep]at a;subst a;cases(show u'=.bool _ from b);exact SeqAt.EqAt.int_bool _ _ _|int _=>rw[Rep]at a;subst a;obtain⟨t,rfl⟩:=b;exact SeqAt.EqAt.int_int _ _ _ _|str _=>rw[Rep]at a;subst a;obtain⟨t,rfl⟩:=b;exact int_str _ _ _ _
 |str _=>rw[Rep]at h1;subst h1;obtain⟨t0,rfl⟩:=r1;cases e with|tup _=>cases he|lst _=>cases he|cZ _=>cases he|dv _ _=>cases he|non=>rw[Rep]at a;subst a;cases(show u'=.none from b);exact SeqAt.EqAt.str_none _ _|bl _=>rw[Rep]at a;subst a;cases(show u'=.bool _ from b);exact SeqAt.EqAt.str_bool _ _ _|int _=>rw[Rep]at a;subst a;obtain⟨t,rfl⟩:=b;exact str_int _ _ _ _|str _=>rw[Rep]at a;subst a;obtain⟨t,rfl⟩:=b;exact SeqAt.EqAt.str_str _ _ _ _
theorem nP{e:D}{u:V}{a:df}{h:Array c_}(b:s.heap.IsTuple a h)(c:A.units<ia)(he:flat e=ck)(f:Rep K F u e)(g:RelV u u'):i7 A s (.ref a) u' (lX (.tup ds) e)/\i7 A s u' (.ref a) (lX e (.tup ds)):=by cases e with|tup _=>cases he|lst _=>cases he|cZ _=>cases he|dv _ _=>cases he|non=>rw[Rep]at f;subst f;cases(show u'=.none from g);exact⟨SeqAt.EqAt.tuple_none b c,SeqAt.EqAt.none_tuple b c⟩|bl _=>rw[Rep]at f;subst f;cases(show u'=.bool _ from g);exact⟨SeqAt.EqAt.tuple_bool _ b c,SeqAt.EqAt.bool_tuple _ b c⟩|int _=>rw[Rep]at f;subst f;obtain⟨t,rfl⟩:=g;exact⟨SeqAt.EqAt.tuple_int _ _ b c,SeqAt.EqAt.int_tuple _ _ b c⟩|str _=>rw[Rep]at f;subst f;obtain⟨t,rfl⟩:=g;exact⟨SeqAt.EqAt.tuple_str _ _ b c,SeqAt.EqAt.str_tuple _ _ b c⟩
theorem nj{e:D}{u:V}{a:df}{h:Array c_}(b:s.heap.IsList a h)(c:A.units<ia)(he:flat e=ck)(f:Rep K F u e)(g:RelV u u'):i7 A s (.ref a) u' (lX (.lst ds) e)/\i7 A s u' (.ref a) (lX e (.lst ds)):=by cases e with|tup _=>cases he|lst _=>cases he|cZ _=>cases he|dv _ _=>cases he|non=>rw[Rep]at f;subst f;cases(show u'=.none from g);exact⟨SeqAt.EqAt.list_none b c,SeqAt.EqAt.none_list b c⟩|bl _=>rw[Rep]at f;subst f;cases(show u'=.bool _ from g);exact⟨SeqAt.EqAt.list_bool _ b c,SeqAt.EqAt.bool_list _ b c⟩|int _=>rw[Rep]at f;subst f;obtain⟨t,rfl⟩:=g;exact⟨SeqAt.EqAt.list_int _ _ b c,SeqAt.EqAt.int_list _ _ b c⟩|str _=>rw[Rep]at f;subst f;obtain⟨t,rfl⟩:=g;exact⟨SeqAt.EqAt.list_str _ _ b c,SeqAt.EqAt.str_list _ _ b c⟩
theorem yd{n:Nat}{d:D}(h:jm n d=ck)(h0:n=0):flat d=ck:=by subst h0;cases d<;>first|rfl|simp[cB,bZ,cA,cC,cz,cu]at h
theorem acO{X:Cx}{M:List (df×Obj)}(I:_L.Inv X M σ H s)(sm:aP F H):∀(n:Nat)(A:e_),A.units+n<ia->∀(d e:D),jm n d=ck->jm n e=ck->∀(v u:V)(N u':c_),Rep X.K F v d->Rep X.K F u e->RelV v N->RelV u u'->i7 A s N u' (lX d e):=by intro n;induction n with|zero=>intro A hu d e hd he v u N u' h1 f r1 g;exact Bo (yd hd rfl) (yd he rfl) h1 f r1 g|succ n ih=>
   intro A hu d e hd he v u N u' h1 f r1 g;have c:A.units<ia:=by lia
   have U:A.in1.units+n<ia:=by show A.units+1+n<ia;lia--items by place
   have O:∀{xs ys:List V}{w o:List c_}{ds es:List D}{j:Nat}(E:j<w.toArray.size)(G:j<o.toArray.size),ds.all (jm n)=ck->es.all (jm n)=ck->Vals xs w->Vals ys o->aN X.K F xs ds->aN X.K F ys es->i7 A.in1 s w.toArray[j] o.toArray[j] (lX (ds.getD j .non) (es.getD j .non)):=λ{xs ys w o ds es j}E G a1 a2 J p h l=>by
    have E:j<w.length:=by simpa using E
    have G:j<o.length:=by simpa using G
    have l1:j<ds.length:=by rw[<-h.length,J.length];exact E
    have L:j<es.length:=by rw[<-l.length,p.length];exact G
    obtain⟨x,g1,g2⟩:=h.get (show ds[j]?=aB ds[j]by simp[l1]);obtain⟨y,g3,g4⟩:=l.get (show es[j]?=aB es[j]by simp[L]);obtain⟨x',g5,g6⟩:=J.get g1;obtain⟨y',g7,g8⟩:=p.get g3;have e1:w.toArray[j]=x':=by have:=(fZ g5).2;simpa using this
    have e2:o.toArray[j]=y':=by have:=(fZ g7).2;simpa using this
    have e3:ds.getD j .non=ds[j]:=by simp[kr,l1]
    have e4:es.getD j .non=es[j]:=by simp[kr,L]
    rw[e1,e2,e3,e4];exact ih A.in1 U _ _ (eB.mp a1 _ (gu l1)) (eB.mp a2 _ (gu L)) x y x' y' g2 g4 g6 g8--the same object
   have same:∀{a:df},v=.ref a->u=.ref a->i7 A s N u' (lX d e):=λ{a}q1 q2=>by subst q1;subst q2;have:=Ld I sm (n+1) d hd _ e h1 f;subst this;rw[xr];cases r1;cases g;exact SeqAt.EqAt.same _
   cases d with
   |cZ _=>simp[cB,bZ,cA,cC,cz,cu]at hd|dv _ _=>simp[cB,bZ,cA,cC,cz,cu]at hd|tup ds=>
     have W:ds.all (jm n)=ck:=by simpa[cB,bZ,cA,cC,cz,cu]using hd
     have q:=h1;rw[Rep]at q;obtain⟨a,xs,rfl,Y,Q⟩:=q;cases r1;obtain⟨w,J,h,_⟩:=I.tuple (aP.iI sm Y)
     cases e with|cZ _=>simp[cB,bZ,cA,cC,cz,cu]at he|dv _ _=>simp[cB,bZ,cA,cC,cz,cu]at he|tup es=>
       have Z:es.all (jm n)=ck:=by simpa[cB,bZ,cA,cC,cz,cu]using he
       have r:=f;rw[Rep]at r;obtain⟨b,ys,rfl,w1,B⟩:=r;by_cases t:a=b;.subst t;exact same rfl rfl
       . cases g;obtain⟨o,p,l,_⟩:=I.tuple (aP.iI sm w1);refine .of_refs t ?_;have z:=SeqAt.RcAt.tuples (A:=A) (e:=λj=>lX (ds.getD j .non) (es.getD j .non)) h l c λj E G=>O E G W Z J p Q B;have l1:w.toArray.size=ds.length:=by rw[dP,<-J.length,Q.length]
         have L:o.toArray.size=es.length:=by rw[dP,<-p.length,B.length]
         rw[l1,L]at z;have e0:lX (.tup ds) (.tup es)=((dV (min ds.length es.length)).all (λj=>lX (ds.getD j .non) (es.getD j .non))&&ds.length==es.length):=by
          rw[pqt];by_cases C:ds.length=es.length;.rw[iJ C,C];simp
          . rw[kh C];have:(ds.length==es.length)=a_:=by simpa using C
            rw[this,nz]
         rw[e0];exact z|lst es=>rw[Rep]at f;obtain⟨b,ys,rfl,w1,B⟩:=f;cases g;obtain⟨o,p,l,_⟩:=I.list (sm.seq w1);exact SeqAt.EqAt.tuple_list h l.isList c|non=>exact(nP h c rfl f g).1|bl _=>exact(nP h c rfl f g).1|int _=>exact(nP h c rfl f g).1|str _=>exact(nP h c rfl f g).1
   |lst ds=>
     have W:ds.all (jm n)=ck:=by simpa[cB,bZ,cA,cC,cz,cu]using hd
     have q:=h1;rw[Rep]at q
     obtain⟨a,xs,rfl,Y,Q⟩:=q;cases r1;obtain⟨w,J,h,_⟩:=I.list (sm.seq Y);cases e with|cZ _=>simp[cB,bZ,cA,cC,cz,cu]at he|dv _ _=>simp[cB,bZ,cA,cC,cz,cu]at he|lst es=>
       have Z:es.all (jm n)=ck:=by simpa[cB,bZ,cA,cC,cz,cu]using he
       have r:=f;rw[Rep]at r;obtain⟨b,ys,rfl,w1,B⟩:=r;by_cases t:a=b;.subst t;exact same rfl rfl
       . cases g;obtain⟨o,p,l,_⟩:=I.list (sm.seq w1);refine .of_refs t ?_;have l1:w.toArray.size=ds.length:=by rw[dP,<-J.length,Q.length]
         have L:o.toArray.size=es.length:=by rw[dP,<-p.length,B.length]
         rw[pql];by_cases C:ds.length=es.length;.have z:=SeqAt.RcAt.lists (A:=A) (e:=λj=>lX (ds.getD j .non) (es.getD j .non)) h.isList l.isList (by rw[l1,L,C]) c λj E G=>O E G W Z J p Q B;rw[l1]at z;rw[iJ C];exact z
         .rw[kh C];exact lists_lengths h.isList l.isList (by rw[l1,L];simpa using C) c|tup es=>rw[Rep]at f;obtain⟨b,ys,rfl,w1,B⟩:=f;cases g;obtain⟨o,p,l,_⟩:=I.tuple (aP.iI sm w1);exact SeqAt.EqAt.list_tuple h.isList l c|non=>exact(nj h.isList c rfl f g).1|bl _=>exact(nj h.isList c rfl f g).1|int _=>exact(nj h.isList c rfl f g).1|str _=>exact(nj h.isList c rfl f g).1
   |non|bl _|int _|str _=>cases e with|cZ _=>simp[cB,bZ,cA,cC,cz,cu]at he|dv _ _=>simp[cB,bZ,cA,cC,cz,cu]at he|tup es=>rw[Rep]at f;obtain⟨b,ys,rfl,w1,B⟩:=f;cases g;obtain⟨o,p,l,_⟩:=I.tuple (aP.iI sm w1);exact(nP l c rfl h1 r1).2|lst es=>rw[Rep]at f;obtain⟨b,ys,rfl,w1,B⟩:=f;cases g;obtain⟨o,p,l,_⟩:=I.list (sm.seq w1);exact(nj l.isList c rfl h1 r1).2|_=>exact Bo rfl rfl h1 f r1 g
end
section
variable{X:Cx}{pins:List (df×Obj)}{σ:_L.St}{H F:Hp}{s:dc}{A:e_}
noncomputable abbrev RC(A:e_)(s:dc)(v u:c_)(k:Bool):Prop:=SeqAt.RcAt A s v u k/\SeqAt.RcNeAt A s v u (!k)
inductive Top(X:Cx)(F H:Hp)(s:dc):c_->D->Prop where|non:Top X F H s .none .non|bl(b:Bool):Top X F H s (.bool b) (.bl b)|int(i:Int)(t:Tok):Top X F H s (.int i t) (.int i)|str(x:Str)(t:Tok):Top X F H s (.str x t) (.str x)|tup{a:df}{us:List c_}{xs:List V}{ds:List D}(ht:s.heap.IsTuple a us.toArray)(hv:Vals xs us)(hr:aN X.K F xs ds):Top X F H s (.ref a) (.tup ds)|lst{a:df}{us:List c_}{xs:List V}{ds:List D}(ht:s.heap.IsList a us.toArray)(hv:Vals xs us)(hr:aN X.K F xs ds):Top X F H s (.ref a) (.lst ds)
theorem v7(I:_L.Inv X pins σ H s)(sm:aP F H){g:c_}{d:D}(hd:jm 8 d=ck)(h:fM X.K F H v d)(r:RelV v g):Top X F H s g d:=by cases d with|cZ _=>simp[cB,bZ,cA,cC,cz,cu]at hd|dv _ _=>simp[cB,bZ,cA,cC,cz,cu]at hd|non=>rw[h.non]at r;cases r;exact .non|bl b=>rw[h.bl]at r;cases r;exact .bl b|int i=>rw[h.int]at r;obtain⟨t,rfl⟩:=r;exact .int i t|str x=>rw[h.str]at r;obtain⟨t,rfl⟩:=r;exact .str x t|tup ds=>obtain⟨a,xs,rfl,h1,c,_⟩:=h.tup sm;cases r;obtain⟨j,e,f,_⟩:=I.tuple h1;exact .tup f e c|lst ds=>obtain⟨a,xs,rfl,h1,c⟩:=h.lst sm;cases r;obtain⟨j,e,f,_⟩:=I.list h1;exact .lst f.isList e c
theorem YH(I:_L.Inv X pins σ H s)(sm:aP F H){n:Nat}(hu:A.units+(n+1)<ia){d e:D}(hd:jm (n+1) d=ck)(he:jm (n+1) e=ck){M:c_}(h1:Top X F H s M d)(B:Top X F H s u' e):RC A s M u' (lX d e):=by
 have c:A.units<ia:=by lia
 have L:A.in1.units+n<ia:=by show A.units+1+n<ia;lia
 have z:∀{xs ys:List V}{r u:List c_}{ds es:List D}{j:Nat}(o:j<r.toArray.size)(p:j<u.toArray.size),ds.all (jm n)=ck->es.all (jm n)=ck->Vals xs r->Vals ys u->aN X.K F xs ds->aN X.K F ys es->i7 A.in1 s r.toArray[j] u.toArray[j] (lX (ds.getD j .non) (es.getD j .non)):=λ{xs ys r u ds es j}o p Z a2 N O Q U=>by
  have o:j<r.length:=by simpa using o
  have p:j<u.length:=by simpa using p
  have l1:j<ds.length:=by rw[<-Q.length,N.length];exact o
  have w:j<es.length:=by rw[<-U.length,O.length];exact p
  obtain⟨x,g1,g2⟩:=Q.get (show ds[j]?=aB ds[j]by simp[l1]);obtain⟨y,g3,g4⟩:=U.get (show es[j]?=aB es[j]by simp[w]);obtain⟨W,g5,g6⟩:=N.get g1;obtain⟨Y,g7,g8⟩:=O.get g3;have e1:r.toArray[j]=W:=by have:=(fZ g5).2;simpa using this
  have e2:u.toArray[j]=Y:=by have:=(fZ g7).2;simpa using this
  have e3:ds.getD j .non=ds[j]:=by simp[kr,l1]
  have e4:es.getD j .non=es[j]:=by simp[kr,w]
  rw[e1,e2,e3,e4];exact acO I sm n A.in1 L _ _ (eB.mp Z _ (gu l1)) (eB.mp a2 _ (gu w)) x y W Y g2 g4 g6 g8
 cases h1 with
 |non=>cases B with|non=>exact⟨SeqAt.RcAt.none_none,SeqAt.RcNeAt.none_none⟩|bl b=>exact⟨SeqAt.RcAt.none_bool _,SeqAt.RcNeAt.none_bool _⟩|int i t=>exact⟨SeqAt.RcAt.none_int _ _,none_int _ _⟩|str i t=>exact⟨SeqAt.RcAt.none_str _ _,none_str _ _⟩|tup f _ _=>exact⟨SeqAt.RcAt.none_tuple f c,SeqAt.RcNeAt.none_tuple f c⟩|lst f _ _=>exact⟨SeqAt.RcAt.none_list f c,SeqAt.RcNeAt.none_list f c⟩
 |bl b0=>cases B with|non=>exact⟨SeqAt.RcAt.bool_none _,SeqAt.RcNeAt.bool_none _⟩|bl b=>exact⟨SeqAt.RcAt.bool_bool _ _,SeqAt.RcNeAt.bool_bool _ _⟩|int i t=>exact⟨SeqAt.RcAt.bool_int _ _ _,bool_int _ _ _⟩|str i t=>exact⟨SeqAt.RcAt.bool_str _ _ _,bool_str _ _ _⟩|tup f _ _=>exact⟨SeqAt.RcAt.bool_tuple _ f c,SeqAt.RcNeAt.bool_tuple _ f c⟩|lst f _ _=>exact⟨SeqAt.RcAt.bool_list _ f c,SeqAt.RcNeAt.bool_list _ f c⟩
 |int i0 t0=>cases B with|non=>exact⟨SeqAt.RcAt.int_none _ _,int_none _ _⟩|bl b=>exact⟨SeqAt.RcAt.int_bool _ _ _,int_bool _ _ _⟩|int i t=>exact⟨SeqAt.RcAt.int_int _ _ _ _,int_int _ _ _ _⟩|str i t=>exact⟨SeqAt.RcAt.int_str _ _ _ _,SeqAt.RcNeAt.int_str _ _ _ _⟩|tup f _ _=>exact⟨SeqAt.RcAt.int_tuple _ _ f c,SeqAt.RcNeAt.int_tuple _ _ f c⟩|lst f _ _=>exact⟨SeqAt.RcAt.int_list _ _ f c,int_list _ _ f c⟩
 |str i0 t0=>cases B with|non=>exact⟨SeqAt.RcAt.str_none _ _,str_none _ _⟩|bl b=>exact⟨SeqAt.RcAt.str_bool _ _ _,str_bool _ _ _⟩|int i t=>exact⟨SeqAt.RcAt.str_int _ _ _ _,SeqAt.RcNeAt.str_int _ _ _ _⟩|str i t=>exact⟨SeqAt.RcAt.str_str _ _ _ _,str_str _ _ _ _⟩|tup f _ _=>exact⟨SeqAt.RcAt.str_tuple _ _ f c,SeqAt.RcNeAt.str_tuple _ _ f c⟩|lst f _ _=>exact⟨SeqAt.RcAt.str_list _ _ f c,str_list _ _ f c⟩
 |@tup a r xs ds f hv hr=>
   have C:ds.all (jm n)=ck:=by simpa[cB,bZ,cA,cC,cz,cu]using hd
   cases B with|non=>exact⟨SeqAt.RcAt.tuple_none f c,SeqAt.RcNeAt.tuple_none f c⟩|bl b=>exact⟨SeqAt.RcAt.tuple_bool _ f c,SeqAt.RcNeAt.tuple_bool _ f c⟩|int i t=>exact⟨SeqAt.RcAt.tuple_int _ _ f c,SeqAt.RcNeAt.tuple_int _ _ f c⟩|str i t=>exact⟨SeqAt.RcAt.tuple_str _ _ f c,SeqAt.RcNeAt.tuple_str _ _ f c⟩|lst l _ _=>exact⟨SeqAt.RcAt.tuple_list f l c,SeqAt.RcNeAt.tuple_list f l c⟩|@tup b u ys es l g h=>
     have E:es.all (jm n)=ck:=by simpa[cB,bZ,cA,cC,cz,cu]using he
     have l1:r.toArray.size=ds.length:=by rw[dP,<-hv.length,hr.length]
     have w:u.toArray.size=es.length:=by rw[dP,<-g.length,h.length]
     have G:=SeqAt.RcAt.tuples (A:=A) (e:=λj=>lX (ds.getD j .non) (es.getD j .non)) f l c λj o p=>z o p C E hv g hr h;have J:=SeqAt.RcNeAt.tuples (A:=A) (e:=λj=>lX (ds.getD j .non) (es.getD j .non)) f l c λj o p=>z o p C E hv g hr h;rw[l1,w]at G J;have e0:lX (.tup ds) (.tup es)=((dV (min ds.length es.length)).all (λj=>lX (ds.getD j .non) (es.getD j .non))&&ds.length==es.length):=by
      rw[pqt];by_cases q:ds.length=es.length;.rw[iJ q,q];simp
      . rw[kh q];have:(ds.length==es.length)=a_:=by simpa using q
        rw[this,nz]
     rw[e0];exact⟨G,J⟩
 |@lst a r xs ds f hv hr=>
   have C:ds.all (jm n)=ck:=by simpa[cB,bZ,cA,cC,cz,cu]using hd
   cases B with|non=>exact⟨SeqAt.RcAt.list_none f c,SeqAt.RcNeAt.list_none f c⟩|bl b=>exact⟨SeqAt.RcAt.list_bool _ f c,SeqAt.RcNeAt.list_bool _ f c⟩|int i t=>exact⟨SeqAt.RcAt.list_int _ _ f c,list_int _ _ f c⟩|str i t=>exact⟨SeqAt.RcAt.list_str _ _ f c,list_str _ _ f c⟩|tup l _ _=>exact⟨SeqAt.RcAt.list_tuple f l c,SeqAt.RcNeAt.list_tuple f l c⟩|@lst b u ys es l g h=>
     have E:es.all (jm n)=ck:=by simpa[cB,bZ,cA,cC,cz,cu]using he
     have l1:r.toArray.size=ds.length:=by rw[dP,<-hv.length,hr.length]
     have w:u.toArray.size=es.length:=by rw[dP,<-g.length,h.length]
     rw[pql];by_cases q:ds.length=es.length;.have G:=SeqAt.RcAt.lists (A:=A) (e:=λj=>lX (ds.getD j .non) (es.getD j .non)) f l (by rw[l1,w,q]) c λj o p=>z o p C E hv g hr h;have J:=SeqAt.RcNeAt.lists (A:=A) (e:=λj=>lX (ds.getD j .non) (es.getD j .non)) f l (by rw[l1,w,q]) c λj o p=>z o p C E hv g hr h;rw[l1]at G J;rw[iJ q];exact⟨G,J⟩
     .rw[kh q];exact⟨lists_lengths f l (by rw[l1,w];simpa using q) c,SeqAt.RcNeAt.lists_lengths f l (by rw[l1,w];simpa using q) c⟩
theorem gq(b:X.A.units+8<ia):ik X (eK .Eq) (rD X.K (p6 .eq)):=by rintro pins s σ H x y v u Q I c f⟨F,d,e,r,sm,g,h,he,k⟩;obtain⟨t,a,j⟩:=map_some (show(Hb d e).map _=aB r from he);subst j;unfold Hb at a;obtain⟨hd,a⟩:=bK a;rw[fE]at hd;subst a;exact(YH I sm (n:=7) b hd.1 hd.2 (v7 I sm hd.1 g c) (v7 I sm hd.2 h f)).1 _ _ _ _ ⟨.bl _,H,I,rfl,cX.eV sm (jq _) k⟩
theorem yU(b:X.A.units+8<ia):ik X (eK .NotEq) (rD X.K (p6 .ne)):=by rintro pins s σ H x y v u Q I c f⟨F,d,e,r,sm,g,h,he,k⟩;obtain⟨t,a,j⟩:=map_some (show(Hy d e).map _=aB r from he);subst j;unfold Hy at a;obtain⟨hd,a⟩:=bK a;rw[fE]at hd;subst a;exact(YH I sm (n:=7) b hd.1 hd.2 (v7 I sm hd.1 g c) (v7 I sm hd.2 h f)).2 _ _ _ _ ⟨.bl _,H,I,rfl,cX.eV sm (jq _) k⟩
end
section
variable{Pg:d_}{w:fb}{K:PySem.W.Frag}{mg:Str->Option c_}{base:fk}
theorem YW{qual:Str}{st:fR}{f:df}{fd:iF}{N ps:List Str}{k n:Nat}{c:Call}{d:Fd}(G:jw K x qual st f fd)(S:aU N ps (aK st))(h1:d.np=ps.length)(u:d.nn=N.length)(I:∀(cdv:c_)(A:e_)(outer:List Env)(s:dc)(H:Hp)(E:XK),j7 k (A.deeper (l5 qual (aK st) s.heap.objs.size f cdv))->SB (zE GX Pg w K mg base N qual (aK st) f cdv A outer s H E).Xi c n (iz st) d.body):oM Pg w K mg base GX (k+1) f fd ps (KN K ps.length (λargs=>enter c n d args)):=by
 refine G.ok S (λvs H Q E h=>h.1) λcdv A outer s H vs Q E hr h=>?_;obtain⟨y,F,args,r,o,g,e,q⟩:=h;refine⟨_,I cdv A outer s H E hr,?_⟩;replace e:enter c n d args=.ok r o:=e;unfold enter at e;split at e
 . rename_i hc;obtain⟨c1,c2⟩:=hc;have J:=g.more (n:=d.nn-d.np) (τ:=dA (N.length-vs.length) b_) (by simp[h1,u,y]);have p:args.length=d.np:=c1;have go:∀{t:Fl}{a:List Sl},ji c n d.body (args++dA (d.nn-d.np) .aM)=.ok t a->(∀l b j,bW K F (args++dA (d.nn-d.np) .aM) (start N vs) H l a b j->(match t with|.next=>Q .non j|.brk=>False|.cont=>False|.ret r=>∀v,dG K l a b j (args++dA (d.nn-d.np) .aM) (start N vs) H v r->Q v j))->tEx K (ji c n d.body) {nx:=λ_ j=>Q .non j,rt:=Q} (start N vs) H:=λ{t a}z k=>⟨F,_,t,a,J,z,λl b j s=>by have:=k l b j s;cases t<;>exact this⟩;split at e;.rename_i a z;cases e;refine go z λl b j s=>?_;obtain⟨B,C⟩:=bW.less (m:=d.np) p.symm g (by simp[h1,u,y]) s;exact q .non l _ j B (show Rep K l _ _ from Sh)
   .rename_i M a z;cases e;refine go z λl b j s v L=>?_;obtain⟨B,C⟩:=bW.less (m:=d.np) p.symm g (by simp[h1,u,y]) s;exact q v l _ j B (C v r L)
   .split at e<;>cases e
 .cases e
structure bD(Pg:d_)(w:fb)(K:PySem.W.Frag)(mg:Str->Option c_)(base:fk)(k:Nat)(c:Call)(i:Nat)(x:Str)(np:Nat):Prop where ex:∃fa fd qs,oM Pg w K mg base GX k fa fd qs (KN K qs.length (c i))/\mg x=aB (.ref fa)/\keepIn K (.ref fa)=ck/\Binds K fd qs []/\qs.length=np
end
section
variable{X:Cx}{c:Call}{n k:Nat}{e a b:ek}{es:List ek}{p pa pb:P}{ps:List P}{pos:Pos}
theorem sv(i:Nat)(g:X.N[i]?=aB x:=by rfl)(hv:u0 X.env.scope x:=by first|exact ei rfl|exact ef (ei rfl)|exact ef (ef rfl))(hd:(x==("__debug__":Str))=a_:=by rfl)(f:(x==("__classdict__":Str))=a_:=by rfl):SX X c (.Name x pos) (.var i):=QL g hv hd f
theorem dY{np:Nat}(C:bD X.prog X.w X.K X.mg X.base k c i x np)(hr:j7 k X.A)(g:SG X c (e::es) ps)(h:Gl X x:=by rfl)(j:(e::es).length=np:=by rfl)(hdb:(x==("__debug__":Str))=a_:=by rfl)(he:dy (e::es) X.env=(a_,fg e X.env)::dy es X.env:=by rfl)(hpl:(ka pos (dy es X.env)).any (·.1)=a_:=by rfl)(f:ps.length=(e::es).length:=by rfl):SX X c (.Call (.Name x p') (e::es) [] pos) (.call i ps):=by obtain⟨t,fd,u,h1,l,o,q,r⟩:=C.ex;exact MP h1 hr h l o q g (j.trans r.symm) hdb he hpl f
noncomputable def Qe(names outer:List (Str×kL))(N N':List Str)(n:Nat):Bool:=(names.all λy=>names.lookup y.1==aB y.2)&&(names.all λy=>y.2!=.local||names.lookup y.1==aB .local)&&(names.all λy=>y.2!=.free||outer.lookup y.1==aB .cell||outer.lookup y.1==aB .free)&&N'.length==N.length+n&&((N.zip N').all λp=>(p.1==p.2&&names.lookup p.2==aB .free)||(names.lookup p.2!=aB .local&&names.lookup p.2!=aB .cell&&names.lookup p.2!=aB .free))
theorem pO{scope:kB}{N':List Str}(g:scope.kind=.function)(h:Qe scope.names X.env.scope.names X.N N' n=ck):ie X scope N' n:=by
 unfold Qe at h;simp only[fE]at h;obtain⟨⟨⟨⟨h1,j⟩,l⟩,o⟩,q⟩:=h;refine⟨g,λy f=>eq_of_beq (eB.mp h1 y f),λy f e=>?_,λy f e=>?_,by simpa using o,q⟩;.have:=eB.mp j y f;rw[e]at this;simpa using this
 . have:=eB.mp l y f;rw[e]at this;simp only[kK]at this;rcases this with(z|z)|z;.cases z
   .exact .inl (eq_of_beq z)
   .exact .inr (eq_of_beq z)
theorem aY(h:j7 k A):A.units+8<ia:=by have:=h.un;lia
end
end _H
namespace PySem
section
variable{prog:d_}{w:fb}{A:e_}{E:c_->dc->Prop}{s:dc}
theorem jc{it l:df}{i:Nat}{items:Array c_}{x:c_}{Q:c_->dc->Prop}(a:s.heap.IsTupleIter it l i)(e:s.heap.IsTuple l items)(f:items[i]?=aB x)(g:∀h',h'.IsTupleIter it l (i+1)->n9 it s.heap h'->Q x {s with heap:=h'}):dL (dS prog w) A (lP (.ref it)) Q E s:=by obtain⟨o,ho,hc,hd⟩:=id a;obtain⟨h,b,_,j,c⟩:=e;unfold lP;refine bx (fy (name:=i3 "__next__") a.typeIs F.slot_tuple_iterator_next (fN F.slot_tuple_iterator_next a.typeIs F.entry_tuple_iterator_next ?_ (F.args_tuple_iterator_next_1 _)));show dL _ _ (p_ (.ref it) 0>>=_) _ _ s;refine bx (gl ho hd (x:=.ref l) rfl ?_);show dL _ _ (if(eW l==eR)=ck then _ else _) _ _ s;rw[if_neg (show ¬((eW l==eR)=ck)from eJ)];show dL _ _ (p_ (.ref it) 1>>=_) _ _ s;refine bx (gl ho hd (x:=.int i 0) rfl ?_);show dL _ _ (seqItems? (.ref l)>>=_) _ _ s;refine bx (hZ b c ?_);simp only[kH,f];refine bx (lz ho hd (by simp) (de ⟨x,rfl,de (g _ ?_ (jI ..))⟩));exact⟨_,kT _ ho (oT (kz hd _)),(Obj.cls_mapFields ..).trans hc,by rw[kz hd];simp[ku]⟩
theorem gC{it l:df}{i:Nat}{items:Array c_}{Q:c_->dc->Prop}(g:A.handled=b_)(b:s.heap.IsTupleIter it l i)(h:s.heap.IsTuple l items)(j:items[i]?=b_)(n:∀h' e,ExtBut it s.heap h'->(∃o,h'.get? e=aB o/\o.cls=.type "StopIteration")->E (.ref e) {s with heap:=h'}):dL (dS prog w) A (lP (.ref it)) Q E s:=by
 obtain⟨o,ho,hc,hd⟩:=id b;obtain⟨p,c,_,q,f⟩:=h;unfold lP;refine bx (fy (name:=i3 "__next__") b.typeIs F.slot_tuple_iterator_next (fN F.slot_tuple_iterator_next b.typeIs F.entry_tuple_iterator_next ?_ (F.args_tuple_iterator_next_1 _)));show dL _ _ (p_ (.ref it) 0>>=_) _ _ s;refine bx (gl ho hd (x:=.ref l) rfl ?_);show dL _ _ (if(eW l==eR)=ck then _ else _) _ _ s;rw[if_neg (show ¬((eW l==eR)=ck)from eJ)];show dL _ _ (p_ (.ref it) 1>>=_) _ _ s;refine bx (gl ho hd (x:=.int i 0) rfl ?_);show dL _ _ (seqItems? (.ref l)>>=_) _ _ s;refine bx (hZ c f ?_);simp only[kH,j];refine bx (ke (bx (lz ho hd (by simp) ?_)));show dL _ _ (newExc (.type "StopIteration") []>>=_) _ _ _;refine bx ?_;simp only[newExc,newTuple];refine bx (fh ?_ (by size_fits));refine bx (m:=lT _ _) (wpAny_of_eq (a:=eR) (by first|rfl|(simp only[lT];rfl)) ?_);refine fh ?_ (by size_fits);simp only[raiseNew];refine bx (wpAny_handled ?_);first|rw[show A.in1.handled=b_ from g]|rw[g]
 refine bx (de (wpAny_throw ?_));exact n _ _ (((jI ..).extBut.push _).push _) ⟨_,dE _ rfl,rfl⟩
end
theorem jX(l:df)(items:Array c_)(n:Nat)(b:Option df)(i:Array (Option c_)):mo (hY.«enumerate.__new__» ⟨[.type "enumerate",.ref l],[]⟩) (λ_ R s=>s.heap.get? l=aB {cls:=.type "tuple",dict:=b,data:=.seq items n,slots:=i}/\R (.ok (.ret (.ref (s.heap.push {cls:=.type "tuple_iterator",data:=.fields #[.ref l,.int 0 0]}).objs.size))) {s with heap:=(s.heap.push {cls:=.type "tuple_iterator",data:=.fields #[.ref l,.int 0 0]}).push {cls:=.type "enumerate",data:=.fields #[.none,.bool a_,.ref s.heap.objs.size,ku 0,.none,.none]}}):=.of_wp λprog w A R s h=>by
  obtain⟨j,g,d,m,os⟩:=s;obtain⟨a,h⟩:=h;have f:=sub_enumerate;have e:qS (iA ⟨j,g,d,m,os⟩) l items:=⟨_,a,rfl,n,rfl⟩;wp_walk using gb a;refine wpAny_stack_any λst=>de ?_;split
  . rename_i c _ _ _ _ _;cases(c==hX "enumerate");.wp_walk using gb a,gd e;exact⟨_,rfl,h⟩
    .wp_walk using gb a,gd e;exact⟨_,rfl,h⟩
  .wp_walk using gb a,gd e;exact⟨_,rfl,h⟩
section
variable{prog:d_}{w:fb}{A:e_}{E:c_->dc->Prop}{s:dc}
theorem j9{l:df}{items:Array c_}{Q:c_->dc->Prop}(f:s.heap.IsTuple l items)(h:∀ h',IsEnum h' (s.heap.objs.size+1) s.heap.objs.size 0 .none->h'.IsTupleIter s.heap.objs.size l 0->h'.objs.size=s.heap.objs.size+2->(∀b o,s.heap.get? b=aB o->h'.get? b=aB o)->Q (.ref (s.heap.objs.size+1)) {s with heap:=h'}):dL (dS prog w) A (call (.type "enumerate") [.ref l]) Q E s:=by
 obtain⟨⟨c,a,g,i⟩,j,hc,n,hd⟩:=f;replace hc:c=.type "tuple":=hc;replace hd:g=.seq items n:=hd;subst hc hd;refine lf F.called_enumerate (by decide) (F.typeCall_enumerate_1 _) (F.newCall_enumerate_1 _) (λobj=>F.args_object_init_2 obj _) F.entry_enumerate_new (jX l items n a i) ⟨j,?_⟩;have e:(s.heap.push {cls:=.type "tuple_iterator",data:=.fields #[.ref l,.int 0 0]}).objs.size=s.heap.objs.size+1:=eS ..;show _/\_;rw[e];have he:IsEnum ((s.heap.push {cls:=.type "tuple_iterator",data:=.fields #[.ref l,.int 0 0]}).push {cls:=.type "enumerate",data:=.fields #[.none,.bool a_,.ref s.heap.objs.size,ku 0,.none,.none]}) (s.heap.objs.size+1) s.heap.objs.size 0 .none:=by have:=dE (s.heap.push {cls:=.type "tuple_iterator",data:=.fields #[.ref l,.int 0 0]}) (o:={cls:=.type "enumerate",data:=.fields #[.none,.bool a_,.ref s.heap.objs.size,ku 0,.none,.none]}) rfl;rw[e]at this;exact this
 refine⟨⟨_,he,rfl⟩,h _ he ⟨_,fK (dE _ rfl),rfl,rfl⟩ (by rw[eS,e]) λb o x=>fK (fK x)⟩
end
end PySem
namespace _L
open PySem Spec PyProof.Rows
variable{prog:d_}{w:fb}{A:e_}
section
variable{X:Cx}{pins:List (df×Obj)}{σ:_L.St}{H:Hp}{s:dc}
theorem Inv.Aw{ch:List df}{h':fk}{o:HO}{t':Nat}(I:Inv X pins σ H s)(k:∀b u,b∉ch->s.heap.get? b=aB u->h'.get? b=aB u)(j:∀b∈ch,∃u,h'.get? b=aB u)(g:∀b∈ch,oW X pins H b)(h:cJ X.prog X.w (upd H s.heap.objs.size o) h' s.heap.objs.size o):Inv X pins σ (upd H s.heap.objs.size o) {s with heap:=h',toks:=t'}:=by
 have fr:H s.heap.objs.size=b_:=I.hok.fresh (dW);have i:∀b u,H b=aB u->b∉ch:=λb u e a=>by rw[(g b a).1]at e;cases e
 have up:∀b u,H b=aB u->upd H s.heap.objs.size o b=aB u:=λb u e=>by
  have:b≠s.heap.objs.size:=by rintro rfl;rw[fr]at e;cases e
  rw[aL this];exact e
 refine I.call (g':=s.gens) (d':=s.drawn) (ch:=ch) ⟨λb u e n _ f=>k b u f e,λb u e n _ f=>⟨u.slots,k b u f e⟩,λb u e n f=>?_,λb u e f=>⟨u,k b u f e⟩,λb xs e=>up b _ e,λb l u e=>up b _ e,λb ps e=>⟨#[],by rw[up b _ e];simp⟩⟩ ?_ I.bare λb a=>⟨(g b a).2.2.2.1,(g b a).2.1,(g b a).2.2.2.2.1,(g b a).2.2.2.2.2⟩;.have:b≠s.heap.objs.size:=eH (ej e);rw[aL this];exact n
 . intro b u e;by_cases a:b=s.heap.objs.size;.subst a;rw[aW]at e;cases e;exact h
   . rw[aL a]at e;refine(I.hok b u e).stay (λc v hc q=>k c v ?_ q) (λc q=>up c _ q) λc xs q=>up c _ q;rcases hc with rfl|hc;.exact i _ _ e
     .exact i _ _ hc
end
noncomputable def zK(K:PySem.W.Frag)(a:df):It:=⟨λi H=>∃xs x,fL K H a xs/\xs[i]?=aB x,λi H x b=>∃T v,H T=b_/\x=.ref T/\b=upd H T (.tup [.int (i:Int),v])/\∀xs,fL K H a xs->xs[i]?=aB v,λi H=>∃xs,fL K H a xs/\xs.length<=i⟩
theorem T5(f:A.handled=b_)(it l:df)(c:l≠it)(items:Array c_):Draws prog w A it [it,l] items.size (λi v=>items[i]?=aB v) (λi h=>h.IsListIter it l i/\h.IsList l items)where
 live:=λ_ _ st=>let⟨o,ho,_⟩:=st.1;⟨o,ho⟩;frame:=λ_ _ _ st e=>⟨(let⟨o,ho,r⟩:=st.1;⟨o,e it (by simp) o ho,r⟩),(let⟨o,ho,r⟩:=st.2;⟨o,e l (by simp) o ho,r⟩)⟩;item:=λi s Q E hi st g=>by refine qo st.1 st.2 (x:=items[i]) (by simp[hi]) λh' a b=>?_;exact g _ h' s.toks (by simp[hi]) ⟨a,(let⟨o,ho,r⟩:=st.2;⟨o,b.extBut l o c ho,r⟩)⟩ b
 done:=λs Q E st j=>lj f st.1 st.2 (by simp) j
theorem DP(b:A.handled=b_)(it l:df)(items:Array c_)(n:Nat)(hn:items.size<=n):Draws prog w A it [it,l] n (λ_ _=>True) (λi h=>i=n/\h.IsListIter it l i/\h.IsList l items)where live:=λ_ _ st=>let⟨o,ho,_⟩:=st.2.1;⟨o,ho⟩;frame:=λ_ _ _ st a=>⟨st.1,(let⟨o,ho,r⟩:=st.2.1;⟨o,a it (by simp) o ho,r⟩),(let⟨o,ho,r⟩:=st.2.2;⟨o,a l (by simp) o ho,r⟩)⟩;item:=λi s Q E hi st e=>absurd st.1 (eH hi);done:=λs Q E st c=>lj b st.2.1 st.2.2 (by simp;exact hn) c
theorem Ft{P:d_}{K:PySem.W.Frag}{p:List ek}{x1}{tp:Pos}(a it e:df)(m:e≠it):Turn P w K (.Tuple p x1 tp) (zK K a) [e,it] e (λi h=>(∃g,IsEnum h e it (i:Int) g)/\h.IsListIter it a i)where
 mem:=by simp
 obj:=λi h st b hb=>by
  obtain⟨⟨g,h1⟩,o,j,G,h4⟩:=st;rcases et.mp hb with rfl|hb;.exact⟨_,h1,λv z=>by cases z⟩
  . have:b=it:=by simpa using hb
    subst this;exact⟨o,j,λv z=>by rw[h4]at z;cases z⟩
 keep:=λi h h' st k=>by obtain⟨⟨g,h1⟩,o,j,G⟩:=st;exact⟨⟨g,k e (by simp) _ h1⟩,o,k it (by simp) _ j,G⟩
 item:=λX Z hw hK hc i t s σ H E I J st go=>by
  subst Z hw hK;obtain⟨⟨g,he⟩,l⟩:=st;obtain⟨xs,x,L,B⟩:=go;obtain⟨c,M,pl,hz⟩:=I.list L;have N:s.heap.IsList a c.toArray:=pl.isList;obtain⟨oa,O,n,_⟩:=id N;have ab:e≠a:=by rintro rfl;rw[he]at O;cases O;exact absurd (show hX "enumerate"=hX _ from n) (by decide)
  have ac:a≠it:=by rintro rfl;obtain⟨o,j,G,_⟩:=id l;rw[j]at O;cases O;rw[G]at n;exact absurd n (by decide)
  have ae:i<c.toArray.size:=by rw[dP,<-M.length];exact(fZ B).1
  refine p9 (T5 (show X.A.in1.handled=b_ from I.ok.hd hc) it a ac c.toArray) he ⟨l,N⟩ ae m (by simp[m,ab]) λy h' tk U af C ht hsz kp=>?_;refine⟨_,rfl,ol af λF Kl Y=>?_⟩;obtain⟨u,ag,ah⟩:=M.get B;have ai:y=u:=by
   have U:c[i]?=aB y:=by simpa using U
   rw[ag]at U;cases U;rfl
  subst ai;have hT:∀b∈[e,it],b≠s.heap.objs.size:=λb hb=>by
   rcases et.mp hb with rfl|hb;.exact eH (ej he)
   . have:b=it:=by simpa using hb
     subst this;obtain⟨o,j,_⟩:=id l;exact eH (ej j)
  have am:s.heap.objs.size≠e:=(hT e (by simp)).symm;have Wm:∀b o,b∉[e,it]->s.heap.get? b=aB o->F.get? b=aB o:=λb o hb q=>by have h1:b≠e:=λz=>hb (by simp[z]);have j:b≠it:=λz=>hb (by simp[z]);exact Y.extBut b o h1 (kp b o h1 j q)
  have yH:F.get? s.heap.objs.size=aB {cls:=.type "tuple",data:=.seq #[.int i tk,y]}:=Y.extBut _ _ am ht;refine⟨.ref s.heap.objs.size,upd H s.heap.objs.size (.tup [.int (i:Int),x]),?_,rfl,⟨_,x,I.fresh,rfl,rfl,λys ap=>?_⟩,⟨⟨_,Kl⟩,?_⟩,λb hb=>?_⟩
  . refine I.Aw (ch:=[e,it]) (t':=tk+1) Wm (λb hb=>?_) (λb hb=>(J b hb)) ⟨(by show 2<=sizeLine;decide),[.int i tk,y],.cons ⟨_,rfl⟩ (.cons ah .nil),⟨_,yH,rfl,_,rfl⟩⟩;rcases et.mp hb with rfl|hb;.exact⟨_,Kl⟩
    . have:b=it:=by simpa using hb
      subst this;obtain⟨o,j,_⟩:=id C.1;exact⟨o,Y.extBut _ _ (iE m) j⟩
  .rw[I.nT ap L];exact B
  .obtain⟨o,j,r⟩:=C.1;exact⟨o,Y.extBut _ _ (iE m) j,r⟩
  .rw[aL (hT b hb)];exact(J b hb).1
 done:=λX Z hw hK hc i t s σ H E I J st stop=>by subst Z hw hK;obtain⟨⟨g,he⟩,l⟩:=st;obtain⟨xs,L,B⟩:=stop;obtain⟨c,M,pl,hz⟩:=I.list L;have N:s.heap.IsList a c.toArray:=pl.isList;refine qk (DP (show X.A.in1.handled=b_ from I.ok.hd hc) it a c.toArray i (by rw[dP,<-M.length];exact B)) he ⟨rfl,l,N⟩ λh' hs=>⟨rfl,?_⟩;have f:=J it (by simp);exact I.turned (t':=s.toks) (λb o hb q=>hs b o hb q) f.1 f.2.1 f.2.2.2.1 f.2.2.2.2.1 f.2.2.2.2.2
 self:=λA i s Q E st q=>mM st.1.choose_spec q
noncomputable def Ah(K:PySem.W.Frag)(a:df):It:=⟨λi H=>∃xs x,jl K H a xs/\xs[i]?=aB x,λi H x b=>∃T v,H T=b_/\x=.ref T/\b=upd H T (.tup [.int (i:Int),v])/\∀xs,jl K H a xs->xs[i]?=aB v,λi H=>∃xs,jl K H a xs/\xs.length<=i⟩
theorem Tc(f:A.handled=b_)(it l:df)(c:l≠it)(items:Array c_):Draws prog w A it [it,l] items.size (λi v=>items[i]?=aB v) (λi h=>h.IsTupleIter it l i/\h.IsTuple l items)where
 live:=λ_ _ st=>let⟨o,ho,_⟩:=st.1;⟨o,ho⟩;frame:=λ_ _ _ st e=>⟨(let⟨o,ho,r⟩:=st.1;⟨o,e it (by simp) o ho,r⟩),(let⟨o,ho,r⟩:=st.2;⟨o,e l (by simp) o ho,r⟩)⟩;item:=λi s Q E hi st g=>by refine jc st.1 st.2 (x:=items[i]) (by simp[hi]) λh' a b=>?_;exact g _ h' s.toks (by simp[hi]) ⟨a,(let⟨o,ho,r⟩:=st.2;⟨o,b.extBut l o c ho,r⟩)⟩ b
 done:=λs Q E st j=>gC f st.1 st.2 (by simp) j
theorem Ew(b:A.handled=b_)(it l:df)(items:Array c_)(n:Nat)(hn:items.size<=n):Draws prog w A it [it,l] n (λ_ _=>True) (λi h=>i=n/\h.IsTupleIter it l i/\h.IsTuple l items)where live:=λ_ _ st=>let⟨o,ho,_⟩:=st.2.1;⟨o,ho⟩;frame:=λ_ _ _ st a=>⟨st.1,(let⟨o,ho,r⟩:=st.2.1;⟨o,a it (by simp) o ho,r⟩),(let⟨o,ho,r⟩:=st.2.2;⟨o,a l (by simp) o ho,r⟩)⟩;item:=λi s Q E hi st e=>absurd st.1 (eH hi);done:=λs Q E st c=>gC b st.2.1 st.2.2 (by simp;exact hn) c
theorem Dw{P:d_}{K:PySem.W.Frag}{p:List ek}{x1}{tp:Pos}(a it e:df)(m:e≠it):Turn P w K (.Tuple p x1 tp) (Ah K a) [e,it] e (λi h=>(∃g,IsEnum h e it (i:Int) g)/\h.IsTupleIter it a i)where
 mem:=by simp
 obj:=λi h st b hb=>by
  obtain⟨⟨g,h1⟩,o,j,G,h4⟩:=st;rcases et.mp hb with rfl|hb;.exact⟨_,h1,λv z=>by cases z⟩
  . have:b=it:=by simpa using hb
    subst this;exact⟨o,j,λv z=>by rw[h4]at z;cases z⟩
 keep:=λi h h' st k=>by obtain⟨⟨g,h1⟩,o,j,G⟩:=st;exact⟨⟨g,k e (by simp) _ h1⟩,o,k it (by simp) _ j,G⟩
 item:=λX Z hw hK hc i t s σ H E I J st go=>by
  subst Z hw hK;obtain⟨⟨g,he⟩,l⟩:=st;obtain⟨xs,x,L,B⟩:=go;obtain⟨c,M,pl,hz⟩:=I.tuple L;have N:s.heap.IsTuple a c.toArray:=pl;obtain⟨oa,O,n,_⟩:=id N;have ab:e≠a:=by rintro rfl;rw[he]at O;cases O;exact absurd (show hX "enumerate"=hX _ from n) (by decide)
  have ac:a≠it:=by rintro rfl;obtain⟨o,j,G,_⟩:=id l;rw[j]at O;cases O;rw[G]at n;exact absurd n (by decide)
  have ae:i<c.toArray.size:=by rw[dP,<-M.length];exact(fZ B).1
  refine p9 (Tc (show X.A.in1.handled=b_ from I.ok.hd hc) it a ac c.toArray) he ⟨l,N⟩ ae m (by simp[m,ab]) λy h' tk U af C ht hsz kp=>?_;refine⟨_,rfl,ol af λF Kl Y=>?_⟩;obtain⟨u,ag,ah⟩:=M.get B;have ai:y=u:=by
   have U:c[i]?=aB y:=by simpa using U
   rw[ag]at U;cases U;rfl
  subst ai;have hT:∀b∈[e,it],b≠s.heap.objs.size:=λb hb=>by
   rcases et.mp hb with rfl|hb;.exact eH (ej he)
   . have:b=it:=by simpa using hb
     subst this;obtain⟨o,j,_⟩:=id l;exact eH (ej j)
  have am:s.heap.objs.size≠e:=(hT e (by simp)).symm;have Wm:∀b o,b∉[e,it]->s.heap.get? b=aB o->F.get? b=aB o:=λb o hb q=>by have h1:b≠e:=λz=>hb (by simp[z]);have j:b≠it:=λz=>hb (by simp[z]);exact Y.extBut b o h1 (kp b o h1 j q)
  have yH:F.get? s.heap.objs.size=aB {cls:=.type "tuple",data:=.seq #[.int i tk,y]}:=Y.extBut _ _ am ht;refine⟨.ref s.heap.objs.size,upd H s.heap.objs.size (.tup [.int (i:Int),x]),?_,rfl,⟨_,x,I.fresh,rfl,rfl,λys ap=>?_⟩,⟨⟨_,Kl⟩,?_⟩,λb hb=>?_⟩
  . refine I.Aw (ch:=[e,it]) (t':=tk+1) Wm (λb hb=>?_) (λb hb=>(J b hb)) ⟨(by show 2<=sizeLine;decide),[.int i tk,y],.cons ⟨_,rfl⟩ (.cons ah .nil),⟨_,yH,rfl,_,rfl⟩⟩;rcases et.mp hb with rfl|hb;.exact⟨_,Kl⟩
    . have:b=it:=by simpa using hb
      subst this;obtain⟨o,j,_⟩:=id C.1;exact⟨o,Y.extBut _ _ (iE m) j⟩
  .rw[I.lO ap L];exact B
  .obtain⟨o,j,r⟩:=C.1;exact⟨o,Y.extBut _ _ (iE m) j,r⟩
  .rw[aL (hT b hb)];exact(J b hb).1
 done:=λX Z hw hK hc i t s σ H E I J st stop=>by subst Z hw hK;obtain⟨⟨g,he⟩,l⟩:=st;obtain⟨xs,L,B⟩:=stop;obtain⟨c,M,pl,hz⟩:=I.tuple L;have N:s.heap.IsTuple a c.toArray:=pl;refine qk (Ew (show X.A.in1.handled=b_ from I.ok.hd hc) it a c.toArray i (by rw[dP,<-M.length];exact B)) he ⟨rfl,l,N⟩ λh' hs=>⟨rfl,?_⟩;have f:=J it (by simp);exact I.turned (t':=s.toks) (λb o hb q=>hs b o hb q) f.1 f.2.1 f.2.2.2.1 f.2.2.2.2.1 f.2.2.2.2.2
 self:=λA i s Q E st q=>mM st.1.choose_spec q
section
variable{X:Cx}{elts:List ek}{x1:Nat}{tp:Pos}
noncomputable def acp(K:PySem.W.Frag)(tl:TE):TI:=λσ H R=>tl σ H λx b=>∃a,x=.ref a/\(((∃xs,fL K b a xs)/\R (zK K a) b)\/((∃xs,jl K b a xs)/\R (Ah K a) b))
theorem boot_enumerate:fw "enumerate"=aB (.type "enumerate"):=by decide+kernel
theorem RN{a:ek}{t:TE}{p pos:Pos}(v:Gl X "enumerate")(y:X.mg "enumerate"=b_)(z:PE X a t)(hs:dy [a] X.env=[(a_,fg a X.env)]:=by rfl):PI X (.Tuple elts x1 tp) (.Call (.Name "enumerate" p) [a] [] pos) (acp X.K t):=by
 intro e s σ H R I h;refine Call_ (j6 I v y boot_enumerate (fS (dC ((dm z iG hs) pos e s σ H (λvs c=>match vs with|[x]=>∃a,x=.ref a/\(((∃xs,fL X.K c a xs)/\R (zK X.K a) c)\/((∃xs,jl X.K c a xs)/\R (Ah X.K a) c))|_=>False) I h) ?_) hs rfl));rintro F s1⟨vs,c,f,r1,j⟩
 . obtain⟨ad,q,l⟩:∃ad,(((∃xs,fL X.K c ad xs)/\R (zK X.K ad) c)\/((∃xs,jl X.K c ad xs)/\R (Ah X.K ad) c))/\vs=[.ref ad]:=by cases vs with|nil=>cases j|cons x r=>cases r with|nil=>obtain⟨ad,rfl,q⟩:=j;exact⟨ad,q,rfl⟩|cons _ _=>cases j
   subst l;obtain⟨u,rfl,B⟩:=r1.one;cases B;have fin:∀(h':fk)(i:Nat->fk->Prop)(J:It),Turn X.prog X.w X.K (.Tuple elts x1 tp) J [s1.heap.objs.size+1,s1.heap.objs.size] (s1.heap.objs.size+1) i->i 0 h'->IsEnum h' (s1.heap.objs.size+1) s1.heap.objs.size 0 .none->(∀b o,s1.heap.get? b=aB o->h'.get? b=aB o)->R J c->dL (dS X.prog X.w) X.A (om (.ref (s1.heap.objs.size+1))) (PIE X e σ (.Tuple elts x1 tp) R) X.xe {s1 with heap:=h'}:=λh' i J T t0 he kp q=>by
    refine mM he ⟨_,_,i,J,c,rfl,f.kept (t':=s1.toks) kp,T,t0,λb hb=>?_,q⟩;have g:s1.heap.objs.size<=b:=by
     rcases et.mp hb with rfl|hb;.exact le_succ _
     . have:b=s1.heap.objs.size:=by simpa using hb
       rw[this];exact dW
    exact f.zm g (f.hok.fresh g)
   rcases q with⟨⟨xs,m⟩,q⟩|⟨⟨xs,m⟩,q⟩;.obtain⟨n,C,pl,E⟩:=f.list m;exact call_enumerate_list pl.isList λh' he hi hsz kp=>fin h' _ _ (Ft ad s1.heap.objs.size (s1.heap.objs.size+1) (Nat.succ_ne_self _)) ⟨⟨_,he⟩,hi⟩ he kp q
   .obtain⟨n,C,pl,E⟩:=f.tuple m;exact j9 pl λh' he hi hsz kp=>fin h' _ _ (Dw ad s1.heap.objs.size (s1.heap.objs.size+1) (Nat.succ_ne_self _)) ⟨⟨_,he⟩,hi⟩ he kp q
end
end _L
namespace _H
open PySem _L Spec PyProof.Rows
section
variable{K:PySem.W.Frag}{F F1 H H1:Hp}{ρ ρ1:List Sl}{σ:_L.St}{ds:List D}{a:df}
theorem rC{c e:Hp}{T:df}{v w:V}{d1 d2:D}(sm:aP c e)(hT:e T=b_)(r1:Rep K c v d1)(g:Rep K c w d2):∃b,Ext c e b (upd e T (.tup [v,w]))/\Rep K b (.ref T) (.tup [d1,d2]):=Ep (Q:=λv f=>∃b,Ext c e b f/\Rep K b v (.tup [d1,d2])) sm (.cons r1 (.cons g .nil)) hT λv b f x h=>⟨b,x,h⟩
theorem Js{xs:List V}{e b:Hp}(f:fL K b a xs)(r:aN K e xs ds)(s:aP e b)(k:Nat):(∀d,(ds.mapIdx λi d=>D.tup [.int (i:Int),d])[k]?=aB d->(zK K a).go k b/\∀x g,(zK K a).Kc k b x g->∃c,Ext e b c g/\Rep K c x d)/\((ds.mapIdx λi d=>D.tup [.int (i:Int),d]).length<=k->(zK K a).stop k b):=by refine⟨λd hd=>?_,λh=>⟨xs,f,by rw[r.length];simpa using h⟩⟩;rw[po]at hd;obtain⟨d0,j,l⟩:=map_some hd;subst l;obtain⟨w,h1,m⟩:=r.get j;refine⟨⟨xs,w,f,h1⟩,?_⟩;rintro x g⟨T,v,hT,n,o,y⟩;subst n;subst o;have:=y xs f;rw[h1]at this;cases this;exact rC s hT (bM _) m
theorem Hf{xs:List V}{e b:Hp}(f:jl K b a xs)(r:aN K e xs ds)(s:aP e b)(k:Nat):(∀d,(ds.mapIdx λi d=>D.tup [.int (i:Int),d])[k]?=aB d->(Ah K a).go k b/\∀x g,(Ah K a).Kc k b x g->∃c,Ext e b c g/\Rep K c x d)/\((ds.mapIdx λi d=>D.tup [.int (i:Int),d]).length<=k->(Ah K a).stop k b):=by refine⟨λd hd=>?_,λh=>⟨xs,f,by rw[r.length];simpa using h⟩⟩;rw[po]at hd;obtain⟨d0,j,l⟩:=map_some hd;subst l;obtain⟨w,h1,m⟩:=r.get j;refine⟨⟨xs,w,f,h1⟩,?_⟩;rintro x g⟨T,v,hT,n,o,y⟩;subst n;subst o;have:=y xs f;rw[h1]at this;cases this;exact rC s hT (bM _) m
end
section
variable{X:Cx}{c:Call}{e a:ek}{pa:P}{pos:Pos}{elts:List ek}{x1:Nat}{tp:Pos}
theorem RL{x:Str}{A:Pos}(B:x="enumerate")(C:Gl X x)(E:X.mg x=b_)(G:SX X c a pa)(hs:dy [a] X.env=[(a_,fg a X.env)]:=by rfl):SI X c (.Tuple elts x1 tp) (.Call (.Name x A) [a] [] pos) (.Zx pa):=by subst B;refine mX (RN C E G.ev hs) ?_;rintro σ H R⟨F,ρ,Q,I,g,e,k⟩;obtain⟨r,J,w,j⟩:=aj e;have m:=aH j;clear j;obtain⟨j,L⟩:=m;subst L;rw[_H.E21]at w;obtain⟨r0,h,M,l⟩:=aj w;have m:=aH l;clear l;obtain⟨l,N⟩:=m;subst N;obtain⟨es,f1,f2⟩:=map_some l;subst f2;cases j;refine⟨F,ρ,r0,_,g,M,λv y z s i=>?_⟩;obtain⟨U,s2,_,f⟩:=s.fO i;cases hd:r0.d with|tup o=>rw[hd]at f1 f;cases f1;rw[Rep]at f;obtain⟨ad,xs,rfl,h1,p⟩:=f;exact⟨ad,rfl,.inr ⟨⟨xs,aP.iI s2.gs.sub h1⟩,k _ _ _ ⟨s2.gs,λn k y q t z b=>Hf (aP.iI b.gs.sub (aP.iI b.cD h1)) (p.mono b.cD) b.gs.sub k,λF3 h u O s3=>⟨s2.trans s3,λv r i=>i.later s2⟩⟩⟩⟩|lst o=>rw[hd]at f1 f;cases f1;rw[Rep]at f;obtain⟨ad,xs,rfl,h1,p⟩:=f;exact⟨ad,rfl,.inl ⟨⟨xs,s2.gs.sub.seq h1⟩,k _ _ _ ⟨s2.gs,λn k y q t z b=>Js (b.gs.sub.seq (b.cD.seq h1)) (p.mono b.cD) b.gs.sub k,λF3 h u O s3=>⟨s2.trans s3,λv r i=>i.later s2⟩⟩⟩⟩|_=>rw[hd]at f1;cases f1
end
end _H
namespace PySem
structure Nx(prog:d_)(w:fb)(A:e_)(it src:df)(Sx:Nat->fk->Prop)(get:Nat->Option c_):Prop where
 obj:∀k h,Sx k h->∃o,h.get? it=aB o/\∀v,o.data≠.cell v
 keep:∀k h h',Sx k h->(∀o,h.get? it=aB o->h'.get? it=aB o)->(∀o,h.get? src=aB o->h'.get? src=aB o)->Sx k h'
 item:∀k(s:dc)(Q:c_->dc->Prop)(E:c_->dc->Prop)x,Sx k s.heap->get k=aB x->(∀h',Sx (k+1) h'->n9 it s.heap h'->Q x {s with heap:=h'})->dL (dS prog w) A (lP (.ref it)) Q E s
 fin:∀k(s:dc)(Q:c_->dc->Prop)(E:c_->dc->Prop),Sx k s.heap->get k=b_->(∀h' e,ExtBut it s.heap h'->(∃o,h'.get? e=aB o/\o.cls=.type "StopIteration")->E (.ref e) {s with heap:=h'})->dL (dS prog w) A (lP (.ref it)) Q E s
variable{Q:c_->dc->Prop}{l1 l2:df}{xs ys:Array c_}
section
variable{prog:d_}{w:fb}{A:e_}{E:c_->dc->Prop}{s:dc}
theorem Nx.list(g:A.handled=b_)(it l:df)(c:l≠it)(items:Array c_):Nx prog w A it l (λk h=>h.IsListIter it l k/\h.IsList l items) (λk=>items[k]?)where obj:=λk h st=>let⟨o,h1,_,h3⟩:=st.1;⟨o,h1,λv z=>by rw[h3]at z;cases z⟩;keep:=λk h h' st a b=>⟨(let⟨o,ho,r⟩:=st.1;⟨o,a o ho,r⟩),(let⟨o,ho,r⟩:=st.2;⟨o,b o ho,r⟩)⟩;item:=λk s Q E x st e i=>qo st.1 st.2 e λh' f hs=>i h' ⟨f,(let⟨o,ho,r⟩:=st.2;⟨o,hs.extBut l o c ho,r⟩)⟩ hs;fin:=λk s Q E st e j=>lj g st.1 st.2 e j
theorem Nx.tuple(g:A.handled=b_)(it l:df)(c:l≠it)(items:Array c_):Nx prog w A it l (λk h=>h.IsTupleIter it l k/\h.IsTuple l items) (λk=>items[k]?)where obj:=λk h st=>let⟨o,h1,_,h3⟩:=st.1;⟨o,h1,λv z=>by rw[h3]at z;cases z⟩;keep:=λk h h' st a b=>⟨(let⟨o,ho,r⟩:=st.1;⟨o,a o ho,r⟩),(let⟨o,ho,r⟩:=st.2;⟨o,b o ho,r⟩)⟩;item:=λk s Q E x st e i=>jc st.1 st.2 e λh' f hs=>i h' ⟨f,(let⟨o,ho,r⟩:=st.2;⟨o,hs.extBut l o c ho,r⟩)⟩ hs;fin:=λk s Q E st e j=>gC g st.1 st.2 e j
variable{z TI TO i1 i2 l1 l2:df}{k:Nat}{S1 S2:Nat->fk->Prop}{g1 g2:Nat->Option c_}{a b:c_}
theorem Eo{x y:c_}(D:l6 z TI TO i1 i2 l1 l2)(t:Nx prog w A i1 l1 S1 g1)(u:Nx prog w A i2 l2 S2 g2)(p:kd s.heap z TI TO .none)(F:gx s.heap TI (.ref i1) (.ref i2))(G:gx s.heap TO a b)(h1:S1 k s.heap)(X:S2 k s.heap)(Y:g1 k=aB x)(Z:g2 k=aB y)(hQ:∀ h',kd h' z TI TO (ku s.heap.objs.size)->gx h' TO x y->S1 (k+1) h'->S2 (k+1) h'->gx h' s.heap.objs.size x y->h'.objs.size=s.heap.objs.size+1->(∀c o,c≠z->c≠TO->c≠i1->c≠i2->s.heap.get? c=aB o->h'.get? c=aB o)->Q (.ref s.heap.objs.size) {s with heap:=h'}):dL (dS prog w) A (hY.«zip.__next__» ⟨[.ref z],[]⟩) (λfin s'=>∃v,fin=.done (.ret v)/\Q v s') E s:=by
 show dL _ _ (p_ (.ref z) 2>>=_) _ _ _;refine bx (gl p rfl (x:=.bool a_) rfl ?_);show dL _ _ (p_ (.ref z) 3>>=_) _ _ _;refine bx (gl p rfl (x:=.ref TI) rfl (bx (hZ F rfl ?_)));show dL _ _ (k4 (.ref z)>>=_) _ _ _;refine bx ?_;unfold k4;refine bx (gl p rfl (x:=.none) rfl (de ?_));simp only[if_true];refine bx (ke (bx (gl p rfl (x:=.ref TO) rfl (bx (ij p (by simp) λt1 H g=>?_)))));have H:kd t1 z TI TO .ellipsis:=H;refine bx ?_;simp only[List.zipIdx_cons,List.zipIdx_nil,forIn_cons,forIn_nil];refine bx (bx (mh ?_));show dL _ _ (lP (.ref i1)>>=_) _ _ _;have q1:S1 k t1:=t.keep _ _ _ h1 (λo e=>g.extBut _ _ D.i1z e) λo e=>g.extBut _ _ D.l1z e;refine bx (t.item k _ _ _ x q1 Y λt2 q2 m=>de ?_);have L:gx t2 TO a b:=m.extBut _ _ D.TOi1 (g.extBut _ _ D.TOz G);refine bx (hZ L rfl (bx (ly L λM I h=>?_)));have I:gx M TO x b:=I;refine bx (rb (de (bx (bx (mh ?_)))));show dL _ _ (lP (.ref i2)>>=_) _ _ _;have w3:S2 k M:=u.keep _ _ _ X (λo e=>h.extBut _ _ D.TOi2.symm (m.extBut _ _ D.i12.symm (g.extBut _ _ D.i2z e))) λo e=>h.extBut _ _ D.l2TO (m.extBut _ _ D.l2i1 (g.extBut _ _ D.l2z e));refine bx (u.item k _ _ _ y w3 Z λt4 w4 n=>de ?_);have N:gx t4 TO x b:=n.extBut _ _ D.TOi2 I;refine bx (hZ N rfl (bx (ly N λf B i=>?_)));have B:gx f TO x y:=B;refine bx (rb (de (de (bx (hZ B rfl (bx (wpAny_newTuple ?_)))))));have hsz:f.objs.size=s.heap.objs.size:=by rw[i.1,n.1,h.1,m.1,g.1]
 have O:kd f z TI TO .ellipsis:=i.extBut _ _ D.TOz.symm (n.extBut _ _ D.i2z.symm (h.extBut _ _ D.TOz.symm (m.extBut _ _ D.i1z.symm H)));have kp:∀c o,c≠z->c≠TO->c≠i1->c≠i2->s.heap.get? c=aB o->f.get? c=aB o:=λc o c1 c2 c3 c4 e=>i.extBut _ _ c2 (n.extBut _ _ c4 (h.extBut _ _ c2 (m.extBut _ _ c3 (g.extBut _ _ c1 e))));have q5:S1 (k+1) f:=t.keep _ _ _ q2 (λo e=>i.extBut _ _ D.TOi1.symm (n.extBut _ _ D.i12 (h.extBut _ _ D.TOi1.symm e))) λo e=>i.extBut _ _ D.l1TO (n.extBut _ _ D.l1i2 (h.extBut _ _ D.l1TO e));have w5:S2 (k+1) f:=u.keep _ _ _ w4 (λo e=>i.extBut _ _ D.TOi2.symm e) λo e=>i.extBut _ _ D.l2TO e;have q:z<f.objs.size:=ej O;show dL _ _ (ownedTupleHandOut (.ref z) (.ref f.objs.size)>>=_) _ _ _;refine bx ?_;unfold ownedTupleHandOut;have z6:kd (f.push {cls:=.type "tuple",data:=.seq #[x,y]}) z TI TO .ellipsis:=fK O;refine bx (ij z6 (by simp) λt7 J j=>?_);have J:kd t7 z TI TO (ku f.objs.size):=J;refine ij J (by simp) λr C l=>?_;have C:kd r z TI TO (ku f.objs.size):=C;have up:∀c o,c≠z->f.get? c=aB o->r.get? c=aB o:=λc o c1 e=>l.extBut _ _ c1 (j.extBut _ _ c1 (fK e));have U:gx r f.objs.size x y:=l.extBut _ _ (oo q) (j.extBut _ _ (oo q) (dE _ rfl));have W:r.objs.size=f.objs.size+1:=by rw[l.1,j.1,eS]
 rw[hsz]at C U W;refine de ⟨_,rfl,?_⟩;show Q (.ref f.objs.size) _;rw[hsz];exact hQ r C (up _ _ D.TOz B) (t.keep _ _ _ q5 (λo e=>up _ o D.i1z e) λo e=>up _ o D.l1z e) (u.keep _ _ _ w5 (λo e=>up _ o D.i2z e) λo e=>up _ o D.l2z e) U W λc o c1 c2 c3 c4 e=>up c o c1 (kp c o c1 c2 c3 c4 e)
theorem JX{Q:Fin->dc->Prop}(D:l6 z TI TO i1 i2 l1 l2)(r:Nx prog w A i1 l1 S1 g1)(C:Nx prog w A i2 l2 S2 g2)(n:kd s.heap z TI TO .none)(t:gx s.heap TI (.ref i1) (.ref i2))(u:gx s.heap TO a b)(h1:S1 k s.heap)(N:S2 k s.heap)(p:g1 k=b_\/g2 k=b_)(F:∀h' e,(∀c o,c≠z->c≠TO->c≠i1->c≠i2->s.heap.get? c=aB o->h'.get? c=aB o)->(∃o,h'.get? e=aB o/\o.cls=.type "StopIteration")->E (.ref e) {s with heap:=h'}):dL (dS prog w) A (hY.«zip.__next__» ⟨[.ref z],[]⟩) Q E s:=by
 show dL _ _ (p_ (.ref z) 2>>=_) _ _ _;refine bx (gl n rfl (x:=.bool a_) rfl ?_);show dL _ _ (p_ (.ref z) 3>>=_) _ _ _;refine bx (gl n rfl (x:=.ref TI) rfl (bx (hZ t rfl ?_)));show dL _ _ (k4 (.ref z)>>=_) _ _ _;refine bx ?_;unfold k4;refine bx (gl n rfl (x:=.none) rfl (de ?_));simp only[if_true];refine bx (ke (bx (gl n rfl (x:=.ref TO) rfl (bx (ij n (by simp) λt1 q j=>?_)))));have q:kd t1 z TI TO .ellipsis:=q;refine bx ?_;simp only[List.zipIdx_cons,List.zipIdx_nil,forIn_cons,forIn_nil];refine bx (bx (mh ?_));show dL _ _ (lP (.ref i1)>>=_) _ _ _
 have G:S1 k t1:=r.keep _ _ _ h1 (λo e=>j.extBut _ _ D.i1z e) λo e=>j.extBut _ _ D.l1z e;cases hx:g1 k with|none=>
   refine bx (r.fin k _ _ _ G hx λv e i he=>?_);obtain⟨y,f,g⟩:=he;have H:kd v z TI TO .ellipsis:=i _ _ D.i1z.symm q;have l:e≠z:=λx=>by subst x;rw[H]at f;cases f;simp at g
   exact ij H (by simp) λB _ m=>F B e (λc o c1 _ c3 _ x=>m.extBut _ _ c1 (i _ _ c3 (j.extBut _ _ c1 x))) ⟨y,m.extBut _ _ l f,g⟩|some x=>
   have O:g2 k=b_:=by rcases p with h|h;rw[hx]at h;cases h;exact h
   refine bx (r.item k _ _ _ x G hx λv Y i=>de ?_);have I:gx v TO a b:=i.extBut _ _ D.TOi1 (j.extBut _ _ D.TOz u);refine bx (hZ I rfl (bx (ly I λB Z m=>?_)));refine bx (rb (de (bx (bx (mh ?_)))));show dL _ _ (lP (.ref i2)>>=_) _ _ _;have U:S2 k B:=C.keep _ _ _ N (λo e=>m.extBut _ _ D.TOi2.symm (i.extBut _ _ D.i12.symm (j.extBut _ _ D.i2z e))) λo e=>m.extBut _ _ D.l2TO (i.extBut _ _ D.l2i1 (j.extBut _ _ D.l2z e));refine bx (C.fin k _ _ _ U O λW e J he=>?_);obtain⟨y,f,g⟩:=he;have L:kd W z TI TO .ellipsis:=J _ _ D.i2z.symm (m.extBut _ _ D.TOz.symm (i.extBut _ _ D.i1z.symm q));have l:e≠z:=λx=>by subst x;rw[L]at f;cases f;simp at g
   exact ij L (by simp) λX _ M=>F X e (λc o c1 c2 c3 c4 x=>M.extBut _ _ c1 (J _ _ c4 (m.extBut _ _ c2 (i.extBut _ _ c3 (j.extBut _ _ c1 x))))) ⟨y,M.extBut _ _ l f,g⟩
theorem oR{x y:c_}{Q:Option c_->dc->Prop}(D:l6 z TI TO i1 i2 l1 l2)(h:Nx prog w A.in1 i1 l1 S1 g1)(i:Nx prog w A.in1 i2 l2 S2 g2)(g:kd s.heap z TI TO .none)(e:gx s.heap TI (.ref i1) (.ref i2))(f:gx s.heap TO a b)(h1:S1 k s.heap)(j:S2 k s.heap)(l:g1 k=aB x)(m:g2 k=aB y)(n:∀ h',kd h' z TI TO (ku s.heap.objs.size)->gx h' TO x y->S1 (k+1) h'->S2 (k+1) h'->gx h' s.heap.objs.size x y->h'.objs.size=s.heap.objs.size+1->(∀c o,c≠z->c≠TO->c≠i1->c≠i2->s.heap.get? c=aB o->h'.get? c=aB o)->Q (aB (.ref s.heap.objs.size)) {s with heap:=h'}):dL (dS prog w) A (k9 (.ref z)) Q E s:=by have hT:s.TypeIs (.ref z) "zip":=⟨_,g,rfl⟩;unfold k9;exact bx (kQ (fy (name:=i3 "__next__") hT F.slot_zip_next (fN F.slot_zip_next hT F.entry_zip_next (Eo D h i g e f h1 j l m λh' p q r t u v B=>de (n h' p q r t u v B)) (F.args_zip_next_1 _))))
theorem pK{Q:Option c_->dc->Prop}(D:l6 z TI TO i1 i2 l1 l2)(j:Nx prog w A.in1 i1 l1 S1 g1)(l:Nx prog w A.in1 i2 l2 S2 g2)(i:kd s.heap z TI TO .none)(g:gx s.heap TI (.ref i1) (.ref i2))(h:gx s.heap TO a b)(h1:S1 k s.heap)(m:S2 k s.heap)(f:g1 k=b_\/g2 k=b_)(n:∀h',(∀c o,c≠z->c≠TO->c≠i1->c≠i2->s.heap.get? c=aB o->h'.get? c=aB o)->Q b_ {s with heap:=h'}):dL (dS prog w) A (k9 (.ref z)) Q E s:=by have hT:s.TypeIs (.ref z) "zip":=⟨_,i,rfl⟩;unfold k9;refine bx (kQ (fy (name:=i3 "__next__") hT F.slot_zip_next (fN F.slot_zip_next hT F.entry_zip_next (JX D j l i g h h1 m f λh' e p he=>?_) (F.args_zip_next_1 _))));obtain⟨o,ho,hc⟩:=he;exact bx (wpAny_isInstance (T:="StopIteration") (b:=ck) ⟨o,ho,hc⟩ isSubtype_stop (de (n _ p)))
end
theorem pQ(l1 l2:df)(xs ys:Array c_):mo (hY.«zip.__new__» ⟨[.type "zip",.ref l1,.ref l2],[]⟩) (λ_ R s=>s.heap.IsList l1 xs/\s.heap.IsList l2 ys/\R (.ok (.ret (.ref (s.heap.objs.size+4)))) {s with heap:=((((s.heap.push {cls:=.type "list_iterator",data:=.fields #[.ref l1,.int 0 0]}).push {cls:=.type "list_iterator",data:=.fields #[.ref l2,.int 0 0]}).push {cls:=.type "tuple",data:=.seq #[.ref s.heap.objs.size,.ref (s.heap.objs.size+1)]}).push {cls:=.type "tuple",data:=.seq #[.none,.none]}).push {cls:=.type "zip",data:=.fields #[.none,.bool a_,.bool a_,.ref (s.heap.objs.size+2),.ref (s.heap.objs.size+3)]}}):=.of_wp λprog w A R s h=>by obtain⟨f,g,d,i,os⟩:=s;obtain⟨a,b,h⟩:=h;have j:=sub_zip;have c:IsList (iA ⟨f,g,d,i,os⟩) l1 xs:=a;have e:IsList (iA ⟨f.push {cls:=.type "list_iterator",data:=.fields #[.ref l1,.int 0 0]},g,d,i,os⟩) l2 ys:=Heap.IsList.push b _;wp_walk using hE c,hE e;simp only[eS]at*;exact⟨_,rfl,h⟩
section
variable{prog:d_}{w:fb}{A:e_}{E:c_->dc->Prop}{s:dc}
theorem zX(j:s.heap.IsList l1 xs)(l:s.heap.IsList l2 ys)(h:∀ h',kd h' (s.heap.objs.size+4) (s.heap.objs.size+2) (s.heap.objs.size+3) .none->gx h' (s.heap.objs.size+2) (.ref s.heap.objs.size) (.ref (s.heap.objs.size+1))->gx h' (s.heap.objs.size+3) .none .none->h'.IsListIter s.heap.objs.size l1 0->h'.IsListIter (s.heap.objs.size+1) l2 0->(∀c o,s.heap.get? c=aB o->h'.get? c=aB o)->Q (.ref (s.heap.objs.size+4)) {s with heap:=h'}):dL (dS prog w) A (call (.type "zip") [.ref l1,.ref l2]) Q E s:=by
 refine lf F.called_zip (by decide) (F.typeCall_zip_2 _ _) (F.newCall_zip_2 _ _) (λobj=>F.args_object_init_3 obj _ _) F.entry_zip_new (pQ l1 l2 xs ys) ⟨j,l,?_⟩;generalize m:s.heap.push {cls:=.type "list_iterator",data:=.fields #[.ref l1,.int 0 0]}=t1;have u:t1.objs.size=s.heap.objs.size+1:=by rw[<-m,eS]
 have C:t1.get? s.heap.objs.size=aB {cls:=.type "list_iterator",data:=.fields #[.ref l1,.int 0 0]}:=by rw[<-m];exact dE _ rfl
 have G:∀c o,s.heap.get? c=aB o->t1.get? c=aB o:=λc o e=>by rw[<-m];exact fK e
 generalize n:t1.push {cls:=.type "list_iterator",data:=.fields #[.ref l2,.int 0 0]}=a;have v:a.objs.size=s.heap.objs.size+2:=by rw[<-n,eS,u]
 have H:a.get? (s.heap.objs.size+1)=aB {cls:=.type "list_iterator",data:=.fields #[.ref l2,.int 0 0]}:=by rw[<-u,<-n];exact dE _ rfl
 have x:∀c o,t1.get? c=aB o->a.get? c=aB o:=λc o e=>by rw[<-n];exact fK e
 generalize p:a.push {cls:=.type "tuple",data:=.seq #[.ref s.heap.objs.size,.ref (s.heap.objs.size+1)]}=b;have y:b.objs.size=s.heap.objs.size+3:=by rw[<-p,eS,v]
 have I:b.get? (s.heap.objs.size+2)=aB {cls:=.type "tuple",data:=.seq #[.ref s.heap.objs.size,.ref (s.heap.objs.size+1)]}:=by rw[<-v,<-p];exact dE _ rfl
 have q:∀c o,a.get? c=aB o->b.get? c=aB o:=λc o e=>by rw[<-p];exact fK e
 generalize r:b.push {cls:=.type "tuple",data:=.seq #[.none,.none]}=f;have J:f.objs.size=s.heap.objs.size+4:=by rw[<-r,eS,y]
 have L:f.get? (s.heap.objs.size+3)=aB {cls:=.type "tuple",data:=.seq #[.none,.none]}:=by rw[<-y,<-r];exact dE _ rfl
 have i:∀c o,b.get? c=aB o->f.get? c=aB o:=λc o e=>by rw[<-r];exact fK e
 generalize z:f.push {cls:=.type "zip",data:=.fields #[.none,.bool a_,.bool a_,.ref (s.heap.objs.size+2),.ref (s.heap.objs.size+3)]}=t;have B:t.get? (s.heap.objs.size+4)=aB {cls:=.type "zip",data:=.fields #[.none,.bool a_,.bool a_,.ref (s.heap.objs.size+2),.ref (s.heap.objs.size+3)]}:=by rw[<-J,<-z];exact dE _ rfl
 have g:∀c o,f.get? c=aB o->t.get? c=aB o:=λc o e=>by rw[<-z];exact fK e
 exact⟨⟨_,B,rfl⟩,h t B (g _ _ (i _ _ I)) (g _ _ L) ⟨_,g _ _ (i _ _ (q _ _ (x _ _ C))),rfl,rfl⟩ ⟨_,g _ _ (i _ _ (q _ _ H)),rfl,rfl⟩ λc o e=>g _ _ (i _ _ (q _ _ (x _ _ (G _ _ e))))⟩
end
theorem pY(l1 l2:df)(xs ys:Array c_):mo (hY.«zip.__new__» ⟨[.type "zip",.ref l1,.ref l2],[]⟩) (λ_ R s=>s.heap.IsList l1 xs/\s.heap.IsTuple l2 ys/\R (.ok (.ret (.ref (s.heap.objs.size+4)))) {s with heap:=((((s.heap.push {cls:=.type "list_iterator",data:=.fields #[.ref l1,.int 0 0]}).push {cls:=.type "tuple_iterator",data:=.fields #[.ref l2,.int 0 0]}).push {cls:=.type "tuple",data:=.seq #[.ref s.heap.objs.size,.ref (s.heap.objs.size+1)]}).push {cls:=.type "tuple",data:=.seq #[.none,.none]}).push {cls:=.type "zip",data:=.fields #[.none,.bool a_,.bool a_,.ref (s.heap.objs.size+2),.ref (s.heap.objs.size+3)]}}):=.of_wp λprog w A R s h=>by obtain⟨f,g,d,i,os⟩:=s;obtain⟨a,b,h⟩:=h;have j:=sub_zip;have c:IsList (iA ⟨f,g,d,i,os⟩) l1 xs:=a;have e:qS (iA ⟨f.push {cls:=.type "list_iterator",data:=.fields #[.ref l1,.int 0 0]},g,d,i,os⟩) l2 ys:=Heap.IsTuple.push b _;wp_walk using hE c,gd e;simp only[eS]at*;exact⟨_,rfl,h⟩
section
variable{prog:d_}{w:fb}{A:e_}{E:c_->dc->Prop}{s:dc}
theorem Am(j:s.heap.IsList l1 xs)(l:s.heap.IsTuple l2 ys)(h:∀ h',kd h' (s.heap.objs.size+4) (s.heap.objs.size+2) (s.heap.objs.size+3) .none->gx h' (s.heap.objs.size+2) (.ref s.heap.objs.size) (.ref (s.heap.objs.size+1))->gx h' (s.heap.objs.size+3) .none .none->h'.IsListIter s.heap.objs.size l1 0->h'.IsTupleIter (s.heap.objs.size+1) l2 0->(∀c o,s.heap.get? c=aB o->h'.get? c=aB o)->Q (.ref (s.heap.objs.size+4)) {s with heap:=h'}):dL (dS prog w) A (call (.type "zip") [.ref l1,.ref l2]) Q E s:=by
 refine lf F.called_zip (by decide) (F.typeCall_zip_2 _ _) (F.newCall_zip_2 _ _) (λobj=>F.args_object_init_3 obj _ _) F.entry_zip_new (pY l1 l2 xs ys) ⟨j,l,?_⟩;generalize m:s.heap.push {cls:=.type "list_iterator",data:=.fields #[.ref l1,.int 0 0]}=t1;have u:t1.objs.size=s.heap.objs.size+1:=by rw[<-m,eS]
 have C:t1.get? s.heap.objs.size=aB {cls:=.type "list_iterator",data:=.fields #[.ref l1,.int 0 0]}:=by rw[<-m];exact dE _ rfl
 have G:∀c o,s.heap.get? c=aB o->t1.get? c=aB o:=λc o e=>by rw[<-m];exact fK e
 generalize n:t1.push {cls:=.type "tuple_iterator",data:=.fields #[.ref l2,.int 0 0]}=a;have v:a.objs.size=s.heap.objs.size+2:=by rw[<-n,eS,u]
 have H:a.get? (s.heap.objs.size+1)=aB {cls:=.type "tuple_iterator",data:=.fields #[.ref l2,.int 0 0]}:=by rw[<-u,<-n];exact dE _ rfl
 have x:∀c o,t1.get? c=aB o->a.get? c=aB o:=λc o e=>by rw[<-n];exact fK e
 generalize p:a.push {cls:=.type "tuple",data:=.seq #[.ref s.heap.objs.size,.ref (s.heap.objs.size+1)]}=b;have y:b.objs.size=s.heap.objs.size+3:=by rw[<-p,eS,v]
 have I:b.get? (s.heap.objs.size+2)=aB {cls:=.type "tuple",data:=.seq #[.ref s.heap.objs.size,.ref (s.heap.objs.size+1)]}:=by rw[<-v,<-p];exact dE _ rfl
 have q:∀c o,a.get? c=aB o->b.get? c=aB o:=λc o e=>by rw[<-p];exact fK e
 generalize r:b.push {cls:=.type "tuple",data:=.seq #[.none,.none]}=f;have J:f.objs.size=s.heap.objs.size+4:=by rw[<-r,eS,y]
 have L:f.get? (s.heap.objs.size+3)=aB {cls:=.type "tuple",data:=.seq #[.none,.none]}:=by rw[<-y,<-r];exact dE _ rfl
 have i:∀c o,b.get? c=aB o->f.get? c=aB o:=λc o e=>by rw[<-r];exact fK e
 generalize z:f.push {cls:=.type "zip",data:=.fields #[.none,.bool a_,.bool a_,.ref (s.heap.objs.size+2),.ref (s.heap.objs.size+3)]}=t;have B:t.get? (s.heap.objs.size+4)=aB {cls:=.type "zip",data:=.fields #[.none,.bool a_,.bool a_,.ref (s.heap.objs.size+2),.ref (s.heap.objs.size+3)]}:=by rw[<-J,<-z];exact dE _ rfl
 have g:∀c o,f.get? c=aB o->t.get? c=aB o:=λc o e=>by rw[<-z];exact fK e
 exact⟨⟨_,B,rfl⟩,h t B (g _ _ (i _ _ I)) (g _ _ L) ⟨_,g _ _ (i _ _ (q _ _ (x _ _ C))),rfl,rfl⟩ ⟨_,g _ _ (i _ _ (q _ _ H)),rfl,rfl⟩ λc o e=>g _ _ (i _ _ (q _ _ (x _ _ (G _ _ e))))⟩
end
theorem pW(l1 l2:df)(xs ys:Array c_):mo (hY.«zip.__new__» ⟨[.type "zip",.ref l1,.ref l2],[]⟩) (λ_ R s=>s.heap.IsTuple l1 xs/\s.heap.IsList l2 ys/\R (.ok (.ret (.ref (s.heap.objs.size+4)))) {s with heap:=((((s.heap.push {cls:=.type "tuple_iterator",data:=.fields #[.ref l1,.int 0 0]}).push {cls:=.type "list_iterator",data:=.fields #[.ref l2,.int 0 0]}).push {cls:=.type "tuple",data:=.seq #[.ref s.heap.objs.size,.ref (s.heap.objs.size+1)]}).push {cls:=.type "tuple",data:=.seq #[.none,.none]}).push {cls:=.type "zip",data:=.fields #[.none,.bool a_,.bool a_,.ref (s.heap.objs.size+2),.ref (s.heap.objs.size+3)]}}):=.of_wp λprog w A R s h=>by obtain⟨f,g,d,i,os⟩:=s;obtain⟨a,b,h⟩:=h;have j:=sub_zip;have c:qS (iA ⟨f,g,d,i,os⟩) l1 xs:=a;have e:IsList (iA ⟨f.push {cls:=.type "tuple_iterator",data:=.fields #[.ref l1,.int 0 0]},g,d,i,os⟩) l2 ys:=Heap.IsList.push b _;wp_walk using gd c,hE e;simp only[eS]at*;exact⟨_,rfl,h⟩
section
variable{prog:d_}{w:fb}{A:e_}{E:c_->dc->Prop}{s:dc}
theorem zP(j:s.heap.IsTuple l1 xs)(l:s.heap.IsList l2 ys)(h:∀ h',kd h' (s.heap.objs.size+4) (s.heap.objs.size+2) (s.heap.objs.size+3) .none->gx h' (s.heap.objs.size+2) (.ref s.heap.objs.size) (.ref (s.heap.objs.size+1))->gx h' (s.heap.objs.size+3) .none .none->h'.IsTupleIter s.heap.objs.size l1 0->h'.IsListIter (s.heap.objs.size+1) l2 0->(∀c o,s.heap.get? c=aB o->h'.get? c=aB o)->Q (.ref (s.heap.objs.size+4)) {s with heap:=h'}):dL (dS prog w) A (call (.type "zip") [.ref l1,.ref l2]) Q E s:=by
 refine lf F.called_zip (by decide) (F.typeCall_zip_2 _ _) (F.newCall_zip_2 _ _) (λobj=>F.args_object_init_3 obj _ _) F.entry_zip_new (pW l1 l2 xs ys) ⟨j,l,?_⟩;generalize m:s.heap.push {cls:=.type "tuple_iterator",data:=.fields #[.ref l1,.int 0 0]}=t1;have u:t1.objs.size=s.heap.objs.size+1:=by rw[<-m,eS]
 have C:t1.get? s.heap.objs.size=aB {cls:=.type "tuple_iterator",data:=.fields #[.ref l1,.int 0 0]}:=by rw[<-m];exact dE _ rfl
 have G:∀c o,s.heap.get? c=aB o->t1.get? c=aB o:=λc o e=>by rw[<-m];exact fK e
 generalize n:t1.push {cls:=.type "list_iterator",data:=.fields #[.ref l2,.int 0 0]}=a;have v:a.objs.size=s.heap.objs.size+2:=by rw[<-n,eS,u]
 have H:a.get? (s.heap.objs.size+1)=aB {cls:=.type "list_iterator",data:=.fields #[.ref l2,.int 0 0]}:=by rw[<-u,<-n];exact dE _ rfl
 have x:∀c o,t1.get? c=aB o->a.get? c=aB o:=λc o e=>by rw[<-n];exact fK e
 generalize p:a.push {cls:=.type "tuple",data:=.seq #[.ref s.heap.objs.size,.ref (s.heap.objs.size+1)]}=b;have y:b.objs.size=s.heap.objs.size+3:=by rw[<-p,eS,v]
 have I:b.get? (s.heap.objs.size+2)=aB {cls:=.type "tuple",data:=.seq #[.ref s.heap.objs.size,.ref (s.heap.objs.size+1)]}:=by rw[<-v,<-p];exact dE _ rfl
 have q:∀c o,a.get? c=aB o->b.get? c=aB o:=λc o e=>by rw[<-p];exact fK e
 generalize r:b.push {cls:=.type "tuple",data:=.seq #[.none,.none]}=f;have J:f.objs.size=s.heap.objs.size+4:=by rw[<-r,eS,y]
 have L:f.get? (s.heap.objs.size+3)=aB {cls:=.type "tuple",data:=.seq #[.none,.none]}:=by rw[<-y,<-r];exact dE _ rfl
 have i:∀c o,b.get? c=aB o->f.get? c=aB o:=λc o e=>by rw[<-r];exact fK e
 generalize z:f.push {cls:=.type "zip",data:=.fields #[.none,.bool a_,.bool a_,.ref (s.heap.objs.size+2),.ref (s.heap.objs.size+3)]}=t;have B:t.get? (s.heap.objs.size+4)=aB {cls:=.type "zip",data:=.fields #[.none,.bool a_,.bool a_,.ref (s.heap.objs.size+2),.ref (s.heap.objs.size+3)]}:=by rw[<-J,<-z];exact dE _ rfl
 have g:∀c o,f.get? c=aB o->t.get? c=aB o:=λc o e=>by rw[<-z];exact fK e
 exact⟨⟨_,B,rfl⟩,h t B (g _ _ (i _ _ I)) (g _ _ L) ⟨_,g _ _ (i _ _ (q _ _ (x _ _ C))),rfl,rfl⟩ ⟨_,g _ _ (i _ _ (q _ _ H)),rfl,rfl⟩ λc o e=>g _ _ (i _ _ (q _ _ (x _ _ (G _ _ e))))⟩
end
theorem pX(l1 l2:df)(xs ys:Array c_):mo (hY.«zip.__new__» ⟨[.type "zip",.ref l1,.ref l2],[]⟩) (λ_ R s=>s.heap.IsTuple l1 xs/\s.heap.IsTuple l2 ys/\R (.ok (.ret (.ref (s.heap.objs.size+4)))) {s with heap:=((((s.heap.push {cls:=.type "tuple_iterator",data:=.fields #[.ref l1,.int 0 0]}).push {cls:=.type "tuple_iterator",data:=.fields #[.ref l2,.int 0 0]}).push {cls:=.type "tuple",data:=.seq #[.ref s.heap.objs.size,.ref (s.heap.objs.size+1)]}).push {cls:=.type "tuple",data:=.seq #[.none,.none]}).push {cls:=.type "zip",data:=.fields #[.none,.bool a_,.bool a_,.ref (s.heap.objs.size+2),.ref (s.heap.objs.size+3)]}}):=.of_wp λprog w A R s h=>by obtain⟨f,g,d,i,os⟩:=s;obtain⟨a,b,h⟩:=h;have j:=sub_zip;have c:qS (iA ⟨f,g,d,i,os⟩) l1 xs:=a;have e:qS (iA ⟨f.push {cls:=.type "tuple_iterator",data:=.fields #[.ref l1,.int 0 0]},g,d,i,os⟩) l2 ys:=Heap.IsTuple.push b _;wp_walk using gd c,gd e;simp only[eS]at*;exact⟨_,rfl,h⟩
section
variable{prog:d_}{w:fb}{A:e_}{E:c_->dc->Prop}{s:dc}
theorem zj(j:s.heap.IsTuple l1 xs)(l:s.heap.IsTuple l2 ys)(h:∀ h',kd h' (s.heap.objs.size+4) (s.heap.objs.size+2) (s.heap.objs.size+3) .none->gx h' (s.heap.objs.size+2) (.ref s.heap.objs.size) (.ref (s.heap.objs.size+1))->gx h' (s.heap.objs.size+3) .none .none->h'.IsTupleIter s.heap.objs.size l1 0->h'.IsTupleIter (s.heap.objs.size+1) l2 0->(∀c o,s.heap.get? c=aB o->h'.get? c=aB o)->Q (.ref (s.heap.objs.size+4)) {s with heap:=h'}):dL (dS prog w) A (call (.type "zip") [.ref l1,.ref l2]) Q E s:=by
 refine lf F.called_zip (by decide) (F.typeCall_zip_2 _ _) (F.newCall_zip_2 _ _) (λobj=>F.args_object_init_3 obj _ _) F.entry_zip_new (pX l1 l2 xs ys) ⟨j,l,?_⟩;generalize m:s.heap.push {cls:=.type "tuple_iterator",data:=.fields #[.ref l1,.int 0 0]}=t1;have u:t1.objs.size=s.heap.objs.size+1:=by rw[<-m,eS]
 have C:t1.get? s.heap.objs.size=aB {cls:=.type "tuple_iterator",data:=.fields #[.ref l1,.int 0 0]}:=by rw[<-m];exact dE _ rfl
 have G:∀c o,s.heap.get? c=aB o->t1.get? c=aB o:=λc o e=>by rw[<-m];exact fK e
 generalize n:t1.push {cls:=.type "tuple_iterator",data:=.fields #[.ref l2,.int 0 0]}=a;have v:a.objs.size=s.heap.objs.size+2:=by rw[<-n,eS,u]
 have H:a.get? (s.heap.objs.size+1)=aB {cls:=.type "tuple_iterator",data:=.fields #[.ref l2,.int 0 0]}:=by rw[<-u,<-n];exact dE _ rfl
 have x:∀c o,t1.get? c=aB o->a.get? c=aB o:=λc o e=>by rw[<-n];exact fK e
 generalize p:a.push {cls:=.type "tuple",data:=.seq #[.ref s.heap.objs.size,.ref (s.heap.objs.size+1)]}=b;have y:b.objs.size=s.heap.objs.size+3:=by rw[<-p,eS,v]
 have I:b.get? (s.heap.objs.size+2)=aB {cls:=.type "tuple",data:=.seq #[.ref s.heap.objs.size,.ref (s.heap.objs.size+1)]}:=by rw[<-v,<-p];exact dE _ rfl
 have q:∀c o,a.get? c=aB o->b.get? c=aB o:=λc o e=>by rw[<-p];exact fK e
 generalize r:b.push {cls:=.type "tuple",data:=.seq #[.none,.none]}=f;have J:f.objs.size=s.heap.objs.size+4:=by rw[<-r,eS,y]
 have L:f.get? (s.heap.objs.size+3)=aB {cls:=.type "tuple",data:=.seq #[.none,.none]}:=by rw[<-y,<-r];exact dE _ rfl
 have i:∀c o,b.get? c=aB o->f.get? c=aB o:=λc o e=>by rw[<-r];exact fK e
 generalize z:f.push {cls:=.type "zip",data:=.fields #[.none,.bool a_,.bool a_,.ref (s.heap.objs.size+2),.ref (s.heap.objs.size+3)]}=t;have B:t.get? (s.heap.objs.size+4)=aB {cls:=.type "zip",data:=.fields #[.none,.bool a_,.bool a_,.ref (s.heap.objs.size+2),.ref (s.heap.objs.size+3)]}:=by rw[<-J,<-z];exact dE _ rfl
 have g:∀c o,f.get? c=aB o->t.get? c=aB o:=λc o e=>by rw[<-z];exact fK e
 exact⟨⟨_,B,rfl⟩,h t B (g _ _ (i _ _ I)) (g _ _ L) ⟨_,g _ _ (i _ _ (q _ _ (x _ _ C))),rfl,rfl⟩ ⟨_,g _ _ (i _ _ (q _ _ H)),rfl,rfl⟩ λc o e=>g _ _ (i _ _ (q _ _ (x _ _ (G _ _ e))))⟩
end
end PySem
namespace _L
open PySem Spec PyProof.Rows
variable{t:Bool}{a:df}
noncomputable def Sq(t:Bool)(K:PySem.W.Frag)(H:Hp)(a:df)(xs:List V):Prop:=if t then jl K H a xs else fL K H a xs
noncomputable def Vj(t:Bool)(h:fk)(a:df)(xs:Array c_):Prop:=if t then h.IsTuple a xs else h.IsList a xs
noncomputable def Gh(t:Bool)(h:fk)(i a:df)(k:Nat):Prop:=if t then h.IsTupleIter i a k else h.IsListIter i a k
section
variable{X:Cx}{pins:List (df×Obj)}{σ:_L.St}{H:Hp}{s:dc}
theorem Inv.sq{xs:List V}(I:Inv X pins σ H s)(h:Sq t X.K H a xs):∃b:List c_,Vals xs b/\Vj t s.heap a b.toArray:=by cases t with|true=>obtain⟨b,c,pl,_⟩:=I.tuple h;exact⟨b,c,pl⟩|false=>obtain⟨b,c,pl,_⟩:=I.list h;exact⟨b,c,pl.isList⟩
theorem Inv.GP{xs ys:List V}(I:Inv X pins σ H s)(h:Sq t X.K H a xs)(h':Sq t X.K H a ys):xs=ys:=by cases t with|true=>exact I.lO h h'|false=>exact I.nT h h'
theorem Vj.lt{h:fk}{xs:Array c_}(q:Vj t h a xs):a<h.objs.size:=by cases t with|true=>obtain⟨o,e,_⟩:=id q;exact ej e|false=>obtain⟨o,e,_⟩:=id q;exact ej e
theorem Gh.obj{h:fk}{i:df}{k:Nat}(q:Gh t h i a k):∃o,h.get? i=aB o/\∀v,o.data≠.cell v:=by cases t with|true=>obtain⟨o,b,e,c⟩:=id q;exact⟨o,b,λv z=>by rw[c]at z;cases z⟩|false=>obtain⟨o,b,e,c⟩:=id q;exact⟨o,b,λv z=>by rw[c]at z;cases z⟩
theorem Gh.keep{h h':fk}{i:df}{k:Nat}(q:Gh t h i a k)(e:∀o,h.get? i=aB o->h'.get? i=aB o):Gh t h' i a k:=by cases t with|true=>obtain⟨o,b,r⟩:=id q;exact⟨o,e o b,r⟩|false=>obtain⟨o,b,r⟩:=id q;exact⟨o,e o b,r⟩
theorem Ls(t:Bool){prog:d_}{w:fb}{A:e_}(c:A.handled=b_)(it l:df)(b:l≠it)(items:Array c_):Nx prog w A it l (λk h=>Gh t h it l k/\Vj t h l items) (λk=>items[k]?):=by cases t with|true=>exact Nx.tuple c it l b items|false=>exact Nx.list c it l b items
theorem Inv.GD{ch:List df}{h':fk}(I:Inv X pins σ H s)(k:∀b u,b∉ch->s.heap.get? b=aB u->h'.get? b=aB u)(h:∀b∈ch,oW X pins H b):Inv X pins σ H {s with heap:=h'}:=by
 have i:∀b u,H b=aB u->b∉ch:=λb u e f=>by rw[(h b f).1]at e;cases e
 refine I.call (g':=s.gens) (d':=s.drawn) (t':=s.toks) (ch:=ch) ⟨λb u e n _ g=>k b u g e,λb u e n _ g=>⟨u.slots,k b u g e⟩,λb u e n g=>n,λb u e g=>⟨u,k b u g e⟩,λb xs e=>e,λb j u e=>e,λb ps e=>⟨#[],by rw[e];simp⟩⟩ ?_ I.bare λb f=>⟨(h b f).2.2.2.1,(h b f).2.1,(h b f).2.2.2.2.1,(h b f).2.2.2.2.2⟩;intro b u e;refine(I.hok b u e).stay (λc v hc q=>k c v ?_ q) (λc q=>q) λc xs q=>q;rcases hc with rfl|hc;.exact i _ _ e
 .exact i _ _ hc
end
noncomputable def Xm(t1 c:Bool)(K:PySem.W.Frag)(a b:df):It:=⟨λi H=>∃ xs ys x y,Sq t1 K H a xs/\Sq c K H b ys/\xs[i]?=aB x/\ys[i]?=aB y,λi H x e=>∃T v w,H T=b_/\x=.ref T/\e=upd H T (.tup [v,w])/\(∀xs,Sq t1 K H a xs->xs[i]?=aB v)/\∀ys,Sq c K H b ys->ys[i]?=aB w,λi H=>∃xs ys,Sq t1 K H a xs/\Sq c K H b ys/\(xs.length<=i\/ys.length<=i)⟩
theorem JW{P:d_}{w:fb}{K:PySem.W.Frag}{J:List ek}{x1}{tp:Pos}(t1 L:Bool){z TI TO f g l1 G:df}(D:l6 z TI TO f g l1 G):Turn P w K (.Tuple J x1 tp) (Xm t1 L K l1 G) [z,TI,TO,f,g] z (λi h=>kd h z TI TO .none/\gx h TI (.ref f) (.ref g)/\(∃a b,gx h TO a b)/\Gh t1 h f l1 i/\Gh L h g G i)where
 mem:=by simp
 obj:=λi h st b c=>by
  obtain⟨h1,m,⟨u,v,r⟩,B,C⟩:=st;simp only[et,jN,or_false]at c;rcases c with rfl|rfl|rfl|rfl|rfl;.exact⟨_,h1,λv z=>by cases z⟩
  .exact⟨_,m,λv z=>by cases z⟩
  .exact⟨_,r,λv z=>by cases z⟩
  .exact B.obj
  .exact C.obj
 keep:=λi h h' st k=>by obtain⟨h1,m,⟨u,v,r⟩,B,C⟩:=st;exact⟨k z (by simp) _ h1,k TI (by simp) _ m,⟨u,v,k TO (by simp) _ r⟩,B.keep (k f (by simp)),C.keep (k g (by simp))⟩
 item:=λX hP hw hK hc i M s σ H E I Y st go=>by
  subst hP hw hK;obtain⟨h1,m,⟨u,v,r⟩,B,C⟩:=st;obtain⟨xs,ys,x,y,n,p,hx,hy⟩:=go;obtain⟨Oq,F,Wn⟩:=I.sq n;obtain⟨j,KJ,Qt⟩:=I.sq p;obtain⟨Z,ab,ac⟩:=F.get hx;obtain⟨uy,ae,af⟩:=KJ.get hy;have N:X.A.in1.handled=b_:=I.ok.hd hc;refine oR D (Ls t1 N f l1 D.l1i1 Oq.toArray) (Ls L N g G D.l2i2 j.toArray) h1 m r (k:=i) ⟨B,Wn⟩ ⟨C,Qt⟩ (x:=Z) (y:=uy) (by simpa using ab) (by simpa using ae) λh' z1 p1 s1 s2 pT hsz kp=>?_;refine⟨_,rfl,wpAny_letOwnedTupleGo_zip z1 λl z2 O=>?_⟩;have U:∀b∈[z,TI,TO,f,g],b≠s.heap.objs.size:=λb c=>by
   simp only[et,jN,or_false]at c;rcases c with rfl|rfl|rfl|rfl|rfl;.exact eH (ej h1)
   .exact eH (ej m)
   .exact eH (ej r)
   .exact eH (ej B.obj.choose_spec.1)
   .exact eH (ej C.obj.choose_spec.1)
  have Wm:∀b o,b∉[z,TO,f,g]->s.heap.get? b=aB o->l.get? b=aB o:=λb o c q=>by simp only[et,jN,or_false,not_or]at c;exact O.extBut b o c.1 (kp b o c.1 c.2.1 c.2.2.1 c.2.2.2 q)
  have ag:gx l s.heap.objs.size Z uy:=O.extBut _ _ (U z (by simp)).symm pT;have p2:gx l TO Z uy:=O.extBut _ _ D.TOz p1;have j1:Gh t1 l f l1 (i+1):=s1.1.keep λo e=>O.extBut _ _ D.i1z e;have j2:Gh L l g G (i+1):=s2.1.keep λo e=>O.extBut _ _ D.i2z e;refine⟨.ref s.heap.objs.size,upd H s.heap.objs.size (.tup [x,y]),?_,rfl,⟨_,x,y,I.fresh,rfl,rfl,λzs hz=>?_,λzs hz=>?_⟩,⟨z2,Wm TI _ ?_ m,⟨_,_,p2⟩,j1,j2⟩,λb c=>?_⟩
  . refine I.Aw (ch:=[z,TO,f,g]) (t':=s.toks) Wm (λb c=>?_) (λb c=>Y b ?_) ⟨(by show 2<=sizeLine;decide),[Z,uy],.cons ac (.cons af .nil),⟨_,ag,rfl,_,rfl⟩⟩
    . simp only[et,jN,or_false]at c;rcases c with rfl|rfl|rfl|rfl;.exact⟨_,z2⟩
      .exact⟨_,p2⟩
      .exact⟨_,j1.obj.choose_spec.1⟩
      .exact⟨_,j2.obj.choose_spec.1⟩
    .simp only[et,jN,or_false]at c ⊢;rcases c with h|h|h|h<;>simp[h]
  .rw[I.GP hz n];exact hx
  .rw[I.GP hz p];exact hy
  .simp[D.TIz,D.TITO,D.TIi1,D.TIi2]
  .rw[aL (U b c)];exact(Y b c).1
 done:=λX hP hw hK hc i M s σ H E I Y st stop=>by
  subst hP hw hK;obtain⟨h1,m,⟨u,v,r⟩,B,C⟩:=st;obtain⟨xs,ys,n,p,hx⟩:=stop;obtain⟨Oq,F,Wn⟩:=I.sq n;obtain⟨j,KJ,Qt⟩:=I.sq p;have N:X.A.in1.handled=b_:=I.ok.hd hc;refine pK D (Ls t1 N f l1 D.l1i1 Oq.toArray) (Ls L N g G D.l2i2 j.toArray) h1 m r (k:=i) ⟨B,Wn⟩ ⟨C,Qt⟩ ?_ λh' kp=>⟨rfl,?_⟩
  . rcases hx with hx|hx;.left;rw[F.length]at hx;simpa using hx
    .right;rw[KJ.length]at hx;simpa using hx
  .exact I.GD (ch:=[z,TO,f,g]) (λb u c q=>by simp only[et,jN,or_false,not_or]at c;exact kp b u c.1 c.2.1 c.2.2.1 c.2.2.2 q) λb c=>Y b (by simp only[et,jN,or_false]at c ⊢;rcases c with h|h|h|h<;>simp[h])
 self:=λA i s Q E st q=>wpAny_pyIter_zip st.1 q
section
variable{X:Cx}{elts:List ek}{x1:Nat}{tp:Pos}
theorem Ez{prog:d_}{w:fb}{A:e_}{E:c_->dc->Prop}{s:dc}(t1 f:Bool){l1 g:df}{xs ys:Array c_}{Q:c_->dc->Prop}(b:Vj t1 s.heap l1 xs)(e:Vj f s.heap g ys)(h:∀ h',kd h' (s.heap.objs.size+4) (s.heap.objs.size+2) (s.heap.objs.size+3) .none->gx h' (s.heap.objs.size+2) (.ref s.heap.objs.size) (.ref (s.heap.objs.size+1))->gx h' (s.heap.objs.size+3) .none .none->Gh t1 h' s.heap.objs.size l1 0->Gh f h' (s.heap.objs.size+1) g 0->(∀c o,s.heap.get? c=aB o->h'.get? c=aB o)->Q (.ref (s.heap.objs.size+4)) {s with heap:=h'}):dL (dS prog w) A (call (.type "zip") [.ref l1,.ref g]) Q E s:=by
 cases t1<;>cases f;.exact zX b e h
 .exact Am b e h
 .exact zP b e h
 .exact zj b e h
theorem QZ{n l m:Nat}(h1:l<n)(b:m<n):l6 (n+4) (n+2) (n+3) n (n+1) l m:=by constructor<;>exact λh=>absurd (show(_:Nat)=_ from h) (by lia)
noncomputable def adb(K:PySem.W.Frag)(R:It->Hp->Prop)(vs:List V)(c:Hp):Prop:=∃t1 e a b,vs=[.ref a,.ref b]/\(∃xs,Sq t1 K c a xs)/\(∃ys,Sq e K c b ys)/\R (Xm t1 e K a b) c
noncomputable def aej(K:PySem.W.Frag)(b:TA):TI:=λσ H R=>b σ H (adb K R)
theorem boot_zip:fw "zip"=aB (.type "zip"):=by decide+kernel
theorem S8{a b:ek}{l:TA}{p pos:Pos}(y:Gl X "zip")(z:X.mg "zip"=b_)(A:PA X [a,b] l)(hs:dy [a,b] X.env=[(a_,fg a X.env),(a_,fg b X.env)]:=by rfl)(c:dy [b] X.env=[(a_,fg b X.env)]:=by rfl):PI X (.Tuple elts x1 tp) (.Call (.Name "zip" p) [a,b] [] pos) (aej X.K l):=by
 intro e s σ H R I h;refine Call_ (j6 I y z boot_zip (fS (dC (A pos e s σ H _ I h) ?_) (by rw[hs,c]) (by rw[c];rfl)));rintro Q s1⟨vs,B,f,r1,C⟩;obtain⟨t1,m,l1,E,rfl,⟨xs,i⟩,⟨ys,j⟩,q⟩:=C;obtain⟨u,v,rfl,F,G⟩:=r1.two;cases F;cases G;obtain⟨U,J,n⟩:=f.sq i;obtain⟨o,W,r⟩:=f.sq j;have b1:=n.lt;have b2:=r.lt;refine Ez t1 m n r λh' w L M N O kp=>?_;have D:l6 (s1.heap.objs.size+4) (s1.heap.objs.size+2) (s1.heap.objs.size+3) s1.heap.objs.size (s1.heap.objs.size+1) l1 E:=QZ b1 b2;refine wpAny_pyIter_zip w ⟨_,_,_,_,B,rfl,f.kept (t':=s1.toks) kp,JW t1 m D,⟨w,L,⟨_,_,M⟩,N,O⟩,λb x=>?_,q⟩;have g:s1.heap.objs.size<=b:=by simp only[et,jN,or_false]at x;rcases x with rfl|rfl|rfl|rfl|rfl<;>first|exact Nat.le_add_right _ _|exact dW
 exact f.zm g (f.hok.fresh g)
end
end _L
namespace _H
open PySem _L Spec PyProof.Rows
variable{x:Str}
section
variable{K:PySem.W.Frag}{F F1 H H1:Hp}{ρ ρ1:List Sl}{σ:_L.St}{ds es:List D}{a b:df}
theorem aP.sq{t:Bool}{xs:List V}(e:aP F H)(h:Sq t K F a xs):Sq t K H a xs:=by cases t with|true=>exact aP.iI e h|false=>exact e.seq h
theorem Nm{t1 j:Bool}{xs ys:List V}{l c:Hp}(e:Sq t1 K c a xs)(f:Sq j K c b ys)(r1:aN K l xs ds)(o:aN K l ys es)(s:aP l c)(k:Nat):(∀d,((ds.zip es).map λp=>D.tup [p.1,p.2])[k]?=aB d->(Xm t1 j K a b).go k c/\∀x m,(Xm t1 j K a b).Kc k c x m->∃g,Ext l c g m/\Rep K g x d)/\(((ds.zip es).map λp=>D.tup [p.1,p.2]).length<=k->(Xm t1 j K a b).stop k c):=by refine⟨λd hd=>?_,λh=>⟨xs,ys,e,f,by rw[r1.length,o.length];rw[eu,List.length_zip]at h;lia⟩⟩;rw[ey]at hd;obtain⟨⟨d0,d1⟩,q,r⟩:=map_some hd;subst r;obtain⟨f1,f2⟩:=i4.mp q;obtain⟨w,h1,t⟩:=r1.get f1;obtain⟨u,i,n⟩:=o.get f2;refine⟨⟨xs,ys,w,u,e,f,h1,i⟩,?_⟩;rintro x m⟨T,v,C,hT,z,A,y,B⟩;subst z;subst A;have:=y xs e;rw[h1]at this;cases this;have:=B ys f;rw[i]at this;cases this;exact rC s hT t n
theorem Ju{v:V}{d:D}{ds:List D}(h:Rep K F v d)(e:items d=aB ds):∃t a xs,v=.ref a/\Sq t K F a xs/\aN K F xs ds:=by cases d with|tup es=>cases e;rw[Rep]at h;obtain⟨a,xs,rfl,h1,c⟩:=h;exact⟨ck,a,xs,rfl,h1,c⟩|lst es=>cases e;rw[Rep]at h;obtain⟨a,xs,rfl,h1,c⟩:=h;exact⟨a_,a,xs,rfl,h1,c⟩|_=>cases e
end
section
variable{X:Cx}{c:Call}{e a b:ek}{pa pb:P}{pos:Pos}{elts:List ek}{x1:Nat}{tp:Pos}
theorem yV{w:Pos}(y:x="zip")(z:Gl X x)(A:X.mg x=b_)(B:SX X c a pa)(C:SX X c b pb)(hs:dy [a,b] X.env=[(a_,fg a X.env),(a_,fg b X.env)]:=by rfl)(f:dy [b] X.env=[(a_,fg b X.env)]:=by rfl):SI X c (.Tuple elts x1 tp) (.Call (.Name x w) [a,b] [] pos) (.zip pa pb):=by subst y;refine mX (S8 z A (qg B (qg C aF f) (by rw[hs,f])).1 hs f) ?_;rintro σ H R⟨F,ρ,ds,E,g,e,k⟩;obtain⟨r,G,p,l⟩:=aj e;have o:=aH l;clear l;obtain⟨l,I⟩:=o;subst I;rw[_H.E22]at p;obtain⟨x0,j,J,L⟩:=aj p;obtain⟨M,N,O,m⟩:=aj L;have o:=aH m;clear m;obtain⟨m,Q⟩:=o;subst Q;obtain⟨us,f1,U⟩:=bz m;obtain⟨ws,f2,f3⟩:=map_some U;subst f3;cases l;refine⟨F,ρ,[x0.d,M.d],_,g,by rw[kZ,J];show(evs c [pb] j).bind _=_;rw[kZ,O];rfl,λvs W Y s h=>?_⟩;obtain⟨v,r',rfl,Z,h⟩:=h.dh;obtain⟨u,ab,rfl,ru,h⟩:=h.dh;rw[h.il];obtain⟨t1,a1,xs,rfl,q,r1⟩:=Ju Z f1;obtain⟨t2,a2,ys,rfl,t,r2⟩:=Ju ru f2;exact⟨t1,t2,a1,a2,rfl,⟨xs,aP.sq s.gs.sub q⟩,⟨ys,aP.sq s.gs.sub t⟩,k _ _ _ ⟨s.gs,λn k W ac ae Y i=>Nm (aP.sq i.gs.sub (aP.sq i.cD q)) (aP.sq i.gs.sub (aP.sq i.cD t)) (r1.mono i.cD) (r2.mono i.cD) i.gs.sub k,λF3 j af H3 s3=>⟨s.trans s3,λv r h=>h.later s⟩⟩⟩
end
structure cH(K:PySem.W.Frag)(x:Str)(st:fR):Prop where ex:∃f fd,PySem.W.nsIn K en x=aB (aB (.ref f))/\jw K x x st f fd
section
variable{Pg:d_}{w:fb}{K:PySem.W.Frag}{mg:Str->Option c_}{base h:fk}
theorem Uo{st:fR}{f:df}{g:c_}{i j:Option df}{b:Array (Option c_)}{kV e m cdv ct:c_}(a:PySem.W.nsIn K en x=aB (aB (.ref f)))(l:K.lookup f=aB ⟨g,i,.func (PySem.W.fnOf x x (jD st) (iz st) (aK st) .none kV e m j cdv ct),b⟩)(c:PySem.W.codeIn K cdv x=ck)(k:keepIn K (.ref f)=ck):cH K x st:=⟨_,_,a,T7 l c k⟩
theorem cR{Γ:Tab}{j i np:Nat}{st:fR}{ps:List Str}(X:K.In h)(G:h.Ns en mg)(D:cH K x st)(l:ps.length=np)(m:∀(kV g n:c_)(o:Option df)(cdv ct:c_)(c:List c_),c.length=ps.length->rS (PySem.W.fnOf x x (jD st) (iz st) (aK st) .none kV g n o cdv ct) ⟨c,[]⟩=fI (ps.zip c)):bD Pg w K mg base 0 (run Γ j 0) i x np:=by obtain⟨f,fd,a,F⟩:=D.ex;exact⟨f,fd,ps,⟨λvs H Q E s=>s.1,λA outer s H args c vs Q E hr e b v sp=>by obtain⟨_,F,as,r,p,_,z,_⟩:=sp;cases z⟩,mg_of X G a,F.kp,F.binds m,l⟩
theorem cQ{Γ:Tab}{b n i np:Nat}{st:fR}{ps:List Str}{d:Fd}(X:K.In h)(G:h.Ns en mg)(D:cH K x st)(l:ps.length=np)(c:Γ i=aB d)(m:∀(kV g o:c_)(p:Option df)(cdv ct:c_)(j:List c_),j.length=ps.length->rS (PySem.W.fnOf x x (jD st) (iz st) (aK st) .none kV g o p cdv ct) ⟨j,[]⟩=fI (ps.zip j))(ok:∀f fd,jw K x x st f fd->oM Pg w K mg base GX (n+1) f fd ps (KN K np (λargs=>enter (run Γ b n) b d args))):bD Pg w K mg base (n+1) (run Γ b (n+1)) i x np:=by
 obtain⟨f,fd,a,F⟩:=D.ex;refine⟨f,fd,ps,?_,mg_of X G a,F.kp,F.binds m,l⟩;have e:run Γ b (n+1) i=λargs=>enter (run Γ b n) b d args:=by funext args;show(match Γ i with|some d=>enter (run Γ b n) b d args|none=>.stuck)=_;rw[c]
 rw[e,l];exact ok f fd F
theorem ur{F:Hp}:∀ns:List Int,aN K F (ns.map V.int) (ns.map D.int)|[]=>.nil|n::ns=>.cons (bM n) (ur ns)
theorem Et{H:Hp}{a:df}{ns:List Int}{g:List Sl->Res R}{as:List Sl}(m:fL K H a (ns.map V.int))(hr:g [.val a_ (.lst (ns.map D.int))]=.ok (.val (.bl ck)) as):KN K 1 g [.ref a] H (λv _=>v=.bl ck) λ_ _ _=>False:=by
 refine⟨rfl,H,_,_,as,⟨.refl _,rfl,λi b d e=>?_,λi s n e l=>?_,λi j c h=>?_⟩,hr,λv o p q s f=>?_⟩;.match i,e with|0,e=>cases e;refine⟨.ref a,rfl,?_⟩;rw[Rep];exact⟨a,_,rfl,m,ur ns⟩|i+1,e=>simp at e
 .match i,e with|0,e=>cases e;cases l|i+1,e=>simp at e
 .obtain⟨⟨s,n,e,l⟩,_⟩:=h;match i,e with|0,e=>cases e;cases l|i+1,e=>simp at e
 .have f:Rep K o v (.bl ck):=f;rw[Rep]at f;exact f
end
end _H
namespace _H
open PySem
variable{n:Nat}{c:Call}{ρ:List Sl}{is:List Nat}{ds:List D}
noncomputable def Res.sat{b:Type}(Q:b->List Sl->Prop)(x:Res b):Prop:=match x with|.ok a ρ=>Q a ρ|.exc _ _=>False|.stuck=>False
section
variable{α β:Type}{Q Q':α->List Sl->Prop}
@[simp]theorem iM{a:α}{ρ:List Sl}:(Res.ok a ρ).sat Q=Q a ρ:=rfl
@[simp]theorem aa0{k:Nat}{ρ:List Sl}:(Res.exc k ρ:Res α).sat Q=False:=rfl
@[simp]theorem Vm:(Res.stuck:Res α).sat Q=False:=rfl
theorem aQ{x:Res β}{f:β->List Sl->Res α}:(x.bind f).sat Q=x.sat λa ρ=>(f a ρ).sat Q:=by cases x<;>rfl
@[simp]theorem aaP{p:Prop}[Decidable p]{x y:Res α}:(if p then x else y).sat Q=((p->x.sat Q)/\(¬ p->y.sat Q)):=by by_cases h:p<;>simp[h]
@[simp]theorem bA{a:α}{ρ:List Sl}:(lift (aB a) ρ).sat Q=Q a ρ:=rfl
@[simp]theorem KD{ρ:List Sl}:(lift (b_:Option α) ρ).sat Q=False:=rfl
@[simp]theorem Ny{p:Prop}[Decidable p]{a:α}{ρ:List Sl}:(lift (if p then aB a else b_) ρ).sat Q=(p/\Q a ρ):=by by_cases h:p<;>simp[h]
theorem Res.sat.imp{x:Res α}(h:x.sat Q)(k:∀a ρ,Q a ρ->Q' a ρ):x.sat Q':=by cases x with|ok a ρ=>exact k a ρ h|exc _ _=>exact h|stuck=>exact h
theorem sat_iff{x:Res α}:x.sat Q↔∃a ρ,x=.ok a ρ/\Q a ρ:=by cases x with|ok a ρ=>exact⟨λh=>⟨a,ρ,rfl,h⟩,λ⟨_,_,e,h⟩=>by cases e;exact h⟩|exc _ _=>exact⟨λh=>h.elim,λ⟨_,_,e,_⟩=>by cases e⟩|stuck=>exact⟨λh=>h.elim,λ⟨_,_,e,_⟩=>by cases e⟩
end
noncomputable def fr:Sl->Bool|.aM=>ck|.val b _=>!b|.own b _=>!b|.lent _=>a_|.dq _=>a_|.uN _=>a_|.hold _=>a_
@[simp]theorem aed:fr .aM=ck:=rfl
@[simp]theorem ady{b:Bool}{d:D}:fr (.val b d)=!b:=rfl
@[simp]theorem ab6{b:Bool}{d:List D}:fr (.own b d)=!b:=rfl
@[simp]theorem aaU{d:List D}:fr (.lent d)=a_:=rfl
theorem qK(ρ:List Sl)(i:Nat)(s:Sl):put ρ i s=match ρ[i]?with|some t=>if fr t=ck then aB (ρ.set i s)else b_|none=>b_:=by unfold put;cases h:ρ[i]?with|none=>rfl|some t=>cases t with|aM=>rfl|val b d=>cases b<;>rfl|own b d=>cases b<;>rfl|lent d=>rfl|dq m=>rfl|uN m=>rfl|hold m=>rfl
theorem HN{Γ:Tab}{w i:Nat}{d:Fd}{args:List Sl}(h:Γ i=aB d):run Γ w (n+1) i args=enter (run Γ w n) w d args:=by rw[run,h]
noncomputable def fin(np:Nat):Fl->List Sl->Option (R×List Sl)|.next,ρ=>aB (.val .non,ρ.take np)|.ret r,ρ=>aB (r,ρ.take np)|_,_=>b_
noncomputable def eQ(np:Nat)(Q:R->List Sl->Prop)(a:Fl)(ρ:List Sl):Prop:=match a with|.next=>Q (.val .non) (ρ.take np)|.ret r=>Q r (ρ.take np)|_=>False
noncomputable def sQ(c:Call)(n:Nat)(r:List S)(Q:Fl->List Sl->Prop)(fl:Fl)(ρ:List Sl):Prop:=match fl with|.next=>(ji c n r ρ).sat Q|fl=>Q fl ρ
noncomputable def fQ(J:List Sl->Prop)(Q:Fl->List Sl->Prop)(a:Fl)(ρ:List Sl):Prop:=match a with|.next=>J ρ|.cont=>J ρ|.brk=>Q .next ρ|.ret v=>Q (.ret v) ρ
section
variable{np:Nat}{Q:R->List Sl->Prop}{ρ:List Sl}{v:R}{c:Call}{n:Nat}{r:List S}{Q':Fl->List Sl->Prop}{J:List Sl->Prop}
@[simp]theorem aan:eQ np Q .next ρ=Q (.val .non) (ρ.take np):=rfl
@[simp]theorem aca:eQ np Q (.ret v) ρ=Q v (ρ.take np):=rfl
@[simp]theorem adQ:eQ np Q .brk ρ=False:=rfl
@[simp]theorem aaL:eQ np Q .cont ρ=False:=rfl
@[simp]theorem aaI:sQ c n r Q' .next ρ=(ji c n r ρ).sat Q':=rfl
@[simp]theorem aex:sQ c n r Q' (.ret v) ρ=Q' (.ret v) ρ:=rfl
@[simp]theorem adW:sQ c n r Q' .brk ρ=Q' .brk ρ:=rfl
@[simp]theorem aal:sQ c n r Q' .cont ρ=Q' .cont ρ:=rfl
@[simp]theorem aaN:fQ J Q' .next ρ=J ρ:=rfl
@[simp]theorem aag:fQ J Q' .cont ρ=J ρ:=rfl
@[simp]theorem ace:fQ J Q' .brk ρ=Q' .next ρ:=rfl
@[simp]theorem adN:fQ J Q' (.ret v) ρ=Q' (.ret v) ρ:=rfl
end
theorem FJ{d:Fd}{args:List Sl}{Q:R->List Sl->Prop}(a:args.length=d.np)(hd:d.np<=d.nn)(h:(ji c n d.body (args++dA (d.nn-d.np) .aM)).sat (eQ d.np Q)):(enter c n d args).sat Q:=by unfold enter;rw[if_pos ⟨a,hd⟩];revert h;cases ji c n d.body (args++dA (d.nn-d.np) .aM)with|stuck=>exact λh=>f_ h|exc _ _=>exact λh=>f_ h|ok b ρ=>cases b<;>first|exact id|exact λh=>f_ h
theorem bh{Γ:Tab}{w i:Nat}{d:Fd}{args:List Sl}{Q:R->List Sl->Prop}(a:Γ i=aB d)(b:args.length=d.np)(hd:d.np<=d.nn)(h:(ji (run Γ w n) w d.body (args++dA (d.nn-d.np) .aM)).sat (eQ d.np Q)):(run Γ w (n+1) i args).sat Q:=by rw[HN a];exact FJ b hd h
theorem aq{s:S}{r:List S}{Q:Fl->List Sl->Prop}(h:(ex c n s ρ).sat (sQ c n r Q)):(ji c n (s::r) ρ).sat Q:=by rw[Vi,aQ];refine h.imp λa b q=>?_;cases a<;>exact q
theorem DY{s:S}{r:List S}{Q:Fl->List Sl->Prop}(h:(ex c n s ρ).sat (sQ c n r Q)):sQ c n (s::r) Q .next ρ:=aq h
@[simp]theorem abh{c:Call}{n:Nat}{ρ:List Sl}{Q:Fl->List Sl->Prop}:(ji c n [] ρ).sat Q=Q .next ρ:=by rw[xs0];rfl
theorem lQ{s:S}{r:List S}{Q:Fl->List Sl->Prop}(M:List Sl->Prop)(h:(ex c n s ρ).sat λb a=>b=.next/\M a)(k:∀a,M a->(ji c n r a).sat Q):(ji c n (s::r) ρ).sat Q:=aq (h.imp λb a⟨e,q⟩=>by subst e;exact k a q)
theorem cG{is:List Nat}{one:Bool}{body:List Sl->Res Fl}(J:List D->List Sl->Prop){Q:Fl->List Sl->Prop}(b:∀d r ρ,J (d::r) ρ->∃a,bV ρ is one d=aB a/\(body a).sat (fQ (J r) Q))(f:∀ρ,J [] ρ->Q .next ρ):∀{ds:List D}{ρ:List Sl},J ds ρ->(jh is one body ds ρ).sat Q|[],ρ,j=>f ρ j|d::r,ρ,j=>by obtain⟨a,e,h⟩:=b d r ρ j;rw[zQ,e];show((body a).bind _).sat Q;rw[aQ];refine h.imp λg i q=>?_;cases g with|next=>exact cG J b f q|cont=>exact cG J b f q|brk=>exact q|ret v=>exact q
theorem lL{is:List Nat}{one:Bool}{a:List Sl->Res Bool}{p:Ev}(J:List Sl->Prop)(g:D->Option D){Q:List D->List Sl->Prop}:∀{ds f:List D}{ρ:List Sl},J ρ->(∀ d,d ∈ ds->∀ ρ,J ρ->∃ i,bV ρ is one d=aB i/\(a i).sat λb l=>if b=ck then(p l).sat λr s=>g d=aB r.d/\J s else g d=b_/\J l)->(∀ ρ,J ρ->Q (f++ds.filterMap g) ρ)->(turns is one a p ds f ρ).sat Q|[],f,ρ,j,h,k=>by rw[vQ];simpa using k ρ j|d::r,f,ρ,j,h,k=>by obtain⟨i,e,h1⟩:=h d (by simp) ρ j;rw[vp,e];show((a i).bind _).sat Q;rw[aQ];refine h1.imp λb l q=>?_;cases b with|true=>rw[if_pos rfl]at q;rw[if_pos rfl,aQ];refine q.imp λx s⟨u,j3⟩=>?_;refine lL J g j3 (λd' m=>h d' (by simp[m])) λo t=>?_;have:=k o t;rw[i5,u]at this;rw[List.append_assoc];exact this|false=>rw[if_neg (by simp)]at q;rw[if_neg (by simp)];refine lL J g q.2 (λd' m=>h d' (by simp[m])) λo t=>?_;have:=k o t;rw[i5,q.1]at this;exact this
theorem zF{one:Bool}{b:Ev}(J:List Sl->Prop)(g:D->D){Q:List D->List Sl->Prop}(j:J ρ)(h:∀d,d∈ds->∀ρ,J ρ->∃a,bV ρ is one d=aB a/\(b a).sat λr f=>g d=r.d/\J f)(k:∀ρ,J ρ->Q (ds.map g) ρ):(turns is one (jR c b_) b ds [] ρ).sat Q:=lL J (λd=>aB (g d)) j (λd hd ρ j=>by obtain⟨a,e,h1⟩:=h d hd ρ j;refine⟨a,e,?_⟩;rw[jR,iM,if_pos rfl];exact h1.imp λr f q=>⟨by rw[q.1],q.2⟩) λρ j=>by simpa using k ρ j
section
variable{ρ l:List Sl}{a:Sl}{i j:Int}{k m:Nat}{b b':Bool}{s:Str}{d:D}{ds es:List D}{e f:Ev}{x:Option Sl}{c:Call}
@[simp]theorem Uq:dB .int .non=a_:=rfl
@[simp]theorem V0:dB .int (.bl b)=ck:=rfl
@[simp]theorem Ru:dB .int (.int i)=ck:=rfl
@[simp]theorem Uk:dB .int (.str s)=a_:=rfl
@[simp]theorem Q6:dB .int (.tup ds)=a_:=rfl
@[simp]theorem R4:dB .int (.lst ds)=a_:=rfl
@[simp]theorem O8:dB .bool .non=a_:=rfl
@[simp]theorem QK:dB .bool (.bl b)=ck:=rfl
@[simp]theorem Pk:dB .bool (.int i)=a_:=rfl
@[simp]theorem Qh:dB .bool (.str s)=a_:=rfl
@[simp]theorem PX:dB .bool (.tup ds)=a_:=rfl
@[simp]theorem Qg:dB .bool (.lst ds)=a_:=rfl
@[simp]theorem RK:dB .str .non=a_:=rfl
@[simp]theorem V3:dB .str (.bl b)=a_:=rfl
@[simp]theorem Q4:dB .str (.int i)=a_:=rfl
@[simp]theorem Ss:dB .str (.str s)=ck:=rfl
@[simp]theorem Q9:dB .str (.tup ds)=a_:=rfl
@[simp]theorem QC:dB .str (.lst ds)=a_:=rfl
@[simp]theorem Ml:dB .tuple .non=a_:=rfl
@[simp]theorem PL:dB .tuple (.bl b)=a_:=rfl
@[simp]theorem Nv:dB .tuple (.int i)=a_:=rfl
@[simp]theorem N7:dB .tuple (.str s)=a_:=rfl
@[simp]theorem NK:dB .tuple (.tup ds)=ck:=rfl
@[simp]theorem Nt:dB .tuple (.lst ds)=a_:=rfl
@[simp]theorem Ql:dB .list .non=a_:=rfl
@[simp]theorem Rh:dB .list (.bl b)=a_:=rfl
@[simp]theorem Ph:dB .list (.int i)=a_:=rfl
@[simp]theorem Qf:dB .list (.str s)=a_:=rfl
@[simp]theorem Qk:dB .list (.tup ds)=a_:=rfl
@[simp]theorem Qd:dB .list (.lst ds)=ck:=rfl
@[simp]theorem O9:dB .none .non=ck:=rfl
@[simp]theorem S9:dB .none (.bl b)=a_:=rfl
@[simp]theorem PN:dB .none (.int i)=a_:=rfl
@[simp]theorem Pj:dB .none (.str s)=a_:=rfl
@[simp]theorem O7:dB .none (.tup ds)=a_:=rfl
@[simp]theorem O2:dB .none (.lst ds)=a_:=rfl
@[simp]theorem We:kj .non=ck:=rfl
@[simp]theorem Xq:kj (.bl b)=a_:=rfl
@[simp]theorem Wd:kj (.int i)=a_:=rfl
@[simp]theorem VD:kj (.str s)=a_:=rfl
@[simp]theorem Vs:kj (.tup ds)=a_:=rfl
@[simp]theorem Vh:kj (.lst ds)=a_:=rfl
@[simp]theorem Y4:flat .non=ck:=rfl
@[simp]theorem aa6:flat (.bl b)=ck:=rfl
@[simp]theorem Wv:flat (.int i)=ck:=rfl
@[simp]theorem Y0:flat (.str s)=ck:=rfl
@[simp]theorem XR:flat (.tup ds)=a_:=rfl
@[simp]theorem Zn:flat (.lst ds)=a_:=rfl
@[simp]theorem zM:(R.val d).d=d:=rfl
@[simp]theorem je:(R.own ds).d=.lst ds:=rfl
@[simp]theorem Yc:zr (.val d)=.val a_ d:=rfl
@[simp]theorem Zg:zr (.own ds)=.own a_ ds:=rfl
@[simp]theorem Vq:uc (.val d)=.dat d:=rfl
@[simp]theorem Vv:uc (.own ds)=.tmp ds:=rfl
@[simp]theorem aaY:fj (.int i)=aB i:=rfl
@[simp]theorem Aj:zp (.bl b)=aB b:=rfl
@[simp]theorem Eb:items (.lst ds)=aB ds:=rfl
@[simp]theorem Wa:items (.tup ds)=aB ds:=rfl
@[simp]theorem Te:Uj (.tup ds)=aB ds:=rfl
@[simp]theorem TJ:rZ (.lst ds)=aB ds:=rfl
@[simp]theorem aaf:sZ .add=rG:=rfl
@[simp]theorem aae:sZ .sub=xO:=rfl
@[simp]theorem abe:sZ .mul=pA:=rfl
@[simp]theorem Xu:sZ .fdiv=rQ:=rfl
@[simp]theorem aax:sZ .mod=xU:=rfl
@[simp]theorem aah:sZ .pow=wO:=rfl
@[simp]theorem Vk:rG (.int i) (.int j)=aB (.val (.int (i+j))):=rfl
@[simp]theorem VB:rG (.lst ds) (.lst es)=if ds.length+es.length<=lim then aB (.own (ds++es))else b_:=rfl
@[simp]theorem V9:rG (.tup ds) (.tup es)=if ds.length+es.length<=lim then aB (.val (.tup (ds++es)))else b_:=rfl
@[simp]theorem Vg:xO (.int i) (.int j)=aB (.val (.int (i-j))):=rfl
@[simp]theorem Ve:pA (.int i) (.int j)=if((-18446744073709551616<i/\i<18446744073709551616)\/(-18446744073709551616<j/\j<18446744073709551616))then aB (.val (.int (i*j)))else b_:=rfl
@[simp]theorem Tu:rQ (.int i) (.int j)=if 0<j/\j<1606938044258990275541962092341162602522202993782792835301376 then aB (.val (.int (i/j)))else b_:=rfl
@[simp]theorem V5:xU (.int i) (.int j)=if 0<j then aB (.val (.int (i%j)))else b_:=rfl
@[simp]theorem VV:wO (.int i) (.int j)=if 0<=j/\j<=1000/\i.natAbs<18446744073709551616 then aB (.val (.int (i^j.toNat)))else b_:=rfl
@[simp]theorem aa2:oO (.lst ds) (.int i)=(at' ds i).map .val:=rfl
@[simp]theorem abf:oO (.tup ds) (.int i)=(at' ds i).map .val:=rfl
@[simp]theorem Ze:Jk (.int i)=aB (.val (.int (-i))):=rfl
@[simp]theorem Vl:cm .eq (.int i) (.int j)=aB (i==j):=rfl
@[simp]theorem Vz:cm .ne (.int i) (.int j)=aB (!(i==j)):=rfl
@[simp]theorem W6:cm .eq (.bl b) (.bl b')=aB (b==b'):=rfl
@[simp]theorem YK:cm .ne (.bl b) (.bl b')=aB (!(b==b')):=rfl
@[simp]theorem V7:cm .lt (.int i) (.int j)=aB (decide (i<j)):=rfl
@[simp]theorem VR:cm .le (.int i) (.int j)=aB (decide (i<=j)):=rfl
@[simp]theorem Vf:cm .gt (.int i) (.int j)=aB (decide (j<i)):=rfl
@[simp]theorem VF:cm .ge (.int i) (.int j)=aB (decide (j<=i)):=rfl
@[simp]theorem ac1:cm .isN d .non=aB (kj d):=rfl
@[simp]theorem aaQ:cm .Oj d .non=aB (!kj d):=rfl
@[simp]theorem Qc:blt .len [.lst ds]=aB (.val (.int ds.length)):=rfl
@[simp]theorem Pr:blt .len [.tup ds]=aB (.val (.int ds.length)):=rfl
@[simp]theorem Od:blt .list [.lst ds]=aB (.own ds):=rfl
@[simp]theorem Ma:blt .list [.tup ds]=aB (.own ds):=rfl
@[simp]theorem Kv:blt .tuple [.lst ds]=aB (.val (.tup ds)):=rfl
@[simp]theorem Kz:blt .tuple [.tup ds]=aB (.val (.tup ds)):=rfl
@[simp]theorem XQ:blt .min2 [.int i,.int j]=aB (.val (.int (if j<i then j else i))):=rfl
@[simp]theorem Yl:blt .max2 [.int i,.int j]=aB (.val (.int (if i<j then j else i))):=rfl
@[simp]theorem gH:blt .all [.lst ds]=(ds.mapM zp).map λbs=>.val (.bl (bs.all id)):=rfl
@[simp]theorem Vy:isVar (.var k)=aB k:=rfl
@[simp]theorem aai:pk (a::l) k=match(a::l)[k]?with|some (.val _ d)=>aB d|some (.own _ ds)=>aB (.lst ds)|some (.lent ds)=>aB (.lst ds)|_=>b_:=rfl
@[simp]theorem Ys:W0 (a::l) k=match pk (a::l) k with|some (.lst ds)=>aB ds|_=>b_:=rfl
@[simp]theorem W9:bU (aB k) e ρ=lift (pk ρ k) ρ:=rfl
@[simp]theorem YQ:bU b_ e ρ=(e ρ).bind λr ρ=>.ok r.d ρ:=rfl
@[simp]theorem Vt{y:Option Nat}:jf (aB k) e y f ρ=(lift (pk ρ k) ρ).bind λ_ ρ=>(bU y f ρ).bind λy ρ=>(lift (pk ρ k) ρ).bind λx ρ=>.ok (x,y) ρ:=rfl
@[simp]theorem Vd{y:Option Nat}:jf b_ e y f ρ=(bU b_ e ρ).bind λx ρ=>(bU y f ρ).bind λy ρ=>.ok (x,y) ρ:=rfl
@[simp]theorem Vr{es:List D}:gk (.own b ds) (aB (.own b' es))=.own b es:=rfl
@[simp]theorem V4:gk (.own b ds) (aB (.val b' d))=.val b d:=rfl
@[simp]theorem J5:gk a b_=a:=by cases a<;>rfl
@[simp]theorem Ey:gk (.val b d) x=.val b d:=by cases x<;>rfl
@[simp]theorem V2:gk .aM x=.aM:=by cases x<;>rfl
@[simp]theorem za:gk (.lent ds) x=.lent ds:=by cases x<;>rfl
@[simp]theorem WN:bV ρ [k] ck d=put ρ k (.val a_ d):=rfl
@[simp]theorem Wh{is:List Nat}:bV ρ is a_ (.tup ds)=putAll ρ is ds:=by cases is<;>rfl
@[simp]theorem Q7:srcOf b_ e ρ=(e ρ).bind λr ρ=>lift (items r.d) ρ:=rfl
@[simp]theorem dZ:srcOf (aB k) e (a::l)=match(a::l)[k]?with|some (.val _ d)=>lift (items d) (a::l)|some (.own _ ds)=>.ok ds ((a::l).set k (.lent ds))|some (.lent ds)=>.ok ds (a::l)|_=>.stuck:=rfl
@[simp]theorem Pq{g:List Sl}:bH g b_ ρ=ρ:=rfl
@[simp]theorem dD:bH (a::l) (aB k) ρ=match(a::l)[k]?with|some (.own b ds)=>ρ.set k (.own b ds)|_=>ρ:=rfl
@[simp]theorem YZ{s:Sl}:put (a::l) k s=match(a::l)[k]?with|some t=>if fr t=ck then aB ((a::l).set k s)else b_|none=>b_:=qK ..
@[simp]theorem sJ:putAll ρ [] []=aB ρ:=rfl
@[simp]theorem OJ{is:List Nat}:putAll ρ (k::is) (d::ds)=(put ρ k (.val a_ d)).bind λρ=>putAll ρ is ds:=rfl
end
@[simp]theorem at_0{a:Type}{b:a}{l:List a}:at' (b::l) 0=aB b:=by unfold at' lD;rw[if_pos (by decide),if_pos (by simp only[g_];lia)];rfl
@[simp]theorem at_1{a:Type}{e b:a}{l:List a}:at' (e::b::l) 1=aB b:=by unfold at' lD;rw[if_pos (by decide),if_pos (by simp only[g_];lia)];rfl
@[simp]theorem at_2{a:Type}{e f b:a}{l:List a}:at' (e::f::b::l) 2=aB b:=by unfold at' lD;rw[if_pos (by decide),if_pos (by simp only[g_];lia)];rfl
@[simp]theorem at_3{a:Type}{e f g b:a}{l:List a}:at' (e::f::g::b::l) 3=aB b:=by unfold at' lD;rw[if_pos (by decide),if_pos (by simp only[g_];lia)];rfl
@[simp]theorem at_4{a:Type}{e f g h b:a}{l:List a}:at' (e::f::g::h::b::l) 4=aB b:=by unfold at' lD;rw[if_pos (by decide),if_pos (by simp only[g_];lia)];rfl
@[simp]theorem at_5{a:Type}{e f g h i b:a}{l:List a}:at' (e::f::g::h::i::b::l) 5=aB b:=by unfold at' lD;rw[if_pos (by decide),if_pos (by simp only[g_];lia)];rfl
@[simp]theorem at_6{a:Type}{e f g h i j b:a}{l:List a}:at' (e::f::g::h::i::j::b::l) 6=aB b:=by unfold at' lD;rw[if_pos (by decide),if_pos (by simp only[g_];lia)];rfl
@[simp]theorem at_7{a:Type}{e f g h i j m b:a}{l:List a}:at' (e::f::g::h::i::j::m::b::l) 7=aB b:=by unfold at' lD;rw[if_pos (by decide),if_pos (by simp only[g_];lia)];rfl
theorem eG{a:Type}{l:List a}{i:Int}(h:0<=i)(h':i<l.length):at' l i=l[i.toNat]?:=by unfold at' lD;rw[if_pos h,if_pos h'];rfl
theorem JP{a:Type}{l:List a}{k:Nat}(h':k<l.length):at' l (k:Int)=l[k]?:=by rw[eG (by lia) (by lia)];simp
@[simp]theorem V8{d:D}:isVar (.con d)=b_:=rfl
@[simp]theorem Vn{o:Op}{p q:P}:isVar (.bin o p q)=b_:=rfl
@[simp]theorem VH{p:P}:isVar (.neg p)=b_:=rfl
@[simp]theorem Vo{p:P}:isVar (.not p)=b_:=rfl
@[simp]theorem U5{p q:P}:isVar (.and p q)=b_:=rfl
@[simp]theorem Yk{p q:P}:isVar (.or p q)=b_:=rfl
@[simp]theorem Vx{o:Cm}{p q:P}:isVar (.cmp o p q)=b_:=rfl
@[simp]theorem Pu{o a:Cm}{p q r:P}:isVar (.chain o a p q r)=b_:=rfl
@[simp]theorem VL{p q r:P}:isVar (.ife p q r)=b_:=rfl
@[simp]theorem Vb{as:List P}:isVar (.tup as)=b_:=rfl
@[simp]theorem V6{as:List P}:isVar (.lst as)=b_:=rfl
@[simp]theorem VG{p q:P}:isVar (.idx p q)=b_:=rfl
@[simp]theorem Qa{p q r:P}:isVar (.slice p q r)=b_:=rfl
@[simp]theorem Uh{f:Nat}{as:List P}:isVar (.call f as)=b_:=rfl
@[simp]theorem VP{b:Blt}{as:List P}:isVar (.blt b as)=b_:=rfl
@[simp]theorem SJ{a:List Ty}{p:P}:isVar (.inst a p)=b_:=rfl
@[simp]theorem QX{p e:P}{n:Nat}{is:List Nat}{one:Bool}{t:Option P}:isVar (.comp p n is one t e)=b_:=rfl
@[simp]theorem Vc{p q:P}:isVar (.nY p q)=b_:=rfl
@[simp]theorem U8{p:P}:isVar (.Zx p)=b_:=rfl
@[simp]theorem U9{p q:P}:isVar (.zip p q)=b_:=rfl
noncomputable def jr(c:Call)(is:List Nat)(one:Bool)(a:Option P)(b:P)(ds:List D)(ρ:List Sl):Res (List D):=turns is one (jR c a) (ev c b) ds [] ρ
@[simp]theorem aaM{c:Call}{src f:P}{n:Nat}{is:List Nat}{one:Bool}{b:Option P}{ρ:List Sl}:ev c (.comp src n is one b f) ρ=(srcOf (isVar src) (ev c src) ρ).bind λds a=>if ds.length<=lim then(jr c is one b f ds (a++dA n .aM)).bind λxs e=>.ok (.own xs) (bH ρ (isVar src) (e.take a.length))else .stuck:=(rfl)
noncomputable def Mt(c:Call)(n:Nat)(t:P)(body:List S)(k:Nat)(ρ:List Sl):Res Fl:=Ak (kY (ev c t)) (ji c n body) k ρ
theorem vR{b e h:Type}{x:Res e}{f:e->List Sl->Res b}{g:b->List Sl->Res h}:(x.bind f).bind g=x.bind λa ρ=>(f a ρ).bind g:=by cases x<;>rfl
@[simp]theorem adh{Γ:Tab}{w n i:Nat}{args:List Sl}{b:Type}{f:R->List Sl->Res b}{Q:b->List Sl->Prop}:((run Γ w n i args).bind f).sat Q=(run Γ w n i args).sat λa ρ=>(f a ρ).sat Q:=aQ
@[simp]theorem aer{Γ:Tab}{w n i:Nat}{args:List Sl}{b e:Type}{f:R->List Sl->Res b}{g:b->List Sl->Res e}:((run Γ w n i args).bind f).bind g=(run Γ w n i args).bind λa ρ=>(f a ρ).bind g:=vR
@[simp]theorem aaj{c:Call}{is:List Nat}{one:Bool}{b:Option P}{e:P}{ds:List D}{ρ:List Sl}{g:Type}{f:List D->List Sl->Res g}{Q:g->List Sl->Prop}:((jr c is one b e ds ρ).bind f).sat Q=(jr c is one b e ds ρ).sat λa ρ=>(f a ρ).sat Q:=aQ
@[simp]theorem aaq{c:Call}{is:List Nat}{one:Bool}{b:Option P}{e:P}{ds:List D}{ρ:List Sl}{h i:Type}{f:List D->List Sl->Res h}{g:h->List Sl->Res i}:((jr c is one b e ds ρ).bind f).bind g=(jr c is one b e ds ρ).bind λa ρ=>(f a ρ).bind g:=vR
@[simp]theorem adl{is:List Nat}{one:Bool}{b:List Sl->Res Fl}{ds:List D}{ρ:List Sl}{e:Type}{f:Fl->List Sl->Res e}{Q:e->List Sl->Prop}:((jh is one b ds ρ).bind f).sat Q=(jh is one b ds ρ).sat λa ρ=>(f a ρ).sat Q:=aQ
@[simp]theorem aaa{b e:Type}{p:Prop}[Decidable p]{a:e}{ρ:List Sl}{f:e->List Sl->Res b}{Q:b->List Sl->Prop}:((lift (if p then aB a else b_) ρ).bind f).sat Q=(p/\(f a ρ).sat Q):=by by_cases h:p<;>simp[h,lift,Res.bind]
@[simp]theorem aaE{b e h:Type}{p:Prop}[Decidable p]{a:e}{ρ:List Sl}{f:e->List Sl->Res b}{g:b->List Sl->Res h}:((lift (if p then aB a else b_) ρ).bind f).bind g=(lift (if p then aB a else b_) ρ).bind λa ρ=>(f a ρ).bind g:=vR
@[simp]theorem bb_ite{b a:Type}{p:Prop}[Decidable p]{x y:Res a}{f:a->List Sl->Res b}:(if p then x else y).bind f=if p then x.bind f else y.bind f:=by by_cases h:p<;>simp[h]
@[simp]theorem ac3{c:Call}{n k:Nat}{t:P}{b:List S}{ρ:List Sl}{e:Type}{f:Fl->List Sl->Res e}{Q:e->List Sl->Prop}:((Mt c n t b k ρ).bind f).sat Q=(Mt c n t b k ρ).sat λa ρ=>(f a ρ).sat Q:=aQ
@[simp]theorem acj{b e:Type}{a:b}{ρ:List Sl}{f:b->List Sl->Res e}:(Res.ok a ρ).bind f=f a ρ:=rfl
@[simp]theorem VM{a b:Type}{f:a->List Sl->Res b}:(Res.stuck:Res a).bind f=.stuck:=rfl
@[simp]theorem Yq{b:Type}{a:b}{ρ:List Sl}:lift (aB a) ρ=.ok a ρ:=rfl
@[simp]theorem W2{a:Type}{ρ:List Sl}:lift (b_:Option a) ρ=.stuck:=rfl
noncomputable def Ge:List Sl->Nat->Sl->List Sl|[],_,_=>[]|t::ρ,0,s=>gk t (aB s)::ρ|t::ρ,k+1,s=>t::Ge ρ k s
theorem qD{k:Nat}{s:Sl}:Ge [] k s=[]:=rfl
theorem rF{t:Sl}{ρ:List Sl}{s:Sl}:Ge (t::ρ) 0 s=gk t (aB s)::ρ:=rfl
theorem qO{t:Sl}{ρ:List Sl}{k:Nat}{s:Sl}:Ge (t::ρ) (k+1) s=t::Ge ρ k s:=rfl
noncomputable def bk:List Arg->List Sl->List Sl->List Sl|.gO k::as,s::ss,ρ=>bk as ss (Ge ρ k s)|.dat _::as,_::ss,ρ=>bk as ss ρ|.tmp _::as,_::ss,ρ=>bk as ss ρ|_,_,ρ=>ρ
section
variable{t s:Sl}{ρ ss:List Sl}{k:Nat}{as:List Arg}{d:D}{ds:List D}
@[simp]theorem afJ:Ge (t::ρ) 0 s=gk t (aB s)::ρ:=rfl
@[simp]theorem afx:Ge (t::ρ) (k+1) s=t::Ge ρ k s:=rfl
@[simp]theorem QV:bk (.gO k::as) (s::ss) ρ=bk as ss (Ge ρ k s):=rfl
@[simp]theorem QD:bk (.dat d::as) (s::ss) ρ=bk as ss ρ:=rfl
@[simp]theorem Rq:bk (.tmp ds::as) (s::ss) ρ=bk as ss ρ:=rfl
@[simp]theorem ab8:bk [] ss ρ=ρ:=rfl
end
theorem Ai{s:Sl}:∀{ρ:List Sl}{k j:Nat},(Ge ρ k s)[j]?=(ρ[j]?).map λt=>if j=k then gk t (aB s)else t|[],_,_=>by simp[qD,rF,qO]|t::ρ,0,0=>by simp[qD,rF,qO]|t::ρ,0,j+1=>by simp[qD,rF,qO]|t::ρ,k+1,0=>by simp[qD,rF,qO]|t::ρ,k+1,j+1=>by have:=Ai (s:=s) (ρ:=ρ) (k:=k) (j:=j);simp only[qD,rF,qO,kM,this];congr 1;funext t;simp
theorem yw{as:List Arg}{ss:List Sl}:∀{ρ:List Sl}{i j:Nat},(fX as ss i ρ)[j]?=(ρ[j]?).map λt=>gk t (bF (i+j) as ss)|[],_,_=>by simp[qH,mO]|t::ρ,i,0=>by simp[qH,mO]|t::ρ,i,j+1=>by have:=yw (as:=as) (ss:=ss) (ρ:=ρ) (i:=i+1) (j:=j);simp only[qH,mO,kM,this];rw[show i+1+j=i+(j+1)by lia]
noncomputable def stb(t:Sl):Prop:=∀x,gk t x=t
noncomputable def Rc(ρ:List Sl):List Arg->Prop|[]=>True|.gO k::as=>(Arg.gO k∈as->∀t,ρ[k]?=aB t->stb t)/\Rc ρ as|_::as=>Rc ρ as
theorem qd{ρ:List Sl}:∀{as:List Arg}{a:List Sl},Rc ρ as->(∀k,Arg.gO k∈as->∀t,a[k]?=aB t->ρ[k]?=aB t\/stb t)->Rc a as
 |[],_,_,_=>trivial|.gO k::as,a,h,g=>⟨λf t i=>by
  rcases g k (by simp) t i with e|e;.exact h.1 f t e
  .exact e,qd h.2 λj b=>g j (by simp[b])⟩|.dat _::as,a,h,g=>qd (as:=as) h λj b=>g j (by simp[b])|.tmp _::as,a,h,g=>qd (as:=as) h λj b=>g j (by simp[b])
theorem nH{k:Nat}:∀{as:List Arg}{ss:List Sl},Arg.gO k∉as->bF k as ss=b_|[],_,_=>by unfold bF;rfl|.gO j::as,[],_=>rfl|.dat _::as,[],_=>rfl|.tmp _::as,[],_=>rfl|.gO j::as,s::ss,h=>by simp only[et,Arg.gO.injEq,not_or]at h;rw[bF,if_neg (λe=>h.1 e.symm),nH h.2]|.dat _::as,s::ss,h=>by simp only[et,not_or]at h;rw[bF,nH h.2]|.tmp _::as,s::ss,h=>by simp only[et,not_or]at h;rw[bF,nH h.2]
theorem Dk:∀{as:List Arg}{ss ρ:List Sl},Rc ρ as->∀j,(bk as ss ρ)[j]?=(ρ[j]?).map λt=>gk t (bF j as ss)
 |[],ss,ρ,_,j=>by cases ss<;>simp[bF]|.gO k::as,[],ρ,_,j=>by rw[show bk (.gO k::as) [] ρ=ρ from rfl];simp[bF]|.dat d::as,[],ρ,_,j=>by rw[show bk (.dat d::as) [] ρ=ρ from rfl];simp[bF]|.tmp d::as,[],ρ,_,j=>by rw[show bk (.tmp d::as) [] ρ=ρ from rfl];simp[bF]|.dat _::as,s::ss,ρ,h,j=>by rw[QD,bF];exact Dk (as:=as) h j|.tmp _::as,s::ss,ρ,h,j=>by rw[Rq,bF];exact Dk (as:=as) h j|.gO k::as,s::ss,ρ,h,j=>by
   have f:Rc (Ge ρ k s) as:=qd h.2 λi hi t a=>by rw[Ai]at a;cases e:ρ[i]?with|none=>rw[e]at a;cases a|some t0=>
      rw[e]at a;by_cases c:i=k;.subst c;have hs:=h.1 hi t0 e;simp[hs (aB s)]at a;exact .inl (by rw[a])
      .simp[c]at a;exact .inl (by rw[a])
   rw[QV,Dk f j,Ai,bF];cases e:ρ[j]?with|none=>rfl|some t0=>
     simp only[eT];by_cases c:j=k
     . subst c;rw[if_pos rfl,if_pos rfl];by_cases b:Arg.gO j∈as;.have hs:=h.1 b t0 e;rw[hs (aB s),hs]
       .rw[nH b,J5]
     .rw[if_neg c,if_neg (λz=>c z.symm)]
theorem iC{ρ:List Sl}{k:Nat}{b:Bool}{ds:List D}(e:ρ[k]?=aB (.own b ds)):∀{as:List Arg}{u:List Nat}{r:List Sl},k∈u->cM ρ as u=aB r->Arg.gO k∉as
 |[],_,_,_,_=>by simp|.dat _::as,u,r,a,h=>by simp only[zc,zg,zV,qQ,gc]at h;obtain⟨f,h,_⟩:=h;simp[iC e a h]|.tmp _::as,u,r,a,h=>by simp only[zc,zg,zV,qQ,gc]at h;obtain⟨f,h,_⟩:=h;simp[iC e a h]|.gO i::as,u,r,a,h=>by
   rw[qQ]at h;have hi:i≠k:=by rintro rfl;rw[e]at h;simp[a]at h
   have:Arg.gO k∉as:=by
    split at h;.obtain⟨f,h,_⟩:=gc.mp h;exact iC e a h
    . split at h;.cases h
      .obtain⟨f,h,_⟩:=gc.mp h;exact iC e (by simp[a]) h
    . split at h;.cases h
      .obtain⟨f,h,_⟩:=gc.mp h;exact iC e (by simp[a]) h
    .cases h
   simp[this];exact λz=>hi z.symm
theorem iD{ρ:List Sl}:∀{as:List Arg}{u:List Nat}{r:List Sl},cM ρ as u=aB r->Rc ρ as
 |[],_,_,_=>trivial|.dat _::as,u,r,h=>by obtain⟨e,h,_⟩:=gc.mp h;exact iD (as:=as) h|.tmp _::as,u,r,h=>by obtain⟨e,h,_⟩:=gc.mp h;exact iD (as:=as) h|.gO i::as,u,r,h=>by
   rw[qQ]at h;split at h;.rename_i b d q;obtain⟨e,h,_⟩:=gc.mp h;exact⟨λ_ t a=>by rw[q]at a;cases a;exact λx=>Ey,iD h⟩
   . rename_i b ds q;split at h;.cases h
     .obtain⟨e,h,_⟩:=gc.mp h;exact⟨λf=>absurd f (iC q (by simp) h),iD h⟩
   . rename_i ds q;split at h;.cases h
     .obtain⟨e,h,_⟩:=gc.mp h;exact⟨λ_ t a=>by rw[q]at a;cases a;exact λx=>za,iD h⟩
   .cases h
theorem Zc{as:List Arg}{ss r:List Sl}{u:List Nat}(h:cM ρ as u=aB r):fX as ss 0 ρ=bk as ss ρ:=by apply List.ext_getElem?;intro j;rw[yw,Dk (iD h),oz]
@[simp]theorem VJ{c:Call}{k:Nat}{as:List Arg}{ρ:List Sl}:qG c k as ρ=match cM ρ as []with|none=>.stuck|some args=>(c k args).bind λr a=>.ok r (bk as a ρ):=by unfold qG;cases e:cM ρ as []with|none=>rfl|some args=>simp only[<-Zc (r:=args) e];cases c k args<;>rfl
theorem gB{one:Bool}{a:P}(J:List Sl->Prop)(g:D->D){Q:List D->List Sl->Prop}(j:J ρ)(h:∀d,d∈ds->∀ρ,J ρ->∃b,bV ρ is one d=aB b/\(ev c a b).sat λr e=>g d=r.d/\J e)(k:∀ρ,J ρ->Q (ds.map g) ρ):(jr c is one b_ a ds ρ).sat Q:=zF J g j h k
theorem uv{one:Bool}{i t:P}(J:List Sl->Prop)(g:D->Option D){Q:List D->List Sl->Prop}(j:J ρ)(h:∀d,d∈ds->∀ρ,J ρ->∃a,bV ρ is one d=aB a/\(ev c t a).sat λr f=>∃b,r.d=.bl b/\if b=ck then(ev c i f).sat λr l=>g d=aB r.d/\J l else g d=b_/\J f)(k:∀ρ,J ρ->Q (ds.filterMap g) ρ):(jr c is one (aB t) i ds ρ).sat Q:=lL J g j (λd hd ρ j=>by obtain⟨a,e,h1⟩:=h d hd ρ j;refine⟨a,e,?_⟩;rw[jR,kY,aQ];refine h1.imp λr f⟨b,e,q⟩=>?_;rw[e];exact q) λρ j=>by simpa using k ρ j
theorem wR{c:Call}{n:Nat}{t:P}{body:List S}(J:Nat->List Sl->Prop){Q:Fl->List Sl->Prop}(h:∀m ρ,J m ρ->(ev c t ρ).sat λr a=>∃b,r.d=.bl b/\if b=ck then(ji c n body a).sat (fQ (λf=>∃g,g<m/\J g f) Q)else Q .next a):∀{k m:Nat}{ρ:List Sl},m<k->J m ρ->(Mt c n t body k ρ).sat Q|0,m,ρ,i,_=>absurd i (Nat.not_lt_zero _)|k+1,m,ρ,i,j=>by unfold Mt;rw[Sv,aQ,kY,aQ];refine(h m ρ j).imp λr a⟨b,e,q⟩=>?_;rw[e];show(if b=ck then _ else _:Res Fl).sat Q;cases b with|false=>rw[if_neg (by simp)]at q;rw[if_neg (by simp)];exact q|true=>rw[if_pos rfl]at q;rw[if_pos rfl,aQ];refine q.imp λp f q=>?_;cases p with|next=>obtain⟨g,l,o⟩:=q;exact wR J h (eI l (Nat.lt_succ_iff.mp i)) o|cont=>obtain⟨g,l,o⟩:=q;exact wR J h (eI l (Nat.lt_succ_iff.mp i)) o|brk=>exact q|ret v=>exact q
@[simp]theorem CT:type_of%@_H.E1:=@_H.E1
@[simp]theorem afZ:type_of%@_H.E2:=@_H.E2
@[simp]theorem afN:type_of%@_H.E3:=@_H.E3
@[simp]theorem afw:type_of%@_H.E4:=@_H.E4
@[simp]theorem afE:type_of%@_H.E5:=@_H.E5
@[simp]theorem afC:type_of%@_H.E6:=@_H.E6
@[simp]theorem afr:type_of%@_H.E7:=@_H.E7
@[simp]theorem afH:type_of%@_H.E8:=@_H.E8
@[simp]theorem abS:type_of%@_H.E9:=@_H.E9
@[simp]theorem aet:type_of%@_H.E10:=@_H.E10
@[simp]theorem HQ:type_of%@_H.E11:=@_H.E11
@[simp]theorem acT:type_of%@_H.E12:=@_H.E12
@[simp]theorem adG:type_of%@_H.E13:=@_H.E13
@[simp]theorem ac0:type_of%@_H.E14:=@_H.E14
@[simp]theorem gZ:type_of%@_H.E15:=@_H.E15
@[simp]theorem ack:type_of%@_H.E16:=@_H.E16
@[simp]theorem acF:type_of%@_H.E17:=@_H.E17
@[simp]theorem aak:type_of%@_H.Xr:=@_H.Xr
@[simp]theorem abX:type_of%@_H.E18:=@_H.E18
@[simp]theorem ada:type_of%@_H.E19:=@_H.E19
@[simp]theorem ab0:type_of%@_H.E20:=@_H.E20
@[simp]theorem aes:type_of%@_H.E21:=@_H.E21
@[simp]theorem adv:type_of%@_H.E22:=@_H.E22
@[simp]theorem afG:type_of%@_H.X1:=@_H.X1
@[simp]theorem afB:type_of%@_H.X2:=@_H.X2
@[simp]theorem afU:type_of%@_H.X3:=@_H.X3
@[simp]theorem afT:type_of%@_H.X4:=@_H.X4
@[simp]theorem afS:type_of%@_H.X5:=@_H.X5
@[simp]theorem afR:type_of%@_H.X6:=@_H.X6
@[simp]theorem aft:type_of%@_H.X7:=@_H.X7
@[simp]theorem afz:type_of%@_H.X8:=@_H.X8
@[simp]theorem ad5:type_of%@_H.X9:=@_H.X9
@[simp]theorem acu:type_of%@_H.X10:=@_H.X10
@[simp]theorem aeo:type_of%@_H.X11:=@_H.X11
@[simp]theorem adB:type_of%@_H.X12:=@_H.X12
@[simp]theorem ab7:type_of%@_H.X13:=@_H.X13
@[simp]theorem ac5:type_of%@_H.kY.eq_1:=@_H.kY.eq_1
@[simp]theorem aeb:type_of%@_H.evs.eq_1:=@_H.evs.eq_1
@[simp]theorem aep:type_of%@_H.evs.eq_2:=@_H.evs.eq_2
@[simp]theorem acI:type_of%@_H.Af.eq_1:=@_H.Af.eq_1
@[simp]theorem adZ:type_of%@_H.Af.eq_2:=@_H.Af.eq_2
@[simp]theorem acL:type_of%@_H.jR.eq_1:=@_H.jR.eq_1
@[simp]theorem acR:type_of%@_H.jR.eq_2:=@_H.jR.eq_2
@[simp]theorem acq:type_of%@_H.p6.eq_1:=@_H.p6.eq_1
@[simp]theorem XF:type_of%@_H.cM.eq_1:=@_H.cM.eq_1
@[simp]theorem Yy:type_of%@_H.cM.eq_2:=@_H.cM.eq_2
@[simp]theorem Yj:type_of%@_H.cM.eq_3:=@_H.cM.eq_3
@[simp]theorem Zd:type_of%@_H.cM.eq_4:=@_H.cM.eq_4
@[simp]theorem Y8:type_of%@_H.fX.eq_1:=@_H.fX.eq_1
@[simp]theorem Xw:type_of%@_H.fX.eq_2:=@_H.fX.eq_2
@[simp]theorem Zk:type_of%@_H.bF.eq_1:=@_H.bF.eq_1
@[simp]theorem Zo:type_of%@_H.bF.eq_2:=@_H.bF.eq_2
@[simp]theorem Yz:type_of%@_H.bF.eq_3:=@_H.bF.eq_3
@[simp]theorem WL:type_of%@_H.bF.eq_4:=@_H.bF.eq_4
end _H
namespace _H
open PySem _L Spec PyProof.Rows
section
variable{X:Cx}{c:Call}{a b:ek}{pa pb:P}{pos:Pos}
theorem rE:∀{e:List D}{ns:List Int},e.mapM fj=aB ns->e=ns.map D.int|[],ns,h=>by simp at h;subst h;rfl|d::e,ns,h=>by simp[mapM_cons,Option.bind_eq_some_iff]at h;obtain⟨i,f,j,g,rfl⟩:=h;rw[bw f,rE g];rfl
theorem fu{K:PySem.W.Frag}{F:Hp}:∀{ns:List Int}{ys:List V},aN K F ys (ns.map D.int)->ys=ns.map V.int|[],ys,h=>by rw[h.il];rfl|n::ns,ys,h=>by obtain⟨v,r,rfl,h1,t⟩:=h.dh;rw[Rep]at h1;rw[h1,fu t];rfl
theorem u6{ns:List Int}{f:List c_}(h:Vals (ns.map V.int) f){i:Nat}{v:c_}(e:f.toArray[i]?=aB v):∃t,v=.int (ns.getD i 0) t:=by
 have e:f[i]?=aB v:=by simpa using e
 have hi:i<f.length:=(fZ e).1;have l:=h.length;rw[eu]at l;have g:(ns.map V.int)[i]?=aB (.int (ns.getD i 0)):=by rw[ey,g9 (by lia)];simp[kr,show i<ns.length by lia]
 obtain⟨w,j,m⟩:=h.get g;rw[e]at j;cases j;exact m
theorem walked{g:List (df×Obj)}{σ:_L.St}{H:Hp}{s:dc}{p:df}{ys:List V}(I:_L.Inv X g σ H s)(hc:X.calm=ck)(hq:fL X.K H p ys\/jl X.K H p ys){Q:c_->dc->Prop}{E:c_->dc->Prop}(k:∀(it:df)(f:List c_)(e:dc)(St:Nat->fk->Prop),Vals ys f->Walks X.prog X.w X.A.in1 it [it,p] [it] f.toArray.size (λi v=>f.toArray[i]?=aB v) St->St 0 e.heap->(∀ b ∈[it,p],b<e.heap.objs.size)->(∀h' l,(∀b o,b∉[it]->e.heap.get? b=aB o->h'.get? b=aB o)->_L.Inv X g σ H {e with heap:=h',toks:=l})->Q (.ref it) e):dL (dS X.prog X.w) X.A.in1 (om (.ref p)) Q E s:=by
 have q:X.A.in1.handled=b_:=I.ok.hd hc;rcases hq with hq|hq
 . obtain⟨f,m,pl,r⟩:=I.list hq;have pl:=pl.isList;have h:p<s.heap.objs.size:=by obtain⟨o,h1,_⟩:=pl;exact ej h1
   refine hE pl (k s.heap.objs.size f _ _ m (Walks.list q s.heap.objs.size p (eH h) f.toArray) ⟨⟨_,dE _ rfl,rfl,rfl⟩,?_⟩ ?_ λh' l kp=>?_);.obtain⟨o,h1,n⟩:=pl;exact⟨o,fK h1,n⟩
   . intro b j;obtain⟨o,h1,_⟩:=pl;simp at j;rcases j with rfl|rfl;.exact ej (dE _ rfl)
     .exact ej (fK h1)
   .exact I.kept (λb o z=>kp b o (by simp;exact eH (ej z)) (fK z))
 . obtain⟨f,m,pl,r⟩:=I.tuple hq;have h:p<s.heap.objs.size:=by obtain⟨o,h1,_⟩:=pl;exact ej h1
   refine gd pl (k s.heap.objs.size f _ _ m (Walks.tuple q s.heap.objs.size p (eH h) f.toArray) ⟨⟨_,dE _ rfl,rfl,rfl⟩,?_⟩ ?_ λh' l kp=>?_);.obtain⟨o,h1,n⟩:=pl;exact⟨o,fK h1,n⟩
   . intro b j;obtain⟨o,h1,_⟩:=pl;simp at j;rcases j with rfl|rfl;.exact ej (dE _ rfl)
     .exact ej (fK h1)
   .exact I.kept (λb o z=>kp b o (by simp;exact eH (ej z)) (fK z))
theorem pH(ns:List Int):∀k,k<=ns.length->preSum (λi=>ns.getD i 0) k=(ns.take k).sum|0,_=>by simp[preSum]|k+1,h=>by rw[preSum,pH ns k (by lia),List.take_succ,List.sum_append];simp[kr,show k<ns.length by lia]
theorem Wz(hc:X.calm=ck):dU X (.builtin "sum") (Gf X.K λx=>blt .sum [x]):=by
 rintro g s σ H xs h Q I r⟨x,o,F,d,q,sm,t,he,k⟩;obtain⟨ns,w,he⟩:=map_some (show((items d).bind λj=>j.mapM fj).map _=aB q from he);subst he;obtain⟨j,y,z⟩:=bz w;obtain⟨p,ys,rfl,A,l⟩:=t.items sm y;rw[rE z]at l;have B:=fu l;subst o;obtain⟨u,rfl,C⟩:=r.one;cases C;refine call_sum_walkG (walked I hc A λit h m St n W h0 E kp=>?_);subst B;have f:h.toArray.size=ns.length:=by rw[dP,<-n.length,eu]
 refine⟨it,_,_,_,_,St,λi=>ns.getD i 0,rfl,W,h0,E,λi v e=>u6 n e,λh' G t' J=>?_⟩;rw[f,pH ns _ (dW),List.take_length];exact⟨.int _,H,kp h' G J,⟨t',rfl⟩,cX.eV sm (bM _) k⟩
theorem J8{ns:List Int}{m:Int}(l:ns.max?=aB m):ns.getD (argBest (λi j=>decide (ns.getD i 0>ns.getD j 0)) (ns.length-1)) 0=m:=by
 have h:ns≠[]:=by rintro rfl;simp at l
 have s:0<ns.length:=List.length_pos_iff.mpr h;obtain⟨h1,o⟩:=argBest_gt (λi=>ns.getD i 0) (ns.length-1);have n:=oE.mp l;generalize argBest (λi j=>decide (ns.getD i 0>ns.getD j 0)) (ns.length-1)=j at*;have p:j<ns.length:=by lia
 have f:ns.getD j 0∈ns:=by simp[kr,p]
 obtain⟨q,r,e⟩:=List.getElem_of_mem n.1;have g:=o q (by lia);simp only[kr,g9 r,getD_some]at g;rw[e]at g;have t:=n.2 _ f;have g:m<=ns.getD j 0:=g;lia
theorem Tt(hc:X.calm=ck):dU X (.builtin "max") (Gf X.K λx=>blt .FP [x]):=by
 rintro j s σ H xs l Q I r⟨x,y,F,d,z,sm,A,he,k⟩;obtain⟨ns,B,he⟩:=bz (show((items d).bind λn=>n.mapM fj).bind _=aB z from he);obtain⟨m,o,he⟩:=map_some he;subst he;obtain⟨n,C,E⟩:=bz B;obtain⟨p,ys,rfl,G,q⟩:=A.items sm C;rw[rE E]at q;have J:=fu q;subst y;obtain⟨u,rfl,L⟩:=r.one;cases L;refine call_max_walk (walked I hc G λit l w St h W h0 M kp=>?_);subst J;have f:l.toArray.size=ns.length:=by rw[dP,<-h.length,eu]
 have g:0<ns.length:=by cases ns with|nil=>simp at o|cons _ _=>simp
 refine⟨it,_,_,_,_,St,_,rfl,W,h0,M,by rw[f];exact g,CmpOf.ints_gt (λi=>ns.getD i 0) (λi v e=>u6 h e),λv h' N hv O=>?_⟩;rw[f]at hv;obtain⟨t,rfl⟩:=u6 h hv;rw[J8 o];exact⟨.int _,H,kp h' N O,⟨t,rfl⟩,cX.eV sm (bM _) k⟩
theorem boot_sum:fw "sum"=aB (.builtin "sum"):=by decide+kernel
theorem Rp{x:Str}{e:Pos}(f:x="sum")(hc:X.calm=ck)(g:Gl X x)(i:X.mg x=b_)(j:SX X c a pa)(hs:dy [a] X.env=(a_,fg a X.env)::dy [] X.env:=by rfl):SX X c (.Call (.Name x e) [a] [] pos) (.blt .sum [pa]):=by subst f;exact lq (λh=>eN (Wz hc) g i boot_sum h (he:=hs)) j (λρ=>rfl) rfl hs
theorem Lw{x:Str}{e:Pos}(f:x="max")(hc:X.calm=ck)(g:Gl X x)(i:X.mg x=b_)(j:SX X c a pa)(hs:dy [a] X.env=(a_,fg a X.env)::dy [] X.env:=by rfl):SX X c (.Call (.Name x e) [a] [] pos) (.blt .FP [pa]):=by subst f;exact lq (λh=>eN (Tt hc) g i boot_max h (he:=hs)) j (λρ=>rfl) rfl hs
end
end _H
namespace _H
open PySem
section
variable{i j:Int}{ds es:List D}{d:D}{b b':Bool}
@[simp]theorem aaG:sZ .shl=J1:=rfl
@[simp]theorem aaz:sZ .shr=Jp:=rfl
@[simp]theorem Xl:sZ .band=zu:=rfl
@[simp]theorem Wf:J1 (.int i) (.int j)=if 0<=j/\j<=1000/\i.natAbs<18446744073709551616 then aB (.val (.int (i*2^j.toNat)))else b_:=rfl
@[simp]theorem VN:Jp (.int i) (.int j)=if 0<=j then aB (.val (.int (i/2^j.toNat)))else b_:=rfl
@[simp]theorem S6:zu (.int i) (.int j)=aB (.val (.int (Builtin.bitAnd i j))):=rfl
@[simp]theorem Wc:pA (.lst ds) (.int i)=if 0<=i/\0<ds.length/\ds.length*i.toNat<=lim then aB (.own (dA i.toNat ds).flatten)else b_:=rfl
@[simp]theorem Wi:pA (.tup ds) (.int i)=if 0<=i/\0<ds.length/\ds.length*i.toNat<=lim then aB (.val (.tup (dA i.toNat ds).flatten))else b_:=rfl
@[simp]theorem acV:cm .isT (.bl b) (.bl ck)=aB b:=rfl
@[simp]theorem aam:cm .Zw (.bl b) (.bl ck)=aB (!b):=rfl
@[simp]theorem aaR:blt .sum [.lst ds]=(ds.mapM fj).map λns=>.val (.int ns.sum):=rfl
@[simp]theorem YJ:blt .FP [.lst ds]=(ds.mapM fj).bind λns=>ns.max?.map λi=>.val (.int i):=rfl
end
@[simp]theorem abT:type_of%@_H.X14:=@_H.X14
theorem HW{ns:List Int}:(ns.map D.int).mapM fj=aB ns:=by induction ns with|nil=>rfl|cons n ns a=>simp[a]
@[simp]theorem U7{ns:List Int}:ns.mapM (fj ∘ D.int)=aB ns:=by rw[<-HW (ns:=ns),List.mapM_map]
@[simp]theorem Yo{bs:List Bool}:bs.mapM (zp ∘ D.bl)=aB bs:=by induction bs with|nil=>rfl|cons b bs a=>simp[a]
theorem aay{S:List Int}{i:Int}:((S.map D.int).any λy=>lX y (.int i))=S.contains i:=by induction S with|nil=>rfl|cons s S a=>rw[er,ox,List.contains_cons,a,pqi];rw[show(s==i)=(i==s)from gy.mpr ⟨λh=>by simp at h ⊢;exact h.symm,λh=>by simp at h ⊢;exact h.symm⟩]
theorem XM{S:List Int}:(S.map D.int).all flat=ck:=by rw[eB];intro d hd;obtain⟨i,_,rfl⟩:=eM.mp hd;rfl
theorem qt{n:Nat}{S:List Int}:jm (n+1) (.lst (S.map D.int))=ck:=by rw[bZ,eB];intro d hd;obtain⟨i,_,rfl⟩:=eM.mp hd;cases n<;>rfl
theorem qF:∀{S T:List Int},jB (S.map D.int) (T.map D.int)=(S==T)|[],[]=>by simp[mK,jF,qZ,qP]|[],_::_=>by simp[mK,jF,qZ,qP]|_::_,[]=>by simp[mK,jF,qZ,qP]|s::S,t::T=>by rw[er,er,jF,qF,pqi];rfl
theorem Li{S T:List Int}:cm .eq (.lst (S.map D.int)) (.lst (T.map D.int))=aB (S==T):=by show Hb _ _=_;unfold Hb;rw[qt,qt,pql,qF];rfl
theorem aaS{S T:List Int}:cm .ne (.lst (S.map D.int)) (.lst (T.map D.int))=aB (!(S==T)):=by show Hy _ _=_;unfold Hy;rw[qt,qt,pql,qF];rfl
theorem Mf{S:List Int}:cm .eq (.lst (S.map D.int)) (.lst [])=aB S.isEmpty:=by rw[show(.lst []:D)=.lst (([]:List Int).map D.int)from rfl,Li];cases S<;>rfl
theorem adO{a:Type}{l:List a}{f:a->D}{k:Nat}{x:a}(h:l[k]?=aB x):at' (l.map f) (k:Int)=aB (f x):=by have b:=(fZ h).1;rw[JP (by simpa using b),ey,h];rfl
theorem adu{n k:Nat}(h:k<n):lD n (k:Int)=aB k:=by unfold lD;rw[if_pos (by lia),if_pos (by lia)];simp
theorem dJ{is:List Nat}{one:Bool}{body:List Sl->Res Fl}{g:Nat->D}{N:Nat}(J:Nat->List Sl->Prop){Q:Fl->List Sl->Prop}(c:∀i ρ,i<N->J i ρ->∃a,bV ρ is one (g i)=aB a/\(body a).sat (fQ (J (i+1)) Q))(f:∀ρ,J N ρ->Q .next ρ){ρ:List Sl}(h0:J 0 ρ):(jh is one body ((dV N).map g) ρ).sat Q:=by
 refine cG (λr ρ=>∃i,i<=N/\r=((dV N).map g).drop i/\J i ρ) ?_ ?_ ⟨0,wI,rfl,h0⟩
 . rintro d r ρ⟨i,hi,e,j⟩;have b:i<N:=by
    rcases ri i N with h|h;.exact h
    .rw[List.drop_eq_nil_of_le (by simpa using h)]at e;cases e
   rw[gY (by simpa using b)]at e;injection e with e1 e2;simp at e1;subst e1;obtain⟨a,h1,l⟩:=c i ρ b j;refine⟨a,h1,l.imp λm n q=>?_⟩;cases m with|next=>exact⟨i+1,b,e2,q⟩|cont=>exact⟨i+1,b,e2,q⟩|brk=>exact q|ret v=>exact q
 . rintro ρ⟨i,hi,e,j⟩;have:i=N:=by have o:=congrArg pf e;simp at o;lia
   subst this;exact f ρ j
theorem Er{c:Call}{is:List Nat}{one:Bool}{m:P}{t:Option P}(J:List Sl->Prop)(P:D->Prop){Q:List D->List Sl->Prop}{l:List D}{ρ:List Sl}(j:J ρ)(h:∀d,d∈l->∀ρ,J ρ->∃a,bV ρ is one d=some a/\(jR c t a).sat λb f=>if b=true then(ev c m f).sat λr i=>P r.d/\J i else J f)(k:∀xs ρ,J ρ->xs.length<=l.length->(∀x∈xs,P x)->Q xs ρ):(jr c is one t m l ρ).sat Q:=by suffices hh:∀(l:List D)(g:List D)(ρ:List Sl),J ρ->(∀x∈g,P x)->(∀d,d∈l->∀ρ,J ρ->∃a,bV ρ is one d=some a/\(jR c t a).sat λb f=>if b=true then(ev c m f).sat λr i=>P r.d/\J i else J f)->(turns is one (jR c t) (ev c m) l g ρ).sat λxs ρ=>J ρ/\(∀x∈xs,P x)/\xs.length<=g.length+l.length from(hh l [] ρ j (by simp) h).imp λxs ρ⟨o,q2,q3⟩=>k xs ρ o (by simpa using q3) q2;intro l;induction l with|nil=>intro g ρ j s _;rw[vQ];exact⟨j,s,by simp⟩|cons d r u=>
   intro g ρ j s h;obtain⟨a,e,h1⟩:=h d (by simp) ρ j;rw[vp,e];show((jR c t a).bind _).sat _;rw[aQ]
   refine h1.imp λb f q=>?_;cases b with|true=>
     rw[if_pos rfl]at q;rw[if_pos rfl,aQ];refine q.imp λx i⟨p,j3⟩=>?_;refine(u (g++[x.d]) i j3 (λy hy=>?_) λd' n=>h d' (by simp[n])).imp λxs ρ⟨o,q2,q3⟩=>⟨o,q2,by simp at q3 ⊢;lia⟩;rcases List.mem_append.mp hy with hy|hy;.exact s y hy
     .rw[List.mem_singleton.mp hy];exact p|false=>rw[if_neg (by simp)]at q;rw[if_neg (by simp)];exact(u g f q s λd' n=>h d' (by simp[n])).imp λxs ρ⟨o,q2,q3⟩=>⟨o,q2,by simp at q3 ⊢;lia⟩
theorem tX{c:Call}{is:List Nat}{one:Bool}{f:P}(J:List Sl->Prop)(P:D->Prop){Q:List D->List Sl->Prop}{i:List D}{ρ:List Sl}(j:J ρ)(h:∀d,d∈i->∀ρ,J ρ->∃a,bV ρ is one d=aB a/\(ev c f a).sat λr g=>P r.d/\J g)(k:∀xs ρ,J ρ->xs.length=i.length->(∀x∈xs,P x)->Q xs ρ):(jr c is one b_ f i ρ).sat Q:=by suffices hh:∀(i:List D)(b:List D)(ρ:List Sl),J ρ->(∀x∈b,P x)->(∀d,d∈i->∀ρ,J ρ->∃a,bV ρ is one d=aB a/\(ev c f a).sat λr g=>P r.d/\J g)->(turns is one (jR c b_) (ev c f) i b ρ).sat λxs ρ=>J ρ/\(∀x∈xs,P x)/\xs.length=b.length+i.length from(hh i [] ρ j (by simp) h).imp λxs ρ⟨l,q2,q3⟩=>k xs ρ l (by simpa using q3) q2;intro i;induction i with|nil=>intro b ρ j m _;rw[vQ];exact⟨j,m,by simp⟩|cons d r o=>
   intro b ρ j m h;obtain⟨a,e,h1⟩:=h d (by simp) ρ j;rw[vp,e];show((jR c b_ a).bind _).sat _;rw[jR];show((ev c f a).bind _).sat _;rw[aQ];refine h1.imp λx g⟨p,j3⟩=>?_;refine(o (b++[x.d]) g j3 (λy hy=>?_) λd' n=>h d' (by simp[n])).imp λxs ρ⟨l,q2,q3⟩=>⟨l,q2,by simp at q3 ⊢;lia⟩;rcases fq.mp hy with hy|hy;.exact m y hy
   .rw[fm.mp hy];exact p
inductive A3(a b c:Prop):Prop where|mk(ha:a)(hb:b)(hc:c)
inductive A4(a b c d:Prop):Prop where|mk(ha:a)(hb:b)(hc:c)(hd:d)
inductive A5(a b c d e:Prop):Prop where|mk(ha:a)(hb:b)(hc:c)(hd:d)(he:e)
inductive A6(a b c d e f:Prop):Prop where|mk(ha:a)(hb:b)(hc:c)(hd:d)(he:e)(hf:f)
inductive A7(a b c d e f g:Prop):Prop where|mk(ha:a)(hb:b)(hc:c)(hd:d)(he:e)(hf:f)(hg:g)
inductive A8(a b c d e f g h:Prop):Prop where|mk(ha:a)(hb:b)(hc:c)(hd:d)(he:e)(hf:f)(hg:g)(hh:h)
inductive A9(a b c d e f g h i:Prop):Prop where|mk(ha:a)(hb:b)(hc:c)(hd:d)(he:e)(hf:f)(hg:g)(hh:h)(hi:i)
end _H
namespace _H
open PySem _L Spec PyProof.Rows
section
variable{X:Cx}{c:Call}{n:Nat}{e a b d tg:ek}{p pa pb pd:P}{pos:Pos}
theorem kJ{g:TG}{is:List Nat}(he:SX X c e p)(s:PG X tg g)(i:Jq X.K (λρ d=>bV ρ is a_ d) g)(hs:ki [tg] e pos.line X.env=fI a_:=by rfl)(t:kl [tg] e X.env=fI b_:=by rfl)(h1:(ip [tg] X.env).map (·.2)=[i8 tg X.env]:=by rfl):SS X c n (.Assign [tg] e pos) (.Gi is p):=by
 refine fY (sI he.ev s hs t h1) ?_;rintro D σ H⟨F,ρ,C,u,w,e,k⟩;rw[_H.X7]at e;obtain⟨r,f,x,e⟩:=aj e;refine⟨F,ρ,r,f,w,x,λv F1 l s1 y=>?_⟩;obtain⟨m,s2,_,o⟩:=s1.fO y;split at e;.rename_i q hd;obtain⟨z,A,h,e⟩:=aj e;cases e;have B:=aH h;clear h;obtain⟨h,E⟩:=B;rw[hd]at o;exact i v (.tup q) m f _ σ l _ s2.gs o (by show bV f is a_ (.tup q)=_;cases is<;>exact h) λj s3=>k m j l (s2.trans s3)
 .cases e
end
end _H
namespace _U
open PySem Spec PyProof.Rows
section
variable{prog:d_}{w:fb}{A:e_}{E:c_->dc->Prop}{s:dc}
theorem wY{t c:df}{a:Array c_}{vl i:c_}{lo hi:Option Int}{Q:c_->dc->Prop}(b:qc s.heap t a)(hs:s.heap.IsSliceOf c vl i .none)(pl:l7 vl lo)(j:l7 i hi)(h1:dR a.size 0 lo=0)(l:dR a.size a.size hi=a.size)(h:Q (.ref t) s):dL (dS prog w) A (kD (.ref t) (.ref c)) Q E s:=by
 obtain⟨os,e,f,m⟩:=id hs;have hT:s.TypeIs (.ref c) "slice":=⟨os,e,f⟩;unfold kD;try with_reducible refine hJ ?_
 first|refine bx (de ?_)|skip
 refine bx (wpAny_sequenceKey b.typeIs (by decide) (bx (fy (name:=i3 "__getitem__") b.typeIs slot_tuple_getitem (fN slot_tuple_getitem b.typeIs entry_tuple_getitem ?_ (args_tuple_getitem _ _)))));show dL _ _ (tupleItemsOf (.ref t)>>=_) _ _ s;refine bx (tupleItemsOf_ b (bx (qh hT ?_)));rw[if_pos (by decide)];refine bx (jo hs pl j ?_);have g:((((dR a.size 0 lo:Nat):Int)==0&&(1:Int)==1&&(dR a.size a.size hi-dR a.size 0 lo)==a.size)=ck):=by rw[h1,l];simp
 show dL _ _ (if(((dR a.size 0 lo:Nat):Int)==0&&(1:Int)==1&&(dR a.size a.size hi-dR a.size 0 lo)==a.size)=ck then _ else _) _ _ s;rw[if_pos g];unfold Builtin.Tuple.tupleIsExact;refine bx (bx (qh b.typeIs (de ?_)));rw[if_pos (by decide)];exact bx (ke (de ⟨_,rfl,de h⟩))
end
end _U
namespace _H
open PySem _L Spec PyProof.Rows
noncomputable def nst:ek->Bool|.Starred _ _=>a_|_=>ck
theorem jy{e:ek}{es:List ek}{env:Env}(h:nst e=ck):dy (e::es) env=(a_,fg e env)::dy es env:=by cases e with|Starred a b=>cases h|_=>rw[dy];(intro e p z;cases z)
noncomputable def qx:List Int->List ek->Option (List ek)|[],es=>aB es|i::is,.Constant (.int j) _ _::es=>if i=j then qx is es else b_|_,_=>b_
theorem lH{X:_L.Cx}{c:Call}:∀(is:List Int){es a:List ek}{b:List P},qx is es=aB a->SA X c a b->SA X c es (is.map (λi=>P.con (.int i))++b)|[],es,a,b,h,r=>by cases h;exact r|i::is,[],a,b,h,r=>by cases h|i::is,e::es,a,b,h,r=>by cases e with
   |Constant v k p=>cases v with
     |int j=>
       replace h:(if i=j then qx is es else b_)=aB a:=h;split at h;.rename_i f;subst f;exact qg aa (lH is h r) (jy rfl)
       .cases h|_=>cases h
   |_=>cases h
theorem v5{n d:Nat}{o:Option Int}:_U.dR n d o=_H.dR n d o:=by cases o with|none=>rfl|some v=>
   show(if v<0 then(v+(n:Int)).toNat else min v.toNat n)=(if 0<=v then min v.toNat n else(v+n).toNat);by_cases h:0<=v;.rw[if_pos h,if_neg (by lia)]
   .rw[if_neg h,if_pos (by lia)]
theorem Iw{xs:List V}{lo hi:Option Int}:yh xs lo hi=_H.cut xs lo hi:=by unfold yh _H.cut;rw[v5,v5]
theorem aN.cut{K:PySem.W.Frag}{F:Hp}{a:List D}{vs:List V}{lo hi:Option Int}(h:aN K F vs a):aN K F (_H.cut vs lo hi) (_H.cut a lo hi):=by unfold _H.cut;rw[h.length];exact(h.drop _).take _
section
variable{X:Cx}{c:Call}{n:Nat}{e a b:ek}{p pa pb pl ph:P}{pos p2:Pos}{lo hi:Option ek}
noncomputable def aeA(K:PySem.W.Frag):V->Option Int->Option Int->Hp->VK->Prop:=λx lo hi H Q=>∃F d r,aP F H/\fM K F H x d/\wH d (aB lo) (aB hi)=aB r/\∀v g f,Ext F H g f->cX K g f H v r->Q v f
theorem Xn:SlR X (aeA X.K):=by
 rintro f s σ H x v vl u lo hi w Q I l hs pl m⟨F,d,r,sm,y,he,k⟩;cases d with|lst o=>cases he;obtain⟨a,xs,rfl,j,h⟩:=y.lst sm;refine NT f s σ H _ v vl u lo hi w Q I l hs pl m ⟨a,xs,rfl,j,λp q=>?_⟩;rw[Iw];exact vZ sm h.cut q k|tup o=>
   cases he;obtain⟨a,xs,rfl,j,h,rt⟩:=y.tup sm;by_cases i:_U.dR xs.length 0 lo=0/\_U.dR xs.length xs.length hi=xs.length
   . cases l;obtain⟨t,A,z,B⟩:=I.tuple j;have g:t.toArray.size=xs.length:=by rw[dP];exact A.length.symm
     refine⟨"tuple",_,slot_tuple_getitem.lookup,z.typeIs,_U.wY z hs pl m (by rw[g];exact i.1) (by rw[g];exact i.2) ⟨.ref a,H,I,rfl,?_⟩⟩;have hc:_H.cut o lo hi=o:=by unfold _H.cut;rw[<-h.length,<-v5,<-v5,i.1,i.2];simp[h.length]
     rw[hc]at k;exact cX.eV sm rt k
   .refine Rm f s σ H _ v vl u lo hi w Q I l hs pl m ⟨a,xs,rfl,j,i,λp q=>?_⟩;rw[Iw];exact Ep sm h.cut q k|_=>cases he
noncomputable def SO(X:Cx)(c:Call)(o:Option ek)(p:P):Prop:=∃t,PO X o t/\∀{σ:_L.St}{H F:Hp}{ρ f:List Sl}{d:D}{i:Option Int}{Q:Option Int->Hp->Prop},GS X.K F ρ σ H->bU (isVar p) (_H.ev c p) ρ=.ok d f->part p d=aB i->(∀h g,bW X.K F ρ σ H h f σ g->Q i g)->t σ H Q
theorem di:SO X c b_ (.con .non):=by refine⟨_,Oa,λ{σ H F ρ f d i Q}g e h k=>?_⟩;cases(show aB b_=aB i from h);have j:(_H.ev c (.con .non) ρ).bind (λr ρ=>.ok r.d ρ)=.ok d f:=e;clear e;rw[_H.E2]at j;cases j;exact k F H (.refl g)
theorem cj(h:SX X c e p)(hn:ni p=a_:=by rfl):SO X c (aB e) p:=by obtain⟨t,h1,l⟩:=h.bU;refine⟨_,N8 h1,λ{σ H F ρ m d i Q}g e f k=>?_⟩;unfold part at f;rw[hn,if_neg (by decide)]at f;obtain⟨j,o,q⟩:=map_some f;cases bw o;subst q;exact l g e λv r u s w=>⟨j,w.int,k r u s⟩
theorem xJ{d:D}{x y:Option (Option Int)}{r:R}(h:wH d x y=aB r):∃lo hi,x=aB lo/\y=aB hi:=by cases x with|none=>cases d<;>cases h|some lo=>cases y with|none=>cases d<;>cases h|some hi=>exact⟨lo,hi,rfl,rfl⟩
theorem bT(Y:SX X c a pa)(hl:SO X c lo pl)(hh:SO X c hi ph):SX X c (.Subscript a (.Slice lo hi b_ p2) pos) (.slice pa pl ph):=by obtain⟨tl,l1,Z⟩:=hl;obtain⟨th,h1,h2⟩:=hh;cases hv:isVar pa with|none=>refine⟨gR (yu Xn Y.ev l1 h1) ?_,λi h=>by cases h⟩;rintro σ H Q⟨F,ρ,r,A,g,e,k⟩;rw[_H.E14,hv]at e;obtain⟨x,B,f,j⟩:=aj e;clear e;have ZK:(_H.ev c pa ρ).bind (λr ρ=>.ok r.d ρ)=.ok x B:=f;clear f;obtain⟨rx,ab,e1,C⟩:=aj ZK;clear ZK;cases C;obtain⟨y,E,G,l⟩:=aj j;clear j;obtain⟨z,I,J,m⟩:=aj l;clear l;obtain⟨e,L⟩:=aH m;clear m;subst L;obtain⟨M,N,o,q⟩:=xJ e;rw[o,q]at e;refine⟨F,ρ,rx,_,g,e1,λv F1 H1 s1 rr=>?_⟩;obtain⟨F2,s2,_,rp⟩:=s1.fO rr;refine Z s2.gs G o λF3 H3 s3=>h2 s3.gs J q λO H4 s4=>?_;have s5:=s2.trans (s3.trans s4);refine⟨O,_,r,s4.gs.sub,.inl ((rp.mono s3.cD).mono s4.cD),e,λv F5 U x W=>?_⟩;exact k v F5 U (s5.trans (x.stp s5.gs)) (.later s5 (W.sW s5.gs))|some i=>refine⟨gR (yu Xn (Y.var i hv) l1 h1) ?_,λi h=>by cases h⟩;rintro σ H Q⟨F,ρ,r,A,g,e,k⟩;rw[_H.E14,hv]at e;obtain⟨x0,ac,s,j⟩:=aj e;clear e;obtain⟨C,Ay⟩:=aH s;clear s;subst Ay;obtain⟨y,E,G,l⟩:=aj j;clear j;obtain⟨z,I,J,m⟩:=aj l;clear l;obtain⟨x,ae,t,ed⟩:=aj m;clear m;obtain⟨e5,e6⟩:=aH t;clear t;subst e6;obtain⟨e,L⟩:=aH ed;clear ed;subst L;obtain⟨M,N,o,q⟩:=xJ e;rw[o,q]at e;obtain⟨v,u,_⟩:=g.pk C;refine⟨v,u,Z g G o λF3 H3 s3=>h2 s3.gs J q λO H4 s4=>?_⟩;have s5:=s3.trans s4;obtain⟨v',w,pv⟩:=s5.gs.pk e5;rw[u]at w;cases w;refine⟨O,_,r,s4.gs.sub,pv,e,λv F5 U x W=>?_⟩;exact k v F5 U (s5.trans (x.stp s5.gs)) (.later s5 (W.sW s5.gs))
theorem WM:dU X (.type "int") (Gf X.K λx=>blt .int [x]):=by rintro f s σ H xs g Q I r⟨x,h,F,d,j,sm,l,he,k⟩;cases d with|int i=>cases(show aB _=aB j from he);exact tO f s σ H xs g Q I r (.inl ⟨i,by rw[h,l.int],cX.eV sm (bM _) k⟩)|bl b=>cases(show aB _=aB j from he);exact tO f s σ H xs g Q I r (.inr ⟨b,by rw[h,l.bl],cX.eV sm (bM _) k⟩)|_=>cases he
theorem Yg:dU X (.builtin "abs") (Gf X.K λx=>blt .abs [x]):=by rintro f s σ H xs g Q I r⟨x,h,F,d,j,sm,l,he,k⟩;cases d with|int i=>cases(show aB _=aB j from he);exact Ie f s σ H xs g Q I r ⟨i,by rw[h,l.int],cX.eV sm (bM _) k⟩|_=>cases he
theorem boot_abs:fw "abs"=aB (.builtin "abs"):=by decide+kernel
theorem KZ{x:Str}{f:Pos}(g:x="int")(i:Gl X x)(j:X.mg x=b_)(l:SX X c a pa)(hs:dy [a] X.env=(a_,fg a X.env)::dy [] X.env:=by rfl):SX X c (.Call (.Name x f) [a] [] pos) (.blt .int [pa]):=by subst g;exact lq (λh=>lN WM i j (by decide+kernel) h (he:=hs)) l (λρ=>rfl) rfl hs
theorem R5{x:Str}{f:Pos}(g:x="abs")(i:Gl X x)(j:X.mg x=b_)(l:SX X c a pa)(hs:dy [a] X.env=(a_,fg a X.env)::dy [] X.env:=by rfl):SX X c (.Call (.Name x f) [a] [] pos) (.blt .abs [pa]):=by subst g;exact lq (λh=>eN Yg i j boot_abs h (he:=hs)) l (λρ=>rfl) rfl hs
theorem S5{i:Nat}{x:Str}{t:Pos}{op:nk}{sub:Bool}(ho:PIp X op (ipI λi j=>if sub then i-j else i+j))(w:X.N.Nodup)(hi:X.N[i]?=aB x)(y:Loc X.env.scope x)(he:SX X c e p)(z:X.fn x=ck\/X.env.scope.names.lookup x=aB .local:=by first|(left;rfl)|(right;rfl)|assumption):SS X c n (.AugAssign (.Name x t) op e pos) (.aug i sub p):=by
 obtain⟨te,h1,A⟩:=he.bU;refine fY (Tp w hi y h1 ho z) ?_;rintro D σ H⟨F,ρ,fl,B,g,e,k⟩;rw[_H.X14]at e;obtain⟨a0,C,f,s⟩:=aj e;clear e;obtain⟨E,G⟩:=aH f;clear f;subst G;obtain⟨b0,I,J,o⟩:=aj s;clear s;obtain⟨v,q,L⟩:=g.pk E;refine⟨v,q,A g J λu F1 M s1 O=>?_⟩;split at o;.rename_i h l;obtain⟨Q,U,m,W⟩:=aj o;clear o;cases W;obtain⟨Y,e3⟩:=aH m;clear m;have Z:Rep X.K F1 (.int (if sub then h-l else h+l)) (.int (if sub then h-l else h+l)):=bM _;exact⟨h,l,L.int,O.int,k F1 _ M (bW.put (r:=.val (.int _)) s1 Z Y)⟩
 .cases o
theorem LC:PIp X .Add (ipI λi j=>if a_ then i-j else i+j):=Rb
end
end _H
namespace _U
open PySem Spec PyProof.Rows
section
variable{prog:d_}{w:fb}{A:e_}{E:c_->dc->Prop}{s:dc}
theorem Hw(xs:Array c_):((dV xs.size).filterMap λ(m:Nat)=>xs[((xs.size:Int)-1+(m:Int)*(-1)).toNat]?).toArray=xs.toList.reverse.toArray:=by
 have a:∀k,k<=xs.size->(dV k).filterMap (λ(m:Nat)=>xs[((xs.size:Int)-1+(m:Int)*(-1)).toNat]?)=xs.toList.reverse.take k:=by intro k;induction k with|zero=>intro _;rfl|succ k b=>
    intro h;have c:((xs.size:Int)-1+(k:Int)*(-1)).toNat=xs.size-1-k:=by lia
    have e:k<xs.toList.reverse.length:=by simp;lia
    rw[List.range_succ,List.filterMap_append,b (by lia),List.take_succ_eq_append_getElem e];congr 1;simp only[i5,List.filterMap_nil,c];rw[nB (by lia)];simp
 rw[a _ (dW),jU (by simp)]
end
end _U
namespace _H
open PySem _L Spec PyProof.Rows
theorem xP:∀{xs:List V}{a:List c_},Vals xs a->Vals xs.reverse a.reverse|_,_,.nil=>.nil|_,_,.cons r b=>by rw[mT,mT];exact(xP b).append (.cons r .nil)
theorem ym{K:PySem.W.Frag}{F:Hp}:∀{a:List D}{vs:List V},aN K F vs a->aN K F vs.reverse a.reverse|[],vs,h=>by rw[h.il];exact .nil|d::a,vs,h=>by obtain⟨v,r,rfl,h1,b⟩:=h.dh;rw[mT,mT];exact(ym b).append (.cons h1 .nil)
section
variable{X:Cx}{c:Call}{e a:ek}{te:TE}{pa:P}{pos p1 p2 p3:Pos}
theorem Du{r:V->Hp->VK->Prop}{j}(hr:∀(f:List (df×Obj))(s:dc)(σ:_L.St)(H:Hp)(x:V)(v:c_)(t:Tok)(i:df)(Q:VK),Inv X f σ H s->RelV x v->s.heap.IsSliceOf i .none .none (.int (-1) t)->r x H Q->∃T id,typeLookup (.type T) "__getitem__"=fI (aB (.builtin id))/\s.TypeIs v T/\dL (dS X.prog X.w) X.A (kD v (.ref i)) (EP X f σ Q) X.xe s)(he:PE X e te):PE X (.Subscript e (.Slice b_ b_ (aB (.UnaryOp .USub (.Constant (.int 1) j p1) p2)) p3) pos) (tUn r te):=by intro f s σ H Q I h;refine oy (dC (he f s σ H _ I h) ?_);rintro v s1⟨x,l,m,r1,n⟩;refine wpAny_Slice ?_;rw[p0];refine de (de ?_);rw[evalPart_some];refine dC (O6 Jc HD f s1 σ l (λy g=>y=.int (-1)/\g=l) m ⟨1,rfl,rfl,rfl⟩) ?_;rintro F s2⟨y,g,o,p,u,z⟩;subst u z;obtain⟨t,rfl⟩:=p;have B:Inv X f σ g {s2 with heap:=s2.heap.push {cls:=.type "slice",data:=.fields #[.none,.none,.int (-1) t]}}:=o.kept (t':=s2.toks) λb G q=>fK q;obtain⟨T,id,hT,C,E⟩:=hr f {s2 with heap:=s2.heap.push {cls:=.type "slice",data:=.fields #[.none,.none,.int (-1) t]}} σ g x v t s2.heap.objs.size Q B r1 (Heap.IsSliceOf.new ..) n;show dL (dS X.prog X.w) X.A (mi e (.Slice b_ b_ (aB (.UnaryOp .USub (.Constant (.int 1) j p1) p2)) p3) v (.ref s2.heap.objs.size)) (EP X f σ Q) X.xe {s2 with heap:=s2.heap.push {cls:=.type "slice",data:=.fields #[.none,.none,.int (-1) t]}};exact tail_any (ops:=[v,.ref s2.heap.objs.size]) C hT E (by with_unfolding_all rfl)
end
end _H
namespace _H
open PySem
theorem m8:∀a b:List Int,aZ a b=ck->aZ b a=a_
 |[],[],h=>by simp[aZ]at h|[],_::_,_=>by simp[aZ]|_::_,[],h=>by simp[aZ]at h|x::a,y::b,h=>by
   simp only[aZ,kK,decide_eq_true_eq,fE]at h;simp only[aZ,k7,decide_eq_false_iff_not,kU];rcases h with h|⟨h,h'⟩;.exact⟨by lia,.inl (by lia)⟩
   .exact⟨by lia,.inr (m8 a b h')⟩
theorem yZ:∀a b c:List Int,aZ b a=a_->aZ c b=a_->aZ c a=a_
 |[],_,c,_,_=>by cases c<;>simp[aZ]|_::_,[],_,h,_=>by simp[aZ]at h|_::_,_::_,[],_,h=>by simp[aZ]at h|x::a,y::b,z::c,h1,f=>by
   simp only[aZ,k7,decide_eq_false_iff_not,kU]at h1 f ⊢;refine⟨by lia,?_⟩;by_cases e:z=x;.right;exact yZ a b c (h1.2.resolve_left (by lia)) (f.2.resolve_left (by lia))
   .exact .inl e
theorem wM:∀a b:List Int,aZ a b=a_->aZ b a=a_->a=b
 |[],[],_,_=>rfl|[],_::_,h,_=>by simp[aZ]at h|_::_,[],_,h=>by simp[aZ]at h|x::a,y::b,h1,c=>by
   simp only[aZ,k7,decide_eq_false_iff_not,kU]at h1 c;have e:x=y:=by lia
   subst e;rw[wM a b (h1.2.resolve_left (by simp)) (c.2.resolve_left (by simp))]
theorem yq:∀{xs ys:List D},xs.all dI=ck->ys.all dI=ck->xs.map fG=ys.map fG->xs=ys
 |[],[],_,_,_=>rfl|[],_::_,_,_,h=>by simp at h|_::_,[],_,_,h=>by simp at h|x::xs,y::ys,h1,a,h=>by
   simp only[nh,fE]at h1 a;simp only[er,List.cons.injEq]at h;obtain⟨i,rfl⟩:∃i,x=.int i:=by cases x<;>first|exact⟨_,rfl⟩|(have q:=h1.1;simp[dI]at q;done)
   obtain⟨j,rfl⟩:∃j,y=.int j:=by cases y<;>first|exact⟨_,rfl⟩|(have q:=a.1;simp[dI]at q;done)
   rw[yq h1.2 a.2 h.2,show i=j from h.1]
theorem Bl{x y:D}(h:(dI x=ck/\dI y=ck)\/(rB x=ck/\rB y=ck))(e:bO x=bO y):x=y:=by
 rcases h with⟨h1,a⟩|⟨h1,a⟩
 . cases x<;>first|(simp[dI]at h1;done)|skip
   cases y<;>first|(simp[dI]at a;done)|skip
   simpa[bO]using e
 . cases x<;>first|(simp[rB]at h1;done)|skip
   cases y<;>first|(simp[rB]at a;done)|skip
   rename_i xs ys;cases xs<;>first|(simp[rB]at h1;done)|skip
   cases ys<;>first|(simp[rB]at a;done)|skip
   rw[yq h1 a e]
noncomputable def j8(a b:D):Bool:=!aZ (bO b) (bO a)
theorem gP(a:List D):(kE a).Perm a:=List.mergeSort_perm ..
theorem MN(a b c:D)(h1:j8 a b=ck)(e:j8 b c=ck):j8 a c=ck:=by simp only[j8,m3]at*;exact yZ _ _ _ h1 e
theorem IW(a b:D):(j8 a b||j8 b a)=ck:=by simp only[j8,kK,m3];cases h:aZ (bO b) (bO a)with|false=>exact .inl rfl|true=>exact .inr (m8 _ _ h)
theorem jM(c:List D):(kE c).Pairwise λa b=>j8 a b=ck:=List.pairwise_mergeSort MN IW c
theorem v8{a:List D}(h:sortable a=ck):∀x∈a,∀y∈a,bO x=bO y->x=y:=by
 simp only[sortable,fE,kK,eB]at h;intro x b y c e;rcases h.2 with h|h;.exact Bl (.inl ⟨h x b,h y c⟩) e
 .exact Bl (.inr ⟨h x b,h y c⟩) e
theorem xq{c l:List D}(h:sortable c=ck)(p:l.Perm c)(s:l.Pairwise λa b=>j8 a b=ck):l=kE c:=by refine List.Perm.eq_of_pairwise (le:=λa b=>j8 a b=ck) (λa b f g h1 e=>?_) s (jM c) (p.trans (gP c).symm);simp only[j8,m3]at h1 e;exact v8 h a (p.mem_iff.mp f) b ((gP c).mem_iff.mp g) (wM _ _ e h1)
end _H
namespace _H
open PySem PyProof.Rows
variable{xs:Array fx}{i j lo n:Nat}{st':gz}
noncomputable abbrev SM:=StateT gz Sem
structure Rk(M:n0)(A:e_)(E:c_->dc->Prop)(s:dc)(κ:ib)(ok:fx->Prop)(K:fx->Int):Prop where lt:∀{x y:fx}{Q:Option Bool->gz->Prop}{st:gz},ok x->ok y->kindOf st=κ->Q (aB (decide (K x<K y))) st->wpS M A E s (lt' x y) Q st
section
variable{M:n0}{A:e_}{E:c_->dc->Prop}{s:dc}{κ:ib}{ok:fx->Prop}{K:fx->Int}
noncomputable def it(xs:Array fx)(i:Nat):fx:=xs.getD i (eR,eR)
theorem LR(h:i<xs.size):xs[i]?=aB (it xs i):=by unfold it;simp[ln,h]
theorem GR(h:i<xs.size):it xs i∈xs.toList:=by
 have:it xs i=xs[i]:=by unfold it;simp[ln,h]
 rw[this];simp
theorem Di{Q:fx->gz->Prop}{st:gz}(h:i<xs.size)(q:Q (it xs i) st):wpS M A E s (elem' xs i) Q st:=by rw[elem'_eq,LR h];exact gi q
end
section
variable{M:n0}{A:e_}{E:c_->dc->Prop}{s:dc}{κ:ib}{ok:fx->Prop}{K:fx->Int}
theorem wp_rule{x:String}{Q:Unit->gz->Prop}{st:gz}(q:Q () st):wpS M A E s (liftM (rule x):SM Unit) Q st:=wpS_lift (ke ⟨rfl,q⟩)
end
section
variable{K:fx->Int}
noncomputable def Seg(K:fx->Int)(xs:Array fx)(lo hi:Nat):Prop:=∀i j,lo<=i->i<=j->j<hi->K (it xs i)<=K (it xs j)
theorem La:it xs i=xs.toList.getD i (eR,eR):=by
 unfold it;by_cases h:i<xs.size;.simp[ln,h]
 .simp[ln,h]
end
section
variable{K:fx->Int}
theorem wV:it xs i=(xs[i]?).getD (eR,eR):=by unfold it;by_cases h:i<xs.size<;>simp[ln,h]
theorem mC(a:j<=xs.size)(k:Nat):it (kw xs i j ((j-i)/2)) k=if i<=k/\k<j then it xs (i+j-1-k)else it xs k:=by rw[wV,getElem?_mirror_all a];split<;>rw[wV]
theorem An{u d:Nat}(hs:u<xs.size)(hd:d<=u)(k:Nat):it (bubble xs u d) k=if k=u-d then it xs u else if u-d<k/\k<=u then it xs (k-1)else it xs k:=by
 rw[wV,getElem?_bubble hs d hd];by_cases h1:k=u-d;.rw[if_pos h1,if_pos h1,wV]
 .rw[if_neg h1,if_neg h1];split<;>rw[wV]
structure qp(xs ys:Array fx)(lo:Nat):Prop where
 perm:ys.toList.Perm xs.toList
 pre:∀i,i<lo->it ys i=it xs i
theorem qp.refl(xs:Array fx)(lo:Nat):qp xs xs lo:=⟨.refl _,λ_ _=>rfl⟩
theorem qp.trans{xs ys c:Array fx}{lo:Nat}(a:qp xs ys lo)(b:qp ys c lo):qp xs c lo:=⟨b.perm.trans a.perm,λi h=>(b.pre i h).trans (a.pre i h)⟩
theorem qp.size{xs ys:Array fx}{lo:Nat}(h:qp xs ys lo):ys.size=xs.size:=by simpa using h.perm.length_eq
theorem lK(h:lo<=i)(a:j<=xs.size):qp xs (kw xs i j ((j-i)/2)) lo:=⟨nm.mp (mirror_perm ..),λk b=>by rw[mC a,if_neg (by lia)]⟩
theorem MF{u d:Nat}(hs:u<xs.size)(hd:d<=u)(h:lo<=u-d):qp xs (bubble xs u d) lo:=⟨nm.mp (bubble_perm ..),λk a=>by rw[An hs hd,if_neg (by lia),if_neg (by lia)]⟩
noncomputable def Mr(K:fx->Int)(xs:Array fx)(lo hi:Nat):Prop:=∀i j,lo<=i->i<=j->j<hi->K (it xs j)<=K (it xs i)
end
section
variable{M:n0}{A:e_}{E:c_->dc->Prop}{s:dc}{κ:ib}{ok:fx->Prop}{K:fx->Int}
structure Sx(κ:ib)(ok:fx->Prop)(st:gz)(xs:Array fx)(st':gz):Prop where
 kind:kindOf st'=κ
 arr:rV st'=xs
 pend:kf st'=kf st
 fail:rL st'=b_
 ok:∀x∈xs.toList,ok x
theorem Sx.set{st st':gz}{xs ys:Array fx}{lo:Nat}(h:Sx κ ok st xs st')(c:qp xs ys lo):Sx κ ok st ys (setArr st' ys):=⟨h.kind,rfl,h.pend,h.fail,λx a=>h.ok x (c.perm.mem_iff.mp a)⟩
theorem nM(R:Rk M A E s κ ok K){st:gz}{Q:Option Bool->gz->Prop}(h:Sx κ ok st xs st')(hi:i<xs.size)(a:j<xs.size)(q:Q (aB (decide (K (it xs i)<K (it xs j)))) st'):wpS M A E s (ltAt' i j) Q st':=by rw[ltAt'_eq];refine eP (n7 ?_);show wpS M A E s (elem' (rV st') i>>=λx=>elem' (rV st') j>>=λy=>lt' x y) Q st';rw[h.arr];exact eP (Di hi (eP (Di a (R.lt (h.ok _ (GR hi)) (h.ok _ (GR a)) h.kind q))))
theorem rM{st:gz}{Q:Unit->gz->Prop}(h:Sx κ ok st xs st')(b:lo<=i)(c:j<=xs.size)(q:∀a,Sx κ ok st (kw xs i j ((j-i)/2)) a->Q () a):wpS M A E s (reverseSlice' i j) Q st':=by rw[reverseSlice'_eq];refine oj ?_;rw[h.arr];exact q _ (h.set (lK b c))
theorem zO(R:Rk M A E s κ ok K){st:gz}{a:Nat}{Q:Option (Option Nat)×Nat->gz->Prop}(h:Sx κ ok st xs st')(hn:lo+n<=xs.size)(u:1<=a)(l:a<=n)(hs:Seg K xs lo (lo+a))(q:∀m,a<=m->m<=n->Seg K xs lo (lo+m)->(m=n\/K (it xs (lo+m))<K (it xs (lo+m-1)))->Q (b_,m) st'):wpS M A E s (forIn [a:n] ((b_,a):Option (Option Nat)×Nat) λ_ c=>ltAt' (lo+c.2) (lo+c.2-1)>>=λo=>match o with|some b=>if b=ck then fI (.done (b_,c.2))else fI (.yield (b_,c.2+1))|_=>fI (.done (aB b_,c.2))) Q st':=by
 refine kC (I:=λx c g=>g=st'/\c=(b_,x)/\Seg K xs lo (lo+x)) ?_ ?_ ⟨rfl,rfl,hs⟩
 . rintro x c g h1 v⟨rfl,rfl,f⟩;try dsimp only
   refine eP (nM R h (by lia) (by lia) ?_);by_cases c:K (it xs (lo+x))<K (it xs (lo+x-1))
   . rw[decide_eq_true c];try dsimp only
     rw[if_pos rfl];exact gi (q x h1 (by lia) f (.inr c))
   . rw[decide_eq_false c];try dsimp only
     rw[if_neg (by simp)];refine gi ⟨rfl,rfl,λi j p r w=>?_⟩;by_cases t:j<lo+x;.exact f i j p r t
     . have:j=lo+x:=by lia
       subst this;by_cases e:i=lo+x;.rw[e];exact gT _
       .have:=f i (lo+x-1) p (by lia) (by lia);lia
 .rintro c g⟨rfl,rfl,f⟩;rw[show max a n=n by lia]at f ⊢;exact q n l (dW) f (.inl rfl)
theorem Ng(R:Rk M A E s κ ok K){st:gz}{a:Nat}{Q:Option (Option Nat)×Nat×Nat->gz->Prop}(h:Sx κ ok st xs st')(hn:lo+n<=xs.size)(H:1<=a)(t:a<=n)(hs:Mr K xs lo (lo+a))(q:∀ys f m e,qp xs ys lo->Sx κ ok st ys f->a<=m->m<=n->Mr K ys lo (lo+m)->e+1<=m->(∀i,lo+m-(e+1)<=i->i<lo+m->K (it ys i)=K (it ys (lo+m-1)))->Q (b_,m,e) f):wpS M A E s (forIn [a:n] ((b_,a,0):Option (Option Nat)×Nat×Nat) λ_ c=>ltAt' (lo+c.2.1) (lo+c.2.1-1)>>=λo=>match o with
  |some b=>if b=ck then(if c.2.2>0 then reverseSlice' (lo+c.2.1-(c.2.2+1)) (lo+c.2.1)>>=λ_=>fI (.yield (b_,c.2.1+1,0))else fI (.yield (b_,c.2.1+1,0)))else ltAt' (lo+c.2.1-1) (lo+c.2.1)>>=λo=>match o with|some b=>if b=ck then fI (.done (b_,c.2.1,c.2.2))else fI (.yield (b_,c.2.1+1,c.2.2+1))|_=>fI (.done (aB b_,c.2.1,c.2.2))
  |_=>fI (.done (aB b_,c.2.1,c.2.2))) Q st':=by
 refine kC (I:=λx c f=>∃ys e,c=(b_,x,e)/\qp xs ys lo/\Sx κ ok st ys f/\Mr K ys lo (lo+x)/\e+1<=x/\∀i,lo+x-(e+1)<=i->i<lo+x->K (it ys i)=K (it ys (lo+x-1))) ?_ ?_ ⟨xs,0,rfl,.refl _ _,h,hs,by lia,λi h1 u=>by rw[show i=lo+a-1 by lia]⟩
 . rintro x c f h1 u⟨ys,e,rfl,hc,g,hd,he,l⟩;have hsz:=hc.size;try dsimp only
   refine eP (nM R g (by lia) (by lia) ?_);by_cases c:K (it ys (lo+x))<K (it ys (lo+x-1))
   . rw[decide_eq_true c];try dsimp only
     rw[if_pos rfl];have more:∀v:Array fx,(∀i,K (it v i)=K (it ys i))->Mr K v lo (lo+(x+1)):=λv z i j p w B=>by
      rw[z,z];by_cases y:j<lo+x;.exact hd i j p w y
      . have:j=lo+x:=by lia
        subst this;by_cases e:i=lo+x;.rw[e];exact gT _
        .have:=hd i (lo+x-1) p (by lia) (by lia);lia
     by_cases c2:e>0
     . rw[if_pos c2];refine eP (rM (lo:=lo) g (by lia) (by lia) λC F=>gi ⟨_,0,rfl,hc.trans (lK (by lia) (by lia)),F,more _ λi=>?_,by lia,λi h1 u=>by rw[show i=lo+(x+1)-1 by lia]⟩);rw[mC (by lia)];split;.rw[l _ (by lia) (by lia),l i (by lia) (by lia)]
       .rfl
     .rw[if_neg c2];exact gi ⟨ys,0,rfl,hc,g,more ys λ_=>rfl,by lia,λi h1 u=>by rw[show i=lo+(x+1)-1 by lia]⟩
   . rw[decide_eq_false c];try dsimp only
     rw[if_neg (by simp)];refine eP (nM R g (by lia) (by lia) ?_);by_cases c2:K (it ys (lo+x-1))<K (it ys (lo+x))
     . rw[decide_eq_true c2];try dsimp only
       rw[if_pos rfl];exact gi (q ys f x e hc g h1 (by lia) hd he l)
     . rw[decide_eq_false c2];try dsimp only
       rw[if_neg (by simp)];have r:K (it ys (lo+x))=K (it ys (lo+x-1)):=by lia
       refine gi ⟨ys,e+1,rfl,hc,g,λi j p w B=>?_,by lia,λi p J=>?_⟩
       . by_cases y:j<lo+x;.exact hd i j p w y
         . have:j=lo+x:=by lia
           subst this;by_cases e:i=lo+x;.rw[e];exact gT _
           .rw[r];exact hd i (lo+x-1) p (by lia) (by lia)
       . rw[show lo+(x+1)-1=lo+x by lia];by_cases G:i=lo+x;.rw[G]
         .rw[r];exact l i (by lia) (by lia)
 .rintro c f⟨ys,e,rfl,hc,g,hd,he,l⟩;rw[show max a n=n by lia]at*;exact q ys f n e hc g t (dW) hd he l
end
section
variable{M:n0}{A:e_}{E:c_->dc->Prop}{s:dc}{κ:ib}{ok:fx->Prop}{K:fx->Int}
theorem Hs(hn:lo+n<=xs.size)(h:Mr K xs lo (lo+n)):Seg K (kw xs lo (lo+n) ((lo+n-lo)/2)) lo (lo+n):=λi j a b c=>by rw[mC hn,mC hn,if_pos (by lia),if_pos (by lia)];exact h _ _ (by lia) (by lia) (by lia)
theorem G9(R:Rk M A E s κ ok K){st:gz}{Q:Option Nat->gz->Prop}(h:Sx κ ok st xs st')(hn:lo+n<=xs.size)(h1:1<=n)(q:∀ys f m,qp xs ys lo->Sx κ ok st ys f->1<=m->m<=n->Seg K ys lo (lo+m)->Q (aB m) f):wpS M A E s (countRun' lo n) Q st':=by
 have one:∀ys:Array fx,Seg K ys lo (lo+1):=λys i j o y z=>by rw[show i=j by lia];exact gT _
 show wpS M A E s (_>>=_) Q st';refine eP (zO (a:=1) (n:=n) R h hn (le_refl 1) h1 (one xs) λm m1 O sm B=>?_);dsimp only;by_cases c1:m=n;.rw[if_pos (by simpa using c1)];exact gi (q xs st' m (.refl _ _) h m1 O sm)
 rw[if_neg (by simpa using c1)];have C:=B.resolve_left c1;by_cases c2:m>1;rw[if_pos c2];refine eP (nM R h (by lia) (by lia) ?_);by_cases c3:K (it xs lo)<K (it xs (lo+m-1))
 . rw[decide_eq_true c3];try dsimp only
   rw[if_pos rfl];exact gi (q xs st' m (.refl _ _) h m1 O sm)
 rw[decide_eq_false c3];try dsimp only
 rw[if_neg (by simp)];have r:∀k,lo<=k->k<lo+m->K (it xs k)=K (it xs (lo+m-1)):=λk F U=>by have a1:=sm lo k (dW) F U;have a2:=sm k (lo+m-1) F (by lia) (by lia);lia
 refine eP (rM (lo:=lo) h (dW) (by lia) λf G=>?_);have hc:qp xs (kw xs lo (lo+m) ((lo+m-lo)/2)) lo:=lK (dW) (by lia);have hd:Mr K (kw xs lo (lo+m) ((lo+m-lo)/2)) lo (lo+(m+1)):=λi j o y z=>by
  have e:∀k,lo<=k->k<lo+m->K (it (kw xs lo (lo+m) ((lo+m-lo)/2)) k)=K (it xs (lo+m-1)):=λk F U=>by rw[mC (by lia),if_pos (by lia)];exact r _ (by lia) (by lia)
  by_cases hj:j<lo+m;.rw[e i o (by lia),e j (by lia) hj];exact gT _
  . have:j=lo+m:=by lia
    subst this;by_cases e':i=lo+m;.rw[e'];exact gT _
    .rw[e i o (by lia),mC (by lia),if_neg (by lia)];lia
 generalize kw xs lo (lo+m) ((lo+m-lo)/2)=ys at G hc hd;rotate_left;rw[if_neg c2];have H:Mr K xs lo (lo+(m+1)):=λi j o y z=>by
  by_cases e:i=j;.rw[e];exact gT _
  . have e1:i=lo:=by lia
    have e2:j=lo+m:=by lia
    rw[e1,e2];rw[show lo+m-1=lo by lia]at C;lia
 obtain⟨ys,hc,G,hd⟩:∃ys,qp xs ys lo/\Sx κ ok st ys st'/\Mr K ys lo (lo+(m+1)):=⟨xs,.refl _ _,h,H⟩;all_goals
  have hsz:=hc.size;refine eP (wp_rule ?_);refine eP (Ng (a:=m+1) R G (by lia) (by lia) (by lia) hd λg ab p e c t p1 W v he X=>?_);have Y:=c.size;dsimp only;by_cases Z:e>0
  . rw[if_pos Z];refine eP (rM (lo:=lo) t (by lia) (by lia) λac h4=>?_);have l:qp xs (kw g (lo+p-(e+1)) (lo+p) ((lo+p-(lo+p-(e+1)))/2)) lo:=hc.trans (c.trans (lK (by lia) (by lia)));have w:Mr K (kw g (lo+p-(e+1)) (lo+p) ((lo+p-(lo+p-(e+1)))/2)) lo (lo+p):=λi j o y z=>by
     have ez:∀k,K (it (kw g (lo+p-(e+1)) (lo+p) ((lo+p-(lo+p-(e+1)))/2)) k)=K (it g k):=λk=>by
      rw[mC (by lia)];split;.rw[X _ (by lia) (by lia),X k (by lia) (by lia)]
      .rfl
     rw[ez,ez];exact v i j o y z
    generalize kw g (lo+p-(e+1)) (lo+p) ((lo+p-(lo+p-(e+1)))/2)=us at h4 l w;have I:=l.size;have b:qp us (kw us lo (lo+p) ((lo+p-lo)/2)) lo:=lK (dW) (by lia);refine eP (rM (lo:=lo) h4 (dW) (by lia) λJ x=>?_);refine eP (zO R x (by rw[b.size];lia) (by lia) W (Hs (by lia) w) λu u1 L N _=>?_);exact gi (q _ J u (l.trans b) x (by lia) L N)
  .rw[if_neg Z];have I:=(hc.trans c).size;have b:qp g (kw g lo (lo+p) ((lo+p-lo)/2)) lo:=lK (dW) (by lia);refine eP (rM (lo:=lo) t (dW) (by lia) λJ x=>?_);refine eP (zO R x (by rw[b.size];lia) (by lia) W (Hs (by lia) v) λu u1 L N _=>?_);exact gi (q _ J u ((hc.trans c).trans b) x (by lia) L N)
theorem R6(R:Rk M A E s κ ok K){st:gz}{o:Nat}{Q:Bool->gz->Prop}(h:Sx κ ok st xs st')(hn:lo+n<=xs.size)(ho:o<=n)(hs:Seg K xs lo (lo+o))(q:∀ys f,qp xs ys lo->Sx κ ok st ys f->Seg K ys lo (lo+n)->Q ck f):wpS M A E s (binarySort' lo n o) Q st':=by
 show wpS M A E s (_>>=_) Q st';refine eP (q7 (kC (I:=λk c f=>∃ys,c=(b_,())/\qp xs ys lo/\Sx κ ok st ys f/\Seg K ys lo (lo+min k n)) (Q:=λc f=>∃ys,c=(b_,())/\qp xs ys lo/\Sx κ ok st ys f/\Seg K ys lo (lo+n)) ?_ ?_ ?_) ?_)
 . rintro k c f J L⟨ys,rfl,hc,p,m⟩;rw[show min k n=k by lia]at m;have hsz:=hc.size;refine eP (q7 (kC (I:=λx c g=>g=f/\∃l r,c=(b_,l,r)/\l<=r/\r<=k/\r-l<=k-x/\(∀i,lo<=i->i<lo+l->K (it ys i)<=K (it ys (lo+k)))/\∀i,lo+r<=i->i<lo+k->K (it ys (lo+k))<K (it ys i)) (Q:=λc g=>g=f/\∃l r,c=(b_,l,r)/\l<=k/\(∀i,lo<=i->i<lo+l->K (it ys i)<=K (it ys (lo+k)))/\∀i,lo+l<=i->i<lo+k->K (it ys (lo+k))<K (it ys i)) ?_ ?_ ⟨rfl,0,k,rfl,by lia,by lia,by lia,λi a b=>by lia,λi a b=>by lia⟩) ?_)
   . rintro x c g _ N⟨rfl,l,r,rfl,G,w,H,t,u⟩;dsimp only;by_cases e:l ≥ r
     . rw[if_pos e];have:l=r:=by lia
       subst this;exact gi ⟨rfl,l,l,rfl,w,t,u⟩
     . rw[if_neg e];refine eP (nM R p (by lia) (by lia) ?_);by_cases c:K (it ys (lo+k))<K (it ys (lo+(l+r)/2));.rw[decide_eq_true c];dsimp only;rw[if_pos rfl];exact gi ⟨rfl,_,_,rfl,by lia,by lia,by lia,t,λi v z=>Int.lt_of_lt_of_le c (m _ _ (by lia) v z)⟩
       .rw[decide_eq_false c];dsimp only;rw[if_neg (by simp)];exact gi ⟨rfl,_,_,rfl,by lia,w,by lia,λi v z=>Int.le_trans (m i (lo+(l+r)/2) v (by lia) (by lia)) (Int.not_lt.mp c),u⟩
   . rintro c g⟨rfl,l,r,rfl,G,w,H,t,u⟩;have:l=r:=by lia
     subst this;exact⟨rfl,l,l,rfl,w,t,u⟩
   . rintro c g⟨rfl,l,r,rfl,w,t,u⟩;show wpS M A E s (moveDown' (lo+k) (lo+l)>>=λ_=>fI (hV (b_,()))) _ _;rw[moveDown'_eq];refine eP (oj (gi ?_));rw[p.arr];have B:qp ys (bubble ys (lo+k) (lo+k-(lo+l))) lo:=MF (by lia) (by lia) (by lia);refine⟨_,rfl,hc.trans B,p.set B,λi j v C F=>?_⟩;rw[show min (k+1) n=k+1 by lia]at F;rw[An (by lia) (by lia),An (by lia) (by lia),show lo+k-(lo+k-(lo+l))=lo+l by lia];repeat' split
     all_goals first|(exfalso;lia)|exact gT _|exact t _ (by lia) (by lia)|exact Int.le_of_lt (u _ (by lia) (by lia))|exact m _ _ (by lia) (by lia) (by lia)
 .rintro c f⟨ys,y,hc,p,m⟩;rw[show min (max (max o 1) n) n=n by lia]at m;exact⟨ys,y,hc,p,m⟩
 . refine⟨xs,rfl,.refl _ _,h,λi j v C F=>?_⟩;by_cases e:i=j;.rw[e];exact gT _
   .exact hs i j v C (by lia)
 .rintro c f⟨ys,rfl,hc,p,m⟩;exact gi (q ys f hc p m)
end
noncomputable abbrev Rn:=Nat×Nat×Nat
section
variable{K:fx->Int}{xs ys:Array fx}
noncomputable def Zf(K:fx->Int)(xs:Array fx):Nat->List Rn->Nat->Prop|a,[],b=>a=b|a,r::l,b=>r.1=a/\1<=r.2.1/\Seg K xs a (a+r.2.1)/\Zf K xs (a+r.2.1) l b
theorem vU:∀{l k:List Rn}{a b:Nat},Zf K xs a (l++k) b↔∃m,Zf K xs a l m/\Zf K xs m k b
 |[],k,a,b=>⟨λh=>⟨a,rfl,h⟩,λ⟨m,h1,c⟩=>by cases(show a=m from h1);exact c⟩|r::l,k,a,b=>by
   rw[List.cons_append];constructor;.rintro⟨h1,c,e,f⟩;obtain⟨m,g,o⟩:=vU.mp f;exact⟨m,⟨h1,c,e,g⟩,o⟩
   .rintro⟨m,⟨h1,c,e,f⟩,g⟩;exact⟨h1,c,e,vU.mpr ⟨m,f,g⟩⟩
end
section
variable{M:n0}{A:e_}{E:c_->dc->Prop}{s:dc}{κ:ib}{ok:fx->Prop}{K:fx->Int}
structure SR(κ:ib)(ok:fx->Prop)(K:fx->Int)(x0 ys:Array fx)(l:List Rn)(lo:Nat)(st:gz):Prop where
 kind:kindOf st=κ
 arr:rV st=ys
 fail:rL st=b_
 pend:(kf st).toList=l
 perm:ys.toList.Perm x0.toList
 ok:∀x∈ys.toList,ok x
 rns:Zf K ys 0 l lo
 le:lo<=ys.size
theorem SR.sx{x0 ys:Array fx}{l:List Rn}{lo:Nat}{st:gz}(h:SR κ ok K x0 ys l lo st):Sx κ ok st ys st:=⟨h.kind,h.arr,rfl,h.fail,h.ok⟩
end
end _H
namespace _H
open PySem W PyProof.Rows Calls _L Spec
theorem Em{i o:Type}{f:i->o}{p m:List o}(h:p.Perm m):∀{l:List i},m=l.map f->∃k:List i,k.Perm l/\k.map f=p:=by induction h with
 |nil=>intro l e;cases l with|nil=>exact⟨[],.refl _,rfl⟩|cons _ _=>cases e
 |cons x h r=>intro l e;cases l with|nil=>cases e|cons a l=>obtain⟨c,g⟩:=kS e;obtain⟨k,h1,q⟩:=r g;exact⟨a::k,h1.cons a,by rw[er,q,c]⟩
 |swap x y l0=>intro l e;match l,e with|a::b::l,e=>obtain⟨c,g⟩:=kS e;obtain⟨s,t⟩:=kS g;exact⟨b::a::l,.swap ..,by rw[er,er,c,s,t]⟩
 |trans h1 q j n=>intro l e;obtain⟨k,u,c⟩:=n e;obtain⟨v,w,g⟩:=j c.symm;exact⟨v,w.trans u,g⟩
theorem Mx(a:List Int):aZ a a=a_:=by cases h:aZ a a with|false=>rfl|true=>rw[m8 _ _ h]at h;cases h
theorem JK{a b x:List Int}(h:aZ b a=a_)(c:aZ x a=ck):aZ x b=ck:=by cases e:aZ x b with|true=>rfl|false=>rw[yZ _ _ _ h e]at c;cases c
theorem uJ{a:Type}{p q:a->Bool}(h:∀x,p x=ck->q x=ck):∀{l:List a},(∃x,x∈l/\q x=ck/\p x=a_)->l.countP p<l.countP q
 |[],⟨x,hx,_⟩=>by cases hx|y::l,⟨x,hx,h1,b⟩=>by
   rw[List.countP_cons,List.countP_cons];have m:=oN (l:=l) (p:=p) (q:=q) λx _=>h x;rcases et.mp hx with rfl|hx;.rw[h1,b,if_pos rfl,if_neg (by simp)];lia
   .have:=uJ h ⟨x,hx,h1,b⟩;cases hp:p y with|true=>rw[h y hp];lia|false=>rw[if_neg (by simp)];lia
noncomputable def R9(a:List D)(d:D):Nat:=a.countP λe=>aZ (bO e) (bO d)
theorem Ho{a:List D}{d e:D}(hd:d∈a):decide ((R9 a d:Int)<R9 a e)=aZ (bO d) (bO e):=by cases h:aZ (bO d) (bO e)with|true=>have:=uJ (l:=a) (p:=λx=>aZ (bO x) (bO d)) (q:=λx=>aZ (bO x) (bO e)) (λx b=>JK (m8 _ _ h) b) ⟨d,hd,h,Mx _⟩;rw[decide_eq_true_iff];unfold R9;lia|false=>have:=oN (l:=a) (p:=λx=>aZ (bO x) (bO e)) (q:=λx=>aZ (bO x) (bO d)) λx _ b=>JK h b;rw[decide_eq_false_iff_not];unfold R9;lia
open Classical in
noncomputable def rkK(P:c_->D->Prop)(a:List D)(x:fx):Int:=if h:∃d,d∈a/\P x.1 d then(R9 a h.choose:Int)else 0
theorem Bg{P:c_->D->Prop}{a:List D}{x:fx}{d:D}(fn:∀u d e,P u d->P u e->bO d=bO e)(hd:d∈a)(b:P x.1 d):rkK P a x=R9 a d:=by have h:∃d,d∈a/\P x.1 d:=⟨d,hd,b⟩;unfold rkK;rw[dif_pos h];unfold R9;rw[fn _ _ _ h.choose_spec.2 b]
noncomputable def pick{a:Type}(d:a)(p:List Nat)(l:List a):List a:=p.map λi=>l.getD i d
theorem rT{a:Type}(d:a)(l:List a):pick d (dV l.length) l=l:=by refine ii (by simp[pick]) λi h1 b=>?_;simp[pick,b]
theorem mV{a:Type}{d:a}{p:List Nat}{l:List a}{n:Nat}(h:p.Perm (dV n)):(pick d p l).length=n:=by rw[pick,eu,h.length_eq,j_]
theorem lG{P:c_->D->Prop}:∀{b:List c_}{a:List D},Paired P b a->∀i,i<b.length->P (b.getD i .none) (a.getD i .non)/\a.getD i .non∈a|_,_,.cons r _,0,_=>⟨by simpa using r,by simp⟩|_,_,.cons _ t,i+1,hi=>by have:=lG t i (by simpa using hi);exact⟨by simpa using this.1,by simpa using ef this.2⟩
end _H
namespace _H
open PySem PyProof.Rows
section
variable{M:n0}{A:e_}{E:c_->dc->Prop}{s:dc}{κ:ib}{ok:fx->Prop}{K:fx->Int}
theorem SR.Y6{x0 ys:Array fx}{l:List Rn}{lo n:Nat}{st:gz}(h:SR κ ok K x0 ys l lo st)(h1:1<=n)(a:lo+n<=ys.size)(hs:Seg K ys lo (lo+n)):SR κ ok K x0 ys (l++[(lo,n,0)]) (lo+n) (setPending st ((kf st).push (lo,n,0))):=⟨h.kind,h.arr,h.fail,by show((kf st).push (lo,n,0)).toList=_;rw[Array.toList_push,h.pend],h.perm,h.ok,vU.mpr ⟨lo,h.rns,rfl,h1,hs,rfl⟩,a⟩
end
end _H
namespace _H
open PySem W PyProof.Rows Calls _L Spec
section
variable{M:n0}{A:e_}{E:c_->dc->Prop}{s:dc}{κ:ib}{ok:fx->Prop}{K:fx->Int}
theorem SR.Pz{x0 ys b:Array fx}{st a:gz}(h:SR κ ok K x0 ys [] 0 st)(c:qp ys b 0)(x:Sx κ ok st b a):SR κ ok K x0 b [] 0 a:=⟨x.kind,x.arr,x.fail,by rw[x.pend];exact h.pend,c.perm.trans h.perm,x.ok,rfl,wI⟩
theorem Gm(R:Rk M A E s κ ok K){x0:Array fx}{Q:Unit->gz->Prop}{st:gz}(h:SR κ ok K x0 x0 [] 0 st)(O:x0.size<64)(h1:1<=x0.size)(q:∀ys a,rV a=ys->rL a=b_->ys.toList.Perm x0.toList->Seg K ys 0 ys.size->Q () a):wpS M A E s sortRuns' Q st:=by
 rw[sortRuns'_eq];refine eP (n7 ?_);dsimp only;simp only[h.arr];have y:minRun' x0.size x0.size 0=x0.size:=by obtain⟨f,z⟩:∃f,x0.size=f+1:=⟨x0.size-1,by lia⟩;rw[z,minRun'_succ,if_pos (by lia),Nat.add_zero]
 rw[y];refine eP (q7 (kC (I:=λx c a=>(c=(b_,0)/\SR κ ok K x0 x0 [] 0 a/\x=0)\/∃ys,c=(b_,x0.size)/\SR κ ok K x0 ys [(0,x0.size,0)] x0.size a) (Q:=λc a=>∃ys,c=(b_,x0.size)/\SR κ ok K x0 ys [(0,x0.size,0)] x0.size a) ?_ ?_ (.inl ⟨rfl,h,rfl⟩)) ?_)
 . rintro x c r _ G(⟨rfl,l,rfl⟩|⟨ys,rfl,l⟩)
   . dsimp only;rw[if_neg (by lia)];refine eP (G9 R l.sx (lo:=0) (n:=x0.size-0) (by lia) (by lia) λv i m ch t m1 U w=>?_);have u:=l.Pz ch t;have H:v.size=x0.size:=ch.size;dsimp only;have fin:∀(j:Array fx)(b:gz)(n:Nat),SR κ ok K x0 j [] 0 b->Seg K j 0 (0+n)->n=x0.size->SR κ ok K x0 j [(0,x0.size,0)] x0.size (setPending b ((kf b).push (0,n,0))):=λj b n g p e=>by
      have J:j.size=x0.size:=by have:=g.perm.length_eq;simpa using this
      have:=g.Y6 (n:=n) (by lia) (by lia) p;subst e;simpa using this
     have F:∀(j:Array fx)(b:gz),SR κ ok K x0 j [] 0 b->(kf b).back?=b_:=λj b g=>by have:kf b=#[]:=mf.mp g.pend;rw[this];rfl
     by_cases c2:m<x0.size;.rw[if_pos c2];refine eP (wpS_lift (ke ⟨rfl,?_⟩));refine eP (R6 R t (lo:=0) (n:=min (x0.size-0) x0.size) (by lia) (by lia) w λj b B C p=>?_);simp only[Bool.not_true,hU,if_false];have g:=l.Pz (ch.trans B) C;refine eP (n7 ?_);rw[F j b g];dsimp only;refine eP (oj (gi (.inr ⟨j,by simp,fin j b _ g p (by lia)⟩)))
     .rw[if_neg c2];refine eP (n7 ?_);rw[F v i u];dsimp only;refine eP (oj (gi (.inr ⟨v,by simp;lia,fin v i m u w (by lia)⟩)))
   .dsimp only;rw[if_pos (dW)];exact gi ⟨ys,rfl,l⟩
 . rintro c r(⟨rfl,l,e⟩|⟨ys,rfl,l⟩);.lia
   .exact⟨ys,rfl,l⟩
 . rintro c r⟨ys,rfl,l⟩;dsimp only;refine eP (q7 (kC (I:=λx c a=>c=(b_,())/\SR κ ok K x0 ys [(0,x0.size,0)] x0.size a) (Q:=λc a=>c=(b_,())/\SR κ ok K x0 ys [(0,x0.size,0)] x0.size a) ?_ (λ_ _ h=>h) ⟨rfl,l⟩) ?_)
   . rintro x c i _ G⟨rfl,o⟩;refine eP (n7 ?_);try dsimp only
     have L:(kf i).size<=1:=by rw[<-iP,o.pend];simp
     rw[if_pos L];exact gi ⟨rfl,o⟩
   . rintro c i⟨rfl,o⟩;dsimp only;have N:ys.size=x0.size:=by have:=o.perm.length_eq;simpa using this
     refine gi (q ys i o.arr o.fail o.perm ?_);rw[N];have:=o.rns;obtain⟨_,_,w,_⟩:=this;simpa using w
end
section
variable{prog:d_}{w:fb}{A:e_}{E:c_->dc->Prop}{s:dc}{vs:List c_}{κ:ib}{P:c_->D->Prop}{ds:List D}
theorem xR{a:df}{n:Nat}{O:PySem.Fin->dc->Prop}(ho:s.heap.get? a=aB (lI "list" vs.toArray n))(so:sortable ds=ck)(hz:vs.length<64)(J:Paired P vs ds)(fn:∀u d e,P u d->P u e->bO d=bO e)(m:∀h',(∀b o,b≠a->s.heap.get? b=aB o->h'.get? b=aB o)->∀C:ib->dc->Prop,C κ {s with heap:=h'}->2<=vs.length->dL (dS prog w) A (keyKind' vs.toArray) C (λ_ _=>False) {s with heap:=h'})(hl:∀h',(∀b o,b≠a->s.heap.get? b=aB o->h'.get? b=aB o)->∀u v d e,P u d->P v e->∀C:Bool->dc->Prop,C (aZ (bO d) (bO e)) {s with heap:=h'}->dL (dS prog w) A (keyLt' κ u v) C (λ_ _=>False) {s with heap:=h'})(h:∀h' c p,(∀b o,b≠a->s.heap.get? b=aB o->h'.get? b=aB o)->p.Perm (dV vs.length)->pick .non p ds=kE ds->h'.get? a=aB (lI "list" (pick .none p vs).toArray c)->O (.done (.ret .none)) {s with heap:=h'}):dL (dS prog w) A (hY.«list.sort» ⟨[.ref a],[]⟩) O E s:=by
 have ha:a<s.heap.objs.size:=ej ho;have z:vs.length=ds.length:=Paired.length J;obtain⟨r,B⟩:∃r,(s.heap.update a (iS λ_=>(#[]:Array c_))).get? a=aB (lI "list" #[] r):=⟨_,get?_update_seq ho λ_=>#[]⟩;rw[list_sort_plain];refine bx (listItems_at ho rfl ?_);refine bx (pV ho rfl ?_ (by rw[dP,gE];lia) (wI));refine bx (rh B rfl ?_);refine bx (wpAny_newTuple ?_ (by show vs.length<=_;rw[gE];lia));refine bx (pr ?_ (wI));refine hJ ?_;generalize hH:(((s.heap.update a (iS λ_=>(#[]:Array c_))).push {cls:=.type "tuple",data:=.seq vs.toArray}).push {cls:=.type "list",data:=.seq #[]}:fk)=g;have F:g.get? a=aB (lI "list" #[] r):=by rw[<-hH];exact fK (fK B)
 have keep:∀b o,b≠a->s.heap.get? b=aB o->g.get? b=aB o:=λb o L e=>by rw[<-hH];exact fK (fK ((jx _ _ (iE L)).trans e))
 have fin:∀p:List Nat,p.Perm (dV vs.length)->pick .non p ds=kE ds->O (.done (.ret .none)) {s with heap:=g.update a (iS λ_=>qq (pick .none p vs))}:=by intro p h1 f;obtain⟨c2,N⟩:∃c2,(g.update a (iS λ_=>qq (pick eR p vs))).get? a=aB (lI "list" (pick eR p vs).toArray c2):=⟨_,get?_update_seq F λ_=>qq (pick eR p vs)⟩;exact h _ c2 p (λb o L e=>(jx _ _ (iE L)).trans (keep b o L e)) h1 f N
 show dL (dS prog w) A _ O E {s with heap:=g};dsimp only;by_cases f:vs.toArray.size<2
 . rw[if_pos f,if_pos f];refine bx (de ?_);rw[StateT.run_pure];refine bx (de ?_);dsimp only;have eo:(rV (SortSt.mk' general' (vs.toArray.zip vs.toArray) #[] 7 b_)).map (·.2)=qq (pick eR (dV vs.length) vs):=by rw[rT];apply mf.mp;show((vs.toArray.zip vs.toArray).map (·.2)).toList=vs;simp[List.map_snd_zip]
   rw[eo];refine bx (rh F rfl ?_);refine bx (pV F rfl ?_ (wI) (by rw[dP,mV (.refl _),gE];lia));simp only[bne_self_eq_false,hU,if_false];refine de (fin _ (.refl _) ?_);rw[z,rT];refine xq so (.refl _) ?_;match ds,(show ds.length<2 by simp at f;lia)with|[],_=>exact .nil|[_],_=>exact List.pairwise_singleton ..|_::_::_,f=>simp at f;lia
 . rw[if_neg f,if_neg f];have U:2<=vs.length:=by simpa using f
   refine bx (m g keep _ ?_ U|>λq=>fe q (λ_ _ x=>x) λ_ _ x=>x.elim);have G:(vs.toArray.zip vs.toArray).toList=(dV vs.length).map λi=>(vs.getD i eR,vs.getD i eR):=by
    refine ii (by simp) λi h1 f=>?_;have:i<vs.length:=by simpa using f
    simp[this]
   have W:∀x∈(vs.toArray.zip vs.toArray).toList,∃d,d∈ds/\P x.1 d:=λx hx=>by rw[G]at hx;obtain⟨i,hi,rfl⟩:=eM.mp hx;have:=lG J i (iN.mp hi);exact⟨_,this.2,this.1⟩
   have R:Rk (dS prog w) A E {s with heap:=g} κ (λx=>∃d,d∈ds/\P x.1 d) (rkK P ds):=⟨by rintro x y Q st⟨d,d1,d2⟩⟨e,r,M⟩X hq;rw[Bg fn d1 d2,Bg fn r M,Ho d1]at hq;rw[lt'_eq];refine eP (n7 ?_);rw[X];refine eP (wpS_lift (kQ (fe (hl g keep x.1 y.1 d e d2 M (λb Y=>Y={s with heap:=g}/\b=aZ (bO d) (bO e)) ⟨rfl,rfl⟩) ?_ λ_ _ h=>h.elim)));rintro b Y⟨rfl,rfl⟩;exact⟨rfl,gi hq⟩⟩;have run:=Gm R (x0:=vs.toArray.zip vs.toArray) (st:=SortSt.mk' κ (vs.toArray.zip vs.toArray) #[] 7 b_) (Q:=λ_ l=>∃p:List Nat,p.Perm (dV vs.length)/\pick .non p ds=kE ds/\(rV l).map (·.2)=(pick eR p vs).toArray/\rL l=b_) ⟨rfl,rfl,rfl,rfl,.refl _,W,rfl,wI⟩ (by simp;lia) (by simp;lia) λys l r M e3 e4=>by
     rw[G]at e3;obtain⟨p,t,H⟩:=Em e3 rfl;have hpl:p.length=vs.length:=by rw[t.length_eq,j_]
     have ab:ys.size=vs.length:=by rw[<-iP,<-H,eu,hpl]
     refine⟨p,t,xq so ?_ ?_,?_,M⟩;.have:=t.map λi=>ds.getD i .non;rw[z]at this;exact this.trans (.of_eq (rT D.non ds))
     . rw[nN];intro i j hi Z ac;simp only[pick,eu]at hi Z;have sg:=e4 i j (wI) (by lia) (by lia);have at':∀k(m:k<p.length),it ys k=(vs.getD p[k] .none,vs.getD p[k] .none):=λk m=>by rw[La,<-H];simp[m]
       have inn:∀k(m:k<p.length),p[k]<vs.length:=λk m=>iN.mp (t.mem_iff.mp (gu m));rw[at' i hi,at' j Z]at sg;have a1:=lG J p[i] (inn i hi);have a2:=lG J p[j] (inn j Z);rw[Bg fn a1.2 a1.1,Bg fn a2.2 a2.1]at sg;simp only[pick,List.getElem_map,j8,m3];rw[<-Ho a2.2,decide_eq_false_iff_not];lia
     .apply mf.mp;rw[r,Array.toList_map,<-H,eA];rfl
   refine bx (fe run ?_ λ_ _ e=>e);rintro⟨⟨⟩,l⟩Y⟨rfl,p,t,H,I,hf⟩;dsimp only;rw[I];refine bx (rh F rfl ?_);refine bx (pV F rfl ?_ (wI) (by rw[dP,mV t,gE];lia));rw[hf];simp only[bne_self_eq_false,hU,if_false];exact de (fin _ t H)
end
end _H
namespace _H
open PySem _L Spec PyProof.Rows Calls W
section
variable{prog:d_}{w:fb}{A:e_}{E:c_->dc->Prop}{s:dc}{vs:List c_}{κ:ib}{P:c_->D->Prop}{ds:List D}
theorem pG{l:df}{Q:c_->dc->Prop}(y:s.heap.IsList l vs.toArray)(z:sortable ds=ck)(B:vs.length<64)(F:Paired P vs ds)(fn:∀u d e,P u d->P u e->bO d=bO e)(G:∀h',(∀b o,s.heap.get? b=aB o->h'.get? b=aB o)->∀C:ib->dc->Prop,C κ {s with heap:=h'}->2<=vs.length->dL (dS prog w) A.in1.in1 (keyKind' vs.toArray) C (λ_ _=>False) {s with heap:=h'})(i:∀h',(∀b o,s.heap.get? b=aB o->h'.get? b=aB o)->∀u v d e,P u d->P v e->∀C:Bool->dc->Prop,C (aZ (bO d) (bO e)) {s with heap:=h'}->dL (dS prog w) A.in1.in1 (keyLt' κ u v) C (λ_ _=>False) {s with heap:=h'})(h:∀h' c p,(∀b o,s.heap.get? b=aB o->h'.get? b=aB o)->p.Perm (dV vs.length)->pick .non p ds=kE ds->h'.get? (s.heap.objs.size+1)=aB (lI "list" (pick .none p vs).toArray c)->Q (.ref (s.heap.objs.size+1)) {s with heap:=h'}):dL (dS prog w) A (call (.builtin "sorted") [.ref l]) Q E s:=by
 refine nv kind_sorted plain_sorted entry_sorted (args_sorted1 _) ?_;unfold hY.«sorted»;refine bx (m:=checkCount "sorted" 1 1 _) (de ?_);refine bx (collect_list y ?_ (by rw[gE];lia));refine bx (pr ?_ (by rw[gE];lia));generalize t:((s.heap.push (lI "list" #[] 0)).update s.heap.objs.size (iS (·++vs.toArray)):fk)=j;have hsz:j.objs.size=s.heap.objs.size+1:=by rw[<-t,Heap.size_update,size_push']
 have keep:∀b o,s.heap.get? b=aB o->j.get? b=aB o:=λb o q=>by rw[<-t,Heap.get?_update_ne _ _ _ _ (eH (ej q))];exact fK q
 generalize x:(j.push {cls:=.type "list",data:=.seq vs.toArray}:fk)=g;have ho:g.get? (s.heap.objs.size+1)=aB (lI "list" vs.toArray 0):=by rw[<-x,<-hsz];exact dE _ rfl
 have n:∀b o,s.heap.get? b=aB o->g.get? b=aB o:=λb o q=>by rw[<-x];exact fK (keep b o q)
 have a:∀b o,s.heap.get? b=aB o->b≠s.heap.objs.size+1:=λb o q=>eH (me (ej q));show dL _ _ _ _ _ {s with heap:=g};rw[hsz];refine bx (hJ (fN slot_list_sort ⟨_,ho,rfl⟩ entry_list_sort ?body (args_list_sort _)));case body=>refine xR (s:={s with heap:=g}) (κ:=κ) ho z B F fn (λh' f C r H=>G h' (λb o q=>f b o (a b o q) (n b o q)) C r H) (λh' f u v d e hd he C r=>i h' (λb o q=>f b o (a b o q) (n b o q)) u v d e hd he C r) λh' c p f I J e=>?_;exact⟨_,rfl,de ⟨_,rfl,h h' c p (λb o q=>f b o (a b o q) (n b o q)) I J e⟩⟩
theorem pB{b fin:Bool}{Q:Bool->dc->Prop}:∀{xs ys:List c_}{is js:List Int}{i:Nat},gI xs is->gI ys js->fin=decide (is.length<js.length)->Q (aZ is js) s->KatLex prog w A b fin Q (xs.zip ys) i s
 |_,_,_,_,_,.nil,.nil,e,h=>by subst e;exact kat_nil (by simpa[aZ]using h)|_,_,_,_,_,.nil,.cons _ _ _,e,h=>by subst e;exact kat_nil (by simpa[aZ]using h)|_,_,_,_,_,.cons _ _ _,.nil,e,h=>by subst e;exact kat_nil (by simpa[aZ]using h)|_,_,_,_,i,.cons (ns:=is) x t r,.cons (ns:=js) y u r',e,h=>by
   refine kat_cons (kX ?_);by_cases q:x=y;.subst q;rw[beq_self_eq_true];refine kat_yes (pB r r' (by rw[e];simp) ?_);simpa[aZ]using h
   . rw[beq_eq_false_iff_ne.mpr q];refine kat_no ?_;have a:Q (decide (x<y)) s:=by simpa[aZ,q]using h
     cases(b&&i==0)with|true=>exact oneLt_int a|false=>exact kat_one _ _ (wpAny_lt_int a)
noncomputable def qY(h:fk)(u:c_)(d:D):Prop:=∃a b is,u=.ref a/\qc h a (qq b)/\gI b is/\is≠[]/\bO d=is
theorem oY{h h':fk}(k:∀b o,h.get? b=aB o->h'.get? b=aB o){u:c_}{d:D}(t:qY h u d):qY h' u d:=by obtain⟨a,c,is,e,⟨o,h1,f⟩,g⟩:=t;exact⟨a,c,is,e,⟨o,k _ _ h1,f⟩,g⟩
theorem um{h h':fk}(k:∀b o,h.get? b=aB o->h'.get? b=aB o):∀{a:List c_}{ds:List D},Paired (qY h) a ds->Paired (qY h') a ds|_,_,.nil=>.nil|_,_,.cons r t=>.cons (oY k r) (um k t)
theorem o9{h:fk}:∀{b:List c_}{ds:List D},Paired (qY h) b ds->∃fs,KatTups h b fs/\fs.length=b.length/\∀f∈fs,∃n t,f=ko n t|_,_,.nil=>⟨[],trivial,rfl,by simp⟩|_,_,.cons r t=>by obtain⟨fs,h1,e,g⟩:=o9 t;obtain⟨a,i,is,rfl,⟨o,o1,j,n,l⟩,hi,c,_⟩:=r;cases hi with|nil=>exact absurd rfl c|cons x m p=>
     refine⟨.int x m::fs,KatTups.cons o1 j l (by simp) h1,by simp[e],λf hf=>?_⟩;rcases et.mp hf with rfl|hf;.exact⟨_,_,rfl⟩
     .exact g f hf
theorem Ef{ds:List D}(t:Paired (qY s.heap) vs ds)(c:2<=vs.length){C:ib->dc->Prop}(a:C (tuples' (hX "int"!=hX "tuple")) s):dL (dS prog w) A (keyKind' vs.toArray) C E s:=by obtain⟨fs,h1,e,b⟩:=o9 t;refine kat_kind (T:=.type "int") h1 (by lia) (λv hv=>?_) rfl a;obtain⟨n,t,rfl⟩:=b v hv;exact Looks.now
theorem M5{x y:c_}{d e:D}(h:qY s.heap x d)(i:qY s.heap y e){b:Bool}{C:Bool->dc->Prop}(c:C (aZ (bO d) (bO e)) s):dL (dS prog w) A (keyLt' (tuples' b) x y) C E s:=by obtain⟨a,j,is,rfl,⟨o,o1,u,n,l⟩,hi,m,p⟩:=h;obtain⟨v,its',js,rfl,⟨z,q,B,F,r⟩,f,g,t⟩:=i;refine kat_lt o1 l q r ?_;rw[p,t]at c;refine pB (is:=is) (js:=js) (by simpa using hi) (by simpa using f) ?_ c;rw[dP,dP,iq hi,iq f]
end
theorem EY{xs:List V}{a:List c_}(h:Vals xs a)(i:Nat):RelV (xs.getD i .non) (a.getD i .none):=by
 have f:=h.length;by_cases hi:i<xs.length
 . obtain⟨u,e,r⟩:=h.get (i:=i) (x:=xs[i]) (g9 hi);have b:xs.getD i .non=xs[i]:=by simp[hi]
   have c:a.getD i .none=u:=by simp[e]
   rw[b,c];exact r
 . have b:xs.getD i .non=.non:=by simp[mx hi]
   have c:a.getD i .none=.none:=by simp[show a.length<=i by lia]
   rw[b,c];rfl
theorem xV{f:Nat->V}{g:Nat->c_}(h:∀i,RelV (f i) (g i)):∀l:List Nat,Vals (l.map f) (l.map g)|[]=>.nil|i::l=>.cons (h i) (xV h l)
theorem yj{p:List Nat}{xs:List V}{a:List c_}(h:Vals xs a):Vals (pick .non p xs) (pick .none p a):=xV (EY h) _
theorem xW{K:PySem.W.Frag}{F:Hp}{f:Nat->V}{g:Nat->D}(h:∀i,Rep K F (f i) (g i)):∀l:List Nat,aN K F (l.map f) (l.map g)|[]=>.nil|i::l=>.cons (h i) (xW h l)
theorem xQ{K:PySem.W.Frag}{F:Hp}{p:List Nat}{xs:List V}{a:List D}(h:aN K F xs a):aN K F (pick .non p xs) (pick .non p a):=xW (λi=>by
 have f:=h.length;by_cases hi:i<a.length
 . obtain⟨u,e,r⟩:=h.get (i:=i) (d:=a[i]) (g9 hi);have b:a.getD i .non=a[i]:=by simp[hi]
   have c:xs.getD i .non=u:=by simp[e]
   rw[b,c];exact r
 . have b:a.getD i .non=.non:=by simp[mx hi]
   have c:xs.getD i .non=.non:=by simp[show xs.length<=i by lia]
   rw[b,c,Rep]) _
noncomputable def Je(u:c_)(d:D):Prop:=∃n t,u=.int n t/\bO d=[n]
theorem Dl(u:c_)(d e:D):Je u d->Je u e->bO d=bO e:=λ⟨n,t,h1,b⟩⟨m,t',a,c⟩=>by rw[h1]at a;cases a;rw[b,c]
theorem Cv{prog:d_}{w:fb}{A:e_}{E:c_->dc->Prop}{s:dc}{x y:c_}{d e:D}(b:Je x d)(c:Je y e){C:Bool->dc->Prop}(a:C (aZ (bO d) (bO e)) s):dL (dS prog w) A (keyLt' oneType' x y) C E s:=by obtain⟨n,t,rfl,f⟩:=b;obtain⟨m,t',rfl,g⟩:=c;refine kat_lt_int ?_;rw[f,g,show aZ [n] [m]=decide (n<m)by simp[aZ]]at a;exact a
theorem JB:∀{a:List c_}{ns:List Int},gI a ns->Paired Je a (ns.map D.int)|_,_,.nil=>.nil|_,_,.cons n t r=>.cons ⟨n,t,rfl,rfl⟩ (JB r)
theorem Hu{a:List c_}:∀{ns b:List Int},gI a ns->gI a b->ns=b:=by induction a with|nil=>intro ns b h1 c;cases h1;cases c;rfl|cons u a e=>intro ns b h1 c;cases h1 with|cons n t r=>cases c with|cons m t' f=>rw[e r f]
theorem Ly{h:fk}(u:c_)(d e:D):qY h u d->qY h u e->bO d=bO e:=λ⟨a,i,is,h1,⟨o,o1,t,n,j⟩,l,_,p⟩⟨b,q,js,c,⟨v,f,w,m,g⟩,r,_,s⟩=>by rw[h1]at c;cases c;rw[o1]at f;cases f;rw[j]at g;cases g;rw[p,s,Hu l r]
theorem all_ints:∀{a:List D},a.all dI=ck->a=(a.map fG).map D.int
 |[],_=>rfl|d::a,h=>by
   simp only[nh,fE]at h;cases d<;>first|(have q:=h.1;simp[dI]at q;done)|skip
   rw[er,er,<-all_ints h.2];rfl
theorem intsAre_of:∀{ns:List Int}{a:List c_},Vals (ns.map V.int) a->gI a ns|[],_,.nil=>.nil|n::ns,_,.cons r t=>by obtain⟨b,rfl⟩:=r;exact .cons n b (intsAre_of t)
section
variable{X:Cx}{c:Call}{a:ek}{pa:P}{pos:Pos}
theorem Bt{b:List (df×Obj)}{σ:_L.St}{F H:Hp}{s:dc}(I:_L.Inv X b σ H s)(sm:aP F H):∀{e:List D}{ys:List V}{f:List c_},aN X.K F ys e->Vals ys f->e.all rB=ck->Paired (qY s.heap) f e|[],ys,f,h,v,_=>by rw[h.il]at v;cases v;exact .nil|d::e,ys,f,h,v,o=>by obtain⟨y,r,rfl,h1,m⟩:=h.dh;simp only[nh,fE]at o;cases v with|cons n p=>
     refine .cons ?_ (Bt I sm m p o.2);cases d<;>first|(have q:=o.1;simp[rB]at q;done)|skip
     rename_i g;cases g with|nil=>exact absurd o.1 (by simp[rB])|cons x xs=>obtain⟨ad,u,rfl,t,j,_⟩:=fM.tup sm (.inl h1);cases n;obtain⟨i,l,it,_⟩:=I.tuple t;rw[all_ints o.1]at j;rw[fu j]at l;exact⟨ad,i,_,rfl,it,intsAre_of l,by simp,rfl⟩
theorem Gs:dU X (.builtin "sorted") (Gf X.K λx=>blt .sorted [x]):=by
 rintro i s σ H xs Y Q I r⟨x,B,F,d,E,sm,G,he,k⟩;have J:=bz (show(rZ d).bind (λg=>if sortable g then aB (.own (kE g))else b_)=aB E from he);clear he;obtain⟨g,z,he⟩:=J
 cases d with|lst L=>
   cases z;obtain⟨p,ys,rfl,M,q⟩:=G.lst sm;subst B;obtain⟨u,rfl,N⟩:=r.one;cases N;obtain⟨f,j,pl,O⟩:=I.list M;by_cases l:sortable g=ck
   . rw[if_pos l]at he;cases he;have Z:f.length=g.length:=by rw[<-j.length,q.length]
     have m:=l;simp only[sortable,fE,kK,decide_eq_true_eq]at m;have fin:∀h' c p,(∀b o,s.heap.get? b=aB o->h'.get? b=aB o)->p.Perm (dV f.length)->pick .non p g=kE g->h'.get? (s.heap.objs.size+1)=aB (lI "list" (pick .none p f).toArray c)->EP X i σ Q (.ref (s.heap.objs.size+1)) {s with heap:=h'}:=by
      intro h' c p kp U W e;refine⟨.ref (s.heap.objs.size+1),_,I.laid (t':=s.toks) (o:=.lst (pick .non p ys)) (h':=h') kp (le_succ _) ⟨by rw[mV U,<-j.length];exact O,pick .none p f,c,yj j,e⟩,rfl,?_⟩;have w:aN X.K F (pick .non p ys) (kE g):=by rw[<-W];exact xQ q
      exact vZ sm w (I.hok.fresh (le_succ _)) k
     rcases m.2 with oi|ot
     . have n:=q;rw[all_ints oi]at n;have t:gI f (g.map fG):=intsAre_of (by rw[<-fu n];exact j);refine pG (vs:=f) (κ:=oneType') pl.isList l (by lia) (by have:=JB t;rwa[<-all_ints oi]at this) Dl (λh' kp C h y=>?_) (λh' kp u v d e hd he C h=>?_) fin;.match f,t,y with|v1::v2::A,t,_=>rw[keyKind_ints t];exact de h
       .exact Cv hd he h
     .have tt:=Bt I sm q j ot;refine pG (vs:=f) (κ:=tuples' (hX "int"!=hX "tuple")) pl.isList l (by lia) tt Ly (λh' kp C h y=>Ef (s:={s with heap:=h'}) (um kp tt) y h) (λh' kp u v d e hd he C h=>?_) fin;exact M5 (s:={s with heap:=h'}) (oY kp hd) (oY kp he) h
   .rw[if_neg l]at he;cases he|_=>cases z
theorem boot_sorted:fw "sorted"=aB (.builtin "sorted"):=by decide+kernel
theorem lR{x:Str}{b:Pos}(e:x="sorted")(f:Gl X x)(g:X.mg x=b_)(i:SX X c a pa)(hs:dy [a] X.env=(a_,fg a X.env)::dy [] X.env:=by rfl):SX X c (.Call (.Name x b) [a] [] pos) (.blt .sorted [pa]):=by subst e;exact lq (λh=>eN Gs f g boot_sorted h (he:=hs)) i (λρ=>rfl) rfl hs
end
end _H
namespace _H
open PySem _L Spec PyProof.Rows Calls
theorem Ag(l b:df)(items a:List c_)(n I:Nat)(J v:Option df)(L z:Array (Option c_))(is js:List Int)(hi:gI items is)(H:gI a js):mo (hY.«tuple.__lt__» ⟨[.ref l,.ref b],[]⟩) (λA R s=>s.heap.get? l=aB {cls:=.type "tuple",dict:=J,data:=.seq items.toArray n,slots:=L}/\s.heap.get? b=aB {cls:=.type "tuple",dict:=v,data:=.seq a.toArray I,slots:=z}/\R (.ok (.ret (.bool (aZ is js)))) s):=.of_wp λprog w A R s h=>by
  obtain⟨B,g,d,C,os⟩:=s;obtain⟨M,N,h⟩:=h;have f2:=mI;wp_walk using gb M,gb N,wpAny_forIn_list _ (λf b E=>b.1=b_/\E=⟨B,g,d,C,os⟩/\∃xs ys c j,f=xs.zip ys/\gI xs c/\gI ys j/\decide (items.length<a.length)=decide (c.length<j.length)/\R (.ok (.ret (.bool (aZ c j)))) ⟨B,g,d,C,os⟩) _;case turn=>rintro⟨y,x⟩f b E⟨i,rfl,xs,ys,c,j,o,h1,m,F,r⟩;cases h1 with|nil=>cases o|cons p t h1=>cases m with|nil=>cases o|cons q u m=>
       injection o with hyx hrest;cases hyx;refine bx (kX ?_);by_cases e:p=q;.subst e;rw[beq_self_eq_true];wp_walk;exact⟨rfl,rfl,_,_,_,_,hrest,h1,m,by rw[F];simp,by simpa[aZ]using r⟩
       . rw[beq_eq_false_iff_ne.mpr e];have G:R (.ok (.ret (.bool (decide (p<q))))) ⟨B,g,d,C,os⟩:=by simpa[aZ,e]using r
         simp only[Bool.not_false,if_true];refine bx (ke ?_);refine bx (show dL (dS prog w) A.in1 (eK .Lt (ko p t) (ko q u)) _ _ _ from wpAny_lt_int ?_);refine bx (de ?_);exact de (de ⟨_,rfl,G⟩)
  case fin=>
   rintro⟨b1,b2⟩E⟨i,rfl,xs,ys,c,j,o,h1,m,F,r⟩;simp only at i;subst i;have e:aZ c j=decide (items.length<a.length):=by rw[F];cases h1 with|nil=>cases m<;>simp[aZ]|cons _ _ _=>cases m with|nil=>simp[aZ]|cons _ _ _=>cases o
   rw[e]at r;wp_walk;exact⟨_,rfl,by simpa[tupleCompareSizes]using r⟩
  case h=>exact⟨rfl,rfl,items,a,is,js,by simp,hi,H,by rw[iq hi,iq H],h⟩
section
variable{X:Cx}
theorem jZ(hu:X.A.units+8<ia):ik X (eK .Lt) (rD X.K (p6 .lt)):=by rintro f s σ H x y v u Q I E G⟨F,d,e,r,sm,J,L,he,k⟩;obtain⟨t,c,p⟩:=map_some (show(Xa d e).map _=aB r from he);subst p;cases d with
 |int i=>cases e with|int j=>exact Um f s σ H x y v u Q I E G ⟨F,.int i,.int j,_,sm,J,L,by have p:Ky (λi j=>decide (i<j)) (.int i) (.int j)=aB t:=c;simp only[p];rfl,k⟩|_=>cases c
 |tup xs=>cases e with|tup ys=>obtain⟨hc,c⟩:=bK (show(if(xs.all dI&&ys.all dI)=ck then aB (aZ (xs.map fG) (ys.map fG))else b_)=aB t from c);rw[fE]at hc;obtain⟨a,vs,rfl,h1,M,_⟩:=J.tup sm;obtain⟨b,ws,rfl,Y,N,_⟩:=L.tup sm;cases E;cases G;obtain⟨q,O,it,_⟩:=I.tuple h1;obtain⟨g,U,z,_⟩:=I.tuple Y;rw[all_ints hc.1]at M;rw[all_ints hc.2]at N;rw[fu M]at O;rw[fu N]at U;have Z:=intsAre_of O;have i2:=intsAre_of U;obtain⟨⟨cls,dd,data,sl⟩,ho,h,n,hd⟩:=it;obtain⟨⟨W,B,data2,C⟩,l,m,n2,o⟩:=z;simp only at h hd m o;subst h hd m o;refine(show dL (dS X.prog X.w) X.A (richCompare .Lt (.ref a) (.ref b)) _ _ s from qA (op:=.Lt) ⟨_,ho,rfl⟩ ⟨_,l,rfl⟩ PySem.F.slot_tuple_lt PySem.F.entry_tuple_lt (PySem.F.args_tuple_lt_2 _ _) (Ag a b q g n n2 dd B sl C _ _ Z i2) ⟨ho,l,show jP _≠kb/\_ from⟨(λx=>nomatch x),⟨.bl t,H,I,by rw[<-c];rfl,cX.eV sm (jq _) k⟩⟩⟩ (by lia))|_=>cases c
 |_=>cases c
end
end _H
namespace _L
open PySem Spec PyProof.Rows
variable{y:V}{w:fb}{H:Hp}
section
variable{κ:Type}[DecidableEq κ]
noncomputable def mz(kvs:List (κ×V))(k:κ):Option V:=(kvs.find? λa=>decide (a.1=k)).map (·.2)
noncomputable def putK(kvs:List (κ×V))(k:κ)(v:V):List (κ×V):=if(kvs.any λa=>decide (a.1=k))=ck then kvs.map (λa=>if a.1=k then(a.1,v)else a)else kvs++[(k,v)]
theorem nD{p:κ×V}{r:List (κ×V)}{k:κ}(e:p.1=k):mz (p::r) k=aB p.2:=by simp[mz,io,e]
theorem nW{p:κ×V}{r:List (κ×V)}{k:κ}(e:¬ p.1=k):mz (p::r) k=mz r k:=by simp[mz,io,e]
theorem yc(k:κ):∀kvs:List (κ×V),(kvs.any λa=>decide (a.1=k))=(mz kvs k).isSome
 |[]=>rfl|p::r=>by
   rw[ox];by_cases e:p.1=k;.simp only[nD e,decide_eq_true e,Bool.true_or,Option.isSome_some]
   .rw[nW e,decide_eq_false e,Bool.false_or];exact yc k r
theorem pD(kvs:List (κ×V))(k:κ)(v:V):(putK kvs k v).length<=kvs.length+1:=by
 unfold putK;split;.rw[eu];lia
 .rw[hR,g_,List.length_nil];lia
theorem pP.DK{o:Option V}{u:Option c_}(r:pP o u):o.isSome=u.isSome:=by cases o with
 |none=>cases u with|none=>rfl|some _=>exact(show False from r).elim
 |some _=>cases u with|none=>exact(show False from r).elim|some _=>rfl
theorem pP.getD{o:Option V}{u:Option c_}{d:V}{d':c_}(r:pP o u)(rd:RelV d d'):RelV (o.getD d) (u.getD d'):=by cases o with
 |none=>cases u with|none=>exact rd|some _=>exact(show False from r).elim
 |some _=>cases u with|none=>exact(show False from r).elim|some _=>exact r
theorem KV.val{kvs:List (κ×V)}{vs:List (κ×c_)}(r:KV kvs vs)(k:κ):pP (mz kvs k) (mP vs k):=by unfold KV at r;induction r with|nil=>exact nq|@cons p q ps a h t f=>
   obtain⟨h1,g⟩:=h;by_cases e:p.1=k
   . have c:q.1=k:=h1.symm.trans e;have b:mP (q::a) k=aB q.2:=by simp[mP,io,c]
     rw[nD e,b];exact g
   . have c:¬ q.1=k:=λz=>e (h1.trans z);have b:mP (q::a) k=mP a k:=by simp[mP,io,c]
     rw[nW e,b];exact f
theorem KV.any{kvs:List (κ×V)}{vs:List (κ×c_)}(r:KV kvs vs)(k:κ):(kvs.any λa=>decide (a.1=k))=vs.any λa=>decide (a.1=k):=by unfold KV at r;induction r with|nil=>rfl|cons h t b=>rw[ox,ox,b,h.1]
theorem KV.repl{kvs:List (κ×V)}{vs:List (κ×c_)}(r:KV kvs vs)(k:κ){u:c_}(b:RelV y u):KV (kvs.map λa=>if a.1=k then(a.1,y)else a) (vs.map λa=>if a.1=k then(a.1,u)else a):=by unfold KV at r ⊢;induction r with|nil=>exact .nil|@cons p q ps g h t c=>
   rw[er,er];refine .cons ?_ c;obtain⟨h1,f⟩:=h;by_cases e:p.1=k;.rw[if_pos e,if_pos (h1.symm.trans e)];exact⟨h1,b⟩
   .rw[if_neg e,if_neg (λz=>e (h1.trans z))];exact⟨h1,f⟩
theorem KV.put{kvs:List (κ×V)}{vs:List (κ×c_)}(r:KV kvs vs)(k:κ){u:c_}(a:RelV y u):KV (putK kvs k y) (stored vs k u):=by
 unfold putK stored;rw[r.any k];by_cases e:(vs.any λb=>decide (b.1=k))=ck;.rw[if_pos e,if_pos e];exact r.repl k a
 .rw[if_neg e,if_neg e];exact Paired.snoc r ⟨rfl,a⟩
theorem KV.length{kvs:List (κ×V)}{vs:List (κ×c_)}(r:KV kvs vs):kvs.length=vs.length:=Paired.length r
end
theorem Br{P:d_}{k:Key}{u:c_}(r:RelV (kV k) u):(cI P w).is k u=ck:=by cases k with|inl i=>obtain⟨t,e⟩:=(show ∃t,u=ko i t from r);subst e;exact wW P w i t|inr x=>obtain⟨t,e⟩:=(show ∃t,u=Value.str x t from r);subst e;exact xM P w x t
theorem uM{P:d_}{w:fb}:∀{ks:List Key}{a:List c_},Vals (ks.map kV) a->ItemsAre (cI P w) ks a|[],_,r=>by rw[lc]at r;cases r;exact .nil|k::ks,_,r=>by rw[er]at r;cases r with|cons h t=>exact .cons (Br h) (uM t)
noncomputable abbrev KT(H:Hp):List (List Key×V)->List (List Key×df×c_)->Prop:=Paired λp q=>p.1=q.1/\H q.2.1=aB (.tup (p.1.map kV))/\RelV p.2 q.2.2
theorem KT.val{kvs:List (List Key×V)}{xs:List (List Key×df×c_)}(r:KT H kvs xs)(k:List Key):pP (mz kvs k) ((oq xs k).map (·.2)):=by induction r with|nil=>exact nq|@cons p q ps a h t f=>
   obtain⟨h1,_,g⟩:=h;by_cases e:p.1=k
   . have c:q.1=k:=h1.symm.trans e;have b:oq (q::a) k=aB q.2:=by simp[oq,io,c]
     rw[nD e,b];exact g
   . have c:¬ q.1=k:=λz=>e (h1.trans z);have b:oq (q::a) k=oq a k:=by simp[oq,io,c]
     rw[nW e,b];exact f
theorem KT.repl{kvs:List (List Key×V)}{xs:List (List Key×df×c_)}(r:KT H kvs xs)(k:List Key){u:c_}(c:RelV y u):KT H (kvs.map λa=>if a.1=k then(a.1,y)else a) (xs.map (putAt k u)):=by induction r with|nil=>exact .nil|@cons p q ps i h t f=>
   rw[er,er];refine .cons ?_ f;obtain⟨h1,b,g⟩:=h;unfold putAt;by_cases e:p.1=k;.rw[if_pos e,if_pos (h1.symm.trans e)];exact⟨h1,b,c⟩
   .rw[if_neg e,if_neg (λz=>e (h1.trans z))];exact⟨h1,b,g⟩
theorem KT.put{kvs:List (List Key×V)}{xs:List (List Key×df×c_)}(r:KT H kvs xs)(k:List Key){b:df}{u:c_}(c:H b=aB (.tup (k.map kV)))(a:RelV y u):KT H (putK kvs k y) (storedH xs k b u):=by
 have e:(kvs.any λf=>decide (f.1=k))=(oq xs k).isSome:=by rw[yc,(r.val k).DK,Option.isSome_map]
 unfold putK storedH;rw[e];by_cases q:(oq xs k).isSome=ck;.rw[if_pos q,if_pos q];exact r.repl k a
 .rw[if_neg q,if_neg q];exact Paired.snoc r ⟨rfl,c,a⟩
theorem KT.keeps{a:Hp}{kvs:List (List Key×V)}{xs:List (List Key×df×c_)}(r:KT H kvs xs)(c:∀b ys,H b=aB (.tup ys)->a b=aB (.tup ys)):KT a kvs xs:=Paired.Q0 r λ_ _ z=>⟨z.1,c _ _ z.2.1,z.2.2⟩
section
variable{P:d_}{w:fb}{H:Hp}{h:fk}{a:df}
theorem O4{u:HO}(ok:oF P w H h)(e:Rd H a u):cJ P w H h a u:=e.ok ok
theorem yp{kvs:List (Key×V)}(ok:oF P w H h)(e:Rd H a (.dK kvs)):kvs.length<=sizeLine/\(a==gN)=a_/\∃vs,KV kvs vs/\h.DictOf (cI P w) a vs:=show cJ P w H h a (.dK kvs)from O4 ok e
theorem WX{kvs:List (Key×V)}(ok:oF P w H h)(e:H a=aB (.dK kvs)):kvs.length<=sizeLine/\(a==gN)=a_/\∃vs,KV kvs vs/\h.DictOf (cI P w) a vs:=yp ok (.inl e)
theorem vP{ks:List Key}(ok:oF P w H h)(e:H a=aB (.tup (ks.map kV))):(l8 (cI P w)).is h ks a:=by obtain⟨_,b,r,o,h1,c,n,f⟩:=(show cJ P w H h a (.tup (ks.map kV))from ok a _ e);exact⟨o,b.toArray,n,h1,c,f,by simpa using uM r⟩
theorem wN{kvs:List (List Key×V)}(ok:oF P w H h)(e:Rd H a (.dT kvs)):kvs.length<=sizeLine/\(a==gN)=a_/\∃xs,KT H kvs xs/\h.DictOfH (l8 (cI P w)) a xs:=by
 obtain⟨z,y,xs,r,o,es,ep,h1,c,f,g,i⟩:=(show cJ P w H h a (.dT kvs)from O4 ok e);refine⟨z,y,xs,r,o,es,ep,h1,c,f,g,λx hx=>?_,i⟩;have all:∀{l:List (List Key×V)}{m:List (List Key×df×c_)},KT H l m->∀x∈m,(l8 (cI P w)).is h x.1 x.2.1:=by intro l m q;induction q with|nil=>intro x hx;exact nomatch hx|@cons p q ps n b t j=>
    intro x hx;rcases et.mp hx with e|hx;.subst e;exact vP ok (by rw[<-b.1];exact b.2.1)
    .exact j x hx
 exact all r x hx
theorem Xd{kvs:List (List Key×V)}(ok:oF P w H h)(e:H a=aB (.dT kvs)):kvs.length<=sizeLine/\(a==gN)=a_/\∃xs,KT H kvs xs/\h.DictOfH (l8 (cI P w)) a xs:=wN ok (.inl e)
end
noncomputable def yl(H:Hp)(a:df)(y:V)(r:Option V):Prop:=(∃kvs k,Rd H a (.dK kvs)/\y=kV k/\r=mz kvs k)\/∃kvs k b,Rd H a (.dT kvs)/\y=.ref b/\H b=aB (.tup (k.map kV))/\r=mz kvs k
noncomputable def Ww(H:Hp)(a:df)(y v:V)(c:Hp):Prop:=(∃kvs k,H a=aB (.dK kvs)/\y=kV k/\kvs.length<sizeLine/\c=upd H a (.dK (putK kvs k v)))\/∃kvs k b,H a=aB (.dT kvs)/\y=.ref b/\H b=aB (.tup (k.map kV))/\kvs.length<sizeLine/\c=upd H a (.dT (putK kvs k v))
section
variable{X:Cx}{pins:List (df×Obj)}{σ:St}{H:Hp}{s:dc}{a:df}{y v:V}{u r:c_}{o:Option V}{A:e_}{E:c_->dc->Prop}
theorem Inv.big(I:Inv X pins σ H s):gN<s.heap.objs.size:=by have h:en<s.heap.objs.size:=(I.mod.glob.keeps I.bk).lt;exact oC (by decide) h
theorem oZ{Q:c_->dc->Prop}(B:A.units+1<ia)(I:Inv X pins σ H s)(g:yl H a y (aB v))(t:RelV y u)(h:∀f x,Inv X pins σ H x->RelV v f->Q f x):dL (dS X.prog X.w) A (kD (.ref a) u) Q E s:=by
 rcases g with⟨kvs,k,e,i,l⟩|⟨kvs,k,b,e,i,C,l⟩;.subst i;obtain⟨z,hd,vs,c,j⟩:=yp I.hok e;obtain⟨f,m,n⟩:=pP.some_of (v:=v) (o:=mP vs k) (by rw[l];exact c.val k);exact wpAny_getItem_of (Br t) j.mapOf m (h f _ (I.tok _) n)
 .subst i;cases(show u=eW b from t);obtain⟨z,hd,xs,c,j⟩:=wN I.hok e;obtain⟨f,m,n⟩:=pP.some_of (v:=v) (o:=(oq xs k).map (·.2)) (by rw[l];exact c.val k);obtain⟨p,F,q⟩:=gc.mp m;refine wpAny_getItem_heap (mu B) (vP I.hok C) j F ?_;rw[q];exact h f _ (I.tok _) n
theorem Cw{h':fk}{t':Nat}{c:HO}(I:Inv X pins σ H s)(g:Xg (H a))(hs:n9 a s.heap h')(he:∃q,h'.get? a=aB q)(f:cJ X.prog X.w (upd H a c) h' a c):Inv X pins σ (upd H a c) {s with heap:=h',toks:=t'}:=I.write (x:=a) (e:=a) g (.inl rfl) (λb q h z=>(hs.2 b h).trans z) he f
theorem Ro{P:d_}{c:Hp}{h':fk}{kvs:List (Key×V)}{vs:List (Key×c_)}(z:kvs.length<=sizeLine)(hd:(a==gN)=a_)(b:KV kvs vs)(e:h'.DictOf (cI P w) a vs):cJ P w c h' a (.dK kvs):=⟨z,hd,vs,b,e⟩
theorem El{B:Hp}{Q:Unit->dc->Prop}(M:A.units+1<ia)(I:Inv X pins σ H s)(g:Ww H a y v B)(C:RelV y u)(F:RelV v r)(h:∀G,Inv X pins σ B G->Q () G):dL (dS X.prog X.w) A (mS (.ref a) u r) Q E s:=by
 rcases g with⟨kvs,k,e,m,l,n⟩|⟨kvs,k,b,e,m,J,l,n⟩
 . subst m n;obtain⟨z,hd,vs,f,p⟩:=WX I.hok e;have t:vs.length<=sizeLine:=by rw[<-f.length];exact z
   have x:(putK kvs k v).length<=sizeLine:=by have:=pD kvs k v;lia
   refine wpAny_setItem_pairs (hsz:=t) (Br C) p λh' i hs=>h _ ?_;have he:∃q,h'.get? a=aB q:=let⟨q,_,_,j,_⟩:=i;⟨q,j⟩;exact Cw I (by rw[e];exact nq) hs he (Ro x hd (f.put k F) i)
 . subst m n;cases(show u=eW b from C);obtain⟨z,hd,xs,f,p⟩:=Xd I.hok e;have t:xs.length<=sizeLine:=by rw[<-Paired.length f];exact z
   have x:(putK kvs k v).length<=sizeLine:=by have:=pD kvs k v;lia
   refine wpAny_setItem_heap (hsz:=t) (mu M) (vP I.hok J) p λh' i hs=>h _ ?_;obtain⟨q,es,ep,j,N,O,U,_,W⟩:=i;refine Cw I (by rw[e];exact nq) hs ⟨q,j⟩ ⟨x,hd,_,(f.put k J F).keeps λc ys L=>?_,q,es,ep,j,N,O,U,W⟩;rw[aL (Yu L e (λz=>nomatch z))];exact L
end
noncomputable def HX(i:ek):Prop:=∀a b,nS i a_ a b=operate [a,b] (kD a b)
theorem Dm{prog:d_}{A:e_}{E:c_->dc->Prop}{s:dc}{env:Env}{a slice:ek}{pos:Pos}{T id:String}{Q:c_->dc->Prop}(l:typeLookup (.type T) "__getitem__"=fI (aB (.builtin id)))(hs:HX slice)(h:dL (dS prog w) A (fg a env) (λo e=>dL (dS prog w) A (fg slice env) (λi b=>b.TypeIs o T/\dL (dS prog w) A (kD o i) Q E b) E e) E s):dL (dS prog w) A (fg (.Subscript a slice pos) env) Q E s:=by
 refine oy (fe h (λo e g=>fe g (λi b c=>?_) λ_ _ x=>x) λ_ _ x=>x);obtain⟨hT,c⟩:=c;unfold mi;refine bx ?_;rw[getitemInPython_of_ne hT.not_modules];refine bx (wpAny_specialOf hT l ?_);have fin:dL (dS prog w) A (nS slice a_ o i) (λr f=>dL (dS prog w) A (letTemporaryGo a o r>>=λ_=>fI r) Q E f) E b:=by rw[hs o i];exact wpAny_operating (fe c (λr f j=>bx (wpAny_letTemporaryGo (de j))) λ_ _ x=>x)
 first|exact de (bx fin)|exact bx (de (bx fin))|exact bx fin
theorem j5{X:Cx}{c:List (df×Obj)}{σ:St}{s:dc}{a:df}{o:Option V}(I:Inv X c σ H s)(g:yl H a y o):s.TypeIs (.ref a) "dict":=by
 rcases g with⟨kvs,k,e,_,_⟩|⟨kvs,k,b,e,_,_,_⟩;.obtain⟨_,_,vs,_,f⟩:=yp I.hok e;exact f.typeIs
 .obtain⟨_,_,xs,_,f⟩:=wN I.hok e;exact f.typeIs
noncomputable def Wu(c ty:TE):TE:=λσ H Q=>c σ H λx e=>ty σ e λy b=>∃a v,x=.ref a/\yl b a y (aB v)/\Q v b
noncomputable def W4(c ty e:TE):TS:=λD σ H=>e σ H λv f=>c σ f λx g=>ty σ g λy h=>∃a b,x=.ref a/\Ww h a y v b/\D.nx σ b
section
variable{X:Cx}{o i e value:ek}{pos pos' tpos:Pos}{td ty tv:TE}
theorem CQ(c:X.A.units+1<ia)(ho:PE X o td)(hi:PE X i ty)(hs:HX i):PE X (.Subscript o i pos) (Wu td ty):=by intro b s σ H Q I h;refine Dm PySem.F.slot_dict_getitem.lookup hs (dC (ho b s σ H _ I h) λu s1⟨x,H1,I1,rx,q1⟩=>dC (hi b s1 σ H1 _ I1 q1) λl s2⟨y,H2,I2,ry,a,v,ex,g,q2⟩=>?_);subst ex;obtain rfl:u=eW a:=rx;exact⟨j5 I2 g,oZ c I2 g ry λm s3 f j=>⟨v,H2,f,j,q2⟩⟩
theorem BX(c:X.A.units+1<ia)(ho:PE X o td)(hi:PE X i ty)(hv:PE X value tv)(hs:iL value (aB (.Subscript o i pos')) pos.line X.env=fI a_):PS X (.Assign [.Subscript o i pos'] value pos) (W4 td ty tv):=by intro b s σ H D I h;refine wpAny_Assign_Subscript (dC (hv b s σ H _ I h) λr s1⟨v,H1,I1,rv,q1⟩=>dC (ho b s1 σ H1 _ I1 q1) λu s2⟨x,H2,I2,rx,q2⟩=>dC (hi b s2 σ H2 _ I2 q2) λj s3⟨y,H3,I3,ry,a,H4,ex,g,q3⟩=>?_) hs;subst ex;obtain rfl:u=eW a:=rx;exact El c I3 g ry rv λs4 f=>⟨σ,H4,f,q3⟩
end
theorem G5{P:d_}(h:fk)(a:gN<h.objs.size):cJ P w H (h.push {cls:=.type "dict",data:=.dict #[]}) h.objs.size (.dK []):=⟨wI,beq_eq_false_iff_ne.mpr (iE (eH a)),[],.nil,Heap.DictOf.new h⟩
theorem JQ{P:d_}(h:fk)(a:gN<h.objs.size):cJ P w H (h.push {cls:=.type "dict",data:=.dict #[]}) h.objs.size (.dT []):=⟨wI,beq_eq_false_iff_ne.mpr (iE (eH a)),[],.nil,_,#[],0,dE _ rfl,⟨rfl,rfl,rfl⟩,rfl,rfl,List.nodup_nil⟩
noncomputable def RT:TE:=λ_ H Q=>∀p,H p=b_->Q (.ref p) (upd H p (.dK []))
noncomputable def Ud:TE:=λ_ H Q=>∀p,H p=b_->Q (.ref p) (upd H p (.dT []))
section
variable{X:Cx}{pos:Pos}
theorem Hm:PE X (.Dict [] [] pos) RT:=λb s σ H Q I h=>wpAny_Dict_empty ⟨.ref s.heap.objs.size,_,I.laid (a:=s.heap.objs.size) (o:=.dK []) (t':=s.toks) (λ_ _ q=>fK q) (dW) (G5 s.heap I.big),rfl,h _ (I.hok.fresh (dW))⟩
theorem Ia:PE X (.Dict [] [] pos) Ud:=λb s σ H Q I h=>wpAny_Dict_empty ⟨.ref s.heap.objs.size,_,I.laid (a:=s.heap.objs.size) (o:=.dT []) (t':=s.toks) (λ_ _ q=>fK q) (dW) (JQ s.heap I.big),rfl,h _ (I.hok.fresh (dW))⟩
end
structure M2(X:Cx)(o:ek)(m:Str)(apos:Pos)(e f:ek)(cpos:Pos):Prop where
 base:p4 o m X.env (fg o X.env)=fg o X.env
 few:((ka cpos (dy [e,f] X.env)).all (λx=>!x.1)&&(backToKw cpos (rk [] X.env)).all (λx=>x.1.isSome)&&decide (([e,f]:List ek).length+([]:List n_).length+(if([]:List n_).isEmpty then 0 else 1)<30))=ck
 line:(apos.endLine==cpos.line)=ck
 trees:ka cpos (dy [e,f] X.env)=[(a_,fg e X.env),(a_,fg f X.env)]
noncomputable def IsD(H:Hp)(a:df):Prop:=(∃kvs,Rd H a (.dK kvs))\/∃kvs,Rd H a (.dT kvs)
theorem TX{X:Cx}{f:List (df×Obj)}{σ:St}{s:dc}{a:df}(I:Inv X f σ H s)(d:IsD H a):s.TypeIs (.ref a) "dict"/\(∀b,eW a=.ref b->∃c,s.heap.get? b=aB c/\c.dict=b_)/\(a==gN)=a_:=by
 rcases d with⟨kvs,e⟩|⟨kvs,e⟩;.obtain⟨_,hd,vs,_,g⟩:=yp I.hok e;refine⟨g.typeIs,λb q=>?_,hd⟩;cases q;obtain⟨c,_,_,h1,h,_⟩:=g;exact⟨c,h1,h.2.1⟩
 .obtain⟨_,hd,xs,_,g⟩:=wN I.hok e;refine⟨g.typeIs,λb q=>?_,hd⟩;cases q;obtain⟨c,_,_,h1,h,_⟩:=g;exact⟨c,h1,h.2.1⟩
section
variable{X:Cx}{pins:List (df×Obj)}{σ:St}{H:Hp}{s:dc}{a:df}{y d:V}{u r:c_}{o:Option V}{A:e_}{E:c_->dc->Prop}
theorem R1{Q:c_->dc->Prop}(p:A.units+1<ia)(I:Inv X pins σ H s)(g:yl H a y o)(j:RelV y u)(rd:RelV d r)(h:∀m n,Inv X pins σ H n->RelV (o.getD d) m->Q m n):dL (dS X.prog X.w) A (call (.builtin "dict.get") [.ref a,u,r]) Q E s:=by
 rcases g with⟨kvs,k,e,i,l⟩|⟨kvs,k,b,e,i,q,l⟩;.subst i;obtain⟨z,hd,vs,c,f⟩:=yp I.hok e;refine call_meetsIn slot_dict_get f.typeIs PySem.F.entry_dict_get (PySem.F.args_dict_get_3 _ _ _) (meets_dict_get_default (cI X.prog X.w) a (Br j) hd r) ⟨_,f.mapOf,h _ _ (I.tok _) ?_⟩;rw[l];exact(c.val k).getD rd
 .subst i;cases(show u=eW b from j);obtain⟨z,hd,xs,c,f⟩:=wN I.hok e;refine call_meetsIn slot_dict_get f.typeIs PySem.F.entry_dict_get (PySem.F.args_dict_get_3 _ _ _) (meetsH_dict_get_default (l8 (cI X.prog X.w)) a b hd r) ⟨mu p,k,xs,vP I.hok q,f,h _ _ (I.tok _) ?_⟩;rw[l];exact(c.val k).getD rd
end
noncomputable def Q5(e ty f:TE):TE:=λσ H Q=>e σ H λx b=>∃a,x=.ref a/\IsD b a/\ty σ b λy g=>f σ g λz c=>∃o,yl c a y o/\Q (o.getD z) c
section
variable{X:Cx}{o e f:ek}{apos cpos:Pos}{td ty tx:TE}
theorem wQ(c:X.A.units+1<ia)(ho:PE X o td)(he:PE X e ty)(i:PE X f tx)(m:M2 X o "get" apos e f cpos):PE X (.Call (.Attribute o "get" apos) [e,f] [] cpos) (Q5 td ty tx):=by intro b s σ H Q I h;refine wpAny_Call_method m.base m.few m.line PySem.F.plainAttrs_dict slot_dict_get PySem.F.type_dict_get (dC (ho b s σ H _ I h) λu s1⟨x,H1,I1,rx,a,ex,d,q1⟩=>?_);subst ex;obtain rfl:u=eW a:=rx;obtain⟨t1,j,_⟩:=TX I1 d;refine⟨t1,j,?_⟩;rw[m.trees];refine n5 rfl (oQ (lm (dC (he b s1 σ H1 _ I1 q1) λp s2⟨y,H2,I2,ry,q2⟩=>lm (dC (i b s2 σ H2 _ I2 q2) λq s3⟨z,H3,I3,rz,ov,g,q3⟩=>Calls.spliced_nil ?_))));exact R1 c I3 g ry rz λr s4 l n=>⟨_,H3,l,n,q3⟩
end
end _L
namespace _H
open PySem _L Spec PyProof.Rows
variable{i:Nat}
inductive KR(K:PySem.W.Frag)(F:Hp):List (Int×D)->List (Key×V)->Prop where|nil:KR K F [] []|cons{k:Int}{d:D}{v:V}{kvs:List (Int×D)}{es:List (Key×V)}(h:Rep K F v d)(t:KR K F kvs es):KR K F ((k,d)::kvs) ((eL k,v)::es)
section
variable{K:PySem.W.Frag}{F F':Hp}
noncomputable def ent(ks:List Int)(vs:List V):List (Key×V):=(ks.zip vs).map λp=>(eL p.1,p.2)
theorem KR.get{kvs:List (Int×D)}{es:List (Key×V)}{k:Int}{d:D}(h:KR K F kvs es)(e:Nu kvs k=aB d):∃v,mz es (eL k:Key)=aB v/\Rep K F v d:=by induction h with|nil=>cases e|@cons j d' v kvs es h t a=>
   unfold Nu at e a;rw[io]at e;by_cases c:j=k;.simp[c]at e;subst e;exact⟨v,nD (by rw[c]),h⟩
   .simp[c]at e;obtain⟨b,h1,f⟩:=a (by simpa using e);exact⟨b,by rw[nW (by simpa using c)];exact h1,f⟩
theorem KR.zip{ks:List Int}{a:List D}{vs:List V}(h:aN K F vs a)(b:ks.length=a.length):KR K F (ks.zip a) (ent ks vs):=by induction a generalizing ks vs with
 |nil=>rw[h.il];cases ks with|nil=>exact .nil|cons _ _=>simp at b
 |cons d a c=>obtain⟨v,r,rfl,h1,e⟩:=h.dh;cases ks with|nil=>simp at b|cons k ks=>exact .cons h1 (c e (by simpa using b))
end
section
variable{K:PySem.W.Frag}{F F1 H H1:Hp}{ρ ρ1 ρ2:List Sl}{σ σ1:_L.St}
theorem GS.Xj{x:Nat}{m r:Dc}{a:df}(g:GS K F ρ σ H)(e:ρ[x]?=aB (.dq m))(s:σ[x]?=aB (aB (.ref a))):bW K F ρ σ H F (ρ.set x (.dq r)) σ (upd H a r.ho):=by
 have hi:x<ρ.length:=(fZ e).1;have w:bN ρ σ x a:=⟨⟨_,_,e,rfl⟩,s⟩;obtain⟨I,J,h1,L,y,M⟩:=g.own x _ _ e rfl;rw[s]at h1;cases h1;have f:∀{j:Nat}{c:df},bN (ρ.set x (.dq r)) σ j c->bN ρ σ j c:=λ{j c}⟨⟨t,h,p,u⟩,q3⟩=>by
  by_cases b:j=x;.subst b;exact⟨⟨_,_,e,rfl⟩,q3⟩
  .rw[iZ b]at p;exact⟨⟨t,h,p,u⟩,q3⟩
 refine⟨⟨λc o q=>?_,by simp[g.len],λj z d q=>?_,λj t h q v=>?_,λj k c p u=>g.dis j k c (f p) (f u)⟩,.refl _,λc n A=>absurd n A,λc o q n=>?_,λc⟨j,q⟩=>.inl ⟨j,f q⟩,by simp,λj t q l=>⟨rfl,?_⟩⟩
 . have:c≠a:=by rintro rfl;rw[y]at q;cases q
   rw[aL this];exact g.sub c o q
 . by_cases b:j=x;.subst b;rw[dr hi]at q;cases q
   .rw[iZ b]at q;exact g.val j z d q
 . by_cases b:j=x;.subst b;rw[dr hi]at q;cases q;cases v;exact⟨a,_,s,aW,y,rfl⟩
   . rw[iZ b]at q;obtain⟨c,B,w1,C,E,G⟩:=g.own j t h q v;have:c≠a:=by rintro rfl;exact b (g.dis j x c ⟨⟨t,h,q,v⟩,w1⟩ w)
     exact⟨c,B,w1,by rw[aL this];exact C,E,G⟩
 . have:c≠a:=by rintro rfl;exact n ⟨x,w⟩
   rw[aL this];exact q
 . by_cases b:j=x;.subst b;rw[e]at q;cases q;cases l
   .exact⟨t,by rw[iZ b];exact q,.refl t⟩
theorem GS.newD{m:Dc}{a:df}(g:GS K F ρ σ H)(e:ρ[i]?=aB .aM)(s:H a=b_):bW K F ρ σ H F (ρ.set i (.dq m)) (σ.set i (aB (.ref a))) (upd H a m.ho):=by
 have hi:i<ρ.length:=(fZ e).1;have u:i<σ.length:=by rw[<-g.len];exact hi
 have x:F a=b_:=by cases q:F a with|none=>rfl|some o=>rw[g.sub a o q]at s;cases s
 have f:∀{j:Nat}{c:df},j≠i->bN (ρ.set i (.dq m)) (σ.set i (aB (.ref a))) j c->bN ρ σ j c:=λ{j c}b⟨⟨t,ds,e1,e2⟩,e3⟩=>by rw[iZ b]at e1 e3;exact⟨⟨t,ds,e1,e2⟩,e3⟩
 have h:∀{c:df},bN (ρ.set i (.dq m)) (σ.set i (aB (.ref a))) i c->c=a:=λ{c}⟨_,e3⟩=>by rw[dr u]at e3;cases e3;rfl
 have y:∀{j:Nat},¬ bN ρ σ j a:=λ{j}⟨⟨t,ds,e1,e2⟩,e3⟩=>by obtain⟨c,o,p,r,_⟩:=g.own j t ds e1 e2;rw[e3]at p;cases p;rw[s]at r;cases r
 refine⟨⟨λc o q=>?_,by simp[g.len],λj A d q=>?_,λj t B q z=>?_,λj k c p r=>?_⟩,.refl _,λc n C=>absurd n C,λc o q n=>?_,λc⟨j,q⟩=>?_,by simp,λj t q l=>?_⟩
 . have:c≠a:=by rintro rfl;rw[x]at q;cases q
   rw[aL this];exact g.sub c o q
 . by_cases b:j=i;.subst b;rw[dr hi]at q;cases q
   .rw[iZ b]at q ⊢;exact g.val j A d q
 . by_cases b:j=i;.subst b;rw[dr hi]at q;cases q;cases z;exact⟨a,_,dr u,aW,x,rfl⟩
   . rw[iZ b]at q ⊢;obtain⟨c,o,w1,w,E,G⟩:=g.own j t B q z;have:c≠a:=by rintro rfl;rw[s]at w;cases w
     exact⟨c,o,w1,by rw[aL this];exact w,E,G⟩
 . by_cases b:j=i
   . by_cases v:k=i;.rw[b,v]
     .subst b;rw[h p]at r;exact absurd (f v r) y
   . by_cases v:k=i;.subst v;rw[h r]at p;exact absurd (f b p) y
     .exact g.dis j k c (f b p) (f v r)
 . have:c≠a:=by rintro rfl;rw[s]at q;cases q
   rw[aL this];exact q
 . by_cases b:j=i;.subst b;rw[h q];exact .inr s
   .exact .inl ⟨j,f b q⟩
 . have b:j≠i:=by rintro rfl;rw[e]at q;cases q;cases l
   exact⟨by rw[iZ b],t,by rw[iZ b];exact q,.refl t⟩
end
noncomputable def xm(p:Int×Int):Key×V:=(eL p.1,V.int p.2)
theorem Hg(i:Int):∀kvs:List (Int×Int),mz (kvs.map xm) (eL i:Key)=((kvs.find? λb=>decide (b.1=i)).map (·.2)).map V.int
 |[]=>rfl|p::kvs=>by
   have a:=Hg i kvs;unfold mz at a ⊢;rw[er,io,io];by_cases h:p.1=i
   . have e:decide ((xm p).1=(eL i:Key))=ck:=by simp[xm,h]
     rw[e];simp[h,xm]
   . have e:decide ((xm p).1=(eL i:Key))=a_:=by simp[xm,h]
     rw[e];simp only[h,decide_false];exact a
theorem Tf(i v:Int)(kvs:List (Int×Int)):putK (kvs.map xm) (eL i:Key) (V.int v)=(putD kvs i v).map xm:=by
 have e:((kvs.map xm).any λa=>decide (a.1=(eL i:Key)))=kvs.any λa=>decide (a.1=i):=by rw[List.any_map];congr 1;funext p;simp[xm]
 unfold putK putD;rw[e];split
 . rw[eA,eA];refine ga λp _=>?_;by_cases h:p.1=i;.simp[xm,h]
   .simp[xm,h]
 .rw[kg];rfl
section
variable{X:Cx}{c:Call}{n:Nat}{a b e:ek}{pa pb p:P}{pos:Pos}
theorem G4{H:Hp}{q:df}{m:Dc}{i:Int}{o:Option Int}(h:Rd H q m.ho)(e:m.get (.int i)=aB o):yl H q (.int i) (o.map V.int):=by cases m with|k kvs=>cases e;exact .inl ⟨kvs.map xm,eL i,h,rfl,(Hg i kvs).symm⟩|t kvs=>cases e
theorem CJ(hu:X.A.units+8<ia)(M:SX X c a pa)(N:SX X c b pb)(hs:HX b):SX X c (.Subscript a b pos) (.bin .Kd pa pb):=by refine uV (f:=uw) (λh1 O=>?_) M N (λρ=>rfl) rfl;intro l s σ H Q I h;refine Dm PySem.F.slot_dict_getitem.lookup hs (dC (h1 l s σ H _ I h) λu s1⟨x,H1,I1,rx,q1⟩=>dC (O l s1 σ H1 _ I1 q1) λiv s2⟨y,H2,I2,ry,q2⟩=>?_);obtain⟨F,d,e,r,sm,G,J,he,k⟩:=q2;cases d with
 |cZ m=>have U:=bz (show(m.get e).bind (λo=>o.map λv=>R.val (.int v))=aB r from he);clear he;obtain⟨o,w,he⟩:=U;cases o with|none=>cases he|some v=>
     cases he;obtain⟨i,rfl⟩:∃i,e=.int i:=by cases m with|t kvs=>cases e<;>cases w|k kvs=>cases e<;>first|exact⟨_,rfl⟩|cases w
     obtain⟨q,z,rfl,B⟩:=G.cZ sm;rw[J.int]at ry;obtain rfl:u=eW q:=rx;have g:=G4 (.inr ⟨z,B⟩) w;exact⟨j5 I2 g,oZ (by lia) I2 g ry λW s3 C E=>⟨.int v,H2,C,E,cX.eV sm (bM _) k⟩⟩
 |dv ks Y=>cases e with|int j=>obtain⟨d',Z,he⟩:=map_some (show(Nu (ks.zip Y) j).map R.val=aB r from he);subst he;obtain⟨q,z,vs,rfl,B,rs,hl⟩:=G.dv sm;obtain⟨L,g1,g2⟩:=(KR.zip rs hl).get Z;rw[J.int]at ry;obtain rfl:u=eW q:=rx;have g:yl H2 q (.int j) (aB L):=.inl ⟨_,eL j,.inr ⟨z,B⟩,rfl,g1.symm⟩;exact⟨j5 I2 g,oZ (by lia) I2 g ry λW s3 C E=>⟨L,H2,C,E,cX.eV sm g2 k⟩⟩|_=>cases he
 |_=>cases he
theorem Lh{x:Str}{f h:Pos}(j:X.N.Nodup)(hi:X.N[i]?=aB x)(l:Loc X.env.scope x)(hs:iL (.Dict [] [] h) (aB (.Name x f)) pos.line X.env=fI a_:=by rfl)(o:X.fn x=ck\/X.env.scope.names.lookup x=aB .local:=by first|(left;rfl)|(right;rfl)|assumption):SS X c n (.Assign [.Name x f] (.Dict [] [] h) pos) (.tu i a_):=by
 refine fY (yW j hi l Hm hs o) ?_;rintro D σ H⟨F,ρ,t,r,g,e,k⟩;rw[_H.X15]at e;split at e;.rename_i q;cases e;exact λa s=>k F _ _ (g.newD (m:=.k []) q s)
 .cases e
theorem JC{x:Str}{C f l:Pos}{pk E:P}(hu:X.A.units+8<ia)(W:X.N[i]?=aB x)(hv:u0 X.env.scope x)(Y:SX X c a pk)(Z:SX X c b E)(m:M2 X (.Name x C) "get" f a b l)(hd:(x==("__debug__":Str))=a_:=by decide)(u:(x==("__classdict__":Str))=a_:=by decide):SX X c (.Call (.Attribute (.Name x C) "get" f) [a,b] [] l) (.Uz i pk E):=by
 obtain⟨ta,h1,h2⟩:=Y.bU;obtain⟨tb,h3,h4⟩:=Z.bU;refine⟨gR (wQ (by lia) (fc W hv hd u) h1 h3 m) ?_,λi h=>by cases h⟩;rintro σ H Q⟨F,ρ,r,ab,g,e,k⟩;rw[_H.E23]at e;split at e
 . rename_i m0 q;obtain⟨y,ac,e1,G⟩:=aj e;clear e;obtain⟨dd,ae,e2,s⟩:=aj G;clear G;obtain⟨I,o0,w1,J,w3,w4⟩:=g.own i _ _ q rfl;refine⟨.ref I,w1,I,rfl,?_,?_⟩;.cases(show o0=m0.ho from w4);cases m0 with|k kvs=>exact .inl ⟨_,.inl J⟩|t kvs=>exact .inr ⟨_,.inl J⟩
   . refine h2 g e1 λv F1 H1 s1 pv=>h4 s1.gs e2 λz L H2 s2 M=>?_;split at s
     . rename_i m1 q1;obtain⟨O,e3⟩:=aH s;clear s;subst e3;obtain⟨o,B,eD⟩:=bz O;clear O;obtain⟨w,e5,e6⟩:=map_some eD;subst e6;obtain⟨a1,o1,U,y2,y3,y4⟩:=s2.gs.own i _ _ q1 rfl;rw[w1]at U;cases U;cases(show o1=m1.ho from y4);obtain⟨j,rfl⟩:∃j,y=.int j:=by cases m1 with|t kvs=>cases y<;>cases B|k kvs=>cases y<;>first|exact⟨_,rfl⟩|cases B
       rw[bw e5]at M;rw[pv.int,M.int];refine⟨o.map V.int,G4 (.inl y2) B,?_⟩;have:(o.map V.int).getD (V.int w)=V.int (o.getD w):=by cases o<;>rfl
       rw[this];exact k _ L H2 (s1.trans s2) (show Rep X.K L _ _ from bM _)
     .cases s
 .cases e
theorem Cr{x:Str}{B f:Pos}{pk:P}(hu:X.A.units+8<ia)(I:X.N[i]?=aB x)(hv:u0 X.env.scope x)(J:SX X c a pk)(he:SX X c e p)(hs:iL e (aB (.Subscript (.Name x B) a f)) pos.line X.env=fI a_:=by rfl)(hd:(x==("__debug__":Str))=a_:=by decide)(s:(x==("__classdict__":Str))=a_:=by decide):SS X c n (.Assign [.Subscript (.Name x B) a f] e pos) (.dput i pk p):=by
 obtain⟨ta,h1,L⟩:=J.bU;refine fY (BX (by lia) (fc I hv hd s) h1 he.ev hs) ?_;rintro D σ H⟨F,ρ,fl,M,g,e,k⟩;rw[_H.X16]at e;obtain⟨r,u,O,o⟩:=aj e;clear e;refine⟨F,ρ,r,u,g,O,λv F1 H1 s1 Q=>?_⟩;split at o
 . rename_i m0 U;obtain⟨C,W,Y,h⟩:=aj o;clear o;obtain⟨z,o0,w1,w2,w3,w4⟩:=s1.gs.own i _ _ U rfl;refine⟨.ref z,w1,L s1.gs Y λy Z H2 s2 py=>?_⟩;split at h
   . rename_i m w q;split at h;.rename_i E l;cases h;obtain⟨a1,o1,G,y2,y3,y4⟩:=s2.gs.own i _ _ q rfl;rw[w1]at G;cases G;cases(show o1=m.ho from y4);cases(show v=.int w by have:Rep X.K F1 v (.int w):=Q;rwa[Rep]at this);refine⟨z,upd H2 z E.ho,rfl,?_,k Z σ _ ((s1.trans s2).trans (s2.gs.Xj q w1))⟩;cases m with|t kvs=>cases C<;>cases l|k kvs=>cases C with|int j=>obtain⟨hl,l⟩:=bK (show(if kvs.length<lim then aB (Dc.k (putD kvs j w))else b_)=aB E from l);subst l;rw[py.int];refine .inl ⟨kvs.map xm,eL j,y2,rfl,by rw[eu,gE];exact hl,?_⟩;rw[Tf];rfl|_=>cases l
     .cases h
   .cases h
 .cases o
end
end _H
namespace _L
open PySem Spec PyProof.Rows
noncomputable def Itk(a:df)(b:Obj)(kvs:List (Key×V)):It:=⟨λi H=>H a=aB (.fO b (.dK kvs))/\i<kvs.length,λi H x c=>c=H/\∃p,kvs[i]?=aB p/\x=kV p.1,λi H=>H a=aB (.fO b (.dK kvs))/\kvs.length<=i⟩
theorem KV.get:∀{κ:Type}{kvs:List (κ×V)}{vs:List (κ×c_)}{i:Nat}{p:κ×V},KV kvs vs->kvs[i]?=aB p->∃v,vs[i]?=aB (p.1,v)|_,_,_,_,_,.nil,e=>by simp at e|_,_,_,0,_,.cons r _,e=>by simp at e;subst e;exact⟨_,by rw[List.getElem?_cons_zero,r.1]⟩|_,_,_,i+1,p,.cons _ t,e=>by obtain⟨v,h⟩:=KV.get (i:=i) (p:=p) t (by simpa using e);exact⟨v,by simpa using h⟩
theorem uA{X:Cx}{b:List (df×Obj)}{σ:St}{H:Hp}{s:dc}{a:df}{c:Obj}{kvs:List (Key×V)}{es:Array k5}{ep:Nat}(I:Inv X b σ H s)(h:H a=aB (.fO c (.dK kvs)))(hd:c.data=.dict es ep):(a==gN)=a_/\∃vs,KV kvs vs/\s.heap.DictAt (cI X.prog X.w) a vs ep:=by obtain⟨ho,n,f,vs,r,g⟩:=(show cJ X.prog X.w H s.heap a (.fO c (.dK kvs))from I.hok a _ h);obtain⟨o,i,j,h1,l,e,m⟩:=g;rw[ho]at h1;cases h1;rw[hd]at e;cases e;exact⟨f,vs,r,⟨c,es,ho,l,hd,m⟩⟩
theorem Q8{P:d_}{w:fb}{k:Key}{u:c_}(h:(cI P w).is k u=ck):RelV (kV k) u:=by
 rcases cF h with⟨i,t,rfl,rfl⟩|⟨x,t,rfl,rfl⟩;.exact⟨t,rfl⟩
 .exact⟨t,rfl⟩
theorem DW{P:d_}{w:fb}{K:PySem.W.Frag}{C:ek}(a it:df)(B:Obj)(kvs:List (Key×V))(es:Array k5)(ep:Nat)(hd:B.data=.dict es ep):Turn P w K C (Itk a B kvs) [it] it (λi h=>h.IsKeyIter it a i kvs.length ep)where
 mem:=by simp
 obj:=λi h st b g=>by
  have e:b=it:=by simpa using g
  subst e;obtain⟨o,e,c,d⟩:=st;exact⟨o,e,λv z=>by rw[d]at z;cases z⟩
 keep:=λi h h' st k=>st.at λo e=>k it (by simp) o e;item:=by intro X n p q hc i f s σ H E I m st t;subst n p q;obtain⟨x,hi⟩:=t;obtain⟨F,vs,r,y⟩:=uA I x hd;have l:vs.length=kvs.length:=(Paired.length r).symm;obtain⟨v,G⟩:=KV.get r (show kvs[i]?=aB kvs[i]by simp[hi]);obtain⟨f0,f1,f2,f3,f4,f5⟩:=m it (by simp);refine wpAny_pyNext_dict_item (by rw[l];exact st) y G λu h' J j L=>?_;have M:Inv X f σ H {s with heap:=h'}:=I.turned (t':=s.toks) (λb o g e=>(L.2 b g).trans e) f0 f1 f3 f4 f5;rw[l]at j;obtain⟨o,e,c,d⟩:=id j;exact⟨u,rfl,CW (s:={s with heap:=h'}) e c d (by decide) ⟨_,H,M,Q8 J,⟨rfl,_,by simp[hi],rfl⟩,j,λb g=>(m b g).1⟩⟩
 done:=by intro X n p q hc i f s σ H E I m st t;subst n p q;obtain⟨x,hi⟩:=t;obtain⟨F,vs,r,y⟩:=uA I x hd;have l:vs.length=kvs.length:=(Paired.length r).symm;obtain⟨f0,f1,f2,f3,f4,f5⟩:=m it (by simp);refine wpAny_pyNext_dict_end (I.ok.hd hc) (by rw[l];exact st) y (by simp[l,hi]) λh' he=>⟨rfl,?_⟩;exact I.turned (t':=s.toks) (λb o g e=>he b o g e) f0 f1 f3 f4 f5
 self:=λA i s Q E st N=>q_ st N
section
variable{X:Cx}{tg:ek}
theorem Lz{l:ek}{tl:TE}(n:PE X l tl):PI X tg l (λσ H R=>tl σ H λx f=>∃a c kvs,x=.ref a/\f a=aB (.fO c (.dK kvs))/\R (Itk a c kvs) f):=by
 intro g s σ H R I h;refine dC (n g s σ H _ I h) ?_;rintro v s1⟨x,f,j,r1,a,c,kvs,e,p,q⟩;subst e;cases r1;obtain⟨ho,B,t,vs,r,u⟩:=(show cJ X.prog X.w f s1.heap a (.fO c (.dK kvs))from j.hok a _ p);obtain⟨o,es,ep,h1,y,m,z⟩:=id u;rw[ho]at h1;cases h1;have i:vs.length=kvs.length:=(Paired.length r).symm;refine wpAny_pyIter_dict (knd:=cI X.prog X.w) (kvs:=vs) (ep:=ep) t ⟨c,es,ho,y,m,z⟩ ?_;refine⟨s1.heap.objs.size,[s1.heap.objs.size],_,_,f,rfl,j.kept (t':=s1.toks) λb o e=>fK e,DW a _ c kvs es ep m,⟨_,dE _ rfl,rfl,by rw[i];rfl⟩,λb A=>?_,q⟩;have e:b=s1.heap.objs.size:=by simpa using A
 subst e;exact j.zm (dW) (j.hok.fresh (dW))
end
end _L
namespace _H
open PySem _L Spec PyProof.Rows
section
variable{X:Cx}{c:Call}{tg e:ek}{p:P}
theorem Mi{ks:List Int}{es:List (Key×V)}{j:Nat}{p:Key×V}{i:Int}(h:es.map (·.1)=ks.map (eL:Int->Key))(a:es[j]?=aB p)(b:ks[j]?=aB i):p.1=eL i:=by
 have:(es.map (·.1))[j]?=(ks.map (eL:Int->Key))[j]?:=by rw[h]
 rw[ey,ey,a,b]at this;exact fJ this
theorem xn:∀{ks:List Int}{vs:List V},ks.length=vs.length->(ent ks vs).map (·.1)=ks.map (eL:Int->Key)|[],[],_=>rfl|k::ks,v::vs,h=>by have:=xn (ks:=ks) (vs:=vs) (by simpa using h);unfold ent at this ⊢;simpa using this|[],_::_,h=>by simp at h|_::_,[],h=>by simp at h
theorem My(h:SX X c e p):SI X c tg e (.blt .keys [p]):=by
 unfold SI;obtain⟨ta,h1,Y⟩:=h.bU;refine mX (Lz h1) ?_;rintro σ H R⟨F,ρ,A,B,g,Z,k⟩;obtain⟨r,o,I,eC⟩:=aj (show((_H.ev c (.blt .keys [p]) ρ).bind λr ρ=>lift (items r.d) ρ)=.ok A B from Z);obtain⟨J,e3⟩:=aH eC;subst e3;rw[_H.E16]at I;obtain⟨d,ab,e1,eE⟩:=aj I;obtain⟨y,e4⟩:=aH eE;subst e4;refine Y g e1 λv F' L s M=>?_;have hd:∃(ks:List Int)(es:List (Key×V))(a:df)(b:Obj),A=ks.map D.int/\v=.ref a/\L a=aB (.fO b (.dK es))/\es.map (·.1)=ks.map (eL:Int->Key):=by cases d with
  |cZ m=>cases m with|k kvs=>cases y;cases J;obtain⟨a,b,rfl,f⟩:=M.cZ s.gs.sub;exact⟨kvs.map (·.1),kvs.map xm,a,b,by rw[eA];rfl,rfl,f,by rw[eA,eA];rfl⟩|t kvs=>cases y
  |dv ks ac=>cases y;cases J;obtain⟨a,b,vs,rfl,f,rs,hl⟩:=M.dv s.gs.sub;exact⟨ks,ent ks vs,a,b,rfl,rfl,f,xn (by rw[rs.length];exact hl)⟩|_=>cases y
 obtain⟨ks,es,a,b,rfl,rfl,f,u⟩:=hd;have C:es.length=ks.length:=by have:=congrArg pf u;simpa using this
 refine⟨a,b,es,rfl,f,k _ F' L ⟨s.gs,λn j N o E H2 s2=>?_,λN o E H2 s2=>⟨s.trans s2,λv r rr=>rr.later s⟩⟩⟩;have gm:=s.gs.more (n:=n) (τ:=dA n b_) (by simp);have w:=s2.keep a _ f λ⟨j,⟨t,O,q1,q2⟩,q3⟩=>by obtain⟨a',o',Q,U,z3,G⟩:=gm.own j t O q1 q2;rw[q3]at Q;cases Q;rw[f]at U;cases U;cases O with|l A=>obtain⟨xs,z,_⟩:=G;cases z|d m=>cases m<;>cases G|v kvs=>obtain⟨xs,z,_⟩:=G;cases z
 refine⟨λd hd=>?_,λW=>⟨w,by rw[C];simpa using W⟩⟩;have W:j<ks.length:=by have:=(fZ hd).1;simpa using this
 refine⟨⟨w,by lia⟩,λx lU⟨e5,q,e6,e7⟩=>?_⟩;subst e5;refine⟨N,.refl s2.gs.sub,?_⟩;rw[ey]at hd;obtain⟨i,e8,e9⟩:=map_some hd;rw[e7,Mi u e6 e8,<-e9];exact bM _
end
end _H
namespace _H
open PySem _L Spec PyProof.Rows Calls W
section
variable{prog:d_}{w:fb}{A:e_}{E:c_->dc->Prop}{s:dc}
theorem v9{κ:Type}[DecidableEq κ]{knd:PySem.KeyKind prog w κ}{d:df}{kvs:List (κ×c_)}{ep:Nat}{Q:List c_->dc->Prop}(p:A.handled=b_)(lo:(d==gN)=a_)(j:s.heap.DictAt knd d kvs ep)(hn:kvs.length<=sizeLine)(q:∀h' h c,(∀b o,s.heap.get? b=aB o->h'.get? b=aB o)->s.heap.objs.size<h'.objs.size->ItemsOf (λi v=>∃k x,kvs[i]?=aB (k,x)/\knd.is k v=ck) c kvs.length->Q c.toList {s with heap:=h',toks:=h}):
 dL (dS prog w) A (collect (.ref d)) Q E s:=by have f:=j.lt_size;unfold collect;refine bx (wpAny_runValue (codeAny_builtin F.entry_proto_collect ?_));rw[og F.plain_proto_collect _];show dL _ A.in1 (newList []>>=λl=>again (.builtin "list.__iadd__" ⟨[l,.ref d],[]⟩)) _ _ s;refine bx (fh ?_);refine de ⟨plainId_quiet F.plain_list_iadd _,codeAny_builtin F.entry_list_iadd ?_⟩;rw[og F.plain_list_iadd _];show dL _ A.in1 (Builtin.List.listExtendWith (.ref s.heap.objs.size) (.ref d) (.ref s.heap.objs.size)) _ _ _;refine kdl_extend (A:=A) (R:=λr m=>match r with
  |.ok (.ret v)=>dL (dS prog w) A (match v with
   |.ref a=>do let o<-load a match o.data with|.seq xs _=>fI xs.toList|_=>unsupported "internal:collect"
   |_=>unsupported "internal:collect") Q E m|.ok _=>False|.error e=>E e m) (s:={s with heap:=s.heap.push {cls:=.type "list",data:=.seq #[]}}) (kdl_dict (knd:=knd) (kvs:=kvs) (ep:=ep) lo) p (j.push _) s.heap.objs.size (oo f) (oo f) _ 0 (dE _ rfl) (λh' h c u t n g=>?_) hn;refine bx (wpAny_load n ?_);exact de (q h' h c (λb o e=>t b o (eH (ej e)) (fK e)) (ej n) g)
end
theorem sE{P:d_}{w:fb}:∀{kvs:List (Int×Int)}{vs:List (Key×c_)}{a:List c_},KV (kvs.map xm) vs->a.length=vs.length->(∀(j:Nat)(v:c_),a[j]?=aB v->∃(k:Key)(x:c_),vs[j]?=aB (k,x)/\(cI P w).is k v=ck)->gI a (kvs.map (·.1))
 |[],_,a,.nil,h,_=>by cases a with|nil=>exact .nil|cons _ _=>simp at h
 |p::kvs,_,a,.cons (b:=q) r t,h,k=>by cases a with|nil=>simp at h|cons v a=>
     obtain⟨g,x,f,l⟩:=k 0 v rfl;simp at f;have m:g=eL p.1:=by have z:=r.1;rw[f]at z;exact z.symm
     subst m;obtain⟨i,n,c,rfl⟩|⟨_,_,c,_⟩:=cF (show qW (eL p.1) v=ck from l);.cases c;exact .cons _ n (sE t (by simpa using h) λj v e=>k (j+1) v (by simpa using e))
     .cases c
section
variable{X:Cx}{c:Call}{a:ek}{pa:P}{pos:Pos}
theorem nu:∀{ns:List Int}{b:List c_},gI b ns->Vals (ns.map V.int) b|_,_,.nil=>.nil|_,_,.cons n t r=>.cons ⟨t,rfl⟩ (nu r)
theorem oK{K:PySem.W.Frag}{F:Hp}:∀ns:List Int,aN K F (ns.map V.int) (ns.map D.int)|[]=>.nil|n::ns=>.cons (bM n) (oK ns)
theorem M8(hc:X.calm=ck):dU X (.builtin "sorted") (Gf X.K λx=>blt .yz [x]):=by
 rintro U s σ H xs us Q I r⟨x,hx,F,d,r',sm,px,he,k⟩;obtain⟨kvs,rfl⟩:∃kvs,d=.cZ (.k kvs):=by cases d with
  |cZ m=>cases m with|k kvs=>exact⟨kvs,rfl⟩|t kvs=>cases he
  |_=>cases he
 obtain⟨W,he⟩:=bK (show(if sortable (kvs.map λp=>D.int p.1)=ck then aB (R.own (kE (kvs.map λp=>D.int p.1)))else b_)=aB r' from he);subst he;obtain⟨q,ob,rfl,hq⟩:=px.cZ sm;subst hx;obtain⟨u,rfl,rx⟩:=r.one;cases rx;obtain⟨ho,hz,hS,vs,Y,G⟩:=(show cJ X.prog X.w H s.heap q (.fO ob (.dK (kvs.map xm)))from I.hok q _ hq);obtain⟨ep,G⟩:=G.dictAt;have hl:vs.length=kvs.length:=by rw[<-Paired.length Y,eu]
 have n:=W;simp only[sortable,fE,decide_eq_true_eq,eu]at n;have ac:=n.1;refine nv kind_sorted plain_sorted entry_sorted (args_sorted1 _) ?_;unfold hY.«sorted»;refine bx (m:=checkCount "sorted" 1 1 _) (de ?_);refine bx (v9 (A:=X.A.in1) (knd:=cI X.prog X.w) (I.ok.hd hc) hS G (by rw[hl,gE];lia) λh1 J i kp hsz h=>?_);have l:gI i.toList (kvs.map (·.1)):=sE (P:=X.prog) (w:=X.w) Y (by rw[iP];exact h.1) λj v e=>h.2 j v (by rw[<-kR];exact e);have y:i.toList.length=kvs.length:=by rw[iq l,eu]
 generalize i.toList=f at l y;refine bx (pr ?_ (by rw[gE];lia));have hsz:=m4 hsz;generalize Z:(h1.push {cls:=.type "list",data:=.seq f.toArray}:fk)=E;have B:E.get? h1.objs.size=aB (lI "list" f.toArray 0):=by rw[<-Z];exact dE _ rfl
 have yI:∀b o,s.heap.get? b=aB o->E.get? b=aB o:=λb o e=>by rw[<-Z];exact fK (kp b o e)
 have L:∀b o,s.heap.get? b=aB o->b≠h1.objs.size:=λb o e=>eH (ej (kp b o e));show dL _ _ _ _ _ {s with heap:=E,toks:=J};refine bx (hJ (fN slot_list_sort ⟨_,B,rfl⟩ entry_list_sort ?body (args_list_sort _)));case body=>
  refine xR (s:={s with heap:=E,toks:=J}) (κ:=oneType') B W (by lia) (by have:=JB l;rwa[eA]at this) Dl (λh' M C N h2=>?_) (λh' M u v d e hd he C N=>?_) λh' cc p M p1 p2 e=>?_;.match f,l,h2 with|v1::v2::ab,l,_=>rw[keyKind_ints l];exact de N
  .exact Cv hd he N
  . refine⟨_,rfl,de ⟨_,rfl,?_⟩⟩;have kk:∀b o,s.heap.get? b=aB o->h'.get? b=aB o:=λb o z=>M b o (L b o z) (yI b o z);refine⟨.ref h1.objs.size,_,I.laid (t':=J) (o:=.lst (pick .non p ((kvs.map (·.1)).map V.int))) (h':=h') kk hsz ⟨by rw[mV p1,y,gE];lia,pick .none p f,cc,yj (nu l),e⟩,rfl,?_⟩;have O:aN X.K F (pick .non p ((kvs.map (·.1)).map V.int)) (kE (kvs.map λp=>D.int p.1)):=by rw[<-p2];refine xQ ?_;have:=oK (K:=X.K) (F:=F) (kvs.map (·.1));rwa[eA (g:=D.int)]at this
    exact vZ sm O (I.hok.fresh hsz) k
theorem Hn{x:Str}{b:Pos}(e:x="sorted")(hc:X.calm=ck)(f:Gl X x)(g:X.mg x=b_)(i:SX X c a pa)(hs:dy [a] X.env=(a_,fg a X.env)::dy [] X.env:=by rfl):SX X c (.Call (.Name x b) [a] [] pos) (.blt .yz [pa]):=by subst e;exact lq (λh=>eN (M8 hc) f g boot_sorted h (he:=hs)) i (λρ=>rfl) rfl hs
end
end _H
namespace _H
open PySem _L Spec PyProof.Rows
variable{i:Nat}{x:Str}{px:Pos}
theorem NQ{F H:Hp}{xs:List V}{p:df}(s:aP F H)(c:H p=b_):Ext F H (upd F p (.tup xs)) (upd H p (.tup xs)):=by
 have g:F p=b_:=by cases q:F p with|none=>rfl|some o=>have:=s p o q;rw[c]at this;cases this
 refine⟨aP.fC c,aP.fC g,λb o e=>?_,λb n f=>?_⟩
 . by_cases a:b=p;.rw[a,aW]at e ⊢;exact e
   .rw[aL a]at e ⊢;exact s b o e
 . by_cases a:b=p;.rw[a];exact lJ c
   .rw[aL a]at f;exact absurd n f
noncomputable def Jw(p:List Int×Int):List Key×V:=(p.1.map eL,V.int p.2)
theorem xK:∀{a b:List Int},(a.map eL:List Key)=b.map eL->a=b|[],[],_=>rfl|[],_::_,h=>by cases h|_::_,[],h=>by cases h|x::a,y::b,h=>by rw[er,er]at h;injection h with h1 h2;injection h1 with h1;rw[h1,xK h2]
theorem yo(a b:List Int):decide ((a.map eL:List Key)=b.map eL)=decide (a=b):=by
 by_cases h:a=b;.subst h;simp
 .rw[decide_eq_false h,decide_eq_false λe=>h (xK e)]
theorem Hc(k:List Int):∀kvs:List (List Int×Int),mz (kvs.map Jw) (k.map eL:List Key)=((kvs.find? λb=>decide (b.1=k)).map (·.2)).map V.int|[]=>rfl|p::kvs=>by have a:=Hc k kvs;unfold mz at a ⊢;have e:decide ((Jw p).1=(k.map eL:List Key))=decide (p.1=k):=yo p.1 k;rw[er,io,io,e];cases decide (p.1=k)with|true=>rfl|false=>exact a
theorem RX(k:List Int)(v:Int)(kvs:List (List Int×Int)):putK (kvs.map Jw) (k.map eL:List Key) (V.int v)=(putD kvs k v).map Jw:=by
 have d:∀p:List Int×Int,decide ((Jw p).1=(k.map eL:List Key))=decide (p.1=k):=λp=>yo p.1 k;have e:((kvs.map Jw).any λa=>decide (a.1=(k.map eL:List Key)))=kvs.any λa=>decide (a.1=k):=by rw[List.any_map];congr 1;funext p;exact d p
 unfold putK putD;rw[e];split
 . rw[eA,eA];refine ga λp _=>?_;have h:=d p;by_cases q:p.1=k;.rw[decide_eq_true q]at h;have h':=of_decide_eq_true h;simp only[n4,if_pos q,if_pos h'];rfl
   .rw[decide_eq_false q]at h;have h':=of_decide_eq_false h;simp only[n4,if_neg q,if_neg h']
 .rw[kg];rfl
theorem qi(k:List Int):(k.map eL:List Key).map kV=k.map V.int:=by rw[eA];rfl
theorem Ir{K:PySem.W.Frag}{F:Hp}{xs:List V}{a:List D}(r:aN K F xs a)(o:a.all dI=ck):xs=(a.map fG).map V.int:=by rw[all_ints o]at r;rw[fu r]
theorem Ac{K:PySem.W.Frag}{F H:Hp}{q p:df}{m:Dc}{a:List D}{xs:List V}{o:Option Int}(h:Rd H q m.ho)(r:aN K F xs a)(b:H p=aB (.tup xs))(e:m.pL a=aB o):yl H q (.ref p) (o.map V.int):=by cases m with|k kvs=>cases e|t kvs=>obtain⟨ho,e⟩:=bK (show(if a.all dI=ck then aB ((kvs.find? λc=>decide (c.1=a.map fG)).map (·.2))else b_)=aB o from e);subst e;refine .inr ⟨kvs.map Jw,(a.map fG).map eL,p,h,rfl,?_,(Hc _ kvs).symm⟩;rw[qi,<-Ir r ho];exact b
theorem Inv.aec{X:Cx}{c:List (df×Obj)}{σ:_L.St}{H:Hp}{s:dc}{a:df}{kvs:List (List Key×V)}(I:_L.Inv X c σ H s)(h:H a=aB (.dT kvs)):∃o,_L.Inv X c σ (upd H a (.fO o (.dT kvs))) s:=by obtain⟨z,y,xs,r,o,es,ep,h1,f,g,j,l⟩:=(show cJ X.prog X.w H s.heap a (.dT kvs)from I.hok a _ h);refine⟨o,I.write (h':=s.heap) (t':=s.toks) (by rw[h];exact trivial) (.inl rfl) (λb u _ e=>e) ⟨o,h1⟩ ⟨h1,z,y,xs,KT.keeps r λb ys q=>?_,o,es,ep,h1,f,g,j,l⟩⟩;rw[aL (by rintro rfl;rw[h]at q;cases q)];exact q
section
variable{X:Cx}{c:Call}{n:Nat}{a b e:ek}{p pa pb:P}{pos:Pos}{es:List ek}{ps:List P}{x1:Nat}{tpos:Pos}
theorem Jb(hu:X.A.units+8<ia)(J:X.N[i]?=aB x)(hv:u0 X.env.scope x)(L:SA X c es ps)(hs:HX (.Tuple es x1 tpos))(M:ps.length<=sizeLine:=by decide)(hd:(x==("__debug__":Str))=a_:=by decide)(f:(x==("__classdict__":Str))=a_:=by decide):SX X c (.Subscript (.Name x px) (.Tuple es x1 tpos) pos) (.Kg i ps):=by refine⟨gR (CQ (by lia) (fc J hv hd f) (qT L.1) hs) ?_,λi h=>by cases h⟩;rintro σ H Q⟨F,ρ,r,O,g,e,k⟩;rw[_H.E25]at e;obtain⟨d0,U,W,u⟩:=aj e;clear e;obtain⟨Y,Z⟩:=aH W;subst Z;obtain⟨w,j,y,z⟩:=aj u;clear u;obtain⟨dd,ab,e2,B⟩:=aj z;clear z;obtain⟨l,s⟩:=aH e2;subst s;obtain⟨C,t⟩:=aH B;clear B;subst t;obtain⟨v0,w1,_⟩:=g.pk Y;refine⟨v0,w1,F,ρ,w,j,g,y,λvs F1 H1 s1 E=>⟨by rw[E.length,jz y];exact M,λq hq=>?_⟩⟩;have x1:=NQ (xs:=vs) s1.gs.sub hq;have s2:=s1.trans (x1.stp s1.gs);obtain⟨v1,G,w3⟩:=s2.gs.pk l;rw[w1]at G;cases G;cases dd with
 |cZ m=>obtain⟨o,e4,I⟩:=bz (show(m.pL w).bind (λo=>o.map λv=>R.val (.int v))=aB r from C);cases o with|none=>cases I|some v=>cases I;obtain⟨ad,ob,rfl,ha⟩:=w3.cZ s2.gs.sub;have dg:=Ac (o:=aB v) (m:=m) (.inr ⟨ob,ha⟩) E aW e4;exact⟨ad,V.int v,rfl,dg,k _ _ _ s2 (show Rep X.K _ _ _ from bM _)⟩
 |_=>cases C
theorem vM{f j:Pos}{y:P}(hu:X.A.units+8<ia)(U:X.N[i]?=aB x)(hv:u0 X.env.scope x)(W:SA X c es ps)(Y:SX X c b y)(m:M2 X (.Name x px) "get" f (.Tuple es x1 tpos) b j)(Z:ps.length<=sizeLine:=by decide)(hd:(x==("__debug__":Str))=a_:=by decide)(u:(x==("__classdict__":Str))=a_:=by decide):SX X c (.Call (.Attribute (.Name x px) "get" f) [.Tuple es x1 tpos,b] [] j) (.yC i ps y):=by
 obtain⟨tb,h3,h4⟩:=Y.bU;refine⟨gR (wQ (by lia) (fc U hv hd u) (qT W.1) h3 m) ?_,λi h=>by cases h⟩;rintro σ H Q⟨F,ρ,r,ab,g,e,k⟩;rw[_H.E26]at e;split at e
 . rename_i m0 q;obtain⟨lr,v,B,C⟩:=aj e;clear e;obtain⟨dd,ac,e2,s⟩:=aj C;clear C;obtain⟨E,o0,w1,G,w3,w4⟩:=g.own i _ _ q rfl;refine⟨.ref E,w1,E,rfl,?_,?_⟩;.cases(show o0=m0.ho from w4);cases m0 with|k kvs=>exact .inl ⟨_,.inl G⟩|t kvs=>exact .inr ⟨_,.inl G⟩
   . refine⟨F,ρ,lr,v,g,B,λvs F1 H1 s1 I=>⟨by rw[I.length,jz B];exact Z,λp hp=>?_⟩⟩;have x1:=NQ (xs:=vs) s1.gs.sub hp;have l:=s1.trans (x1.stp s1.gs);refine h4 l.gs e2 λz J H2 s2 L=>?_;split at s
     . rename_i m1 q1;obtain⟨M,e3⟩:=aH s;clear s;subst e3;obtain⟨o,e4,eD⟩:=bz M;clear M;obtain⟨w,e5,e6⟩:=map_some eD;subst e6;obtain⟨a1,o1,O,y2,y3,y4⟩:=s2.gs.own i _ _ q1 rfl;rw[w1]at O;cases O;cases(show o1=m1.ho from y4);rw[bw e5]at L;rw[L.int];refine⟨o.map V.int,Ac (.inl y2) I (s2.gs.sub _ _ (s2.cD _ _ aW)) e4,?_⟩;have:(o.map V.int).getD (V.int w)=V.int (o.getD w):=by cases o<;>rfl
       rw[this];exact k _ J H2 (l.trans s2) (show Rep X.K J _ _ from bM _)
     .cases s
 .cases e
theorem qI{f h:Pos}(j:X.N.Nodup)(hi:X.N[i]?=aB x)(l:Loc X.env.scope x)(hs:iL (.Dict [] [] h) (aB (.Name x f)) pos.line X.env=fI a_:=by rfl)(o:X.fn x=ck\/X.env.scope.names.lookup x=aB .local:=by first|(left;rfl)|(right;rfl)|assumption):SS X c n (.Assign [.Name x f] (.Dict [] [] h) pos) (.tu i ck):=by
 refine fY (yW j hi l Ia hs o) ?_;rintro D σ H⟨F,ρ,u,r,g,e,k⟩;rw[_H.X15]at e;split at e;.rename_i q;cases e;exact λa s=>k F _ _ (g.newD (m:=.t []) q s)
 .cases e
theorem mY{f:Pos}(hu:X.A.units+8<ia)(L:X.N[i]?=aB x)(hv:u0 X.env.scope x)(M:SA X c es ps)(he:SX X c e p)(hs:iL e (aB (.Subscript (.Name x px) (.Tuple es x1 tpos) f)) pos.line X.env=fI a_:=by rfl)(O:ps.length<=sizeLine:=by decide)(hd:(x==("__debug__":Str))=a_:=by decide)(y:(x==("__classdict__":Str))=a_:=by decide):SS X c n (.Assign [.Subscript (.Name x px) (.Tuple es x1 tpos) f] e pos) (.nZ i ps p):=by
 refine fY (BX (by lia) (fc L hv hd y) (qT M.1) he.ev hs) ?_;rintro D σ H⟨F,ρ,fl,Q,g,e,k⟩;rw[_H.X17]at e;obtain⟨r,j,U,o⟩:=aj e;clear e;refine⟨F,ρ,r,j,g,U,λv F1 H1 s1 W=>?_⟩;split at o
 . rename_i m0 Y;obtain⟨s,z,C,l⟩:=aj o;clear o;obtain⟨B,o0,w1,w2,w3,w4⟩:=s1.gs.own i _ _ Y rfl;refine⟨.ref B,w1,F1,j,s,z,s1.gs,C,λvs F2 Z s2 E=>⟨by rw[E.length,jz C];exact O,λq hq=>?_⟩⟩;have x1:=NQ (xs:=vs) s2.gs.sub hq;have h:=s2.trans (x1.stp s2.gs);split at l
   . rename_i m w G;split at l;.rename_i I u;cases l;obtain⟨a1,o1,J,y2,y3,y4⟩:=h.gs.own i _ _ G rfl;rw[w1]at J;cases J;cases(show o1=m.ho from y4);cases(show v=.int w by have:Rep X.K F1 v (.int w):=W;rwa[Rep]at this);refine⟨B,upd (upd Z q (.tup vs)) B I.ho,rfl,?_,k _ σ _ ((s1.trans h).trans (h.gs.Xj G w1))⟩;cases m with|k kvs=>cases u|t kvs=>
         obtain⟨⟨ho,hl⟩,u⟩:=bK (show(if s.all dI=ck/\kvs.length<lim then aB (Dc.t (putD kvs (s.map fG) w))else b_)=aB I from u);subst u;refine .inr ⟨kvs.map Jw,(s.map fG).map eL,q,y2,rfl,?_,by rw[eu,gE];exact hl,?_⟩;.rw[qi,<-Ir E ho];exact aW
         .rw[RX];rfl
     .cases l
   .cases l
 .cases o
theorem O3(A:X.N[i]?=aB x)(hv:u0 X.env.scope x)(hd:(x==("__debug__":Str))=a_:=by decide)(w:(x==("__classdict__":Str))=a_:=by decide):SX X c (.Name x px) (.vw i):=by
 have h:=fc (X:=X) (pos:=px) A hv hd w;refine⟨?_,λi h=>by cases h⟩;rintro f s σ H Q I⟨F,ρ,r,B,g,e,k⟩;rw[_H.E24]at e;split at e
 . rename_i m q;cases e;obtain⟨a,h1,j,l⟩:=g.BP q;refine dC (h f s σ H (λv y=>v=.ref a/\y=H) I ⟨.ref a,h1,rfl,rfl⟩) λu s1⟨v,H1,I1,r1,e1,e2⟩=>?_;subst e1 e2;have C:∃o,_L.Inv X f σ (upd H1 a (.fO o m.ho)) s1:=by cases m with|k kvs=>exact Inv.M3 I1 j|t kvs=>exact Inv.aec I1 j
   obtain⟨o,z⟩:=C;exact⟨.ref a,_,z,r1,k _ _ _ (l o).1 (l o).2⟩
 .rename_i kvs q;cases e;obtain⟨a,vs,h1,j,l⟩:=g.BR q;refine dC (h f s σ H (λv y=>v=.ref a/\y=H) I ⟨.ref a,h1,rfl,rfl⟩) λu s1⟨v,H1,I1,r1,e1,e2⟩=>?_;subst e1 e2;obtain⟨o,z⟩:=Inv.M3 I1 j;exact⟨.ref a,_,z,r1,k _ _ _ (l o).1 (l o).2⟩
 .rename_i b G q;cases e;obtain⟨v,E,h1,j,l⟩:=g.freeze q;exact h f s σ H Q I ⟨v,h1,k v E H j l⟩
 .rename_i b d q;cases e;obtain⟨v,h1,j⟩:=g.val i b d q;exact h f s σ H Q I ⟨v,h1,k v F H (.refl g) j⟩
 .cases e
end
end _H
namespace _H
open PySem _L Spec PyProof.Rows Calls W
noncomputable def oG(h:fk)(d:df)(es:Array k5)(ep:Nat):Prop:=∃o,h.get? d=aB o/\o.ExactDict/\o.data=.dict es ep
section
variable{prog:d_}{w:fb}{A:e_}{E:c_->dc->Prop}{s:dc}{d it:df}{es:Array k5}{ep i:Nat}
theorem oG.ty(r:oG s.heap d es ep):s.TypeIs (.ref d) "dict":=let⟨o,h1,h2,_⟩:=r;⟨o,h1,h2.1⟩
theorem oG.lt{h:fk}(r:oG h d es ep):d<h.objs.size:=let⟨_,h1,_⟩:=r;ej h1
theorem oG.at{h h':fk}(r:oG h d es ep)(k:∀o,h.get? d=aB o->h'.get? d=aB o):oG h' d es ep:=let⟨o,h1,q⟩:=r;⟨o,k o h1,q⟩
theorem JT{Q:c_->dc->Prop}(lo:(d==gN)=a_)(r:oG s.heap d es ep)(q:Q (.ref s.heap.objs.size) {s with heap:=s.heap.push {cls:=.type "dict_keyiterator",data:=.fields #[.ref d,.int 0 0,.int es.size 0,.int ep 0]}}):dL (dS prog w) A (om (.ref d)) Q E s:=by obtain⟨c,a,e,b⟩:=id r;refine wpAny_pyIter_slot r.ty PySem.F.slot_dict_iter (fN PySem.F.slot_dict_iter r.ty PySem.F.entry_dict_iter ?bd (PySem.F.args_dict_iter_1 _));unfold hY.«dict.__iter__» Builtin.Dict.dictSlotNone;refine bx (bx (wpAny_notOrdered_dict r.ty ?_));show dL _ _ (fI (eW d)) _ _ s;refine de ?_;show dL _ _ (mB d>>=_) _ _ s;unfold mB;rw[if_neg (λz=>eJ (lo.symm.trans z))];refine bx (de (bx (mN a b (bx (n3 a b ?_)))));refine bx (fh (de ⟨_,rfl,"dict_keyiterator",_,⟨_,dE _ rfl,rfl⟩,slot_dict_keyiterator_next.lookup,?_⟩));simpa[ku]using q
theorem J2{Q:Option c_->dc->Prop}(a:s.heap.IsKeyIter it d i es.size ep)(r:oG s.heap d es ep)(hi:i<es.size)(q:∀h',h'.IsKeyIter it d (i+1) es.size ep->n9 it s.heap h'->Q (aB es[i].key) {s with heap:=h'}):dL (dS prog w) A (k9 (.ref it)) Q E s:=by
 obtain⟨oi,c,h,b⟩:=id a;obtain⟨j,e,l,f⟩:=id r;unfold k9;refine bx (kQ (fy (name:=i3 "__next__") a.typeIs slot_dict_keyiterator_next (fN slot_dict_keyiterator_next a.typeIs PySem.F.entry_dict_keyiterator_next ?bd (PySem.F.args_dict_keyiterator_next_1 _))));refine bx (de (bx (bx ?_)));first|refine bx (ic a.typeIs (de (bx (lC c b ?_))))|refine bx (i_ a.typeIs (de (bx (lC c b ?_))))
 simp only[show kP "dict_keyiterator"=a_ by decide,hU,if_false];show dL _ _ (if(eW d==eR)=ck then _ else _) _ _ s;rw[if_neg (λz:(eW d==eR)=ck=>eJ z)];refine bx (de (bx (mN e f ?_)));rw[if_neg (by simp)];refine bx (de (bx (n3 e f ?_)));rw[if_neg (by simp)];refine de ?_;simp only[show ¬((i:Int)<0)from by lia,if_false,kH,nB hi];refine bx ?_;first|refine bx (ic a.typeIs (de (bx (ll a.typeIs ?_))))|refine bx (i_ a.typeIs (de (bx (ll a.typeIs ?_))))
 show dL _ _ (setField (.ref it) 1 (ku ((i:Int)+1))>>=_) _ _ s;refine bx (lz c b (by simp) ?_);have g:(s.heap.update it (Obj.mapFields (·.setIfInBounds 1 (ku ((i:Int)+1))))).IsKeyIter it d (i+1) es.size ep:=⟨_,kT _ c (oT (kz b _)),(Obj.cls_mapFields ..).trans h,by rw[kz b];simp[ku]⟩;refine bx (hJ (bx (ll (s:={s with heap:=s.heap.update it (Obj.mapFields (·.setIfInBounds 1 (ku ((i:Int)+1))))}) g.typeIs ?_)));show dL _ _ (fI es[i].key) _ _ _;exact de (de ⟨_,rfl,de (q _ g (jI ..))⟩)
theorem Ni{Q:Option c_->dc->Prop}(j:A.handled=b_)(c:s.heap.IsKeyIter it d es.size es.size ep)(r:oG s.heap d es ep)(q:∀h',ExtBut it s.heap h'->Q b_ {s with heap:=h'}):dL (dS prog w) A (k9 (.ref it)) Q E s:=by
 obtain⟨oi,e,l,f⟩:=id c;obtain⟨n,g,o,h⟩:=id r;unfold k9;refine bx (kQ (fy (name:=i3 "__next__") c.typeIs slot_dict_keyiterator_next (fN slot_dict_keyiterator_next c.typeIs PySem.F.entry_dict_keyiterator_next ?bd (PySem.F.args_dict_keyiterator_next_1 _))));refine bx (de (bx (bx ?_)));first|refine bx (ic c.typeIs (de (bx (lC e f ?_))))|refine bx (i_ c.typeIs (de (bx (lC e f ?_))))
 simp only[show kP "dict_keyiterator"=a_ by decide,hU,if_false];show dL _ _ (if(eW d==eR)=ck then _ else _) _ _ s;rw[if_neg (λz:(eW d==eR)=ck=>eJ z)];refine bx (de (bx (mN g h ?_)));rw[if_neg (by simp)];refine bx (de (bx (n3 g h ?_)));rw[if_neg (by simp)];refine de ?_;simp only[show ¬((es.size:Int)<0)from by lia,if_false,kH,Array.getElem?_eq_none (le_refl es.size)];refine bx ?_;first|refine bx (ic c.typeIs (de ?_))|refine bx (i_ c.typeIs (de ?_))
 show dL _ _ (setField (.ref it) 0 .none>>=_) _ _ s;refine bx (lz e f (by simp) ?_);show dL _ _ (newExc (.type "StopIteration") []>>=_) _ _ _;refine bx ?_;simp only[newExc,newTuple];refine bx (fh ?_ (by size_fits));refine bx (m:=lT _ _) (wpAny_of_eq (a:=eR) (by first|rfl|(simp only[lT];rfl)) (fh ?_ (by size_fits)));simp only[raiseNew];refine bx (wpAny_handled ?_);rw[(j:A.in1.handled=b_)];refine bx (de (wpAny_throw (bx ?_)));refine wpAny_isInstance (T:="StopIteration") (b:=ck) ⟨_,dE _ rfl,rfl⟩ isSubtype_stop ?_;exact de (q _ (((jI ..).extBut.push _).push _))
theorem Fy(n:A.handled=b_)(J d:df)(j:d≠J)(es:Array k5)(ep:Nat):Walks prog w A J [J,d] [J] es.size (λi v=>∃e,es[i]?=aB e/\v=e.key) (λi h=>h.IsKeyIter J d i es.size ep/\oG h d es ep)where
 sub:=λb a=>by simp at a;simp[a]
 frame:=λ_ _ _ st m=>⟨st.1.at λo e=>m J (by simp) o e,st.2.at λo e=>m d (by simp) o e⟩;item:=λi s Q E hi st c=>J2 st.1 st.2 hi λh' f g=>c _ h' s.toks ⟨es[i],by simp[hi],rfl⟩ ⟨f,st.2.at λo e=>g.extBut d o j e⟩ λb o a e=>g.extBut b o (λh=>a (by simp[h])) e;done:=λs Q E st c=>Ni n st.1 st.2 λh' l=>c h' s.toks λb o a e=>l b o (λh=>a (by simp[h])) e;self:=λ_ _ _ _ st c=>q_ st.1 c
theorem Nk(lo:(d==gN)=a_):KdlSrc prog w "dict" d d es.size (λi v=>∃e,es[i]?=aB e/\v=e.key) (λh=>oG h d es ep)where
 type:=λ_ r=>r.ty;there:=λ_ r=>⟨r.lt,r.lt⟩;keep:=λ_ _ r b=>r.at λo e=>b d (.inl rfl) o e;notList:=by decide
 notTuple:=by decide
 hint:=λ_ _ _ _ r a=>kdl_hint_dict r.ty a;iter:=λ_ _ c r=>⟨_,_,(λ_ _ a=>JT lo r a),Fy c _ d (eH r.lt) es ep,⟨⟨_,dE _ rfl,rfl,rfl⟩,r.at λo e=>fK e⟩⟩
end
noncomputable def uL(F H:Hp)(bs:List df):Hp:=λb=>if b∈bs then H b else F b
theorem Ek{F H:Hp}{bs:List df}(sm:aP F H)(c:∀b∈bs,∃xs,H b=aB (.tup xs)):Ext F H (uL F H bs) H:=by
 refine⟨.refl _,λb o e=>?_,λb o e=>?_,λb n a=>?_⟩
 . unfold uL;split;.exact sm b o e
   .exact e
 . unfold uL at e;split at e;.exact e
   .exact sm b o e
 . unfold uL at a;split at a;.rename_i f;obtain⟨xs,e⟩:=c b f;rw[e];rfl
   .exact absurd n a
theorem Ext.T3{F H F1 f g:Hp}(a:Ext F H F1 H)(b:Ext F1 H f g):Ext F H f g:=by
 refine⟨b.hs,a.fs.trans b.fs,b.sub,λc n h=>?_⟩;by_cases e:F1 c=b_;.exact b.gr c e h
 .exact a.gr c n e
theorem Jr{H:Hp}:∀{kvs:List (List Int×Int)}{a:List (List Key×df×c_)},KT H (kvs.map Jw) a->∀t∈a,∃k:List Int,H t.2.1=aB (.tup (k.map V.int))
 |[],_,.nil,t,h=>by cases h|p::kvs,_,.cons r q,t,h=>by
   rcases et.mp h with rfl|h;.exact⟨p.1,by rw[<-qi];exact r.2.1⟩
   .exact Jr q t h
theorem CP{K:PySem.W.Frag}{F H:Hp}:∀{kvs:List (List Int×Int)}{a:List (List Key×df×c_)},KT H (kvs.map Jw) a->(∀t∈a,F t.2.1=H t.2.1)->aN K F (a.map λt=>V.ref t.2.1) (kvs.map λp=>D.tup (p.1.map D.int))|[],_,.nil,_=>.nil|p::kvs,_,.cons (b:=t) r q,h=>by refine .cons ?_ (CP q λt c=>h t (fv _ c));rw[Rep];exact⟨_,p.1.map V.int,rfl,jl.of (by rw[h t (by simp),<-qi];exact r.2.1),oK _⟩
theorem tU{b:Type}{f:b->df}:∀a:List b,Vals (a.map λt=>V.ref (f t)) (a.map λt=>eW (f t))|[]=>.nil|t::a=>.cons rfl (tU a)
theorem zf{es:Array k5}{a:Array c_}{b:List (List Key×df×c_)}(he:es.toList.map (·.key)=b.map λt=>eW t.2.1)(h:ItemsOf (λi v=>∃e,es[i]?=aB e/\v=e.key) a es.size):a.toList=b.map λt=>eW t.2.1:=by rw[<-he];refine List.ext_getElem? λi=>?_;rw[ey,kR,kR];cases q:a[i]?with
 |none=>
   have:es[i]?=b_:=by rw[Array.getElem?_eq_none_iff]at q ⊢;rw[<-h.1];exact q
   rw[this];rfl|some v=>obtain⟨e,c,f⟩:=h.2 i v q;rw[c,f];rfl
end _H
namespace _H
open PySem _L Spec PyProof.Rows
section
variable{K:PySem.W.Frag}{F H F' H':Hp}{ρ ρ':List Sl}{σ σ':_L.St}
noncomputable def Kp(ρ:List Sl)(σ:_L.St)(H:Hp)(a:df)(o:HO):Prop:=H a=aB o/\¬ Own ρ σ a
theorem Kp.stp{a:df}{o:HO}(h:Kp ρ σ H a o)(s:bW K F ρ σ H F' ρ' σ' H'):Kp ρ' σ' H' a o:=⟨s.keep a o h.1 h.2,λz=>(s.wJ a z).elim h.2 λe=>by rw[h.1]at e;cases e⟩
structure Wt(K:PySem.W.Frag)(F:Hp)(ρ:List Sl)(σ:_L.St)(H:Hp)(a:df)(ds:List D):Prop where
 ex:∃xs,Kp ρ σ H a (.lst xs)/\aN K F xs ds
 fr:F a=b_
theorem Wt.stp{a:df}{b:List D}(h:Wt K F ρ σ H a b)(s:bW K F ρ σ H F' ρ' σ' H'):Wt K F' ρ' σ' H' a b:=by obtain⟨⟨xs,h1,c⟩,e⟩:=h;refine⟨⟨xs,h1.stp s,c.mono s.cD⟩,?_⟩;cases q:F' a with|none=>rfl|some o=>
   rcases s.yF a e (by rw[q];simp)with z|z;.exact absurd z h1.2
   .rw[h1.1]at z;cases z
end
end _H
namespace _H
open PySem _L Spec PyProof.Rows
variable{o:Option V}{row:List D}{rows:List (List D)}
section
variable{K:PySem.W.Frag}{F F' F1 H H' H1 F0 H0:Hp}{ρ ρ' ρ1 ρ0:List Sl}{σ σ' σ1 σ0:_L.St}{x:Nat}{q:df}{as:List df}{rows n6:List (List D)}
noncomputable def JZ:Sl->Bool|.aM=>ck|.hold _=>ck|_=>a_
theorem iR{s:Sl}{i:Nat}{b:df}(g:JZ s=ck)(h:bN (ρ.set x s) (σ.set x o) i b):bN ρ σ i b/\i≠x:=by
 obtain⟨⟨t,j,e,a⟩,f⟩:=h;by_cases c:x=i
 . subst c;rw[l_]at e;rw[if_pos rfl]at e;split at e;.cases e;cases s<;>first|(cases a;done)|(cases g;done)
   .cases e
 .rw[fF c]at e f;exact⟨⟨⟨t,j,e,a⟩,f⟩,λz=>c z.symm⟩
theorem GS.xZ{s:Sl}(f:JZ s=ck)(g:GS K F ρ σ H):GS K F (ρ.set x s) (σ.set x o) H:=by
 refine⟨g.sub,by simp[g.len],λi b d e=>?_,λi t l e h=>?_,λi j a h1 m=>g.dis i j a (iR f h1).1 (iR f m).1⟩
 . by_cases c:x=i
   . subst c;rw[l_,if_pos rfl]at e;split at e;.cases e;cases f
     .cases e
   .rw[fF c]at e ⊢;exact g.val i b d e
 . by_cases c:x=i
   . subst c;rw[l_,if_pos rfl]at e;split at e;.cases e;cases s<;>first|(cases h;done)|(cases f;done)
     .cases e
   .rw[fF c]at e ⊢;exact g.own i t l e h
theorem bW.xZ{s:Sl}{o:Option V}(a:JZ s=ck)(t:bW K F ρ σ H F1 ρ1 σ1 H1)(f:∀s0,ρ[x]?=aB s0->wF s0=a_):bW K F ρ σ H F1 (ρ1.set x s) (σ1.set x o) H1:=by
 refine⟨t.gs.xZ a,t.cD,t.yF,t.keep,λb⟨i,h⟩=>t.wJ b ⟨i,(iR a h).1⟩,by simp[t.len],λi g e l=>?_⟩;have c:x≠i:=by rintro rfl;rw[f _ e]at l;cases l
 obtain⟨j,s2,m,n⟩:=t.lk i g e l;exact⟨by rw[fF c];exact j,s2,by rw[fF c];exact m,n⟩
theorem bW.free{i:Nat}{s1:Sl}(t:bW K F ρ σ H F1 ρ1 σ1 H1)(h:ρ1[i]?=aB s1)(a:wF s1=a_):∀s0,ρ[i]?=aB s0->wF s0=a_:=λs0 e=>by cases z:wF s0 with|false=>rfl|true=>obtain⟨_,s2,b,c⟩:=t.lk i s0 e z;rw[h]at b;cases b;rw[c.wF z]at a;cases a
structure Ut(F:Hp)(ρ:List Sl)(σ:_L.St)(H:Hp)(a:df)(xs:List V):Prop where kp:Kp ρ σ H a (.lst xs)fr:F a=b_
theorem Ut.stp{a:df}{xs:List V}(h:Ut F ρ σ H a xs)(s:bW K F ρ σ H F' ρ' σ' H'):Ut F' ρ' σ' H' a xs:=by refine⟨h.kp.stp s,?_⟩;cases z:F' a with|none=>rfl|some o=>
   rcases s.yF a h.fr (by rw[z];simp)with y|y;.exact absurd y h.kp.2
   .rw[h.kp.1]at y;cases y
structure Nw(K:PySem.W.Frag)(x:Nat)(q:df)(as:List df)(F:Hp)(ρ:List Sl)(σ:_L.St)(H:Hp)(rows:List (List D)):Prop where
 slot:ρ[x]?=aB (.hold rows)val:σ[x]?=aB (aB (.ref q))out:Ut F ρ σ H q (as.map V.ref)nd:(q::as).Nodup
 len:as.length=rows.length
 row:∀(k:Nat)(a:df)(ds:List D),as[k]?=aB a->rows[k]?=aB ds->Wt K F ρ σ H a ds
theorem Nw.stp(w:Nw K x q as F ρ σ H rows)(s:bW K F ρ σ H F' ρ' σ' H'):Nw K x q as F' ρ' σ' H' rows:=by obtain⟨b,s2,c,e⟩:=s.lk x _ w.slot rfl;cases(show s2=.hold rows from e);exact⟨c,b.trans w.val,w.out.stp s,w.nd,w.len,λk a f h1 g=>(w.row k a f h1 g).stp s⟩
structure NB(K:PySem.W.Frag)(x:Nat)(q:df)(as:List df)(F0:Hp)(ρ0:List Sl)(σ0:_L.St)(H0:Hp)(F:Hp)(ρ:List Sl)(σ:_L.St)(H:Hp)(rows:List (List D)):Prop where
 stp:bW K F0 ρ0 σ0 H0 F ρ σ H
 fresh:∀b,b∈q::as->Own ρ0 σ0 b\/H0 b=b_
 free:∀s0,ρ0[x]?=aB s0->wF s0=a_
 nw:Nw K x q as F ρ σ H rows
theorem NB.step(b:NB K x q as F0 ρ0 σ0 H0 F ρ σ H rows)(s:bW K F ρ σ H F' ρ' σ' H'):NB K x q as F0 ρ0 σ0 H0 F' ρ' σ' H' rows:=⟨b.stp.trans s,b.fresh,b.free,b.nw.stp s⟩
theorem uO{s:Sl}{a:df}{b:HO}(c:JZ s=ck)(h:Kp ρ σ H a b):Kp (ρ.set x s) (σ.set x o) H a b:=⟨h.1,λ⟨i,z⟩=>h.2 ⟨i,(iR c z).1⟩⟩
theorem Bv{s:Sl}{a:df}{b:List D}(c:JZ s=ck)(h:Wt K F ρ σ H a b):Wt K F (ρ.set x s) (σ.set x o) H a b:=by obtain⟨⟨xs,h1,e⟩,f⟩:=h;exact⟨⟨xs,uO c h1,e⟩,f⟩
theorem bW.adx{Da:df}{o:HO}(s:bW K F ρ σ H F1 ρ1 σ1 H1)(h:Own ρ σ Da\/H Da=b_)(j:F1 Da=b_)(ho:¬ Own ρ1 σ1 Da):bW K F ρ σ H F1 ρ1 σ1 (upd H1 Da o):=by
 refine⟨⟨λb u e=>?_,s.gs.len,s.gs.val,λi t c e f=>?_,s.gs.dis⟩,s.cD,s.yF,λb u e n=>?_,s.wJ,s.len,s.lk⟩
 . have:b≠Da:=by rintro rfl;rw[j]at e;cases e
   rw[aL this];exact s.gs.sub b u e
 . obtain⟨a,xs,g,l,m,p⟩:=s.gs.own i t c e f;have:a≠Da:=by rintro rfl;exact ho ⟨i,⟨t,c,e,f⟩,g⟩
   exact⟨a,xs,g,by rw[aL this];exact l,m,p⟩
 . have:b≠Da:=by
    rintro rfl;rcases h with h|h;.exact n h
    .rw[h]at e;cases e
   rw[aL this];exact s.keep b u e n
theorem NB.mut{r:Nat}{a:df}{e:List D}{ys:List V}(b:NB K x q as F0 ρ0 σ0 H0 F ρ σ H rows)(g:as[r]?=aB a)(hr:rows[r]?=aB row)(n:aN K F ys e):NB K x q as F0 ρ0 σ0 H0 F (ρ.set x (.hold (rows.set r e))) σ (upd H a (.lst ys)) (rows.set r e):=by
 have w:=b.nw.row r a row g hr;obtain⟨⟨xs,l,r1⟩,f1⟩:=w;have p:x<ρ.length:=(fZ b.nw.slot).1;have sx:σ.set x (aB (.ref q))=σ:=by have:=b.nw.val;obtain⟨h1,f⟩:=fZ this;rw[<-f];simp
 have mem:a∈q::as:=fv _ (jv g);have s1:=(b.stp.adx (o:=.lst ys) (b.fresh a mem) f1 l.2).xZ (x:=x) (s:=.hold (rows.set r e)) (o:=aB (.ref q)) rfl b.free;rw[sx]at s1;have t:q≠a:=by have:=(gS.mp b.nw.nd).1;rintro rfl;exact this (jv g)
 have own:∀{c:df},¬ Own ρ σ c->¬ Own (ρ.set x (.hold (rows.set r e))) σ c:=λ{c}h⟨i,z⟩=>h ⟨i,by have:=iR (x:=x) (s:=.hold (rows.set r e)) (o:=aB (.ref q)) (σ:=σ) (ρ:=ρ) rfl (b:=c) (i:=i) (by rw[sx];exact z);exact this.1⟩;refine⟨s1,b.fresh,b.free,⟨dr p,b.nw.val,⟨⟨by rw[aL t];exact b.nw.out.kp.1,own b.nw.out.kp.2⟩,b.nw.out.fr⟩,b.nw.nd,by simp[b.nw.len],λk c u h1 f=>?_⟩⟩;by_cases j:k=r;.subst j;rw[g]at h1;cases h1;have v:k<rows.length:=(fZ hr).1;rw[dr v]at f;cases f;exact⟨⟨ys,⟨aW,own l.2⟩,n⟩,f1⟩
 . rw[fF (λz=>j z.symm)]at f;obtain⟨⟨y,m,A⟩,f2⟩:=b.nw.row k c u h1 f;have B:c≠a:=by rintro rfl;have nd:=(gS.mp b.nw.nd).2;obtain⟨l1,C⟩:=fZ h1;obtain⟨G,E⟩:=fZ g;exact j ((List.getElem_inj nd).mp (C.trans E.symm))
   exact⟨⟨y,⟨by rw[aL B];exact m.1,own m.2⟩,A⟩,f2⟩
noncomputable def Fz(F H:Hp)(bs:List df):Hp:=λb=>if b∈bs then H b else F b
theorem ud{G:Hp}:∀{as:List df}{rows:List (List D)},as.length=rows.length->(∀(k:Nat)(a:df)(c:List D),as[k]?=aB a->rows[k]?=aB c->Rep K G (.ref a) (.lst c))->aN K G (as.map V.ref) (rows.map D.lst)|[],[],_,_=>.nil|a::as,c::rows,h,k=>.cons (k 0 a c rfl rfl) (ud (by simpa using h) λj b es h1 e=>k (j+1) b es (by simpa using h1) (by simpa using e))|[],_::_,h,_=>by simp at h|_::_,[],h,_=>by simp at h
theorem Nw.Px(w:Nw K x q as F ρ σ H rows){b:df}(hb:b∈q::as):F b=b_/\¬ Own ρ σ b:=by
 rcases et.mp hb with rfl|hb;.exact⟨w.out.fr,w.out.kp.2⟩
 . obtain⟨k,a⟩:=k6 hb;have c:k<rows.length:=by rw[<-w.len];exact(fZ a).1
   obtain⟨⟨xs,e,_⟩,f1⟩:=w.row k b rows[k] a (by simp[c]);exact⟨f1,e.2⟩
theorem Nw.fz(w:Nw K x q as F ρ σ H rows)(sm:aP F H):aP F (Fz F H (q::as))/\aP (Fz F H (q::as)) H/\Rep K (Fz F H (q::as)) (.ref q) (.lst (rows.map D.lst)):=by
 have s1:aP F (Fz F H (q::as)):=λb o e=>by unfold Fz;rw[if_neg λc=>by rw[(w.Px c).1]at e;cases e];exact e
 refine⟨s1,λb o e=>?_,?_⟩
 . unfold Fz at e;split at e;.exact e
   .exact sm b o e
 .rw[Rep];refine⟨q,as.map V.ref,rfl,fL.of (by unfold Fz;rw[if_pos iO];exact w.out.kp.1),ud w.len λk a f h1 g=>?_⟩;obtain⟨⟨xs,h,r1⟩,f1⟩:=w.row k a f h1 g;rw[Rep];exact⟨a,xs,rfl,fL.of (by unfold Fz;rw[if_pos (fv _ (jv h1))];exact h.1),r1.mono s1⟩
theorem NB.fO(b:NB K x q as F0 ρ0 σ0 H0 F ρ σ H rows):bW K F0 ρ0 σ0 H0 (Fz F H (q::as)) (ρ.set x (.val a_ (.lst (rows.map D.lst)))) σ H:=by
 obtain⟨s1,s2,y⟩:=b.nw.fz b.stp.gs.sub;have g:=b.stp.gs;have u:x<ρ.length:=(fZ b.nw.slot).1;have m:∀{j:Nat}{c:df},bN (ρ.set x (.val a_ (.lst (rows.map D.lst)))) σ j c->bN ρ σ j c/\x≠j:=λ{j c}⟨⟨t,s,e,p⟩,e1⟩=>by
  by_cases f:x=j;.subst f;rw[dr u]at e;cases e;cases p
  .rw[fF f]at e;exact⟨⟨⟨t,s,e,p⟩,e1⟩,f⟩
 refine⟨⟨s2,by simp[g.len],λi z d e=>?_,λi t s e p=>?_,λi j c h1 r=>g.dis i j c (m h1).1 (m r).1⟩,b.stp.cD.trans s1,λc n w=>?_,b.stp.keep,λc⟨j,h⟩=>b.stp.wJ c ⟨j,(m h).1⟩,by simp[b.stp.len],λi t e l=>?_⟩
 . by_cases f:x=i;.subst f;rw[dr u]at e;cases e;exact⟨_,b.nw.val,y⟩
   .rw[fF f]at e;obtain⟨v,h1,r⟩:=g.val i z d e;exact⟨v,h1,r.mono s1⟩
 . by_cases f:x=i;.subst f;rw[dr u]at e;cases e;cases p
   .rw[fF f]at e;obtain⟨a,o,h1,r,A,B⟩:=g.own i t s e p;refine⟨a,o,h1,r,?_,B.mono s1⟩;unfold Fz;rw[if_neg λC=>(b.nw.Px C).2 ⟨i,⟨t,s,e,p⟩,h1⟩];exact A
 . by_cases hc:c∈q::as;.exact(b.fresh c hc).imp id lJ
   . have:Fz F H (q::as) c=F c:=by unfold Fz;rw[if_neg hc]
     rw[this]at w;exact b.stp.yF c n w
 . have c:x≠i:=by rintro rfl;rw[b.free _ e]at l;cases l
   obtain⟨E,s3,G,I⟩:=b.stp.lk i t e l;exact⟨E,s3,by rw[fF c];exact G,I⟩
end
inductive YS(K:PySem.W.Frag)(x:Nat)(f:List Sl->Res Fl)(E:Ends)(σ:_L.St)(H:Hp):Prop where|mk(F0:Hp)(ρ0:List Sl)(σ0:_L.St)(H0 F:Hp)(ρ:List Sl)(q:df)(as:List df)(rows:List (List D))(fl:Fl)(ρ':List Sl)(b:NB K x q as F0 ρ0 σ0 H0 F ρ σ H rows)(e:f ρ=.ok fl ρ')(k:∀F' σ' H',bW K F0 ρ0 σ0 H0 F' ρ' σ' H'->aP F F'->((∀r,fl≠.ret r)->∃n6,NB K x q as F0 ρ0 σ0 H0 F' ρ' σ' H' n6)->HY K E F' ρ' σ' H' ρ0 σ0 H0 fl)
inductive Yt(K:PySem.W.Frag)(x:Nat)(f:List Sl->Res Fl)(E:Ends)(σ:_L.St)(H:Hp):Prop where|mk(F0:Hp)(ρ0:List Sl)(σ0:_L.St)(H0 F:Hp)(ρ:List Sl)(q:df)(as:List df)(rows:List (List D))(fl:Fl)(ρ':List Sl)(b:NB K x q as F0 ρ0 σ0 H0 F ρ σ H rows)(e:f ρ=.ok fl ρ')(k:∀F' σ' H',bW K F0 ρ0 σ0 H0 F' ρ' σ' H'->HY K E F' ρ' σ' H' ρ0 σ0 H0 fl)
structure QJ(X:Cx)(c:Call)(n x:Nat)(st:fR)(s:S):Prop where p:PS X st (YS X.K x (ex c n s))
structure SBN(X:Cx)(c:Call)(n x:Nat)(st:List fR)(s:List S):Prop where p:yR X st (YS X.K x (ji c n s))
structure SBT(X:Cx)(c:Call)(n x:Nat)(st:List fR)(s:List S):Prop where p:yR X st (Yt X.K x (ji c n s))
section
variable{X:Cx}{c:Call}{n x:Nat}{e a b d tg iter:ek}{p pa pb pd:P}{pos:Pos}{body:List fR}{ss:List S}{st:fR}{s:S}{sts:List fR}
theorem Ae(h:SS X c n st s):QJ X c n x st s:=by refine⟨fY h ?_⟩;rintro D σ H⟨A,l,m,B,F,ρ,q,as,rows,j,g,f,e,k⟩;refine⟨F,ρ,j,g,f.stp.gs,e,λu i w t=>?_⟩;have z:=k u i w (f.stp.trans t) t.cD λ_=>⟨rows,f.step t⟩;cases j with|next=>exact z|brk=>exact z|cont=>exact z|ret r=>exact λv y=>z v (y.later f.stp)
theorem qw:SBN X c n x [] []:=⟨o5 vY λD σ H⟨f,ρ0,σ0,H0,F,ρ,q,as,rows,fl,ρ',nb,e,k⟩=>by rw[xs0]at e;cases e;exact k F σ H nb.stp (.refl _) λ_=>⟨rows,nb⟩⟩
theorem gQ(h1:QJ X c n x st s)(w:SBN X c n x sts ss):SBN X c n x (st::sts) (s::ss):=by refine⟨o5 (jW h1.p w.p) ?_⟩;rintro D σ H⟨h,f,g,i,F,ρ,q,as,rows,y,t,l,e,k⟩;rw[Vi]at e;obtain⟨f1,j,m,e⟩:=aj e;cases f1 with|next=>refine⟨h,f,g,i,F,ρ,q,as,rows,.next,j,l,m,λF1 A J s1 sm nn=>?_⟩;obtain⟨B,C⟩:=nn (λr z=>by cases z);exact⟨h,f,g,i,F1,j,q,as,B,y,t,C,e,λE u G s2 I v=>k E u G s2 (sm.trans I) v⟩|brk=>cases e;exact⟨h,f,g,i,F,ρ,q,as,rows,.brk,_,l,m,k⟩|cont=>cases e;exact⟨h,f,g,i,F,ρ,q,as,rows,.cont,_,l,m,k⟩|ret r=>cases e;exact⟨h,f,g,i,F,ρ,q,as,rows,.ret r,_,l,m,k⟩
theorem rH(h1:QJ X c n x st s)(w:SBT X c n x sts ss):SBT X c n x (st::sts) (s::ss):=by refine⟨o5 (jW h1.p w.p) ?_⟩;rintro D σ H⟨j,g,h,l,F,ρ,q,as,rows,y,v,t,e,k⟩;rw[Vi]at e;obtain⟨f1,m,u,e⟩:=aj e;cases f1 with|next=>refine⟨j,g,h,l,F,ρ,q,as,rows,.next,m,t,u,λF1 f i s1 sm nn=>?_⟩;obtain⟨A,B⟩:=nn (λr z=>by cases z);exact⟨j,g,h,l,F1,m,q,as,A,y,v,B,e,k⟩|brk=>cases e;exact⟨j,g,h,l,F,ρ,q,as,rows,.brk,_,t,u,λF1 f i s1 _ _=>k F1 f i s1⟩|cont=>cases e;exact⟨j,g,h,l,F,ρ,q,as,rows,.cont,_,t,u,λF1 f i s1 _ _=>k F1 f i s1⟩|ret r=>cases e;exact⟨j,g,h,l,F,ρ,q,as,rows,.ret r,_,t,u,λF1 f i s1 _ _=>k F1 f i s1⟩
theorem Bf(h:SB X c n sts ss):SBT X c n x sts (.fO x::ss):=by refine⟨o5 h ?_⟩;rintro D σ H⟨C,m,u,E,F,ρ,q,as,rows,i,f,j,e,k⟩;rw[Vi]at e;obtain⟨f1,w,l,e⟩:=aj e;rw[_H.X23,j.nw.slot]at l;cases l;have t:=j.fO;refine⟨_,_,i,f,t.gs,e,λy g A s=>?_⟩;have z:=k y g A (t.trans s);cases i with|next=>exact z|brk=>exact z|cont=>exact z|ret r=>exact λv B=>z v (B.later t)
theorem Iv{ρ:List Sl}(h:gh ρ x=aB rows):ρ[x]?=aB (.hold rows):=by
 unfold gh at h;split at h;.rename_i z;cases h;exact z
 .cases h
noncomputable def WalkN(K:PySem.W.Frag)(J:It)(i:List D)(F1:Hp):Prop:=∀(k:Nat)(h f:Hp),aP F1 h->aP h f->(∀d,i[k]?=aB d->J.go k f/\∀x j,J.Kc k f x j->∃g,Ext h f g j/\Rep K g x d)/\(i.length<=k->J.stop k f)
inductive acP(K:PySem.W.Frag)(f:Ev)(σ:_L.St)(H:Hp)(R:It->Hp->Prop):Prop where|mk(F:Hp)(ρ:List Sl)(r:_H.R)(ρ1:List Sl)(ds:List D)(g:GS K F ρ σ H)(e:f ρ=.ok r ρ1)(e2:items r.d=aB ds)(k:∀J F1 H1,bW K F ρ σ H F1 ρ1 σ H1->WalkN K J ds F1->R J H1)
structure SIN(X:Cx)(c:Call)(tg e:ek)(p:P):Prop where p:PI X tg e (acP X.K (_H.ev c p))
theorem vd(h:SX X c e p):SIN X c tg e p:=by refine⟨mX (uQ h.ev) ?_⟩;rintro σ H R⟨F,ρ,r,m,w,g,e,f,k⟩;refine⟨F,ρ,r,m,g,e,λv y z s t=>?_⟩;obtain⟨A,s2,_,i⟩:=s.fO t;cases hd:r.d with|tup es=>rw[hd]at i f;cases f;rw[Rep]at i;obtain⟨a,xs,rfl,h1,q⟩:=i;exact⟨a,rfl,.inr ⟨⟨xs,aP.iI s2.gs.sub h1⟩,k _ _ _ s2 λk F3 u j l=>Dg (aP.iI l (aP.iI j h1)) (q.mono j) l k⟩⟩|lst es=>rw[hd]at i f;cases f;rw[Rep]at i;obtain⟨a,xs,rfl,h1,q⟩:=i;exact⟨a,rfl,.inl ⟨⟨xs,s2.gs.sub.seq h1⟩,k _ _ _ s2 λk F3 u j l=>rA (l.seq (j.seq h1)) (q.mono j) l k⟩⟩|_=>rw[hd]at f;cases f
theorem Ds{K:PySem.W.Frag}{F1:Hp}(i j:Int):WalkN K (Vw i (j-i).toNat) ((dV (j-i).toNat).map λ(k:Nat)=>D.int (i+(k:Int))) F1:=by
 refine λk g u _ sm=>⟨λd hd=>?_,λh=>?_⟩;.rw[ey]at hd;obtain⟨m,l,q⟩:=map_some hd;obtain⟨h1,f⟩:=fZ l;rw[mn]at f;subst f;subst q;rw[j_]at h1;refine⟨h1,?_⟩;rintro x v⟨r,t⟩;subst r;subst t;exact⟨g,.refl sm,bM _⟩
 .rw[eu,j_]at h;exact h
theorem HB{x:Str}{t:Pos}(w:x="range")(y:Gl X x)(z:X.mg x=b_)(A:SX X c a pa)(B:SX X c b pb)(hs:dy [a,b] X.env=[(a_,fg a X.env),(a_,fg b X.env)]:=by rfl)(h:dy [b] X.env=[(a_,fg b X.env)]:=by rfl):SIN X c tg (.Call (.Name x t) [a,b] [] pos) (.nY pa pb):=by subst w;obtain⟨U,W,h1,C,E⟩:=A.jf B;refine⟨mX (uE y z (dm h1 (dm C iG h) (by rw[hs,h])) hs h) ?_⟩;rintro σ H R⟨F,ρ,r,G,Y,g,l,I,k⟩;rw[_H.E20]at l;obtain⟨Z,J,L,f⟩:=aj l;have M:=aH f;clear f;obtain⟨f,N⟩:=M;subst N;obtain⟨i,f1,f⟩:=bz f;obtain⟨j,f2,f⟩:=bz f;obtain⟨⟨b1,b2,b3,b4⟩,f⟩:=bK f;subst f;cases I;have f1:=bw f1;have f2:=bw f2;refine E g L λv u O Q s m q=>?_;rw[f1]at m;rw[f2]at q;refine⟨i,j,by rw[m.int,q.int],⟨by lia,by lia,by lia,by lia⟩,?_⟩;exact k _ O Q s (Ds i j)
theorem qj{g:TG}{is:List Nat}{one:Bool}(hp:nL (dS X.prog X.w) X.A X.env X.xe)(hc:X.calm=ck)(hi:SIN X c tg iter p)(hg:PG X tg g)(ac:Jq X.K (λρ d=>bV ρ is one d) g)(hb:SBN X c n x body ss)(hs:∀x,fT iter X.env x=fI x:=by intro _;rfl):QJ X c n x (.For tg iter body [] pos) (.yE p is one ss):=by
 refine⟨fY (zB hp hc hi.p hg hb.p hs) ?_⟩;rintro D σ H⟨F0,E,G,H0,F,ρ,q,as,rows,fl,N,nb,e,k⟩;rw[_H.X22]at e;obtain⟨r,O,e1,e⟩:=aj e;obtain⟨j,ag,e9,e2⟩:=aj e;have zz:=aH e9;clear e9;obtain⟨e9,ZP⟩:=zz;subst ZP;refine⟨F,ρ,r,O,j,nb.stp.gs,e1,e9,λJ F1 H1 s1 w=>?_⟩;refine⟨λi m t Hi=>∃C f M,NB X.K x q as F0 E G H0 C f t Hi M/\aP F1 C/\m=j.length-i/\i<=j.length/\jh is one (ji c n ss) (j.drop i) f=.ok fl N,⟨_,F1,O,rows,nb.step s1,.refl _,rfl,wI,e2⟩,?_⟩;rintro i m t Hi⟨C,f,M,Q,Wq,rfl,ah,l⟩;obtain⟨w1,w2⟩:=w i C Hi Wq Q.stp.gs.sub;by_cases u:i<j.length
 . right;have hd:j[i]?=aB j[i]:=by simp[u]
   obtain⟨go,step⟩:=w1 _ hd;refine⟨go,λU W=>∃m',m'<j.length-i/\∃C f M,NB X.K x q as F0 E G H0 C f U W M/\aP F1 C/\m'=j.length-(i+1)/\i+1<=j.length/\jh is one (ji c n ss) (j.drop (i+1)) f=.ok fl N,λU W z=>z,λy W yy=>?_⟩;obtain⟨F2,ext,rx⟩:=step y W yy;have t2:=ext.stp Q.stp.gs;rw[gY u,zQ]at l;cases hbd:bV f is one j[i]with|none=>rw[hbd]at l;cases l|some Y=>rw[hbd]at l;obtain⟨Z,I,eb,l⟩:=aj l;refine ac y _ F2 f Y t W _ t2.gs rx hbd λai sb=>?_;have t3:=t2.trans sb;refine⟨F0,E,G,H0,F2,Y,q,as,M,Z,I,Q.step t3,eb,λF4 ab H4 s4 ae L=>?_⟩;have B:aP F1 F4:=Wq.trans (ext.fs.trans ae);cases Z with|next=>obtain⟨Ko,Bd⟩:=L (λr z=>by cases z);exact⟨_,by lia,F4,I,Ko,Bd,B,rfl,u,l⟩|cont=>obtain⟨Ko,Bd⟩:=L (λr z=>by cases z);exact⟨_,by lia,F4,I,Ko,Bd,B,rfl,u,l⟩|brk=>cases l;exact k F4 ab H4 s4 (s1.cD.trans B) λ_=>L (λr z=>by cases z)|ret r=>cases l;exact λv rr=>k F4 ab H4 s4 (s1.cD.trans B) (λh=>(h r rfl).elim) v rr
 . left;have af:j.drop i=[]:=by rw[li];lia
   rw[af,Hv]at l;cases l;exact⟨w2 (by lia),k C t Hi Q.stp (s1.cD.trans Wq) λ_=>⟨M,Q⟩⟩
end
section
variable{X:Cx}{c:Call}{n:Nat}{e a b d i j:ek}{p pa pb pd pi pj:P}{pos:Pos}
theorem vo{ρ f:List Sl}{x:Nat}{o:Option (List (List D))}{g:Fl}(h:vH ρ x o=.ok g f):∃rows,o=aB rows/\g=.next/\f=ρ.set x (.hold rows):=by cases o with|none=>cases h|some rows=>cases h;exact⟨rows,rfl,rfl,rfl⟩
section
variable{K:PySem.W.Frag}{F H F0 H0:Hp}{ρ ρ0:List Sl}{σ σ0:_L.St}{x:Nat}{q:df}{as:List df}{rows n6:List (List D)}
theorem NB.hold(f:NB K x q as F0 ρ0 σ0 H0 F ρ σ H rows)(h:gh ρ x=aB n6):n6=rows:=by have:=Iv h;rw[f.nw.slot]at this;cases this;rfl
theorem NB.at{k:Int}{r:Nat}(f:NB K x q as F0 ρ0 σ0 H0 F ρ σ H rows)(h1:_H.lD rows.length k=aB r)(h:rows[r]?=aB row):∃a ys,as[r]?=aB a/\Hk (as.map V.ref) k=aB (.ref a)/\H a=aB (.lst ys)/\aN K F ys row:=by
 have g:r<as.length:=by rw[f.nw.len];exact(fZ h).1
 obtain⟨⟨ys,l,r1⟩,_⟩:=f.nw.row r as[r] row (by simp[g]) h;refine⟨as[r],ys,by simp[g],?_,l.1,r1⟩;unfold Hk;rw[eu,f.nw.len];rw[show _L.lD rows.length k=aB r from h1];simp[g]
theorem NB.fV{g:D}{row:List D}(l:NB K x q as F0 ρ0 σ0 H0 F ρ σ H rows)(h:_H.fV ρ x g=aB row):∃k a,(∃r:Nat,as[r]?=aB a)/\Hk (as.map V.ref) k=aB (.ref a)/\g=.int k/\∃ys,H a=aB (.lst ys)/\aN K F ys row:=by unfold _H.fV at h;obtain⟨f,h1,h⟩:=bz h;cases l.hold h1;obtain⟨k,m,h⟩:=bz h;obtain⟨r,s,t⟩:=bz h;obtain⟨a,ys,u,v,w,y⟩:=l.at s t;exact⟨k,a,⟨r,u⟩,v,bw m,ys,w,y⟩
theorem ql{ys:List V}{k:Int}{d:D}(r:aN K F ys row)(h:at' row k=aB d):∃w,Hk ys k=aB w/\Rep K F w d:=by obtain⟨j,h1,f⟩:=Io h;obtain⟨w,g,l⟩:=r.get f;exact⟨w,by unfold Hk;rw[r.length,h1];exact g,l⟩
end
theorem tW{l:List (List D)}{k:Int}{f:List D->Option (List D)}(h:gA rows k f=aB l):∃r row g,_H.lD rows.length k=aB r/\rows[r]?=aB row/\f row=aB g/\l=rows.set r g:=by unfold gA at h;obtain⟨r,h1,h⟩:=bz h;obtain⟨row,m,h⟩:=bz h;obtain⟨g,q,h⟩:=map_some h;exact⟨r,row,g,h1,m,q,h.symm⟩
theorem qN{l:Int}{d:D}{f:List D}(h:setAt l d row=aB f):∃m,_H.lD row.length l=aB m/\f=row.set m d:=by obtain⟨m,h1,g⟩:=map_some h;exact⟨m,h1,g.symm⟩
theorem wU{x:Str}{k:Nat}{r f g w y z Y:Pos}{o:nk}{sub:Bool}{s t:ek}(hN:X.N[k]?=aB x)(hv:u0 X.env.scope x)(hi:SX X c i pi)(hj:SX X c j pj)(ab:SX X c s pi)(ac:SX X c t pj)(he:SX X c e p)(ho:(o=.Sub/\sub=ck)\/(o=.Add/\sub=a_))(ae:gM i:=by intro _ _;rfl)(UL:gM s:=by intro _ _;rfl)(af:gM t:=by intro _ _;rfl)(ha:∀ v,i8 (.Subscript (.Subscript (.Name x r) i f) j g) X.env v=(do
  let Z<-im [v] (fg (.Subscript (.Name x r) i f) X.env)let iv<-im [v,Z] (fg j X.env)mR g
  im [v,Z,iv] (mS Z iv v)qB [v,Z,iv] []):=by intro _;rfl)(hs:ki [.Subscript (.Subscript (.Name x r) i f) j g] (.BinOp (.Subscript (.Subscript (.Name x w) s y) t z) o e Y) pos.line X.env=fI a_:=by rfl)(hw:kl [.Subscript (.Subscript (.Name x r) i f) j g] (.BinOp (.Subscript (.Subscript (.Name x w) s y) t z) o e Y) X.env=fI b_:=by rfl)(h1:(ip [.Subscript (.Subscript (.Name x r) i f) j g] X.env).map (·.2)=[i8 (.Subscript (.Subscript (.Name x r) i f) j g) X.env]:=by rfl)(hd:(x==("__debug__":Str))=a_:=by decide)(A:(x==("__classdict__":Str))=a_:=by decide):QJ X c n k (.Assign [.Subscript (.Subscript (.Name x r) i f) j g] (.BinOp (.Subscript (.Subscript (.Name x w) s y) t z) o e Y) pos) (.yD k pi pj sub p):=by
 obtain⟨ti,ag,ah⟩:=hi.bU;obtain⟨tj,ai,am⟩:=hj.bU;obtain⟨B,UT,C⟩:=ab.bU;obtain⟨G,I,J⟩:=ac.bU;obtain⟨te,L,ap⟩:=he.bU;have M:PE X (.Subscript (.Subscript (.Name x w) s y) t z) (Bw (zW X.K) (Bw (zW X.K) (Fj k) B) G):=nC iB (nC iB (fc hN hv hd A) UT UL) I af;have val:PE X (.BinOp (.Subscript (.Subscript (.Name x w) s y) t z) o e Y) (λσ H Q=>t2I (Bw (zW X.K) (Bw (zW X.K) (Fj k) B) G) te (λi j H2=>Q (.int (if sub then i-j else i+j)) H2) σ H):=by
  rcases ho with⟨rfl,rfl⟩|⟨rfl,rfl⟩;.exact Uv M L
  .exact Jt M L
 refine⟨fY (sI val (vm (nC iB (fc hN hv hd A) ag ae) ai set_list ha) hs hw h1) ?_⟩;rintro E σ H⟨F0,bo,bp,H0,F,ρ,q,as,rows,fl,bq,nb,e,kk⟩;rw[_H.X19]at e;obtain⟨dk,br,e2,e⟩:=aj e;obtain⟨bt,bg,e8,e⟩:=aj e;have O:=aH e8;clear e8;obtain⟨e8,ar⟩:=O;subst ar;obtain⟨dl,bv,e3,e⟩:=aj e;obtain⟨u,bi,h,e⟩:=aj e;have O:=aH h;clear h;obtain⟨h,ZP⟩:=O;subst ZP;obtain⟨dw,bE,av,e⟩:=aj e;obtain⟨bP,bS,aw,e⟩:=aj e;obtain⟨bm,bn,Ot,e⟩:=aj e;have O:=aH Ot;clear Ot;obtain⟨Ot,UW⟩:=O;subst UW;obtain⟨dl2,bX,ax,e⟩:=aj e;obtain⟨rs,l,rfl,rfl⟩:=vo e;refine⟨.ref q,nb.nw.val,C nb.stp.gs e2 λvi F1 H1 s1 pi=>?_⟩;have wK:=nb.step s1;obtain⟨k0,a,g1,g2,g0,_⟩:=wK.fV e8;rw[g0]at pi;refine⟨q,_,k0,_,rfl,pi.int,fL.of wK.nw.out.kp.1,g2,J wK.stp.gs e3 λvj F2 H2 s2 pj=>?_⟩;have Gk:=wK.step s2;obtain⟨ZQ,ay,h⟩:=bz h;obtain⟨ca,a2,w1,w2,w0,ys,w3,w4⟩:=Gk.fV ay;rw[g0]at w0;cases w0;rw[g2]at w2;cases w2;obtain⟨l0,aE,h⟩:=bz h;obtain⟨du,aI,h⟩:=bz h;cases bw h;rw[bw aE]at pj;obtain⟨vu,y1,y2⟩:=ql w4 aI;rw[Rep]at y2;subst y2;refine⟨a,ys,l0,_,rfl,pj.int,fL.of w3,y1,ap Gk.stp.gs av λvw F3 H3 s3 pw=>?_⟩;have Ou:=Gk.step s3;obtain⟨aS,e5,l⟩:=bz l;obtain⟨U,aT,l⟩:=bz l;rw[bw aT]at pw;refine⟨u,U,rfl,pw.int,?_⟩;refine⟨.ref q,nb.nw.val,ah Ou.stp.gs aw λcb F4 H4 s4 ZR=>?_⟩;have Bd:=Ou.step s4;obtain⟨k3,a3,x1,x2,x0,_⟩:=Bd.fV Ot;rw[x0]at ZR;refine⟨q,_,k3,_,rfl,ZR.int,fL.of Bd.nw.out.kp.1,x2,am Bd.stp.gs ax λcf F5 H5 s5 ZS=>?_⟩;have U0:=Bd.step s5;cases U0.hold e5;obtain⟨k1,e6,l⟩:=bz l;obtain⟨l1,e7,l⟩:=bz l;obtain⟨m,row,ju,f1,f2,f3,rfl⟩:=tW l;obtain⟨m2,f4,rfl⟩:=qN f3;have:=bw e6;rw[x0]at this;cases this;rw[bw e7]at ZS;obtain⟨a',W,ZV,U3,ZW,U4⟩:=U0.at f1 f2;rw[x2]at U3;cases U3;have ba:aN X.K F5 (W.set m2 (.int (if sub then u-U else u+U))) (row.set m2 (.int (if sub then u-U else u+U))):=U4.set (bM _) m2;have ZX:=U0.mut ZV f2 ba;refine⟨a3,W,l1,m2,rfl,ZS.int,ZW,by rw[U4.length];exact f4,?_⟩;exact kk F5 σ _ ZX.stp (s1.cD.trans (s2.cD.trans (s3.cD.trans (s4.cD.trans s5.cD)))) λ_=>⟨_,ZX⟩
end
section
variable{K:PySem.W.Frag}{F H F0 H0:Hp}{ρ ρ0:List Sl}{σ σ0:_L.St}{x y:Nat}{q:df}{as:List df}{rows n6:List (List D)}
theorem NB.other{s1:Sl}(b:NB K x q as F0 ρ0 σ0 H0 F ρ σ H rows)(h:ρ[y]?=aB s1)(e:wF s1=a_):NB K x q as F0 ρ0 σ0 H0 F (ρ.set y .aM) (σ.set y o) H rows:=by
 have c:y≠x:=by rintro rfl;rw[b.nw.slot]at h;cases h;cases e
 refine⟨b.stp.xZ rfl (b.stp.free h e),b.fresh,b.free,⟨by rw[fF c];exact b.nw.slot,by rw[fF c];exact b.nw.val,⟨uO rfl b.nw.out.kp,b.nw.out.fr⟩,b.nw.nd,b.nw.len,λk a f h1 g=>Bv rfl (b.nw.row k a f h1 g)⟩⟩
theorem NB.nth{r:Nat}(b:NB K x q as F0 ρ0 σ0 H0 F ρ σ H rows)(c:rows[r]?=aB row):∃a ys,as[r]?=aB a/\H a=aB (.lst ys)/\aN K F ys row:=by
 have e:r<as.length:=by rw[b.nw.len];exact(fZ c).1
 obtain⟨⟨ys,f,r1⟩,_⟩:=b.nw.row r as[r] row (by simp[e]) c;exact⟨as[r],ys,by simp[e],f.1,r1⟩
end
section
variable{X:Cx}{c:Call}{n:Nat}{j k l:ek}{pj pk pl:P}{pos:Pos}
theorem J7{x y:Str}{kx ky:Nat}{px py B s t a Ov Ow mQ C:Pos}(hp:nL (dS X.prog X.w) X.A X.env X.xe)(hc:X.calm=ck)(ah:X.N.Nodup)(hx:X.N[kx]?=aB x)(ai:u0 X.env.scope x)(hy:X.N[ky]?=aB y)(am:Loc X.env.scope y)(ap:u0 X.env.scope y)(hj:SX X c j pj)(hk:SX X c k pk)(hl:SX X c l pl)(ar:gM k:=by intro _ _;rfl)(hpl:gM l:=by intro _ _;rfl)(ha:∀ v,i8 (.Subscript (.Name y B) j a) X.env v=(do
  let ov<-im [v] (fg (.Name y B) X.env)let iv<-im [v,ov] (fg j X.env)mR a
  im [v,ov,iv] (mS ov iv v)qB [v,ov,iv] []):=by intro _;rfl)(hs:ki [.Subscript (.Name y B) j a] (.BinOp (.Subscript (.Name y s) k Ov) .Add (.Subscript (.Name y t) l Ow) mQ) C.line X.env=fI a_:=by rfl)(hw:kl [.Subscript (.Name y B) j a] (.BinOp (.Subscript (.Name y s) k Ov) .Add (.Subscript (.Name y t) l Ow) mQ) X.env=fI b_:=by rfl)(h1:(ip [.Subscript (.Name y B) j a] X.env).map (·.2)=[i8 (.Subscript (.Name y B) j a) X.env]:=by rfl)(hf:∀z,fT (.Name x px) X.env z=fI z:=by intro _;rfl)(av:X.fn y=ck\/X.env.scope.names.lookup y=aB .local:=by first|(left;rfl)|(right;rfl)|assumption)(hd:(x==("__debug__":Str))=a_:=by decide)(aw:(x==("__classdict__":Str))=a_:=by decide)(ax:(y==("__debug__":Str))=a_:=by decide)(ay:(y==("__classdict__":Str))=a_:=by decide):QJ X c n kx (.For (.Name y py) (.Name x px) [.Assign [.Subscript (.Name y B) j a] (.BinOp (.Subscript (.Name y s) k Ov) .Add (.Subscript (.Name y t) l Ow) mQ) C] [] pos) (.Kh kx ky pj pk pl):=by
 obtain⟨tj,aE,aI⟩:=hj.bU;obtain⟨tk,aS,aT⟩:=hk.bU;obtain⟨tl,ba,bg⟩:=hl.bU;have vy:∀{p:Pos},PE X (.Name y p) (Fj ky):=λ{p}=>fc hy ap ax ay;have body:=jW (sI (Jt (pos:=mQ) (nC (pos:=Ov) iB (vy (p:=s)) aS ar) (nC (pos:=Ow) iB (vy (p:=t)) ba hpl)) (vm (vy (p:=B)) aE set_list ha) hs hw h1) vY;refine⟨fY (zB hp hc (uQ (fc hx ai hd aw)) (ak ah hy am av) body hf) ?_⟩;rintro E σ H⟨F0,W,Y,H0,F,ρ,q,as,rows,fl,Z,nb,e,kk⟩;rw[_H.X21]at e;obtain⟨rs,bi,e0,e⟩:=aj e;have I:=aH e0;clear e0;obtain⟨e0,Ay⟩:=I;subst Ay;cases nb.hold e0;refine⟨.ref q,nb.nw.val,q,rfl,.inl ⟨⟨_,fL.of nb.nw.out.kp.1⟩,?_⟩⟩;refine⟨λi m b Hi=>∃J f lu,NB X.K kx q as F0 W Y H0 J f b Hi lu/\aP F J/\m=rows.length-i/\i<=rows.length/\as.length=rows.length/\iH kx ky (bU (isVar pj) (_H.ev c pj)) (bU (isVar pk) (_H.ev c pk)) (bU (isVar pl) (_H.ev c pl)) (rows.length-i) i f=.ok fl Z,⟨_,F,ρ,rows,nb,.refl _,rfl,wI,nb.nw.len,e⟩,?_⟩;rintro i m b Hi⟨J,f,lu,L,Wq,rfl,cr,M,G⟩;by_cases O:i<rows.length
 . right;have ab:(as.map V.ref)[i]?=aB (.ref (as[i]'(by lia))):=by simp[M,O]
   refine⟨⟨_,_,fL.of L.nw.out.kp.1,ab⟩,λac H'=>∃m',m'<rows.length-i/\∃J f lu,NB X.K kx q as F0 W Y H0 J f ac H' lu/\aP F J/\m'=rows.length-(i+1)/\i+1<=rows.length/\as.length=rows.length/\iH kx ky (bU (isVar pj) (_H.ev c pj)) (bU (isVar pk) (_H.ev c pk)) (bU (isVar pl) (_H.ev c pl)) (rows.length-(i+1)) (i+1) f=.ok fl Z,λac H' z=>z,?_⟩;rintro v H'⟨rfl,hv⟩;have hv:=hv _ (fL.of L.nw.out.kp.1);rw[ab]at hv;cases hv;rw[show rows.length-i=(rows.length-(i+1))+1 by lia,iH]at G;obtain⟨cv,bi,e1,G⟩:=aj G;have I:=aH e1;clear e1;obtain⟨e1,bm⟩:=I;clear bm;obtain⟨s1,h0,bn,rfl⟩:=iQ e1;obtain⟨f1,cw,g,G⟩:=aj G;have ae:=L.other (y:=ky) (o:=aB (.ref (as[i]'(by lia)))) h0 bn;have bo:ky<b.length:=by rw[<-L.stp.gs.len];exact(fZ h0).1
   have Q:(b.set ky (aB (.ref (as[i]'(by lia)))))[ky]?=aB (aB (.ref (as[i]'(by lia)))):=dr bo;show Yh (Nq _ _) Qo _ (b.set ky (aB (.ref (as[i]'(by lia))))) H';generalize b.set ky (aB (.ref (as[i]'(by lia))))=cx at*;have Ox:as[i]?=aB (as[i]'(by lia)):=by simp[M,O]
   generalize as[i]'(by lia)=A at*;unfold rowOne at g;obtain⟨dk,cy,e2,g⟩:=aj g;obtain⟨u,ci,h,g⟩:=aj g;have I:=aH h;clear h;obtain⟨h,bp⟩:=I;subst bp;obtain⟨dl,cE,e4,g⟩:=aj g;obtain⟨w,cn,r,g⟩:=aj g;have I:=aH r;clear r;obtain⟨r,bq⟩:=I;subst bq;obtain⟨dj,cK,e6,g⟩:=aj g;obtain⟨rs,U,rfl,rfl⟩:=vo g--y[k]
   refine⟨_,Q,aT ae.stp.gs e2 λvk F1 H1 t1 pk=>?_⟩;have wK:=ae.step t1;obtain⟨cS,g1,h⟩:=bz h;cases wK.hold g1;obtain⟨row,g2,h⟩:=bz h;obtain⟨k1,g3,h⟩:=bz h;obtain⟨d1,g4,g5⟩:=bz h;cases bw g5;rw[bw g3]at pk;obtain⟨A1,Wo,x1,x2,x3⟩:=wK.nth g2;rw[Ox]at x1;cases x1;obtain⟨w1,y1,y2⟩:=ql x3 g4;rw[Rep]at y2;subst y2;refine⟨_,Wo,k1,_,rfl,pk.int,fL.of x2,y1,?_⟩--y[l]
   refine⟨_,Q,bg wK.stp.gs e4 λvl F2 H2 t2 pl=>?_⟩;have Gk:=wK.step t2;obtain⟨da,ZV,r⟩:=bz r;cases Gk.hold ZV;obtain⟨cp,U3,r⟩:=bz r;obtain⟨l1,ZW,r⟩:=bz r;obtain⟨d2,U4,br⟩:=bz r;cases bw br;rw[bw ZW]at pl;obtain⟨A2,Dr,af,bt,bv⟩:=Gk.nth U3;rw[Ox]at af;cases af;obtain⟨w2,bE,ag⟩:=ql bv U4;rw[Rep]at ag;subst ag;refine⟨_,Dr,l1,_,rfl,pl.int,fL.of bt,bE,u,w,rfl,rfl,?_⟩--y[j]=
   refine⟨_,Q,aI Gk.stp.gs e6 λvj F3 H3 t3 pj=>?_⟩;have Ou:=Gk.step t3;obtain⟨db,bP,U⟩:=bz U;cases Ou.hold bP;obtain⟨ZQ,ZZ,U⟩:=bz U;obtain⟨j1,bS,U⟩:=bz U;obtain⟨cq,bX,ca⟩:=map_some U;subst ca;obtain⟨m2,g6,rfl⟩:=qN bX;rw[bw bS]at pj;obtain⟨A3,cb,Z0,cf,Z1⟩:=Ou.nth ZZ;rw[Ox]at Z0;cases Z0;have Bd:=Ou.mut Ox ZZ (Z1.set (bM (u+w)) m2);refine⟨_,cb,j1,m2,rfl,pj.int,cf,by rw[Z1.length];exact g6,?_⟩;exact⟨_,by lia,F3,_,_,Bd,Wq.trans (t1.cD.trans (t2.cD.trans t3.cD)),rfl,O,M,G⟩
 . left;have h0:rows.length-i=0:=by lia
   rw[h0,iH]at G;cases G;exact⟨⟨_,fL.of L.nw.out.kp.1,by simp;lia⟩,kk J b Hi L.stp Wq λ_=>⟨_,L⟩⟩
end
section
variable{K:PySem.W.Frag}{F H F1 H1:Hp}{ρ ρ1:List Sl}{σ σ1:_L.St}
theorem bW.since{b:df}(s:bW K F ρ σ H F1 ρ1 σ1 H1)(h:H1 b=b_):Own ρ σ b\/H b=b_:=by
 by_cases ho:Own ρ σ b;.exact .inl ho
 .right;cases e:H b with|none=>rfl|some o=>rw[s.keep b o e ho]at h;cases h
theorem NB.mk'{x:Nat}{q:df}{as:List df}{s1:Sl}(s:bW K F ρ σ H F1 ρ1 σ1 H1)(e:ρ1[x]?=aB s1)(g:wF s1=a_)(h:Ut F1 ρ1 σ1 H1 q (as.map V.ref))(nd:(q::as).Nodup)(len:as.length=rows.length)(row:∀(k:Nat)(a:df)(c:List D),as[k]?=aB a->rows[k]?=aB c->Wt K F1 ρ1 σ1 H1 a c)(fr:∀b,b∈q::as->Own ρ σ b\/H b=b_):NB K x q as F ρ σ H F1 (ρ1.set x (.hold rows)) (σ1.set x (aB (.ref q))) H1 rows:=by
 have hi:x<ρ1.length:=(fZ e).1;have f:x<σ1.length:=by rw[<-s.gs.len];exact hi
 exact⟨s.xZ rfl (s.free e g),fr,s.free e g,⟨dr hi,dr f,⟨uO rfl h.kp,h.fr⟩,nd,len,λk a c h1 i=>Bv rfl (row k a c h1 i)⟩⟩
end
theorem Jj{K:PySem.W.Frag}{F H:Hp}{ρ e l:List Sl}{σ:_L.St}{ul:List Sl->List Sl}{ti:TI}{is:List Nat}{one:Bool}{c:Call}{el:Ev}{g:TG}{Q:VK}{f:List D}{m n:Nat}(hm:σ.length=m)(ax:pJ K m is one g)(ay:∀R:It->Hp->Prop,(∀J F1 Z,Walk K F ρ σ H ul J f F1 e Z->R J Z)->ti σ H R)(bm:f.length<=lim)(e2:iV is one el f [] (e++dA n .aM)=.ok rows l)(k:∀ q as F' H',bW K F ρ σ H F' (ul (l.take e.length)) σ H'->Ut F' (ul (l.take e.length)) σ H' q (as.map V.ref)->(q::as).Nodup->as.length=rows.length->(∀(k:Nat)(a:df)(f:List D),as[k]?=aB a->rows[k]?=aB f->Wt K F' (ul (l.take e.length)) σ H' a f)->(∀b,b∈q::as->Own ρ σ b\/H b=b_)->Q (.ref q) H'):tM n ti g (Hr K (jR c b_)) (zL K el) σ H Q:=by
 refine ay _ λJ F1 Z w Da Dq=>?_;have aE:e.length=σ.length:=w.gs.len;have gm:=w.gs.more (n:=n) (τ:=dA n b_) (by simp);have fD:F1 Da=b_:=by cases q:F1 Da with|none=>rfl|some o=>rw[w.gs.sub Da o q]at Dq;cases Dq
 have nO:¬ Own (e++dA n .aM) (σ++dA n b_) Da:=λ⟨i,⟨t,dt,q1,q2⟩,q3⟩=>by obtain⟨a,ys,z1,z2,_⟩:=gm.own i t dt q1 q2;rw[q3]at z1;cases z1;rw[Dq]at z2;cases z2
 refine⟨λi mm ys j N=>∃O u B as,bW K F1 (e++dA n .aM) (σ++dA n b_) Z O u j N/\j.take m=σ/\ys=as.map V.ref/\N Da=aB (.lst ys)/\O Da=b_/\¬ Own u j Da/\(Da::as).Nodup/\as.length=B.length/\(∀(k:Nat)(a:df)(f:List D),as[k]?=aB a->B[k]?=aB f->Wt K O u j N a f/\(Own (e++dA n .aM) (σ++dA n b_) a\/Z a=b_))/\B.length<=i/\mm=f.length-i/\i<=f.length/\iV is one el (f.drop i) B u=.ok rows l,⟨_,F1,_,[],[],(bW.refl gm).J4 Dq fD nO,by rw[mA (by lia),jU (by lia)],rfl,aW,fD,nO,by simp,rfl,λk a f h=>by simp at h,wI,rfl,wI,e2⟩,?_⟩;rintro i mm ys j N⟨O,u,B,as,si,ap,ab,hD,hF,hO,ac,C,I,bn,rfl,bo,G⟩;refine⟨hD,?_⟩;have stay:∀{F2 H2:Hp}{ae:List Sl}{L:_L.St},bW K O u j N F2 ae L H2->H2 Da=aB (.lst ys)/\F2 Da=b_/\¬ Own ae L Da:=λ{F2 H2 ae L}s=>by have:=(Ut.stp (xs:=ys) ⟨⟨hD,hO⟩,hF⟩ s);exact⟨this.kp.1,this.fr,this.kp.2⟩
 obtain⟨s1,s2⟩:=w.src n i O u j N si;by_cases af:i<f.length
 . right;have hd:f[i]?=aB f[i]:=by simp[af]
   obtain⟨go,step⟩:=s1 _ hd;refine⟨go,λx H2 y=>?_⟩;obtain⟨F2,ext,rx⟩:=step x H2 y;have t2:=ext.stp si.gs;rw[gY af,Ib]at G;cases hbd:bV u is one f[i]with|none=>rw[hbd]at G;cases G|some X=>rw[hbd]at G;obtain⟨re,ag,ee,G⟩:=aj G;cases re with|val _=>cases G|own ah=>
     replace G:iV is one el (f.drop (i+1)) (B++[ah]) ag=.ok rows l:=G;refine ax x _ F2 u X j H2 _ t2.gs rx hbd λL sb aI=>?_;have t3:=t2.trans sb;refine⟨F2,X,ck,X,t3.gs,by rw[jR],λF4 H4 s4=>?_⟩;have t4:=t3.trans s4;refine(show zL K el L H4 _ from⟨F4,X,.own ah,ag,t4.gs,ee,λv F5 H5 s5 rr=>?_⟩);have t6:=t4.trans s5;obtain⟨y1,y2,y3⟩:=stay t6;obtain⟨z1,z2,z3⟩:=stay t4;have ai:ys.length<sizeLine:=by have U:lim=sizeLine:=rfl;rw[ab,eu];lia
     obtain⟨A,xs,rfl,a1,a2,a3,a4,a5⟩:=rr;have ar:A≠Da:=by
      rintro rfl;rcases a5 with z|z;.exact z3 z
      .rw[z1]at z;cases z
     have nA:A∉as:=λhA=>by
      obtain⟨M,E⟩:=k6 hA;have am:M<B.length:=by rw[<-C];exact(fZ E).1
      obtain⟨⟨zs,k1,_⟩,_⟩:=(I M A B[M] E (by simp[am])).1.stp t4;rcases a5 with z|z;.exact k1.2 z
      .rw[k1.1]at z;cases z
     have fA:Own (e++dA n .aM) (σ++dA n b_) A\/Z A=b_:=by
      have t:=si.trans t4;rcases a5 with z|z;.exact t.wJ A z
      .exact t.since z
     refine⟨y1,ai,_,by lia,F5,ag,B++[ah],as++[A],(si.trans t6).J4 Dq y2 y3,aI.trans ap,by rw[ab];simp,aW,y2,y3,?_,by simp[C],λM a0 aS h1 U=>?_,by simp;lia,rfl,af,G⟩
     . rw[<-List.cons_append,List.nodup_append];refine⟨ac,by simp,λp hp r hr=>?_⟩;simp at hr;subst hr;rcases et.mp hp with rfl|hp;.exact λz=>ar z.symm
       .rintro rfl;exact nA hp
     . by_cases E:M<as.length
       . rw[dQ E]at h1;rw[dQ (by lia)]at U;obtain⟨w0,f0⟩:=I M a0 aS h1 U;obtain⟨⟨zs,k1,r1⟩,g1⟩:=w0.stp t6;have na:a0≠Da:=by rintro rfl;exact(gS.mp ac).1 (jv h1)
         exact⟨⟨⟨zs,⟨by rw[aL na];exact k1.1,k1.2⟩,r1⟩,g1⟩,f0⟩
       . rw[eF (by lia)]at h1;rw[eF (by lia)]at U;have:M-as.length=0:=by have:=(fZ h1).1;simp at this;exact this
         rw[this]at h1;rw[<-C,this]at U;cases h1;cases U;exact⟨⟨⟨xs,⟨by rw[aL ar];exact a1,a4⟩,a3⟩,a2⟩,fA⟩
 . left;have aT:f.drop i=[]:=by rw[li];lia
   rw[aT,JD]at G;cases G;refine⟨s2 (by lia),?_⟩;have Y:j.take e.length=σ:=by rw[aE,hm];exact ap
   obtain⟨l1,l2⟩:=bW.less (m:=e.length) rfl w.gs (by simp) si;rw[Y]at l1;obtain⟨z1,z2⟩:=w.fin _ _ _ _ l1--the outer list:with nothing in it,it is like any new one
   have ba:=si.J4 (o:=.lst []) Dq hF hO;obtain⟨av,Wl⟩:=bW.less (m:=e.length) rfl w.gs (by simp) ba;rw[Y]at av;obtain⟨bp,bg⟩:=w.fin _ _ _ _ av;have rr:dG K O l j (upd N Da (.lst [])) (e++dA n .aM) (σ++dA n b_) Z (.ref Da) (.own []):=⟨Da,[],rfl,aW,hF,.nil,hO,.inr Dq⟩;have Qv:=Wl _ _ rr;rw[Y]at Qv;obtain⟨_,_,q0,_,q3,_,q5,q6⟩:=bg _ _ Qv;cases q0;have aw:∀(k:Nat)(a:df)(f:List D),as[k]?=aB a->rows[k]?=aB f->Wt K O (ul (l.take e.length)) σ N a f/\(Own ρ σ a\/H a=b_):=λk a f h1 U=>by obtain⟨⟨⟨xs,k1,r1⟩,f1⟩,f2⟩:=I k a f h1 U;have rr:dG K O l j N (e++dA n .aM) (σ++dA n b_) Z (.ref a) (.own f):=⟨a,xs,rfl,k1.1,f1,r1,k1.2,f2⟩;have Qv:=l2 _ _ rr;rw[Y]at Qv;obtain⟨a',bi,q0,q2,q3,q4,q5,q6⟩:=z2 _ _ Qv;cases q0;exact⟨⟨⟨bi,⟨q2,q5⟩,q4⟩,q3⟩,q6⟩
   refine k Da as O N z1 ⟨⟨by rw[hD,ab],q5⟩,q3⟩ ac C (λk a f h1 U=>(aw k a f h1 U).1) λb hb=>?_;rcases et.mp hb with rfl|hb;.exact q6
   . obtain⟨M,E⟩:=k6 hb;have am:M<rows.length:=by rw[<-C];exact(fZ E).1
     exact(aw M b rows[M] E (by simp[am])).2
section
variable{X:Cx}{c:Call}{nn n:Nat}{tg iter elt:ek}{ps pe:P}{pos:Pos}{sts:List fR}{ss:List S}{scope:kB}{N':List Str}
theorem Cu{i:Nat}{x:Str}{b f:Pos}{g:TG}{is:List Nat}{one:Bool}(hc:X.calm=ck)(B:X.N.Nodup)(r:X.N[i]?=aB x)(E:Loc X.env.scope x)(ok:ie X scope N' n)(hi:SI X c tg iter ps)(G:∀cl C s₀ H₀ ex,PG (uh X scope N' cl C s₀ H₀ ex) tg g)(t:pJ X.K X.N.length is one g)(J:∀cl C s₀ H₀ ex,SQ (uh X scope N' cl C s₀ H₀ ex) c [] b_)(he:∀cl C s₀ H₀ ex,SX (uh X scope N' cl C s₀ H₀ ex) c elt pe)(hT:SBT X c nn i sts ss)(u:iL (.ListComp elt [⟨tg,iter,[],0⟩] scope pos) (aB (.Name x b)) f.line X.env=fI ck:=by rfl)(hs:∀x,fT iter X.env x=fI x:=by intro _;rfl)(L:X.fn x=ck\/X.env.scope.names.lookup x=aB .local:=by first|(left;rfl)|(right;rfl)|assumption):SB X c nn (.Assign [.Name x b] (.ListComp elt [⟨tg,iter,[],0⟩] scope pos) f::sts) (.FW i ps n is one pe::ss):=by
 have h0:=Cj (tt:=Hr X.K (jR c b_)) (te:=zL X.K (_H.ev c pe)) hc B r E ok hi G J (λcl C s₀ H₀ ex=>(he cl C s₀ H₀ ex).ev) u hs L;refine λj s σ H D I q=>jW h0 hT.p j s σ H D I ?_;have M:σ.length=X.N.length:=I.len;obtain⟨F,ρ,O,w,Q,e,U⟩:=q;rw[Vi]at e;obtain⟨f1,W,a,e⟩:=aj e;rw[_H.X18]at a;obtain⟨Y,y,Z,a⟩:=aj a;split at a;.rename_i l;obtain⟨rows,ab,e3,a⟩:=aj a;obtain⟨ac,A,m,a⟩:=aj a;cases a;have zz:=aH m;clear m;obtain⟨m,_⟩:=zz;obtain⟨s1,h1,h2,rfl⟩:=iQ m;refine(show tM n (tIt X.K (isVar ps) (_H.ev c ps)) g (Hr X.K (jR c b_)) (zL X.K (_H.ev c pe)) σ H (λv H1=>gj i v σ H1 (Yt X.K i (ji c nn ss) D))from Jj (c:=c) (ul:=bH ρ (isVar ps)) M t (λR h=>⟨F,ρ,Y,y,Q,Z,h⟩) l e3 λq as F' H' s wq nd len row fr=>?_);exact⟨F,ρ,σ,H,F',_,q,as,rows,O,w,NB.mk' s h1 h2 wq nd len row fr,e,λF2 z H2 s2=>U F2 z H2 s2⟩
 .cases a
end
section
variable{X:Cx}{c:Call}{n:Nat}{e a b d i j:ek}{p pa pb pd pi pj:P}{pos:Pos}
theorem Np{x:Str}{k:Nat}{t f g y z A B:Pos}{m:Str}{W:Pos}{r s:ek}(w:m="max")(hc:X.calm=ck)(ab:Gl X m)(ac:X.mg m=b_)(hN:X.N[k]?=aB x)(hv:u0 X.env.scope x)(hi:SX X c i pi)(hj:SX X c j pj)(ae:SX X c r pi)(af:SX X c s pj)(he:SX X c e p)(C:dy [.Subscript (.Subscript (.Name x y) r z) s A,e] X.env=(a_,fg (.Subscript (.Subscript (.Name x y) r z) s A) X.env)::dy [e] X.env:=by rfl)(G:dy [e] X.env=(a_,fg e X.env)::dy [] X.env:=by rfl)(hpl:(ka B (dy [e] X.env)).any (·.1)=a_:=by rfl)(ag:gM i:=by intro _ _;rfl)(UL:gM r:=by intro _ _;rfl)(ah:gM s:=by intro _ _;rfl)(ha:∀ v,i8 (.Subscript (.Subscript (.Name x t) i f) j g) X.env v=(do
  let Y<-im [v] (fg (.Subscript (.Name x t) i f) X.env)let iv<-im [v,Y] (fg j X.env)mR g
  im [v,Y,iv] (mS Y iv v)qB [v,Y,iv] []):=by intro _;rfl)(hs:ki [.Subscript (.Subscript (.Name x t) i f) j g] (.Call (.Name m W) [.Subscript (.Subscript (.Name x y) r z) s A,e] [] B) pos.line X.env=fI a_:=by rfl)(hw:kl [.Subscript (.Subscript (.Name x t) i f) j g] (.Call (.Name m W) [.Subscript (.Subscript (.Name x y) r z) s A,e] [] B) X.env=fI b_:=by rfl)(h1:(ip [.Subscript (.Subscript (.Name x t) i f) j g] X.env).map (·.2)=[i8 (.Subscript (.Subscript (.Name x t) i f) j g) X.env]:=by rfl)(hd:(x==("__debug__":Str))=a_:=by decide)(I:(x==("__classdict__":Str))=a_:=by decide):QJ X c n k (.Assign [.Subscript (.Subscript (.Name x t) i f) j g] (.Call (.Name m W) [.Subscript (.Subscript (.Name x y) r z) s A,e] [] B) pos) (.Zz k pi pj p):=by obtain⟨ti,ai,am⟩:=hi.bU;obtain⟨tj,ap,ar⟩:=hj.bU;obtain⟨av,UT,J⟩:=ae.bU;obtain⟨aw,L,M⟩:=af.bU;obtain⟨te,ax,ay⟩:=he.bU;have aE:PE X (.Subscript (.Subscript (.Name x y) r z) s A) (Bw (zW X.K) (Bw (zW X.K) (Fj k) av) aw):=nC iB (nC iB (fc hN hv hd I) UT UL) L ah;have val:=eN (pos:=B) (p:=W) (tZ hc) ab ac (by subst w;exact boot_max) (dm aE (dm ax iG (hs:=G)) (hs:=C)) (hn:=by subst w;decide) (hdb:=by subst w;decide) (he:=C) (hpl:=hpl);refine⟨fY (sI val (vm (nC iB (fc hN hv hd I) ai ag) ap set_list ha) hs hw h1) ?_⟩;rintro E σ H⟨F0,bE,bP,H0,F,ρ,q,as,rows,fl,bS,Z,e,kk⟩;rw[_H.X20]at e;obtain⟨dk,bX,e2,e⟩:=aj e;obtain⟨ca,bq,e8,e⟩:=aj e;have O:=aH e8;clear e8;obtain⟨e8,aI⟩:=O;subst aI;obtain⟨dl,cb,e3,e⟩:=aj e;obtain⟨u,br,h,e⟩:=aj e;have O:=aH h;clear h;obtain⟨h,ZP⟩:=O;subst ZP;obtain⟨dw,cf,aS,e⟩:=aj e;obtain⟨ci,cn,aT,e⟩:=aj e;obtain⟨bt,bv,Ot,e⟩:=aj e;have O:=aH Ot;clear Ot;obtain⟨Ot,UW⟩:=O;subst UW;obtain⟨dl2,cp,ba,e⟩:=aj e;obtain⟨rs,l,rfl,rfl⟩:=vo e;refine⟨.ref q,Z.nw.val,J Z.stp.gs e2 λvi F1 H1 s1 pi=>?_⟩;have wK:=Z.step s1;obtain⟨k0,a,g1,g2,g0,_⟩:=wK.fV e8;rw[g0]at pi;refine⟨q,_,k0,_,rfl,pi.int,fL.of wK.nw.out.kp.1,g2,M wK.stp.gs e3 λvj F2 H2 s2 pj=>?_⟩;have Gk:=wK.step s2;obtain⟨ZQ,bg,h⟩:=bz h;obtain⟨cq,a2,w1,w2,w0,ys,w3,w4⟩:=Gk.fV bg;rw[g0]at w0;cases w0;rw[g2]at w2;cases w2;obtain⟨l0,bi,h⟩:=bz h;obtain⟨du,bm,h⟩:=bz h;cases bw h;rw[bw bi]at pj;obtain⟨vu,y1,y2⟩:=ql w4 bm;rw[Rep]at y2;subst y2;refine⟨a,ys,l0,_,rfl,pj.int,fL.of w3,y1,ay Gk.stp.gs aS λvw F3 H3 s3 pw=>?_⟩;have Ou:=Gk.step s3;obtain⟨bn,e5,l⟩:=bz l;obtain⟨Q,bo,l⟩:=bz l;rw[bw bo]at pw;refine⟨u,Q,by rw[pw.int],?_⟩;refine⟨.ref q,Z.nw.val,am Ou.stp.gs aT λcr F4 H4 s4 ZR=>?_⟩;have Bd:=Ou.step s4;obtain⟨k3,a3,x1,x2,x0,_⟩:=Bd.fV Ot;rw[x0]at ZR;refine⟨q,_,k3,_,rfl,ZR.int,fL.of Bd.nw.out.kp.1,x2,ar Bd.stp.gs ba λcv F5 H5 s5 ZS=>?_⟩;have U0:=Bd.step s5;cases U0.hold e5;obtain⟨k1,e6,l⟩:=bz l;obtain⟨l1,e7,l⟩:=bz l;obtain⟨m,row,ju,f1,f2,f3,rfl⟩:=tW l;obtain⟨m2,f4,rfl⟩:=qN f3;have:=bw e6;rw[x0]at this;cases this;rw[bw e7]at ZS;obtain⟨a',U,ZV,U3,ZW,U4⟩:=U0.at f1 f2;rw[x2]at U3;cases U3;have bp:aN X.K F5 (U.set m2 (.int (if u<Q then Q else u))) (row.set m2 (.int (if u<Q then Q else u))):=U4.set (bM _) m2;have ZX:=U0.mut ZV f2 bp;refine⟨a3,U,l1,m2,rfl,ZS.int,ZW,by rw[U4.length];exact f4,?_⟩;exact kk F5 σ _ ZX.stp (s1.cD.trans (s2.cD.trans (s3.cD.trans (s4.cD.trans s5.cD)))) λ_=>⟨_,ZX⟩
end
end _H
namespace _H
open PySem _L Spec PyProof.Rows Calls W
section
variable{X:Cx}{c:Call}{a:ek}{pa:P}{pos p1 p2 p3:Pos}
theorem YL(hc:X.calm=ck):dU X (.type "list") (Gf X.K λx=>blt .Wk [x]):=by
 rintro B s σ H xs us Q I r⟨x,G,F,d,J,sm,L,he,k⟩;obtain⟨kvs,rfl⟩:∃kvs,d=.cZ (.t kvs):=by cases d with
  |cZ m=>cases m with|t kvs=>exact⟨kvs,rfl⟩|k kvs=>cases he
  |_=>cases he
 obtain⟨M,he⟩:=bK (show(if kvs.length<=16777216 then aB (R.own (kvs.map λp=>D.tup (p.1.map D.int)))else b_)=aB J from he);subst he;obtain⟨q,N,rfl,O⟩:=L.cZ sm;subst G;obtain⟨u,rfl,U⟩:=r.one;cases U;obtain⟨ho,hz,W,f,l,Y,es,ep,Z,g2,g3,C,g5⟩:=(show cJ X.prog X.w H s.heap q (.fO N (.dT (kvs.map Jw)))from I.hok q _ O);have n:oG s.heap q es ep:=⟨Y,Z,g2,g3⟩;have g:f.length=kvs.length:=by rw[<-Paired.length l,eu]
 have y:es.size=kvs.length:=by rw[<-iP,C,eu,g]
 have z:es.toList.map (·.key)=f.map λt=>eW t.2.1:=by rw[C,eA];rfl
 refine kdl_call (Nk (es:=es) (ep:=ep) W) (I.ok.hd hc) n (by rw[y,gE];lia) λh' tk h c' kp hD i=>?_;have j:=zf z i;have ab:h.toList.length=kvs.length:=by rw[j,eu,g]
 have E:Ext F H (uL F H (f.map (·.2.1))) H:=Ek sm λb hb=>by obtain⟨t,A,rfl⟩:=eM.mp hb;obtain⟨ks,e⟩:=Jr l t A;exact⟨_,e⟩
 have rs:aN X.K (uL F H (f.map (·.2.1))) (f.map λt=>V.ref t.2.1) (kvs.map λp=>D.tup (p.1.map D.int)):=CP l λt A=>if_pos (eM.mpr ⟨t,A,rfl⟩);have vv:Vals (f.map λt=>V.ref t.2.1) h.toList:=by rw[j];exact tU f
 refine⟨.ref s.heap.objs.size,_,I.laid (t':=tk) (o:=.lst (f.map λt=>V.ref t.2.1)) (h':=h') kp (dW) ⟨by rw[eu,g,gE];lia,h.toList,c',vv,by rw[Array.toArray_toList];exact hD⟩,rfl,?_⟩;exact vZ E.sub rs (I.hok.fresh (dW)) λv F2 H2 x rn=>k v F2 H2 (E.T3 x) rn
theorem HR{x:Str}{b:Pos}(e:x="list")(hc:X.calm=ck)(f:Gl X x)(g:X.mg x=b_)(i:SX X c a pa)(hs:dy [a] X.env=(a_,fg a X.env)::dy [] X.env:=by rfl):SX X c (.Call (.Name x b) [a] [] pos) (.blt .Wk [pa]):=by subst e;exact lq (λh=>lN (YL hc) f g (by decide+kernel) h (he:=hs)) i (λρ=>rfl) rfl hs
end
end _H
namespace _U
open PySem Spec PyProof.Rows
theorem sY(a:List c_):nE a.toArray b_ b_ (aB (-1))=a.reverse.toArray:=by
 have h:=Hw a.toArray;have e:nE a.toArray b_ b_ (aB (-1))=((dV a.toArray.size).filterMap λ(m:Nat)=>a.toArray[((a.toArray.size:Int)-1+(m:Int)*(-1)).toNat]?).toArray:=by
  unfold nE;generalize a.toArray=xs;show((sliceRange ((xs.size:Int)-1) (-1) (-1)).filterMap (xs[·]?)).toArray=_;unfold sliceRange;rw[lw];have b:(if(-1:Int)>0 then if(xs.size:Int)-1< -1 then(-1-((xs.size:Int)-1)+-1-1)/ -1 else 0 else if(xs.size:Int)-1>-1 then((xs.size:Int)-1- -1- -1-1)/ - -1 else 0).toNat=xs.size:=by rw[if_neg (by lia),show(- -1:Int)=1 from rfl,Int.ediv_one];split<;>lia
  rw[b];simp only[Function.comp_def,Int.mul_comm (-1)]
 rw[e,h]
end _U
namespace _H
open PySem _L Spec PyProof.Rows
section
variable{X:Cx}{c:Call}{e a:ek}{te:TE}{pa:P}{pos p1 p2 p3:Pos}
theorem Lj{j}(m:SX X c a pa):SX X c (.Subscript a (.Slice b_ b_ (aB (.UnaryOp .USub (.Constant (.int 1) j p1) p2)) p3) pos) (.blt .Kf [pa]):=by refine JS (f:=λx=>blt .Kf [x]) (λh1=>Du ?_ h1) m (λρ=>rfl) rfl;rintro g s σ H x v t A Q I n hs⟨F,d,r,sm,p,he,k⟩;cases d with|lst B=>cases he;obtain⟨a,xs,rfl,u,w⟩:=p.lst sm;cases n;obtain⟨y,h,i,z⟩:=I.list u;have l:=h.length;refine⟨"list",_,slot_list_getitem.lookup,i.isList.typeIs,?_⟩;refine pz i.isList hs .none .none (.int (-1) t) (by simp) ?_ (by rw[dP]<;>lia);rw[_U.sY];refine⟨.ref s.heap.objs.size,_,I.laid (t':=s.toks) (o:=.lst xs.reverse) (λb C q=>fK q) (dW) ?_,rfl,vZ sm (ym w) (I.hok.fresh (dW)) k⟩;exact⟨by rw[List.length_reverse];exact z,_,0,xP h,dE _ rfl⟩|_=>cases he
end
end _H
namespace _H
open PySem _L Spec PyProof.Rows Calls
theorem jt(l:df)(i j:Int)(t t1 a b:Tok):mo (hY.«range.__contains__» ⟨[.ref l,.int i t],[]⟩) (λA R s=>s.heap.get? l=aB {cls:=.type "range",data:=.fields #[.int 0 t1,.int j a,.int 1 b]}/\R (.ok (.ret (.bool (decide (0<=i/\i<j))))) s):=.of_wp λprog w A R s h=>by
  obtain⟨m,g,d,n,os⟩:=s;obtain⟨f,h⟩:=h;have e:(lx 0 j 1 i).isSome=decide (0<=i/\i<j):=by
   unfold lx;by_cases c:0<=i/\i<j;.simp[c,c.1,c.2]
   .simp[c]
  rw[<-e]at h;wp_walk using f;exact⟨_,rfl,h⟩
section
variable{X:Cx}{c:Call}{a b:ek}{ta tb:TE}{pa pb:P}{pos p pos2:Pos}
theorem Ub{op:qf}{l:Bool}(ho:op=.In/\l=a_\/op=.NotIn/\l=ck)(C:Gl X "range")(E:X.mg "range"=b_)(G:PE X b tb)(hs:dy [b] X.env=[(a_,fg b X.env)])(m:dy [b] X.env=(a_,fg b X.env)::dy [] X.env){f:List (df×Obj)}{s1:dc}{σ:_L.St}{n:Hp}{Q:VK}{x:V}{v:c_}(z:_L.Inv X f σ n s1)(r1:_L.RelV x v)(H:tb σ n λy h=>rD X.K (vg l) x y h Q):dL (dS X.prog X.w) X.A (fg (.Call (.Name "range" p) [b] [] pos2) X.env) (λu s2=>dL (dS X.prog X.w) X.A (eK op v u) (EP X f σ Q) X.xe s2) X.xe s1:=by refine Call_ (j6 z C E boot_range (fS (dC ((dm G iG m) pos2 f s1 σ n (λys h=>match ys with|[y]=>rD X.K (vg l) x y h Q|_=>False) z H) λM s2⟨vs,h,I2,q,s⟩=>?_) hs rfl));match vs,q,s with|[y],q,s=>obtain⟨u,rfl,I⟩:=q.one;obtain⟨F,d,e,r,sm,J,L,he,k⟩:=s;cases d with
   |int i=>cases e with|int j=>
       cases he;cases J.int;cases L.int;obtain⟨t,rfl⟩:=r1;obtain⟨t',rfl⟩:=I;refine call_range_1 ?_;have B:_L.Inv X f σ h {s2 with heap:=s2.heap.push {cls:=.type "range",data:=.fields #[.int 0 s2.toks,.int j t',.int 1 (s2.toks+1)]},toks:=s2.toks+1+1}:=I2.kept λb o e=>fK e;have g:(s2.heap.push {cls:=.type "range",data:=.fields #[.int 0 s2.toks,.int j t',.int 1 (s2.toks+1)]}).get? s2.heap.objs.size=aB {cls:=.type "range",data:=.fields #[.int 0 s2.toks,.int j t',.int 1 (s2.toks+1)]}:=dE _ rfl;have fin:Q (.bl (l !=decide (0<=i/\i<j))) h:=cX.eV sm (jq _) k;rcases ho with⟨rfl,rfl⟩|⟨rfl,rfl⟩;.exact PySem.SeqRoads2.in_meets ⟨_,g,rfl⟩ PySem.F.slot_range_contains PySem.F.entry_range_contains (PySem.F.args_range_contains_2 _ _) (jt _ i j t _ _ _) ⟨g,_,rfl,.bl _,h,B,by simp[_L.RelV],fin⟩
       .exact PySem.SeqRoads2.notIn_meets ⟨_,g,rfl⟩ PySem.F.slot_range_contains PySem.F.entry_range_contains (PySem.F.args_range_contains_2 _ _) (jt _ i j t _ _ _) ⟨g,_,rfl,.bl _,h,B,by simp[_L.RelV],fin⟩|_=>cases he
   |_=>cases he
theorem Ur{op:qf}{g:Bool}(ho:op=.In/\g=a_\/op=.NotIn/\g=ck)(l:Gl X "range")(m:X.mg "range"=b_)(n:PE X a ta)(o:PE X b tb)(hs:dy [b] X.env=[(a_,fg b X.env)])(i:dy [b] X.env=(a_,fg b X.env)::dy [] X.env):PT X (.Compare a [op] [.Call (.Name "range" p) [b] [] pos2] pos) (Py (Bw (rD X.K (vg g)) ta tb)):=by
 intro f s σ H Q I h;have j:jn op (.Call (.Name "range" p) [b] [] pos2)=a_:=by rcases ho with⟨rfl,_⟩|⟨rfl,_⟩<;>rfl
 refine qV (dC (n f s σ H _ I h) λv s1⟨x,H1,I1,r1,q1⟩=>dC (Ub ho l m o hs i I1 r1 q1) λu s2 q=>dC q λc s3⟨z,H3,I3,r3,k,e,q3⟩=>?_) j;subst e;cases r3;exact iX ⟨H3,I3,q3⟩
theorem Td{op:qf}{f:Bool}{o:Op}(ho:op=.In/\f=a_\/op=.NotIn/\f=ck)(i:sZ o=vg f)(m:Gl X "range")(n:X.mg "range"=b_)(y:SX X c a pa)(A:SX X c b pb)(hs:dy [b] X.env=[(a_,fg b X.env)])(j:dy [b] X.env=(a_,fg b X.env)::dy [] X.env):ST X c (.Compare a [op] [.Call (.Name "range" p) [b] [] pos2] pos) (.bin o pa pb):=by obtain⟨ta,tb,h1,B,C⟩:=y.jf A;refine Cz (Ur ho m n h1 B hs j) λσ H Q q=>vI (t:=Bw (rD X.K (vg f)) ta tb) (λQ z=>?_) q;obtain⟨F,ρ,r,E,g,e,k⟩:=z;rw[_H.E3,i]at e;obtain⟨l,G,I,h⟩:=aj e;have J:=aH h;clear h;obtain⟨h,L⟩:=J;subst L;refine C g I λv u M Z s N O=>⟨M,l.1,l.2,r,s.gs.sub,N,O,h,λw U W x Y=>?_⟩;exact k w U W (s.trans (x.stp s.gs)) (.later s (Y.sW s.gs))
theorem Bh{y:Str}(f:y="range")(g:Gl X y)(h:X.mg y=b_)(i:SX X c a pa)(j:SX X c b pb)(hs:dy [b] X.env=[(a_,fg b X.env)]:=by rfl)(e:dy [b] X.env=(a_,fg b X.env)::dy [] X.env:=by rfl):ST X c (.Compare a [.NotIn] [.Call (.Name y p) [b] [] pos2] pos) (.bin .Ke pa pb):=by subst f;exact Td (.inr ⟨rfl,rfl⟩) rfl g h i j hs e
end
theorem Av(l b:df)(items a:List c_)(n I:Nat)(J v:Option df)(L z:Array (Option c_))(is js:List Int)(hi:gI items is)(H:gI a js):mo (hY.«tuple.__ge__» ⟨[.ref l,.ref b],[]⟩) (λA R s=>s.heap.get? l=aB {cls:=.type "tuple",dict:=J,data:=.seq items.toArray n,slots:=L}/\s.heap.get? b=aB {cls:=.type "tuple",dict:=v,data:=.seq a.toArray I,slots:=z}/\R (.ok (.ret (.bool (!aZ is js)))) s):=.of_wp λprog w A R s h=>by
  obtain⟨B,g,d,C,os⟩:=s;obtain⟨M,N,h⟩:=h;have f2:=mI;wp_walk using gb M,gb N,wpAny_forIn_list _ (λf b E=>b.1=b_/\E=⟨B,g,d,C,os⟩/\∃xs ys c j,f=xs.zip ys/\gI xs c/\gI ys j/\decide (a.length<=items.length)=decide (j.length<=c.length)/\R (.ok (.ret (.bool (!aZ c j)))) ⟨B,g,d,C,os⟩) _;case turn=>rintro⟨y,x⟩f b E⟨i,rfl,xs,ys,c,j,o,h1,m,F,r⟩;cases h1 with|nil=>cases o|cons p t h1=>cases m with|nil=>cases o|cons q u m=>
       injection o with hyx hrest;cases hyx;refine bx (kX ?_);by_cases e:p=q;.subst e;rw[beq_self_eq_true];wp_walk;exact⟨rfl,rfl,_,_,_,_,hrest,h1,m,by rw[F];simp,by simpa[aZ]using r⟩
       . rw[beq_eq_false_iff_ne.mpr e];have G:R (.ok (.ret (.bool (decide (q<=p))))) ⟨B,g,d,C,os⟩:=by rw[show decide (q<=p)=!decide (p<q)from by rw[gy];simp[Int.not_lt]];simpa[aZ,e]using r
         simp only[Bool.not_false,if_true];refine bx (ke ?_);refine bx (show dL (dS prog w) A.in1 (eK .GtE (ko p t) (ko q u)) _ _ _ from ge_int ?_);refine bx (de ?_);exact de (de ⟨_,rfl,G⟩)
  case fin=>
   rintro⟨b1,b2⟩E⟨i,rfl,xs,ys,c,j,o,h1,m,F,r⟩;simp only at i;subst i;have e:(!aZ c j)=decide (a.length<=items.length):=by rw[F];cases h1 with|nil=>cases m<;>simp[aZ]|cons _ _ _=>cases m with|nil=>simp[aZ]|cons _ _ _=>cases o
   rw[e]at r;wp_walk;exact⟨_,rfl,by simpa[tupleCompareSizes]using r⟩
  case h=>exact⟨rfl,rfl,items,a,is,js,by simp,hi,H,by rw[iq hi,iq H],h⟩
section
variable{X:Cx}
theorem Mp(hu:X.A.units+8<ia):ik X (eK .GtE) (rD X.K (p6 .geT)):=by rintro q s σ H x y v u Q I J L⟨F,d,e,r,sm,M,N,he,k⟩;obtain⟨t,c,O⟩:=map_some (show(Zh d e).map _=aB r from he);subst O;cases d with
 |tup xs=>cases e with|tup ys=>obtain⟨hc,c⟩:=bK (show(if(xs.all dI&&ys.all dI)=ck then aB (!aZ (xs.map fG) (ys.map fG))else b_)=aB t from c);rw[fE]at hc;obtain⟨a,vs,rfl,h1,z,_⟩:=M.tup sm;obtain⟨b,ws,rfl,U,B,_⟩:=N.tup sm;cases J;cases L;obtain⟨l,C,it,_⟩:=I.tuple h1;obtain⟨f,E,m,_⟩:=I.tuple U;rw[all_ints hc.1]at z;rw[all_ints hc.2]at B;rw[fu z]at C;rw[fu B]at E;have W:=intsAre_of C;have Y:=intsAre_of E;obtain⟨⟨cls,Z,data,sl⟩,ho,g,n,hd⟩:=it;obtain⟨⟨G,o,data2,p⟩,h,i,n2,j⟩:=m;simp only at g hd i j;subst g hd i j;refine(show dL (dS X.prog X.w) X.A (richCompare .GtE (.ref a) (.ref b)) _ _ s from qA (op:=.GtE) ⟨_,ho,rfl⟩ ⟨_,h,rfl⟩ PySem.F.slot_tuple_ge PySem.F.entry_tuple_ge (PySem.F.args_tuple_ge_2 _ _) (Av a b l f n n2 Z o sl p _ _ W Y) ⟨ho,h,show jP _≠kb/\_ from⟨(λx=>nomatch x),⟨.bl t,H,I,by rw[<-c];rfl,cX.eV sm (jq _) k⟩⟩⟩ (by lia))|_=>cases c
 |_=>cases c
end
section
variable{X:Cx}{c:Call}{n:Nat}{a b e:ek}{p pa pb:P}{pos:Pos}{es:List ek}{ps:List P}{x1:Nat}{tpos:Pos}
theorem KY{i:Nat}{x:Str}{B:Pos}(Z:X.A.units+8<ia)(C:X.N[i]?=aB x)(hv:u0 X.env.scope x)(E:SA X c es ps)(hs:HX (.Tuple es x1 tpos))(G:ps.length<=sizeLine:=by decide)(hd:(x==("__debug__":Str))=a_:=by decide)(j:(x==("__classdict__":Str))=a_:=by decide):SX X c (.Subscript (.Name x B) (.Tuple es x1 tpos) pos) (.FQ i ps):=by
 refine⟨gR (CQ (by lia) (fc C hv hd j) (qT E.1) hs) ?_,λi h=>by cases h⟩;rintro σ H Q⟨F,ρ,r,I,g,e,k⟩;rw[_H.E27]at e;split at e
 . rename_i m0 q;obtain⟨J,l,s,f⟩:=aj e;clear e;obtain⟨t,o0,w1,w2,w3,w4⟩:=g.own i _ _ q rfl;refine⟨.ref t,w1,F,ρ,J,l,g,s,λvs F1 H1 s1 u=>⟨by rw[u.length,jz s];exact G,λp L=>?_⟩⟩;have x1:=NQ (xs:=vs) s1.gs.sub L;have s2:=s1.trans (x1.stp s1.gs);split at f;.rename_i m1 M;obtain⟨w,O⟩:=aH f;clear f;subst O;obtain⟨o,U,y⟩:=bz w;clear w;cases o with|none=>cases y|some v=>cases y;obtain⟨a1,o1,z,W,y3,Y⟩:=s2.gs.own i _ _ M rfl;rw[w1]at z;cases z;cases(show o1=m1.ho from Y);exact⟨t,V.int v,rfl,Ac (o:=aB v) (m:=m1) (.inl W) u aW U,k _ _ _ s2 (show Rep X.K _ _ _ from bM _)⟩
   .cases f
 .cases e
end
end _H
noncomputable section
set_option maxHeartbeats 4000000
namespace _T
open PySem _L Spec PyProof.Rows _H
local macro_rules|`(term|⇑$n)=>`(P.con (.int $n))
local macro_rules|`(term|↑$n)=>`(P.var $n)
local macro_rules|`(tactic|ac_rfl)=>`(tactic|first|exact ei rfl|exact ef (ei rfl))
set_option hygiene false
local macro_rules|`(term|↥($a,$b,$d))=>`(oM Pg w K mg base GX (k+1) f fd $a (KN K $b (λargs=>enter c n $d args)))
local macro_rules|`(term|↥($a,$b,$d,0))=>`(bD Pg w K mg base k c $a $b $d)
set_option hygiene true
local macro_rules|`(term|⇑($x))=>`(λ_ _ _ _ _=>$x)
local macro_rules|`(tactic|exists$e)=>`(tactic|with_reducible refine$e)
local macro_rules|`(tactic|rfl')=>`(tactic|with_reducible refine bj ?_ ?_)
set_option hygiene false
local macro_rules|`(tactic|exists$i,$e)=>`(tactic|((with_reducible refine mJ (i:=$i) ?_ ?_ ?_ ?_ ?_ ?_);exact nd;exact rfl;exact oi;rotate_left;rfl;exact oi;exact$e))
local macro_rules|`(tactic|exists$i,$e,0)=>`(tactic|((with_reducible refine Dh (i:=$i) ?_ ?_ ?_ ?_ ?_ ?_ ?_ ?_ ?_);exact fi;exact hc;exact nd;exact rfl;exact oi;exact$e;rotate_left;(· intro _;rfl);exact oi))
local macro_rules|`(tactic|exists$a,$b,0,0)=>`(tactic|(refine YW $a $b rfl rfl λcdv A outer s H E hr=>?_;have nd:=($b).nd))
local macro_rules|`(tactic|exists(),$e)=>`(tactic|((with_reducible refine Rz ?_);exact$e))
set_option hygiene true
local macro_rules|`(term|‹$l›)=>`((show(($l):List Str).Nodup by decide+kernel))
theorem hc:ck=ck:=rfl
theorem oi{b:Type}{a:b}{p:Prop}:a=a\/p:=.inl rfl
theorem bf{X:Cx}{c:Call}{a:ek}{es:List ek}{b:P}{ps:List P}(e:SX X c a b)(hr:SG X c es ps)(h:nst a=ck):SG X c (a::es) (b::ps):=MK e hr (jy h)
theorem bu{X:Cx}{c:Call}{a:ek}{es:List ek}{b:P}{ps:List P}(e:SX X c a b)(hr:SA X c es ps)(h:nst a=ck):SA X c (a::es) (b::ps):=qg e hr (jy h)
variable{Pg:d_}{w:fb}{K:PySem.W.Frag}{mg:Str->Option c_}{base:fk}{f:df}{fd:iF}{k n:Nat}{c:Call}{cl:Nat->df}
noncomputable def top(i:Nat):fR:=PySem.Challenge.pw_hourhaul_k60_plans_by_calendars_judged.main.body.getD i (.Pass ⟨0,0,0,0⟩)
noncomputable abbrev s0:fR:=top 1
noncomputable def b0:List S:=[.ret (.blt .all [.comp (.zip ↑0 (.slice ↑0 ⇑1 (.con .non))) 2 [1,2] a_ b_ (.cmp .lt ↑1 ↑2)])]
noncomputable def f0:Fd:=⟨1,1,b0⟩
theorem sc0:aU ["things"] ["things"] (aK s0):={}
include cl in
theorem d0(a:jw K "is_rising" "is_rising" s0 f fd)(dF:mg "all"=b_)(oh:mg "zip"=b_):↥(["things"],1,f0):=by
 exists a,sc0,0,0;refine bj ?_ ?_;.exists(),jg rfl hc (by rfl) dF (cO (N':=["things","one","other"]) hc (pO rfl (by rfl)) (yV rfl (by rfl) oh (sv 0) (bT (sv 0) (cj aa) di)) ⇑(bY hc (ao (ak (i:=1) ‹["things","one","other"]› rfl (ei rfl) (ef rfl)) (ao (ak (i:=2) ‹["things","one","other"]› rfl (ei rfl) (ef rfl)) bG))) (gF rfl (bC (show 1<=1 by decide) (bC (show 1<=2 by decide) gJ))) ⇑(cg) ⇑((gn (jZ (aY hr)) (sv 1) (sv 2) (aV _))))
 exact aA
noncomputable abbrev s1:fR:=top 3
noncomputable def b1:List S:=[.ret (.bin .add ↑1 (.idx (.idx (.idx ↑0 ⇑1) ↑2) ⇑3))]
noncomputable def f1:Fd:=⟨3,3,b1⟩
theorem sc1:aU ["net","hour","way"] ["net","hour","way"] (aK s1):={}
include cl in
theorem d1(a:jw K "hour_out" "hour_out" s1 f fd):↥(["net","hour","way"],3,f1):=by
 exists a,sc1,0,0;refine bj ?_ ?_;.exists(),au aC (sv 1) (az (az (az (sv 0) aa) (sv 2)) aa)
 exact aA
noncomputable abbrev s2:fR:=top 5
noncomputable def b2:List S:=[.ifs (.not (.blt .all [.comp ↑0 3 [1,2,3] a_ b_ (.and (.cmp .ge ↑1 ⇑0) (.cmp .ge ↑3 ⇑1))])) [.ret (.con (.bl a_))] [],.ret (.call 0 [.comp ↑0 3 [1,2,3] a_ b_ (.tup [↑1,↑2])])]
noncomputable def f2:Fd:=⟨1,1,b2⟩
theorem sc2:aU ["triples"] ["triples"] (aK s2):={}
include cl in
theorem d2(a:jw K "is_plan" "is_plan" s2 f fd)(dF:mg "all"=b_)(b:↥(0,"is_rising",1,0)):↥(["triples"],1,f2):=by
 exists a,sc2,0,0;refine bj ?_ ?_;.exists eX ?_ ?_ ?_;exact km (jY (jg rfl hc (by rfl) dF (cO (N':=["triples","hour","way","loads"]) hc (pO rfl (by rfl)) (cN (sv 0)) ⇑(bY hc (ao (ak (i:=1) ‹["triples","hour","way","loads"]› rfl (ei rfl) (ef rfl)) (ao (ak (i:=2) ‹["triples","hour","way","loads"]› rfl (ei rfl) (ef rfl)) (ao (ak (i:=3) ‹["triples","hour","way","loads"]› rfl (ei rfl) (ef rfl)) bG)))) (gF rfl (bC (show 1<=1 by decide) (bC (show 1<=2 by decide) (bC (show 1<=3 by decide) gJ)))) ⇑(cg) ⇑((kO (gn JF (sv 1) aa (aV _)) (jH (gn JF (sv 3) aa (aV _))))))));(· rfl';(· exists(),iu);exact aA);exact aA
 rfl';.exists(),dY b hr (bf (cO (N':=["triples","hour","way","loads"]) hc (pO rfl (by rfl)) (cN (sv 0)) ⇑(bY hc (ao (ak (i:=1) ‹["triples","hour","way","loads"]› rfl (ei rfl) (ef rfl)) (ao (ak (i:=2) ‹["triples","hour","way","loads"]› rfl (ei rfl) (ef rfl)) (ao (ak (i:=3) ‹["triples","hour","way","loads"]› rfl (ei rfl) (ef rfl)) bG)))) (gF rfl (bC (show 1<=1 by decide) (bC (show 1<=2 by decide) (bC (show 1<=3 by decide) gJ)))) ⇑(cg) ⇑((bJ (bu (sv 1) (bu (sv 2) aF rfl) rfl)))) aG rfl)
 exact aA
noncomputable abbrev s3:fR:=top 6
noncomputable def b3:List S:=[.ret (.and (.chain .le .lt ⇑0 (.idx ↑2 ⇑1) (.blt .len [.idx ↑0 ⇑1])) (.and (.cmp .le (.idx ↑2 ⇑2) (.idx (.idx (.idx ↑0 ⇑1) (.idx ↑2 ⇑1)) ⇑2)) (.cmp .le (.call 1 [↑0,.idx ↑2 ⇑0,.idx ↑2 ⇑1]) ↑1)))]
noncomputable def f3:Fd:=⟨3,3,b3⟩
theorem sc3:aU ["net","last","triple"] ["net","last","triple"] (aK s3):={}
include cl in
theorem d3(a:jw K "triple_fits" "triple_fits" s3 f fd)(cT:mg "len"=b_)(b:↥(1,"hour_out",3,0)):↥(["net","last","triple"],3,f3):=by
 exists a,sc3,0,0;refine bj ?_ ?_;.exists(),kO (G8 jK (jZ (aY hr)) aa (az (sv 2) aa) (eY rfl (by rfl) cT (az (sv 0) aa))) (kO (gn jK (az (sv 2) aa) (az (az (az (sv 0) aa) (az (sv 2) aa)) aa) (aV _)) (jH (gn jK (dY b hr (bf (sv 0) (bf (az (sv 2) aa) (bf (az (sv 2) aa) aG rfl) rfl) rfl)) (sv 1) (aV _)))).ev
 exact aA
noncomputable abbrev s4:fR:=top 7
noncomputable def b4:List S:=[.tu 3 a_,.gf ↑1 [4,5,6] a_ [.ifs (.cmp .eq (.idx (.idx (.idx ↑0 ⇑1) ↑5) ⇑1) ↑2) [.asg 7 (.call 1 [↑0,↑4,↑5]),.dput 3 ↑7 (.bin .add (.Uz 3 ↑7 ⇑0) ↑6)] [],.ifs (.cmp .eq (.idx (.idx (.idx ↑0 ⇑1) ↑5) ⇑0) ↑2) [.dput 3 ↑4 (.bin .sub (.Uz 3 ↑4 ⇑0) ↑6)] []],.ret ↑3]
noncomputable def f4:Fd:=⟨3,8,b4⟩
theorem sc4:aU ["net","plan","place","changes","hour","way","loads","out"] ["net","plan","place"] (aK s4):={}
include cl in
theorem d4(a:jw K "changes_at" "changes_at" s4 f fd)(b:↥(1,"hour_out",3,0)):↥(["net","plan","place"],3,f4):=by
 exists a,sc4,0,0;refine bj ?_ ?_;.exact(Lh (i:=3) nd rfl oi (by rfl) (ei rfl))
 rfl';.exact(j4 fi hc (cN (sv 1)) (bY hc (ao (ak (i:=4) nd rfl oi oi) (ao (ak (i:=5) nd rfl oi oi) (ao (ak (i:=6) nd rfl oi oi) bG)))) (dM rfl (aJ _ _ (aJ _ _ (aJ _ _ cV 6) 5) 4)) (by rfl';(· exists eX ?_ ?_ ?_;exact bL (gq (aY hr)) (az (az (az (sv 0) aa) (sv 5)) aa) (sv 2) (aV _);(· rfl';(· exists 7,dY b hr (bf (sv 0) (bf (sv 4) (bf (sv 5) aG rfl) rfl) rfl));(· rfl';exact Cr (i:=3) (aY hr) rfl (by ac_rfl) (sv 7) (au aC (JC (i:=3) (aY hr) rfl (by ac_rfl) (sv 7) aa ⟨rfl,rfl,rfl,rfl⟩) (sv 6)) (by rfl);exact aA));exact aA);(· rfl';(· exists eX ?_ ?_ ?_;exact bL (gq (aY hr)) (az (az (az (sv 0) aa) (sv 5)) aa) (sv 2) (aV _);(· rfl';exact Cr (i:=3) (aY hr) rfl (by ac_rfl) (sv 4) (au bQ (JC (i:=3) (aY hr) rfl (by ac_rfl) (sv 4) aa ⟨rfl,rfl,rfl,rfl⟩) (sv 6)) (by rfl);exact aA);exact aA);exact aA)))
 rfl';.exists(),sv 3
 exact aA
noncomputable abbrev s5:fR:=top 8
noncomputable def b5:List S:=[.asg 3 (.call 4 [↑0,↑1,↑2]),.asg 4 ⇑0,.gf (.blt .yz [↑3]) [5] ck [.aug 4 a_ (.bin .Kd ↑3 ↑5),.ifs (.cmp .lt ↑4 ⇑0) [.ret (.con (.bl a_))] []],.ret (.con (.bl ck))]
noncomputable def f5:Fd:=⟨3,6,b5⟩
theorem sc5:aU ["net","plan","place","changes","standing","hour"] ["net","plan","place"] (aK s5):={}
include cl in
theorem d5(a:jw K "never_short" "never_short" s5 f fd)(dz:mg "sorted"=b_)(b:↥(4,"changes_at",3,0)):↥(["net","plan","place"],3,f5):=by
 exists a,sc5,0,0;refine bj ?_ ?_;.exists 3,dY b hr (bf (sv 0) (bf (sv 1) (bf (sv 2) aG rfl) rfl) rfl)
 rfl';.exists 4,aa
 rfl';.exists 5,cN (Hn rfl hc (by rfl) dz (sv 3)),0;(· rfl';exact S5 (i:=4) (sub:=a_) LC nd rfl oi (CJ (aY hr) (sv 3) (sv 5) (λ_ _=>rfl)) (ei rfl);(· rfl';(· exists eX ?_ ?_ ?_;exact bL (jZ (aY hr)) (sv 4) aa (aV _);(· rfl';(· exists(),iu);exact aA);exact aA);exact aA))
 rfl';.exists(),iu
 exact aA
noncomputable abbrev s6:fR:=top 9
noncomputable def b6:List S:=[.ifs (.or (.not (.call 2 [↑2])) (.not (.blt .all [.comp ↑2 1 [3] ck b_ (.call 3 [↑0,↑1,↑3])]))) [.ret (.con (.bl a_))] [],.ret (.blt .all [.comp (.nY ⇑1 (.idx ↑0 ⇑0)) 1 [3] ck b_ (.call 5 [↑0,↑2,↑3])])]
noncomputable def f6:Fd:=⟨3,3,b6⟩
theorem sc6:aU ["net","last","plan"] ["net","last","plan"] (aK s6):={}
include cl in
theorem d6(a:jw K "plan_right" "plan_right" s6 f fd)(dF:mg "all"=b_)(aO:mg "range"=b_)(b:↥(2,"is_plan",1,0))(e:↥(5,"never_short",3,0))(g:↥(3,"triple_fits",3,0)):↥(["net","last","plan"],3,f6):=by
 exists a,sc6,0,0;refine bj ?_ ?_;.exists eX ?_ ?_ ?_;exact SW.st (nG (km (jY (dY b hr (bf (sv 2) aG rfl)))) (mq (km (jY (jg rfl hc (by rfl) dF (cO (N':=["net","last","plan","triple"]) hc (pO rfl (by rfl)) (cN (sv 2)) ⇑(ak (i:=3) ‹["net","last","plan","triple"]› rfl (ei rfl) (ef rfl)) (cU (dW)) ⇑(cg) ⇑((dY g hr (bf (sv 0) (bf (sv 1) (bf (sv 3) aG rfl) rfl) rfl)))))))));(· rfl';(· exists(),iu);exact aA);exact aA
 rfl';.exists(),jg rfl hc (by rfl) dF (cO (N':=["net","last","plan","place"]) hc (pO rfl (by rfl)) (qe rfl (by rfl) aO aa (az (sv 0) aa)) ⇑(ak (i:=3) ‹["net","last","plan","place"]› rfl (ei rfl) (ef rfl)) (cU (dW)) ⇑(cg) ⇑((dY e hr (bf (sv 0) (bf (sv 2) (bf (sv 3) aG rfl) rfl) rfl))))
 exact aA
noncomputable abbrev s7:fR:=top 10
noncomputable def b7:List S:=[.ret (.and (.cmp .ne (.idx (.idx (.idx ↑0 ⇑1) ↑1) ⇑1) ⇑0) (.cmp .ne (.idx (.idx (.idx ↑0 ⇑1) ↑1) ⇑0) (.bin .sub (.idx ↑0 ⇑0) ⇑1)))]
noncomputable def f7:Fd:=⟨2,2,b7⟩
theorem sc7:aU ["net","number"] ["net","number"] (aK s7):={}
include cl in
theorem d7(a:jw K "is_clean_way" "is_clean_way" s7 f fd):↥(["net","number"],2,f7):=by
 exists a,sc7,0,0;refine bj ?_ ?_;.exists(),kO (gn (yU (aY hr)) (az (az (az (sv 0) aa) (sv 1)) aa) aa (aV _)) (jH (gn (yU (aY hr)) (az (az (az (sv 0) aa) (sv 1)) aa) (au bQ (az (sv 0) aa) aa) (aV _)))
 exact aA
noncomputable abbrev s8:fR:=top 11
noncomputable def b8:List S:=[.ifs (.or (.not (.call 6 [↑0,↑1,↑2])) (.not (.blt .all [.comp ↑2 3 [3,4,5] a_ b_ (.call 7 [↑0,↑4])]))) [.ret (.con (.bl a_))] [],.ret (.blt .all [.comp (.nY ⇑1 (.bin .sub (.idx ↑0 ⇑0) ⇑1)) 1 [3] ck b_ (.cmp .eq (.call 9 [↑0,↑2,↑3,↑1]) ⇑0)])]
noncomputable def f8:Fd:=⟨3,3,b8⟩
theorem sc8:aU ["net","last","plan"] ["net","last","plan"] (aK s8):={}
include cl in
theorem d8(a:jw K "plan_clean" "plan_clean" s8 f fd)(dF:mg "all"=b_)(aO:mg "range"=b_)(b:↥(7,"is_clean_way",2,0))(e:↥(6,"plan_right",3,0))(g:↥(9,"stands_at",4,0)):↥(["net","last","plan"],3,f8):=by
 exists a,sc8,0,0;refine bj ?_ ?_;.exists eX ?_ ?_ ?_;exact SW.st (nG (km (jY (dY e hr (bf (sv 0) (bf (sv 1) (bf (sv 2) aG rfl) rfl) rfl)))) (mq (km (jY (jg rfl hc (by rfl) dF (cO (N':=["net","last","plan","hour","way","loads"]) hc (pO rfl (by rfl)) (cN (sv 2)) ⇑(bY hc (ao (ak (i:=3) ‹["net","last","plan","hour","way","loads"]› rfl (ei rfl) (ef rfl)) (ao (ak (i:=4) ‹["net","last","plan","hour","way","loads"]› rfl (ei rfl) (ef rfl)) (ao (ak (i:=5) ‹["net","last","plan","hour","way","loads"]› rfl (ei rfl) (ef rfl)) bG)))) (gF rfl (bC (show 3<=3 by decide) (bC (show 3<=4 by decide) (bC (show 3<=5 by decide) gJ)))) ⇑(cg) ⇑((dY b hr (bf (sv 0) (bf (sv 4) aG rfl) rfl)))))))));(· rfl';(· exists(),iu);exact aA);exact aA
 rfl';.exists(),jg rfl hc (by rfl) dF (cO (N':=["net","last","plan","place"]) hc (pO rfl (by rfl)) (qe rfl (by rfl) aO aa (au bQ (az (sv 0) aa) aa)) ⇑(ak (i:=3) ‹["net","last","plan","place"]› rfl (ei rfl) (ef rfl)) (cU (dW)) ⇑(cg) ⇑((gn (gq (aY hr)) (dY g hr (bf (sv 0) (bf (sv 2) (bf (sv 3) (bf (sv 1) aG rfl) rfl) rfl) rfl)) aa (aV _))))
 exact aA
noncomputable abbrev s9:fR:=top 12
noncomputable def b9:List S:=[.asg 4 (.call 4 [↑0,↑1,↑2]),.ret (.blt .sum [.comp (.blt .keys [↑4]) 1 [5] ck (aB (.cmp .le ↑5 ↑3)) (.bin .Kd ↑4 ↑5)])]
noncomputable def f9:Fd:=⟨4,5,b9⟩
theorem sc9:aU ["net","plan","place","hour","changes"] ["net","plan","place","hour"] (aK s9):={}
include cl in
theorem d9(a:jw K "stands_at" "stands_at" s9 f fd)(Kq:mg "sum"=b_)(b:↥(4,"changes_at",3,0)):↥(["net","plan","place","hour"],4,f9):=by
 exists a,sc9,0,0;refine bj ?_ ?_;.exists mJ (i:=4) ?_ ?_ ?_ ?_ ?_ ?_;exact nd;exact rfl;exact ef rfl;rotate_left;rfl;exact oi;exact dY b hr (bf (sv 0) (bf (sv 1) (bf (sv 2) aG rfl) rfl) rfl)
 rfl';.exists(),Rp rfl hc (by rfl) Kq (cO (N':=["net","plan","place","hour","changes","at"]) hc (pO rfl (by rfl)) (My (sv 4)) ⇑(ak (i:=5) ‹["net","plan","place","hour","changes","at"]› rfl (ei rfl) (ef rfl)) (cU (dW)) ⇑(wg (bL jK (sv 5) (sv 3) (aV _))) ⇑((CJ (aY hr) (sv 4) (sv 5) (λ_ _=>rfl))))
 exact aA
noncomputable abbrev fP:fR:=top 14
noncomputable def b10:List S:=[.asg 1 (.comp (.zip (.idx ↑0 ⇑2) (.idx ↑0 ⇑3)) 2 [2,3] a_ b_ (.tup [.idx ↑2 ⇑0,.idx ↑2 ⇑1,.blt .FP [↑3],.idx ↑2 ⇑2])),.ret (.tup [.idx ↑0 ⇑0,.blt .tuple [↑1]])]
noncomputable def f10:Fd:=⟨1,2,b10⟩
theorem acf:aU ["calendar","ways"] ["calendar"] (aK fP):={}
include cl in
theorem d10(a:jw K "roomiest_net" "roomiest_net" fP f fd)(ou:mg "max"=b_)(dX:mg "tuple"=b_)(oh:mg "zip"=b_):↥(["calendar"],1,f10):=by
 exists a,acf,0,0;refine bj ?_ ?_;.exact(p8 (i:=1) (N':=["calendar","ways","way","row"]) hc nd rfl oi (pO rfl (by rfl)) (yV rfl (by rfl) oh (az (sv 0) aa) (az (sv 0) aa)) ⇑(bY hc (ao (ak (i:=2) ‹["calendar","ways","way","row"]› rfl (ei rfl) (ef rfl)) (ao (ak (i:=3) ‹["calendar","ways","way","row"]› rfl (ei rfl) (ef rfl)) bG))) (gF rfl (bC (show 2<=2 by decide) (bC (show 2<=3 by decide) gJ))) ⇑(cg) ⇑((bJ (bu (az (sv 2) aa) (bu (az (sv 2) aa) (bu (Lw rfl hc (by rfl) ou (sv 3)) (bu (az (sv 2) aa) aF rfl) rfl) rfl) rfl))) (by rfl) (by intro _;rfl) (ei rfl))
 rfl';.exists(),bJ (bu (az (sv 0) aa) (bu (gV rfl (by rfl) dX (sv 1)) aF rfl) rfl)
 exact aA
noncomputable abbrev fW:fR:=top 15
noncomputable def b11:List S:=[.ret (.blt .all [.comp ↑1 3 [2,3,4] a_ b_ (.cmp .le ↑4 (.idx (.idx (.idx ↑0 ⇑3) ↑3) ↑2))])]
noncomputable def f11:Fd:=⟨2,2,b11⟩
theorem acZ:aU ["calendar","plan"] ["calendar","plan"] (aK fW):={}
include cl in
theorem d11(a:jw K "within_hours_rooms" "within_hours_rooms" fW f fd)(dF:mg "all"=b_):↥(["calendar","plan"],2,f11):=by
 exists a,acZ,0,0;refine bj ?_ ?_;.exists(),jg rfl hc (by rfl) dF (cO (N':=["calendar","plan","hour","way","loads"]) hc (pO rfl (by rfl)) (cN (sv 1)) ⇑(bY hc (ao (ak (i:=2) ‹["calendar","plan","hour","way","loads"]› rfl (ei rfl) (ef rfl)) (ao (ak (i:=3) ‹["calendar","plan","hour","way","loads"]› rfl (ei rfl) (ef rfl)) (ao (ak (i:=4) ‹["calendar","plan","hour","way","loads"]› rfl (ei rfl) (ef rfl)) bG)))) (gF rfl (bC (show 2<=2 by decide) (bC (show 2<=3 by decide) (bC (show 2<=4 by decide) gJ)))) ⇑(cg) ⇑((gn jK (sv 4) (az (az (az (sv 0) aa) (sv 3)) (sv 2)) (aV _))))
 exact aA
noncomputable abbrev s12:fR:=top 16
noncomputable def b12:List S:=[.asg 3 (.idx (.idx ↑0 ⇑4) ↑2),.ifs (.cmp .isN ↑3 (.con .non)) [.ret (.con (.bl ck))] [],.ret (.blt .all [.comp (.Zx ↑3) 2 [4,5] a_ b_ (.cmp .le (.call 16 [↑0,↑1,↑2,↑4]) ↑5)])]
noncomputable def f12:Fd:=⟨3,4,b12⟩
theorem acd:aU ["calendar","plan","place","waits"] ["calendar","plan","place"] (aK s12):={}
include cl in
theorem d12(a:jw K "within_waits" "within_waits" s12 f fd)(dF:mg "all"=b_)(lB:mg "enumerate"=b_)(b:↥(16,"cal_stands",4,0)):↥(["calendar","plan","place"],3,f12):=by
 exists a,acd,0,0;refine bj ?_ ?_;.exists 3,az (az (sv 0) aa) (sv 2)
 rfl';.exists eX ?_ ?_ ?_;exact bL Sd (sv 3) qL (aV _);(· rfl';(· exists(),iu);exact aA);exact aA
 rfl';.exists(),jg rfl hc (by rfl) dF (cO (N':=["calendar","plan","place","waits","hour","room"]) hc (pO rfl (by rfl)) (RL rfl (by rfl) lB (sv 3)) ⇑(bY hc (ao (ak (i:=4) ‹["calendar","plan","place","waits","hour","room"]› rfl (ei rfl) (ef rfl)) (ao (ak (i:=5) ‹["calendar","plan","place","waits","hour","room"]› rfl (ei rfl) (ef rfl)) bG))) (gF rfl (bC (show 4<=4 by decide) (bC (show 4<=5 by decide) gJ))) ⇑(cg) ⇑((gn jK (dY b hr (bf (sv 0) (bf (sv 1) (bf (sv 2) (bf (sv 4) aG rfl) rfl) rfl) rfl)) (sv 5) (aV _))))
 exact aA
noncomputable abbrev jL:fR:=top 17
noncomputable def b13:List S:=[.ifs (.not (.call 11 [↑0,↑1])) [.ret (.con (.bl a_))] [],.ret (.blt .all [.comp (.nY ⇑1 (.idx ↑0 ⇑0)) 1 [2] ck b_ (.call 12 [↑0,↑1,↑2])])]
noncomputable def W3:Fd:=⟨2,2,b13⟩
theorem adP:aU ["calendar","plan"] ["calendar","plan"] (aK jL):={}
include cl in
theorem d13(a:jw K "hours_hold" "hours_hold" jL f fd)(dF:mg "all"=b_)(aO:mg "range"=b_)(b:↥(11,"within_hours_rooms",2,0))(e:↥(12,"within_waits",3,0)):↥(["calendar","plan"],2,W3):=by
 exists a,adP,0,0;refine bj ?_ ?_;.exists eX ?_ ?_ ?_;exact km (jY (dY b hr (bf (sv 0) (bf (sv 1) aG rfl) rfl)));(· rfl';(· exists(),iu);exact aA);exact aA
 rfl';.exists(),jg rfl hc (by rfl) dF (cO (N':=["calendar","plan","place"]) hc (pO rfl (by rfl)) (qe rfl (by rfl) aO aa (az (sv 0) aa)) ⇑(ak (i:=2) ‹["calendar","plan","place"]› rfl (ei rfl) (ef rfl)) (cU (dW)) ⇑(cg) ⇑((dY e hr (bf (sv 0) (bf (sv 1) (bf (sv 2) aG rfl) rfl) rfl))))
 exact aA
noncomputable abbrev pU:fR:=top 18
noncomputable def b14:List S:=[.ret (.and (.call 6 [.call 10 [↑0],.idx ↑0 ⇑1,↑1]) (.call 13 [↑0,↑1]))]
noncomputable def Ws:Fd:=⟨2,2,b14⟩
theorem adT:aU ["calendar","plan"] ["calendar","plan"] (aK pU):={}
include cl in
theorem d14(a:jw K "cal_right" "cal_right" pU f fd)(b:↥(13,"hours_hold",2,0))(e:↥(6,"plan_right",3,0))(g:↥(10,"roomiest_net",1,0)):↥(["calendar","plan"],2,Ws):=by
 exists a,adT,0,0;refine bj ?_ ?_;.exists(),kO (dY e hr (bf (dY g hr (bf (sv 0) aG rfl)) (bf (az (sv 0) aa) (bf (sv 1) aG rfl) rfl) rfl)) (jH (dY b hr (bf (sv 0) (bf (sv 1) aG rfl) rfl)))
 exact aA
noncomputable abbrev uP:fR:=top 19
noncomputable def b15:List S:=[.ret (.and (.call 8 [.call 10 [↑0],.idx ↑0 ⇑1,↑1]) (.call 13 [↑0,↑1]))]
noncomputable def Yn:Fd:=⟨2,2,b15⟩
theorem ad0:aU ["calendar","plan"] ["calendar","plan"] (aK uP):={}
include cl in
theorem d15(a:jw K "cal_clean" "cal_clean" uP f fd)(b:↥(13,"hours_hold",2,0))(e:↥(8,"plan_clean",3,0))(g:↥(10,"roomiest_net",1,0)):↥(["calendar","plan"],2,Yn):=by
 exists a,ad0,0,0;refine bj ?_ ?_;.exists(),kO (dY e hr (bf (dY g hr (bf (sv 0) aG rfl)) (bf (az (sv 0) aa) (bf (sv 1) aG rfl) rfl) rfl)) (jH (dY b hr (bf (sv 0) (bf (sv 1) aG rfl) rfl)))
 exact aA
noncomputable abbrev s16:fR:=top 20
noncomputable def b16:List S:=[.ret (.call 9 [.call 10 [↑0],↑1,↑2,↑3])]
noncomputable def Xf:Fd:=⟨4,4,b16⟩
theorem ab9:aU ["calendar","plan","place","hour"] ["calendar","plan","place","hour"] (aK s16):={}
include cl in
theorem d16(a:jw K "cal_stands" "cal_stands" s16 f fd)(b:↥(10,"roomiest_net",1,0))(e:↥(9,"stands_at",4,0)):↥(["calendar","plan","place","hour"],4,Xf):=by
 exists a,ab9,0,0;refine bj ?_ ?_;.exists(),dY e hr (bf (dY b hr (bf (sv 0) aG rfl)) (bf (sv 1) (bf (sv 2) (bf (sv 3) aG rfl) rfl) rfl) rfl)
 exact aA
noncomputable abbrev wG:fR:=top 22
noncomputable def b17:List S:=[.ret (.lst [.blt .max2 [⇑0,.bin .sub (.blt .abs [↑0]) (.bin .pow ⇑10 ⇑18)],.bin .mod ↑0 (.bin .pow ⇑10 ⇑18),⇑0])]
noncomputable def f17:Fd:=⟨1,1,b17⟩
theorem adX:aU ["cell"] ["cell"] (aK wG):={}
include cl in
theorem d17(a:jw K "_law_pool" "_law_pool" wG f fd)(Kr:mg "abs"=b_)(ou:mg "max"=b_):↥(["cell"],1,f17):=by
 exists a,adX,0,0;refine bj ?_ ?_;.exists(),bR (bu (Ln rfl hc (by rfl) ou (bu aa (bu (au bQ (R5 rfl (by rfl) Kr (sv 0)) (au iy aa aa)) aF rfl) rfl)) (bu (au gG (sv 0) (au iy aa aa)) (bu aa aF rfl) rfl) rfl)
 exact aA
noncomputable abbrev s18:fR:=top 23
noncomputable def b18:List S:=[.ifs (.cmp .gt (.idx ↑0 ⇑0) ⇑0) [.asg 2 (.bin .mod (.idx ↑0 ⇑0) ↑1),.FT 0 ⇑0 (.bin .fdiv (.idx ↑0 ⇑0) ↑1),.ret ↑2] [],.FT 0 ⇑2 (.bin .add (.idx ↑0 ⇑2) ⇑1),.asg 3 (.bin .mod (.bin .add (.idx ↑0 ⇑1) (.bin .mul ⇑7919 (.idx ↑0 ⇑2))) ⇑1000000007),.asg 4 (.bin .mod (.bin .mul (.bin .add ↑3 ⇑11) (.bin .add ↑3 ⇑48271)) ⇑998244353),.ret (.bin .mod (.bin .fdiv (.bin .mod (.bin .mul ↑4 ↑4) ⇑2147483647) ⇑8) ↑1)]
noncomputable def f18:Fd:=⟨2,5,b18⟩
theorem adR:aU ["pool","base","digit","near","stir"] ["pool","base"] (aK s18):={}
include cl in
theorem d18(a:jw K "_law_next" "_law_next" s18 f fd):↥(["pool","base"],2,f18):=by
 exists a,adR,0,0;refine bj ?_ ?_;.exists eX ?_ ?_ ?_;exact bL kW (az (sv 0) aa) aa (aV _);(· rfl';(· exists 2,au gG (az (sv 0) aa) (sv 1));(· rfl';exact vL (k:=0) rfl (by ac_rfl) aa (au yf (az (sv 0) aa) (sv 1));(· rfl';(· exists(),sv 2);exact aA)));exact aA
 rfl';.exact(vL (k:=0) rfl (by ac_rfl) aa (au aC (az (sv 0) aa) aa))
 rfl';.exists 3,au gG (au aC (az (sv 0) aa) (au jA aa (az (sv 0) aa))) aa
 rfl';.exists 4,au gG (au jA (au aC (sv 3) aa) (au aC (sv 3) aa)) aa
 rfl';.exists(),au gG (au yf (au gG (au jA (sv 4) (sv 4)) aa) aa) (sv 1)
 exact aA
noncomputable abbrev s19:fR:=top 24
noncomputable def b19:List S:=[.ret (.bin .mod (.bin .add (.bin .mul (.call 18 [↑0,⇑100000]) ⇑100000) (.call 18 [↑0,⇑100000])) ↑1)]
noncomputable def f19:Fd:=⟨2,2,b19⟩
theorem adI:aU ["pool","base"] ["pool","base"] (aK s19):={}
include cl in
theorem d19(b:jw K "_law_wide" "_law_wide" s19 f fd)(a:↥(18,"_law_next",2,0)):↥(["pool","base"],2,f19):=by
 exists b,adI,0,0;refine bj ?_ ?_;.exists(),au gG (au aC (au jA (dY a hr (bf (sv 0) (bf aa aG rfl) rfl)) aa) (dY a hr (bf (sv 0) (bf aa aG rfl) rfl))) (sv 1)
 exact aA
noncomputable abbrev s20:fR:=top 25
noncomputable def b20:List S:=[.asg 2 (.lst []),.gf (.nY ⇑0 (.bin .sub ↑1 ⇑1)) [3] ck [.ifs (.cmp .gt (.call 18 [↑0,⇑8]) ⇑0) [.app 2 (.tup [↑3,.bin .add ↑3 ⇑1])] []],.gf (.nY ⇑0 (.call 18 [↑0,.bin .sub ⇑13 (.blt .len [↑2])])) [4] ck [.asg 5 (.call 18 [↑0,↑1]),.app 2 (.tup [↑5,.bin .mod (.bin .add (.bin .add ↑5 ⇑1) (.call 18 [↑0,.bin .sub ↑1 ⇑1])) ↑1])],.asg 6 (.lst []),.gf ↑2 [5,7] a_ [.app 6 (.tup [↑5,↑7,.idx (.lst [⇑1,⇑1,⇑2,⇑2,⇑3,.bin .add ⇑1 (.call 18 [↑0,⇑5]),.bin .add ⇑1 (.call 19 [↑0,.bin .pow ⇑10 ⇑6])]) (.call 18 [↑0,⇑7])])],.ret ↑6]
noncomputable def f20:Fd:=⟨2,8,b20⟩
theorem adU:aU ["pool","many","roads","place","k","begin","found","end"] ["pool","many"] (aK s20):={}
include cl in
theorem d20(b:jw K "_law_roads" "_law_roads" s20 f fd)(cT:mg "len"=b_)(aO:mg "range"=b_)(a:↥(18,"_law_next",2,0))(e:↥(19,"_law_wide",2,0)):↥(["pool","many"],2,f20):=by
 exists b,adU,0,0;refine bj ?_ ?_;.exists 2,bR aF
 rfl';.exists 3,dN rfl (by rfl) aO (au bQ (sv 1) aa),0;(· rfl';(· exists eX ?_ ?_ ?_;exact bL kW (dY a hr (bf (sv 0) (bf aa aG rfl) rfl)) aa (aV _);(· rfl';exact bB (k:=2) rfl (by ac_rfl) (bJ (bu (sv 3) (bu (au aC (sv 3) aa) aF rfl) rfl));exact aA);exact aA);exact aA)
 rfl';.exists 4,dN rfl (by rfl) aO (dY a hr (bf (sv 0) (bf (au bQ aa (eY rfl (by rfl) cT (sv 2))) aG rfl) rfl)),0;(· rfl';(· exists 5,dY a hr (bf (sv 0) (bf (sv 1) aG rfl) rfl));(· rfl';exact bB (k:=2) rfl (by ac_rfl) (bJ (bu (sv 5) (bu (au gG (au aC (au aC (sv 5) aa) (dY a hr (bf (sv 0) (bf (au bQ (sv 1) aa) aG rfl) rfl))) (sv 1)) aF rfl) rfl));exact aA))
 rfl';.exists 6,bR aF
 rfl';.exact(j4 fi hc (cN (sv 2)) (bY hc (ao (ak (i:=5) nd rfl oi oi) (ao (ak (i:=7) nd rfl oi oi) bG))) (dM rfl (aJ _ _ (aJ _ _ cV 7) 5)) (by rfl';exact bB (k:=6) rfl (by ac_rfl) (bJ (bu (sv 5) (bu (sv 7) (bu (az (bR (lH [1,1,2,2,3] rfl (bu (au aC aa (dY a hr (bf (sv 0) (bf aa aG rfl) rfl))) (bu (au aC aa (dY e hr (bf (sv 0) (bf (au iy aa aa) aG rfl) rfl))) aF rfl) rfl))) (dY a hr (bf (sv 0) (bf aa aG rfl) rfl))) aF rfl) rfl) rfl));exact aA))
 rfl';.exists(),sv 6
 exact aA
noncomputable abbrev s21:fR:=top 26
noncomputable def Rv:List S:=[.asg 4 ⇑0,.asg 5 (.call 18 [↑0,.bin .add ↑2 ⇑1]),.asg 6 (.lst []),.gf (.nY ⇑0 ⇑8) [7] ck [.asg 8 (.comp (.nY ⇑0 (.blt .len [↑3])) 1 [10] ck (aB (.and (.cmp .eq (.idx (.idx ↑3 ↑10) ⇑0) ↑4) (.and (.cmp .gt (.idx (.idx ↑3 ↑10) ⇑1) ⇑0) (.cmp .le (.bin .add ↑5 (.idx (.idx ↑3 ↑10) ⇑2)) ↑2)))) ↑10),.ifs (.or (.cmp .eq ↑4 (.bin .sub ↑1 ⇑1)) (.cmp .eq ↑8 (.lst []))) [.brk] [],.asg 9 (.idx ↑8 (.call 18 [↑0,.blt .len [↑8]])),.app 6 (.tup [↑5,↑9]),.asg 4 (.idx (.idx ↑3 ↑9) ⇑1),.asg 5 (.blt .min2 [↑2,.bin .add (.bin .add ↑5 (.idx (.idx ↑3 ↑9) ⇑2)) (.idx (.lst [⇑0,⇑0,⇑0,⇑1,⇑2]) (.call 18 [↑0,⇑5]))])],.ifs (.cmp .lt ↑4 (.bin .sub ↑1 ⇑1)) [.ret (.lst [])] [],.ret ↑6]
noncomputable def f21:Fd:=⟨4,10,Rv⟩
theorem aey:aU ["pool","many","last","ways","place","hour","found","turn","some","k"] ["pool","many","last","ways"] (aK s21):={}
include cl in
theorem d21(b:jw K "_law_route" "_law_route" s21 f fd)(cT:mg "len"=b_)(oA:mg "min"=b_)(aO:mg "range"=b_)(a:↥(18,"_law_next",2,0)):↥(["pool","many","last","ways"],4,f21):=by
 exists b,aey,0,0;refine bj ?_ ?_;.exists mJ (i:=4) ?_ ?_ ?_ ?_ ?_ ?_;exact nd;exact rfl;exact ef rfl;rotate_left;rfl;exact oi;exact aa
 rfl';.exists mJ (i:=5) ?_ ?_ ?_ ?_ ?_ ?_;exact nd;exact rfl;exact ef rfl;rotate_left;rfl;exact oi;exact dY a hr (bf (sv 0) (bf (au aC (sv 2) aa) aG rfl) rfl)
 rfl';.exists 6,bR aF
 rfl';.exists 7,dN rfl (by rfl) aO aa,0;(· rfl';exact p8 (i:=8) (N':=["pool","many","last","ways","place","hour","found","turn","some","k#9","k"]) hc nd rfl oi (pO rfl (by rfl)) (dN rfl (by rfl) aO (eY rfl (by rfl) cT (sv 3))) ⇑(ak (i:=10) ‹["pool","many","last","ways","place","hour","found","turn","some","k#9","k"]› rfl (ei rfl) (ef rfl)) (cU (dW)) ⇑(wg (SW.st (mG (bL (gq (aY hr)) (az (az (sv 3) (sv 10)) aa) (sv 4) (aV _)) (mG (bL kW (az (az (sv 3) (sv 10)) aa) aa (aV _)) (qu (bL jK (au aC (sv 5) (az (az (sv 3) (sv 10)) aa)) (sv 2) (aV _))))))) ⇑((sv 10)) (by rfl) (by intro _;rfl) (ei rfl);(· rfl';(· exists eX ?_ ?_ ?_;exact SW.st (nG (bL (gq (aY hr)) (sv 4) (au bQ (sv 1) aa) (aV _)) (mq (bL (gq (aY hr)) (sv 8) (bR aF) (aV _))));(· rfl';exact Tz;exact aA);exact aA);(· rfl';(· exists 9,az (sv 8) (dY a hr (bf (sv 0) (bf (eY rfl (by rfl) cT (sv 8)) aG rfl) rfl)));(· rfl';exact bB (k:=6) rfl (by ac_rfl) (bJ (bu (sv 5) (bu (sv 9) aF rfl) rfl));(· rfl';(· exists mJ (i:=4) ?_ ?_ ?_ ?_ ?_ ?_;exact nd;exact rfl;exact ef rfl;rotate_left;rfl;exact oi;exact az (az (sv 3) (sv 9)) aa);(· rfl';(· exists mJ (i:=5) ?_ ?_ ?_ ?_ ?_ ?_;exact nd;exact rfl;exact ef rfl;rotate_left;rfl;exact oi;exact uX rfl hc (by rfl) oA (bu (sv 2) (bu (au aC (au aC (sv 5) (az (az (sv 3) (sv 9)) aa)) (az (bR (lH [0,0,0,1,2] rfl aF)) (dY a hr (bf (sv 0) (bf aa aG rfl) rfl)))) aF rfl) rfl));exact aA))))))
 rfl';.exists eX ?_ ?_ ?_;exact bL (jZ (aY hr)) (sv 4) (au bQ (sv 1) aa) (aV _);(· rfl';(· exists(),bR aF);exact aA);exact aA
 rfl';.exists(),sv 6
 exact aA
noncomputable abbrev s22:fR:=top 27
noncomputable def b22:List S:=[.tu 4 ck,.gf (.nY ⇑0 (.call 18 [↑0,⇑7])) [5] ck [.asg 6 (.idx (.lst [⇑1,⇑1,⇑2,.bin .add ⇑1 (.call 18 [↑0,⇑5]),.bin .add ⇑1 (.call 19 [↑0,.bin .pow ⇑10 ⇑8])]) (.call 18 [↑0,⇑5])),.gf (.call 21 [↑0,↑1,↑2,↑3]) [7,8] a_ [.nZ 4 [↑7,↑8] (.bin .add (.yC 4 [↑7,↑8] ⇑0) ↑6)]],.ret (.comp (.blt .sorted [.blt .Wk [.vw 4]]) 2 [9,10] a_ b_ (.tup [↑9,↑10,.Kg 4 [↑9,↑10]]))]
noncomputable def f22:Fd:=⟨4,9,b22⟩
theorem abZ:aU ["pool","many","last","ways","table","turn","loads","hour","way"] ["pool","many","last","ways"] (aK s22):={}
include cl in
theorem d22(b:jw K "_law_flow" "_law_flow" s22 f fd)(iY:mg "list"=b_)(aO:mg "range"=b_)(dz:mg "sorted"=b_)(a:↥(18,"_law_next",2,0))(e:↥(21,"_law_route",4,0))(g:↥(19,"_law_wide",2,0)):↥(["pool","many","last","ways"],4,f22):=by
 exists b,abZ,0,0;refine bj ?_ ?_;.exact(qI (i:=4) nd rfl (ef rfl) (by rfl) (ei rfl))
 rfl';.exists 5,dN rfl (by rfl) aO (dY a hr (bf (sv 0) (bf aa aG rfl) rfl)),0;(· rfl';(· exists 6,az (bR (lH [1,1,2] rfl (bu (au aC aa (dY a hr (bf (sv 0) (bf aa aG rfl) rfl))) (bu (au aC aa (dY g hr (bf (sv 0) (bf (au iy aa aa) aG rfl) rfl))) aF rfl) rfl))) (dY a hr (bf (sv 0) (bf aa aG rfl) rfl)));(· rfl';exact j4 fi hc (cN (dY e hr (bf (sv 0) (bf (sv 1) (bf (sv 2) (bf (sv 3) aG rfl) rfl) rfl) rfl))) (bY hc (ao (ak (i:=7) nd rfl oi oi) (ao (ak (i:=8) nd rfl oi oi) bG))) (dM rfl (aJ _ _ (aJ _ _ cV 8) 7)) (by rfl';exact mY (i:=4) (aY hr) rfl (by ac_rfl) (bu (sv 7) (bu (sv 8) aF rfl) rfl) (au aC (vM (i:=4) (aY hr) rfl (by ac_rfl) (bu (sv 7) (bu (sv 8) aF rfl) rfl) aa ⟨rfl,rfl,rfl,rfl⟩) (sv 6)) (by rfl);exact aA);exact aA))
 rfl';.exists(),cO (N':=["pool","many","last","ways","table","turn","loads","hour#7","way#8","hour","way"]) hc (pO rfl (by rfl)) (cN (lR rfl (by rfl) dz (HR rfl hc (by rfl) iY (O3 (i:=4) rfl (by ac_rfl))))) ⇑(bY hc (ao (ak (i:=9) ‹["pool","many","last","ways","table","turn","loads","hour#7","way#8","hour","way"]› rfl (ei rfl) (ef rfl)) (ao (ak (i:=10) ‹["pool","many","last","ways","table","turn","loads","hour#7","way#8","hour","way"]› rfl (ei rfl) (ef rfl)) bG))) (gF rfl (bC (show 9<=9 by decide) (bC (show 9<=10 by decide) gJ))) ⇑(cg) ⇑((bJ (bu (sv 9) (bu (sv 10) (bu (Jb (i:=4) (aY hr) rfl (by first|exact ei rfl|exact ef (ei rfl)|exact ef (ef rfl)) (bu (sv 9) (bu (sv 10) aF rfl) rfl) (λ_ _=>rfl)) aF rfl) rfl) rfl)))
 exact aA
noncomputable abbrev s23:fR:=top 28
noncomputable def b23:List S:=[.FW 4 (.nY ⇑0 ↑0) 1 [12] ck (.bin .mul (.lst [⇑0]) (.bin .add ↑1 ⇑1)),.yE ↑3 [5,6,7] a_ [.Gi [8,9,10] (.idx ↑2 ↑6),.yD 4 ↑8 ↑5 ck ↑7,.yD 4 ↑9 (.bin .add ↑5 ↑10) a_ ↑7],.yE (.nY ⇑1 (.bin .add ↑1 ⇑1)) [5] ck [.Kh 4 11 ↑5 ↑5 (.bin .sub ↑5 ⇑1)],.fO 4,.ret ↑4]
noncomputable def f23:Fd:=⟨4,12,b23⟩
theorem adY:aU ["many","last","ways","plan","found","hour","way","loads","begin","end","hours","row"] ["many","last","ways","plan"] (aK s23):={}
include cl in
theorem d23(a:jw K "_law_stocks" "_law_stocks" s23 f fd)(aO:mg "range"=b_):↥(["many","last","ways","plan"],4,f23):=by exists a,adY,0,0;exact(by(refine Cu (i:=4) (N':=["many","last","ways","plan","found","hour","way","loads","begin","end","hours","row","place"]) (g:=gj 12) ?_ ?_ ?_ ?_ ?_ ?_ ?_ ?_ ?_ ?_ ?_ ?_ ?_ ?_);exact hc;exact nd;exact rfl;exact oi;exact pO rfl (by rfl);exact dN rfl (by rfl) aO (sv 0);exact ⇑(ak (i:=12) ‹["many","last","ways","plan","found","hour","way","loads","begin","end","hours","row","place"]› rfl (ei rfl) (ef rfl));exact cU (dW);exact ⇑(cg);exact ⇑((au jA (bR (bu aa aF rfl)) (au aC (sv 1) aa)));(· exists rH ?_ ?_;(· exists qj (g:=Fe K 3 (lY (gj 5) (lY (gj 6) (lY (gj 7) Fg)))) ?_ ?_ ?_ ?_ ?_ ?_ ?_;exact fi;exact hc;exact vd (sv 3);exact bY hc (ao (ak (i:=5) nd rfl oi oi) (ao (ak (i:=6) nd rfl oi oi) (ao (ak (i:=7) nd rfl oi oi) bG)));exact dM rfl (aJ _ _ (aJ _ _ (aJ _ _ cV 7) 6) 5);(· exists gQ ?_ ?_;(· exists Ae ?_;exact kJ (az (sv 2) (sv 6)) (bY hc (ao (ak (i:=8) nd rfl oi oi) (ao (ak (i:=9) nd rfl oi oi) (ao (ak (i:=10) nd rfl oi oi) bG)))) (dM rfl (aJ _ _ (aJ _ _ (aJ _ _ cV 10) 9) 8)));(· exists gQ ?_ ?_;(· exists wU (k:=4) ?_ ?_ ?_ ?_ ?_ ?_ ?_ ?_ ?_ ?_ ?_ ?_ ?_ ?_ ?_ ?_ ?_;exact rfl;(· first|exact ei rfl|exact ef (ei rfl));exact sv 8;exact sv 5;exact sv 8;exact sv 5;exact sv 7;exact ei ⟨rfl,rfl⟩;(· intro _ _;rfl);(· intro _ _;rfl);(· intro _ _;rfl);(· intro _;rfl);rfl;rfl;rfl;rfl;rfl);(· exists gQ ?_ ?_;(· exists wU (k:=4) ?_ ?_ ?_ ?_ ?_ ?_ ?_ ?_ ?_ ?_ ?_ ?_ ?_ ?_ ?_ ?_ ?_;exact rfl;(· first|exact ei rfl|exact ef (ei rfl));exact sv 9;exact au aC (sv 5) (sv 10);exact sv 9;exact au aC (sv 5) (sv 10);exact sv 7;exact ef ⟨rfl,rfl⟩;(· intro _ _;rfl);(· intro _ _;rfl);(· intro _ _;rfl);(· intro _;rfl);rfl;rfl;rfl;rfl;rfl);exact qw)));(· intro _;rfl));(· exists rH ?_ ?_;(· exists qj (g:=gj 5) ?_ ?_ ?_ ?_ ?_ ?_ ?_;exact fi;exact hc;(· exists HB ?_ ?_ ?_ ?_ ?_ ?_ ?_;exact rfl;rfl;exact aO;exact aa;exact au aC (sv 1) aa;rfl;rfl);exact ak (i:=5) nd rfl oi oi;(· rw[uo];exact Ci 5);(· exists gQ ?_ ?_;(· exists J7 (kx:=4) (ky:=11) ?_ ?_ ?_ ?_ ?_ ?_ ?_ ?_ ?_ ?_ ?_ ?_ ?_ ?_ ?_ ?_ ?_ ?_ ?_ ?_ ?_ ?_ ?_;exact fi;exact hc;exact nd;exact rfl;(· first|exact ei rfl|exact ef (ei rfl));exact rfl;exact oi;(· first|exact ei rfl|exact ef (ei rfl));exact sv 5;exact sv 5;exact au bQ (sv 5) aa;(· intro _ _;rfl);(· intro _ _;rfl);(· intro _;rfl);rfl;rfl;rfl;(· intro _;rfl);exact oi;rfl;rfl;rfl;rfl);exact qw);(· intro _;rfl));(· exists Bf ?_;(· rfl';(· exists(),sv 4);exact aA))));rfl;(· intro _;rfl);exact oi)
noncomputable abbrev s24:fR:=top 29
noncomputable def En:List S:=[.asg 1 (.bin .add ⇑2 (.call 18 [↑0,⇑5])),.asg 2 (.idx (.lst [.call 18 [↑0,⇑13],.bin .add ⇑4 (.call 18 [↑0,⇑9]),⇑12]) (.call 18 [↑0,⇑3])),.asg 3 (.call 20 [↑0,↑1]),.asg 4 (.call 22 [↑0,↑1,↑2,↑3]),.tu 5 ck,.gf ↑4 [6,7,8] a_ [.nZ 5 [↑6,↑7] ↑8],.asg 9 (.lst []),.gf (.nY ⇑0 (.blt .len [↑3])) [7] ck [.app 9 (.blt .tuple [.comp (.nY ⇑0 (.bin .add ↑2 ⇑1)) 1 [13] ck b_ (.blt .min2 [.bin .pow ⇑10 ⇑9,.bin .add (.yC 5 [↑13,↑7] ⇑0) (.idx (.lst [⇑0,⇑0,⇑1,.call 18 [↑0,⇑4],.call 19 [↑0,.bin .pow ⇑10 ⇑9]]) (.call 18 [↑0,⇑5]))])])],.asg 10 (.lst [.con .non]),.gf (.slice (.call 23 [↑1,↑2,↑3,↑4]) ⇑1 (.neg ⇑1)) [11] ck [.asg 11 (.slice ↑11 (.con .non) ↑2),.asg 12 (.comp ↑11 1 [13] ck b_ (.idx (.lst [⇑0,⇑0,⇑1,.call 18 [↑0,⇑3]]) (.call 18 [↑0,⇑4]))),.app 10 (.idx (.lst [.con .non,.blt .tuple [.comp (.zip ↑11 ↑12) 2 [13,14] a_ b_ (.bin .add ↑13 ↑14)]]) (.blt .int [.cmp .gt (.call 18 [↑0,⇑3]) ⇑0]))],.app 10 (.con .non),.ret (.tup [.tup [↑1,↑2,.blt .tuple [↑3],.blt .tuple [↑9],.blt .tuple [↑10]],↑4])]
noncomputable def f24:Fd:=⟨1,13,En⟩
theorem acX:aU ["pool","many","last","ways","plan","used","hour","way","loads","rooms","waits","row","more"] ["pool"] (aK s24):={}
include cl in
theorem d24(b:jw K "_law_case" "_law_case" s24 f fd)(Ks:mg "int"=b_)(cT:mg "len"=b_)(oA:mg "min"=b_)(aO:mg "range"=b_)(dX:mg "tuple"=b_)(oh:mg "zip"=b_)(e:↥(22,"_law_flow",4,0))(a:↥(18,"_law_next",2,0))(g:↥(20,"_law_roads",2,0))(h:↥(23,"_law_stocks",4,0))(j:↥(19,"_law_wide",2,0)):↥(["pool"],1,f24):=by
 exists b,acX,0,0;refine bj ?_ ?_;.exists 1,au aC aa (dY a hr (bf (sv 0) (bf aa aG rfl) rfl))
 rfl';.exists 2,az (bR (bu (dY a hr (bf (sv 0) (bf aa aG rfl) rfl)) (bu (au aC aa (dY a hr (bf (sv 0) (bf aa aG rfl) rfl))) (bu aa aF rfl) rfl) rfl)) (dY a hr (bf (sv 0) (bf aa aG rfl) rfl))
 rfl';.exists 3,dY g hr (bf (sv 0) (bf (sv 1) aG rfl) rfl)
 rfl';.exists 4,dY e hr (bf (sv 0) (bf (sv 1) (bf (sv 2) (bf (sv 3) aG rfl) rfl) rfl) rfl)
 rfl';.exact(qI (i:=5) nd rfl (ef rfl) (by rfl) (ei rfl))
 rfl';.exact(j4 fi hc (cN (sv 4)) (bY hc (ao (ak (i:=6) nd rfl oi oi) (ao (ak (i:=7) nd rfl (ef rfl) (ei rfl)) (ao (ak (i:=8) nd rfl oi oi) bG)))) (dM rfl (aJ _ _ (aJ _ _ (aJ _ _ cV 8) 7) 6)) (by rfl';exact mY (i:=5) (aY hr) rfl (by ac_rfl) (bu (sv 6) (bu (sv 7) aF rfl) rfl) (sv 8) (by rfl);exact aA))
 rfl';.exists 9,bR aF
 rfl';.exists Dh (i:=7) ?_ ?_ ?_ ?_ ?_ ?_ ?_ ?_ ?_;exact fi;exact hc;exact nd;exact rfl;exact ef rfl;exact dN rfl (by rfl) aO (eY rfl (by rfl) cT (sv 3));(· rfl';exact bB (k:=9) rfl (by ac_rfl) (gV rfl (by rfl) dX (cO (N':=["pool","many","last","ways","plan","used","hour#6","way","loads","rooms","waits","row","more","hour"]) hc (pO rfl (by rfl)) (dN rfl (by rfl) aO (au aC (sv 2) aa)) ⇑(ak (i:=13) ‹["pool","many","last","ways","plan","used","hour#6","way","loads","rooms","waits","row","more","hour"]› rfl (ei rfl) (ef rfl)) (cU (dW)) ⇑(cg) ⇑((uX rfl hc (by rfl) oA (bu (au iy aa aa) (bu (au aC (vM (i:=5) (aY hr) rfl (by ac_rfl) (bu (sv 13) (bu (sv 7) aF rfl) rfl) aa ⟨rfl,rfl,rfl,rfl⟩) (az (bR (lH [0,0,1] rfl (bu (dY a hr (bf (sv 0) (bf aa aG rfl) rfl)) (bu (dY j hr (bf (sv 0) (bf (au iy aa aa) aG rfl) rfl)) aF rfl) rfl))) (dY a hr (bf (sv 0) (bf aa aG rfl) rfl)))) aF rfl) rfl)))));exact aA);(· intro _;rfl);exact oi
 rfl';.exists 10,bR (bu qL aF rfl)
 rfl';.exists 11,cN (bT (dY h hr (bf (sv 1) (bf (sv 2) (bf (sv 3) (bf (sv 4) aG rfl) rfl) rfl) rfl)) (cj aa) (cj (Ja aa))),0;(· rfl';(· exists 11,bT (sv 11) di (cj (sv 2)));(· rfl';exact p8 (i:=12) (N':=["pool","many","last","ways","plan","used","hour","way","loads#8","rooms","waits","row","more","loads"]) hc nd rfl oi (pO rfl (by rfl)) (cN (sv 11)) ⇑(ak (i:=13) ‹["pool","many","last","ways","plan","used","hour","way","loads#8","rooms","waits","row","more","loads"]› rfl (ei rfl) (ef rfl)) (cU (dW)) ⇑(cg) ⇑((az (bR (lH [0,0,1] rfl (bu (dY a hr (bf (sv 0) (bf aa aG rfl) rfl)) aF rfl))) (dY a hr (bf (sv 0) (bf aa aG rfl) rfl)))) (by rfl) (by intro _;rfl) (ei rfl);(· rfl';exact bB (k:=10) rfl (by ac_rfl) (az (bR (bu qL (bu (gV rfl (by rfl) dX (cO (N':=["pool","many","last","ways","plan","used","hour","way","loads#8","rooms","waits","row","more","loads","other"]) hc (pO rfl (by rfl)) (yV rfl (by rfl) oh (sv 11) (sv 12)) ⇑(bY hc (ao (ak (i:=13) ‹["pool","many","last","ways","plan","used","hour","way","loads#8","rooms","waits","row","more","loads","other"]› rfl (ei rfl) (ef rfl)) (ao (ak (i:=14) ‹["pool","many","last","ways","plan","used","hour","way","loads#8","rooms","waits","row","more","loads","other"]› rfl (ei rfl) (ef rfl)) bG))) (gF rfl (bC (show 13<=13 by decide) (bC (show 13<=14 by decide) gJ))) ⇑(cg) ⇑((au aC (sv 13) (sv 14))))) aF rfl) rfl)) (KZ rfl (by rfl) Ks (gn kW (dY a hr (bf (sv 0) (bf aa aG rfl) rfl)) aa (aV _))));exact aA)))
 rfl';.exact(bB (k:=10) rfl (by ac_rfl) qL)
 rfl';.exists(),bJ (bu (bJ (bu (sv 1) (bu (sv 2) (bu (gV rfl (by rfl) dX (sv 3)) (bu (gV rfl (by rfl) dX (sv 9)) (bu (gV rfl (by rfl) dX (sv 10)) aF rfl) rfl) rfl) rfl) rfl)) (bu (sv 4) aF rfl) rfl)
 exact aA
noncomputable abbrev s25:fR:=top 30
noncomputable def Qn:List S:=[.Gi [2,3,4,5,6] ↑0,.gf (.nY ⇑0 (.blt .len [↑1])) [7] ck [.Gi [8,9,10] (.idx ↑1 ↑7),.ifs (.and (.cmp .gt ↑7 ⇑0) (.cmp .geT (.tup [.idx (.idx ↑1 (.bin .sub ↑7 ⇑1)) ⇑0,.idx (.idx ↑1 (.bin .sub ↑7 ⇑1)) ⇑1]) (.tup [↑8,↑9]))) [.ret (.con (.bl a_))] [],.ifs (.or (.bin .Ke ↑9 (.blt .len [↑4])) (.or (.bin .Ke ↑8 (.bin .add ↑3 ⇑1)) (.or (.cmp .lt ↑10 ⇑1) (.cmp .gt ↑10 (.idx (.idx ↑5 ↑9) ↑8))))) [.ret (.con (.bl a_))] [],.ifs (.cmp .gt (.bin .add ↑8 (.idx (.idx ↑4 ↑9) ⇑2)) ↑3) [.ret (.con (.bl a_))] []],.asg 11 (.call 23 [↑2,↑3,↑4,↑1]),.gf (.nY ⇑1 ↑2) [12] ck [.asg 13 (.idx ↑11 ↑12),.gf (.nY ⇑0 (.bin .add ↑3 ⇑1)) [8] ck [.ifs (.or (.cmp .lt (.idx ↑13 ↑8) ⇑0) (.and (.cmp .lt ↑8 ↑3) (.and (.cmp .Oj (.idx ↑6 ↑12) (.con .non)) (.cmp .gt (.idx ↑13 ↑8) (.idx (.idx ↑6 ↑12) ↑8))))) [.ret (.con (.bl a_))] []]],.ret (.con (.bl ck))]
noncomputable def f25:Fd:=⟨2,14,Qn⟩
theorem acK:aU ["calendar","plan","many","last","ways","rooms","waits","k","hour","way","loads","stocks","place","row"] ["calendar","plan"] (aK s25):={}
include cl in
theorem d25(a:jw K "_law_right" "_law_right" s25 f fd)(cT:mg "len"=b_)(aO:mg "range"=b_)(b:↥(23,"_law_stocks",4,0)):↥(["calendar","plan"],2,f25):=by
 exists a,acK,0,0;refine bj ?_ ?_;.exact(kJ (sv 0) (bY hc (ao (ak (i:=2) nd rfl oi oi) (ao (ak (i:=3) nd rfl oi oi) (ao (ak (i:=4) nd rfl oi oi) (ao (ak (i:=5) nd rfl oi oi) (ao (ak (i:=6) nd rfl oi oi) bG)))))) (dM rfl (aJ _ _ (aJ _ _ (aJ _ _ (aJ _ _ (aJ _ _ cV 6) 5) 4) 3) 2)))
 rfl';.exists 7,dN rfl (by rfl) aO (eY rfl (by rfl) cT (sv 1)),0;(· rfl';exact kJ (az (sv 1) (sv 7)) (bY hc (ao (ak (i:=8) nd rfl oi oi) (ao (ak (i:=9) nd rfl oi oi) (ao (ak (i:=10) nd rfl oi oi) bG)))) (dM rfl (aJ _ _ (aJ _ _ (aJ _ _ cV 10) 9) 8));(· rfl';(· exists eX ?_ ?_ ?_;exact SW.st (mG (bL kW (sv 7) aa (aV _)) (qu (bL (Mp (aY hr)) (bJ (bu (az (az (sv 1) (au bQ (sv 7) aa)) aa) (bu (az (az (sv 1) (au bQ (sv 7) aa)) aa) aF rfl) rfl)) (bJ (bu (sv 8) (bu (sv 9) aF rfl) rfl)) (aV _))));(· rfl';(· exists(),iu);exact aA);exact aA);(· rfl';(· exists eX ?_ ?_ ?_;exact SW.st (nG (Bh rfl (by rfl) aO (sv 9) (eY rfl (by rfl) cT (sv 4))) (nG (Bh rfl (by rfl) aO (sv 8) (au aC (sv 3) aa)) (nG (bL (jZ (aY hr)) (sv 10) aa (aV _)) (mq (bL kW (sv 10) (az (az (sv 5) (sv 9)) (sv 8)) (aV _))))));(· rfl';(· exists(),iu);exact aA);exact aA);(· rfl';(· exists eX ?_ ?_ ?_;exact bL kW (au aC (sv 8) (az (az (sv 4) (sv 9)) aa)) (sv 3) (aV _);(· rfl';(· exists(),iu);exact aA);exact aA);exact aA))))
 rfl';.exists 11,dY b hr (bf (sv 2) (bf (sv 3) (bf (sv 4) (bf (sv 1) aG rfl) rfl) rfl) rfl)
 rfl';.exists 12,qe rfl (by rfl) aO aa (sv 2),0;(· rfl';(· exists 13,az (sv 11) (sv 12));(· rfl';(· exists 8,dN rfl (by rfl) aO (au aC (sv 3) aa),0;(· rfl';(· exists eX ?_ ?_ ?_;exact SW.st (nG (bL (jZ (aY hr)) (az (sv 13) (sv 8)) aa (aV _)) (mq (SW.st (mG (bL (jZ (aY hr)) (sv 8) (sv 3) (aV _)) (mG (bL M9 (az (sv 6) (sv 12)) qL (aV _)) (qu (bL kW (az (sv 13) (sv 8)) (az (az (sv 6) (sv 12)) (sv 8)) (aV _))))))));(· rfl';(· exists(),iu);exact aA);exact aA);exact aA));exact aA))
 rfl';.exists(),iu
 exact aA
noncomputable abbrev s26:fR:=top 31
noncomputable def b26:List S:=[.Gi [2,3,4,5,6] ↑0,.gf ↑1 [7,8,9] a_ [.ifs (.or (.cmp .eq (.idx (.idx ↑4 ↑8) ⇑1) ⇑0) (.cmp .eq (.idx (.idx ↑4 ↑8) ⇑0) (.bin .sub ↑2 ⇑1))) [.ret (.con (.bl a_))] []],.ret (.blt .all [.comp (.slice (.call 23 [↑2,↑3,↑4,↑1]) ⇑1 (.neg ⇑1)) 1 [10] ck b_ (.cmp .eq (.idx ↑10 ↑3) ⇑0)])]
noncomputable def f26:Fd:=⟨2,10,b26⟩
theorem acA:aU ["calendar","plan","many","last","ways","rooms","waits","hour","way","loads"] ["calendar","plan"] (aK s26):={}
include cl in
theorem d26(a:jw K "_law_clean" "_law_clean" s26 f fd)(dF:mg "all"=b_)(b:↥(23,"_law_stocks",4,0)):↥(["calendar","plan"],2,f26):=by
 exists a,acA,0,0;refine bj ?_ ?_;.exact(kJ (sv 0) (bY hc (ao (ak (i:=2) nd rfl oi oi) (ao (ak (i:=3) nd rfl (ef rfl) (ei rfl)) (ao (ak (i:=4) nd rfl oi oi) (ao (ak (i:=5) nd rfl oi oi) (ao (ak (i:=6) nd rfl oi oi) bG)))))) (dM rfl (aJ _ _ (aJ _ _ (aJ _ _ (aJ _ _ (aJ _ _ cV 6) 5) 4) 3) 2)))
 rfl';.exact(j4 fi hc (cN (sv 1)) (bY hc (ao (ak (i:=7) nd rfl oi oi) (ao (ak (i:=8) nd rfl oi oi) (ao (ak (i:=9) nd rfl oi oi) bG)))) (dM rfl (aJ _ _ (aJ _ _ (aJ _ _ cV 9) 8) 7)) (by rfl';(· exists eX ?_ ?_ ?_;exact SW.st (nG (bL (gq (aY hr)) (az (az (sv 4) (sv 8)) aa) aa (aV _)) (mq (bL (gq (aY hr)) (az (az (sv 4) (sv 8)) aa) (au bQ (sv 2) aa) (aV _))));(· rfl';(· exists(),iu);exact aA);exact aA);exact aA))
 rfl';.exists(),jg rfl hc (by rfl) dF (cO (N':=["calendar","plan","many","last","ways","rooms","waits","hour","way","loads","row"]) hc (pO rfl (by rfl)) (cN (bT (dY b hr (bf (sv 2) (bf (sv 3) (bf (sv 4) (bf (sv 1) aG rfl) rfl) rfl) rfl)) (cj aa) (cj (Ja aa)))) ⇑(ak (i:=10) ‹["calendar","plan","many","last","ways","rooms","waits","hour","way","loads","row"]› rfl (ei rfl) (ef rfl)) (cU (dW)) ⇑(cg) ⇑((gn (gq (aY hr)) (az (sv 10) (sv 3)) aa (aV _))))
 exact aA
noncomputable abbrev s27:fR:=top 32
noncomputable def Gr:List S:=[.Gi [3,4,5,6,7] ↑1,.asg 8 (.lst [↑2,.lst []]),.asg 9 (.call 18 [↑0,.bin .add (.blt .len [↑2]) ⇑1]),.ifs (.cmp .lt ↑9 (.blt .len [↑2])) [.Gi [10,11,12] (.idx ↑2 ↑9),.gf (.lst [.tup [.bin .add ↑10 ⇑1,↑11,↑12],.tup [.bin .sub ↑10 ⇑1,↑11,↑12],.tup [↑10,.bin .add ↑11 ⇑1,↑12],.tup [↑10,.bin .sub ↑11 ⇑1,↑12],.tup [↑10,↑11,.bin .add ↑12 ⇑1],.tup [↑10,↑11,.bin .sub ↑12 ⇑1],.tup [↑10,↑11,.bin .sub ⇑0 ↑12],.tup [.bin .add ↑10 ⇑13,↑11,↑12],.tup [.bin .sub (.bin .sub ↑10 ↑4) ⇑1,↑11,↑12],.tup [.bin .pow ⇑10 ⇑29,↑11,↑12],.tup [↑10,.bin .sub ↑11 (.blt .len [↑5]),↑12],.tup [↑10,.bin .pow ⇑10 ⇑29,↑12],.tup [↑10,↑11,.bin .add ↑12 (.bin .pow ⇑10 ⇑29)]]) [13] ck [.app 8 (.bin .add (.bin .add (.slice ↑2 (.con .non) ↑9) (.lst [↑13])) (.slice ↑2 (.bin .add ↑9 ⇑1) (.con .non))),.app 8 (.blt .sorted [.bin .add (.bin .add (.slice ↑2 (.con .non) ↑9) (.lst [↑13])) (.slice ↑2 (.bin .add ↑9 ⇑1) (.con .non))])],.app 8 (.bin .add (.slice ↑2 (.con .non) ↑9) (.slice ↑2 (.bin .add ↑9 ⇑1) (.con .non))),.app 8 (.bin .add (.bin .add (.slice ↑2 (.con .non) ↑9) (.lst [.idx ↑2 ↑9])) (.slice ↑2 ↑9 (.con .non))),.app 8 (.bin .add (.bin .add (.slice ↑2 (.con .non) ↑9) (.blt .Kf [.slice ↑2 ↑9 (.bin .add ↑9 ⇑2)])) (.slice ↑2 (.bin .add ↑9 ⇑2) (.con .non)))] [],.asg 14 (.tup [.call 18 [↑0,.bin .add ↑4 ⇑1],.call 18 [↑0,.bin .add (.blt .len [↑5]) ⇑1],.bin .add ⇑1 (.call 18 [↑0,⇑2])]),.app 8 (.blt .sorted [.bin .add ↑2 (.lst [↑14])]),.app 8 (.bin .add ↑2 (.lst [↑14])),.asg 15 (.call 18 [↑0,.bin .add ↑4 ⇑1]),.app 8 (.comp ↑2 1 [16] ck (aB (.cmp .le (.bin .add (.idx ↑16 ⇑0) (.idx (.idx ↑5 (.idx ↑16 ⇑1)) ⇑2)) ↑15)) ↑16),.ret (.bin .add (.comp ↑8 1 [16] ck b_ (.tup [↑1,↑16])) (.comp (.nY ⇑0 ⇑2) 1 [16] ck b_ (.call 28 [↑0,↑1,↑2])))]
noncomputable def f27:Fd:=⟨3,16,Gr⟩
theorem acU:aU ["pool","calendar","plan","many","last","ways","rooms","waits","found","at","hour","way","loads","one","more","till"] ["pool","calendar","plan"] (aK s27):={}
include cl in
theorem d27(b:jw K "_law_others" "_law_others" s27 f fd)(cT:mg "len"=b_)(aO:mg "range"=b_)(dz:mg "sorted"=b_)(e:↥(28,"_law_home",3,0))(a:↥(18,"_law_next",2,0)):↥(["pool","calendar","plan"],3,f27):=by
 exists b,acU,0,0;refine bj ?_ ?_;.exact(kJ (sv 1) (bY hc (ao (ak (i:=3) nd rfl oi oi) (ao (ak (i:=4) nd rfl oi oi) (ao (ak (i:=5) nd rfl (ef rfl) (ei rfl)) (ao (ak (i:=6) nd rfl oi oi) (ao (ak (i:=7) nd rfl oi oi) bG)))))) (dM rfl (aJ _ _ (aJ _ _ (aJ _ _ (aJ _ _ (aJ _ _ cV 7) 6) 5) 4) 3)))
 rfl';.exists 8,bR (bu (sv 2) (bu (bR aF) aF rfl) rfl)
 rfl';.exists 9,dY a hr (bf (sv 0) (bf (au aC (eY rfl (by rfl) cT (sv 2)) aa) aG rfl) rfl)
 rfl';.exists eX ?_ ?_ ?_;exact bL (jZ (aY hr)) (sv 9) (eY rfl (by rfl) cT (sv 2)) (aV _);(· rfl';exact kJ (az (sv 2) (sv 9)) (bY hc (ao (ak (i:=10) nd rfl oi oi) (ao (ak (i:=11) nd rfl oi oi) (ao (ak (i:=12) nd rfl oi oi) bG)))) (dM rfl (aJ _ _ (aJ _ _ (aJ _ _ cV 12) 11) 10));(· rfl';(· exists 13,cN (bR (bu (bJ (bu (au aC (sv 10) aa) (bu (sv 11) (bu (sv 12) aF rfl) rfl) rfl)) (bu (bJ (bu (au bQ (sv 10) aa) (bu (sv 11) (bu (sv 12) aF rfl) rfl) rfl)) (bu (bJ (bu (sv 10) (bu (au aC (sv 11) aa) (bu (sv 12) aF rfl) rfl) rfl)) (bu (bJ (bu (sv 10) (bu (au bQ (sv 11) aa) (bu (sv 12) aF rfl) rfl) rfl)) (bu (bJ (bu (sv 10) (bu (sv 11) (bu (au aC (sv 12) aa) aF rfl) rfl) rfl)) (bu (bJ (bu (sv 10) (bu (sv 11) (bu (au bQ (sv 12) aa) aF rfl) rfl) rfl)) (bu (bJ (bu (sv 10) (bu (sv 11) (bu (au bQ aa (sv 12)) aF rfl) rfl) rfl)) (bu (bJ (bu (au aC (sv 10) aa) (bu (sv 11) (bu (sv 12) aF rfl) rfl) rfl)) (bu (bJ (bu (au bQ (au bQ (sv 10) (sv 4)) aa) (bu (sv 11) (bu (sv 12) aF rfl) rfl) rfl)) (bu (bJ (bu (au iy aa aa) (bu (sv 11) (bu (sv 12) aF rfl) rfl) rfl)) (bu (bJ (bu (sv 10) (bu (au bQ (sv 11) (eY rfl (by rfl) cT (sv 5))) (bu (sv 12) aF rfl) rfl) rfl)) (bu (bJ (bu (sv 10) (bu (au iy aa aa) (bu (sv 12) aF rfl) rfl) rfl)) (bu (bJ (bu (sv 10) (bu (sv 11) (bu (au aC (sv 12) (au iy aa aa)) aF rfl) rfl) rfl)) aF rfl) rfl) rfl) rfl) rfl) rfl) rfl) rfl) rfl) rfl) rfl) rfl) rfl)),0;(· rfl';exact bB (k:=8) rfl (by ac_rfl) (au aC (au aC (bT (sv 2) di (cj (sv 9))) (bR (bu (sv 13) aF rfl))) (bT (sv 2) (cj (au aC (sv 9) aa)) di));(· rfl';exact bB (k:=8) rfl (by ac_rfl) (lR rfl (by rfl) dz (au aC (au aC (bT (sv 2) di (cj (sv 9))) (bR (bu (sv 13) aF rfl))) (bT (sv 2) (cj (au aC (sv 9) aa)) di)));exact aA)));(· rfl';exact bB (k:=8) rfl (by ac_rfl) (au aC (bT (sv 2) di (cj (sv 9))) (bT (sv 2) (cj (au aC (sv 9) aa)) di));(· rfl';exact bB (k:=8) rfl (by ac_rfl) (au aC (au aC (bT (sv 2) di (cj (sv 9))) (bR (bu (az (sv 2) (sv 9)) aF rfl))) (bT (sv 2) (cj (sv 9)) di));(· rfl';exact bB (k:=8) rfl (by ac_rfl) (au aC (au aC (bT (sv 2) di (cj (sv 9))) (Lj (bT (sv 2) (cj (sv 9)) (cj (au aC (sv 9) aa))))) (bT (sv 2) (cj (au aC (sv 9) aa)) di));exact aA)))));exact aA
 rfl';.exists 14,bJ (bu (dY a hr (bf (sv 0) (bf (au aC (sv 4) aa) aG rfl) rfl)) (bu (dY a hr (bf (sv 0) (bf (au aC (eY rfl (by rfl) cT (sv 5)) aa) aG rfl) rfl)) (bu (au aC aa (dY a hr (bf (sv 0) (bf aa aG rfl) rfl))) aF rfl) rfl) rfl)
 rfl';.exact(bB (k:=8) rfl (by ac_rfl) (lR rfl (by rfl) dz (au aC (sv 2) (bR (bu (sv 14) aF rfl)))))
 rfl';.exact(bB (k:=8) rfl (by ac_rfl) (au aC (sv 2) (bR (bu (sv 14) aF rfl))))
 rfl';.exists mJ (i:=15) ?_ ?_ ?_ ?_ ?_ ?_;exact nd;exact rfl;exact ef rfl;rotate_left;rfl;exact oi;exact dY a hr (bf (sv 0) (bf (au aC (sv 4) aa) aG rfl) rfl)
 rfl';.exact(bB (k:=8) rfl (by ac_rfl) (cO (N':=["pool","calendar","plan","many","last","ways","rooms","waits","found","at","hour","way","loads","one#13","more","till","one"]) hc (pO rfl (by rfl)) (cN (sv 2)) ⇑(ak (i:=16) ‹["pool","calendar","plan","many","last","ways","rooms","waits","found","at","hour","way","loads","one#13","more","till","one"]› rfl (ei rfl) (ef rfl)) (cU (dW)) ⇑(wg (bL jK (au aC (az (sv 16) aa) (az (az (sv 5) (az (sv 16) aa)) aa)) (sv 15) (aV _))) ⇑((sv 16))))
 rfl';.exists(),au aC (cO (N':=["pool","calendar","plan","many","last","ways","rooms","waits","found","at","hour","way","loads","one#13","more","till","one"]) hc (pO rfl (by rfl)) (cN (sv 8)) ⇑(ak (i:=16) ‹["pool","calendar","plan","many","last","ways","rooms","waits","found","at","hour","way","loads","one#13","more","till","one"]› rfl (ei rfl) (ef rfl)) (cU (dW)) ⇑(cg) ⇑((bJ (bu (sv 1) (bu (sv 16) aF rfl) rfl)))) (cO (N':=["pool","calendar","plan","many","last","ways","rooms","waits","found","at","hour","way","loads","one","more","till","turn"]) hc (pO rfl (by rfl)) (dN rfl (by rfl) aO aa) ⇑(ak (i:=16) ‹["pool","calendar","plan","many","last","ways","rooms","waits","found","at","hour","way","loads","one","more","till","turn"]› rfl (ei rfl) (ef rfl)) (cU (dW)) ⇑(cg) ⇑((dY e hr (bf (sv 0) (bf (sv 1) (bf (sv 2) aG rfl) rfl) rfl))))
 exact aA
noncomputable abbrev s28:fR:=top 33
noncomputable def Fb:List S:=[.Gi [3,4,5,6,7] ↑1,.asg 8 (.idx (.lst [⇑0,.bin .sub ↑3 ⇑1]) (.call 18 [↑0,⇑2])),.asg 9 (.lst []),.gf (.nY ⇑0 (.blt .len [↑5])) [10] ck [.gf (.nY ⇑0 (.blt .len [↑5])) [11] ck [.ifs (.and (.cmp .eq (.idx (.idx ↑5 ↑10) ⇑0) ↑8) (.and (.cmp .eq (.idx (.idx ↑5 ↑10) ⇑1) (.idx (.idx ↑5 ↑11) ⇑0)) (.cmp .eq (.idx (.idx ↑5 ↑11) ⇑1) ↑8))) [.ifs (.cmp .le (.bin .add (.idx (.idx ↑5 ↑10) ⇑2) (.idx (.idx ↑5 ↑11) ⇑2)) ↑4) [.app 9 (.tup [↑10,↑11])] []] []]],.tu 12 ck,.gf ↑2 [13,14,15] a_ [.nZ 12 [↑13,↑14] ↑15],.FW 16 ↑6 1 [19] ck (.blt .list [↑19]),.yE (.slice (.slice ↑9 (.call 18 [↑0,.bin .add (.blt .len [↑9]) ⇑1]) (.con .non)) (.con .non) ⇑1) [10,11] a_ [.asg 13 (.bin .sub (.bin .sub ↑4 (.idx (.idx ↑5 ↑10) ⇑2)) (.idx (.idx ↑5 ↑11) ⇑2)),.yE (.lst [.tup [↑13,↑10],.tup [.bin .add ↑13 (.idx (.idx ↑5 ↑10) ⇑2),↑11]]) [17,14] a_ [.nZ 12 [↑17,↑14] (.bin .add (.yC 12 [↑17,↑14] ⇑0) ⇑1),.Zz 16 ↑14 ↑17 (.FQ 12 [↑17,↑14])]],.fO 16,.asg 6 (.blt .tuple [.comp ↑16 1 [19] ck b_ (.blt .tuple [↑19])]),.asg 18 (.comp (.blt .sorted [.blt .Wk [.vw 12]]) 2 [19,20] a_ b_ (.tup [↑19,↑20,.Kg 12 [↑19,↑20]])),.ret (.tup [.tup [↑3,↑4,↑5,↑6,↑7],↑18])]
noncomputable def f28:Fd:=⟨3,19,Fb⟩
theorem ab5:aU ["pool","calendar","plan","many","last","ways","rooms","waits","home","pairs","one","other","table","hour","way","loads","wide","start","found"] ["pool","calendar","plan"] (aK s28):={}
include cl in
theorem d28(b:jw K "_law_home" "_law_home" s28 f fd)(cT:mg "len"=b_)(iY:mg "list"=b_)(ou:mg "max"=b_)(aO:mg "range"=b_)(dz:mg "sorted"=b_)(dX:mg "tuple"=b_)(a:↥(18,"_law_next",2,0)):↥(["pool","calendar","plan"],3,f28):=by
 exists b,ab5,0,0;refine bj ?_ ?_;.exact(kJ (sv 1) (bY hc (ao (ak (i:=3) nd rfl oi oi) (ao (ak (i:=4) nd rfl oi oi) (ao (ak (i:=5) nd rfl oi oi) (ao (ak (i:=6) nd rfl oi oi) (ao (ak (i:=7) nd rfl oi oi) bG)))))) (dM rfl (aJ _ _ (aJ _ _ (aJ _ _ (aJ _ _ (aJ _ _ cV 7) 6) 5) 4) 3)))
 rfl';.exists 8,az (bR (bu aa (bu (au bQ (sv 3) aa) aF rfl) rfl)) (dY a hr (bf (sv 0) (bf aa aG rfl) rfl))
 rfl';.exists 9,bR aF
 rfl';.exists 10,dN rfl (by rfl) aO (eY rfl (by rfl) cT (sv 5)),0;(· rfl';(· exists 11,dN rfl (by rfl) aO (eY rfl (by rfl) cT (sv 5)),0;(· rfl';(· exists eX ?_ ?_ ?_;exact SW.st (mG (bL (gq (aY hr)) (az (az (sv 5) (sv 10)) aa) (sv 8) (aV _)) (mG (bL (gq (aY hr)) (az (az (sv 5) (sv 10)) aa) (az (az (sv 5) (sv 11)) aa) (aV _)) (qu (bL (gq (aY hr)) (az (az (sv 5) (sv 11)) aa) (sv 8) (aV _)))));(· rfl';(· exists eX ?_ ?_ ?_;exact bL jK (au aC (az (az (sv 5) (sv 10)) aa) (az (az (sv 5) (sv 11)) aa)) (sv 4) (aV _);(· rfl';exact bB (k:=9) rfl (by ac_rfl) (bJ (bu (sv 10) (bu (sv 11) aF rfl) rfl));exact aA);exact aA);exact aA);exact aA);exact aA));exact aA)
 rfl';.exact(qI (i:=12) nd rfl (ef rfl) (by rfl) (ei rfl))
 rfl';.exact(j4 fi hc (cN (sv 2)) (bY hc (ao (ak (i:=13) nd rfl oi oi) (ao (ak (i:=14) nd rfl oi oi) (ao (ak (i:=15) nd rfl oi oi) bG)))) (dM rfl (aJ _ _ (aJ _ _ (aJ _ _ cV 15) 14) 13)) (by rfl';exact mY (i:=12) (aY hr) rfl (by ac_rfl) (bu (sv 13) (bu (sv 14) aF rfl) rfl) (sv 15) (by rfl);exact aA))
 exact(by exists Cu (i:=16) (N':=["pool","calendar","plan","many","last","ways","rooms","waits","home","pairs","one","other","table","hour","way","loads","wide","start","found","row"]) (g:=gj 19) ?_ ?_ ?_ ?_ ?_ ?_ ?_ ?_ ?_ ?_ ?_ ?_ ?_ ?_;exact hc;exact nd;exact rfl;exact oi;exact pO rfl (by rfl);exact cN (sv 6);exact ⇑(ak (i:=19) ‹["pool","calendar","plan","many","last","ways","rooms","waits","home","pairs","one","other","table","hour","way","loads","wide","start","found","row"]› rfl (ei rfl) (ef rfl));exact cU (dW);exact ⇑(cg);exact ⇑((BJ rfl (by rfl) iY (sv 19)));(· exists rH ?_ ?_;(· exists qj (g:=Fe K 2 (lY (gj 10) (lY (gj 11) Fg))) ?_ ?_ ?_ ?_ ?_ ?_ ?_;exact fi;exact hc;exact vd (bT (bT (sv 9) (cj (dY a hr (bf (sv 0) (bf (au aC (eY rfl (by rfl) cT (sv 9)) aa) aG rfl) rfl))) di) di (cj aa));exact bY hc (ao (ak (i:=10) nd rfl oi oi) (ao (ak (i:=11) nd rfl oi oi) bG));exact dM rfl (aJ _ _ (aJ _ _ cV 11) 10);(· exists gQ ?_ ?_;(· exists Ae ?_;(· exists 13,au bQ (au bQ (sv 4) (az (az (sv 5) (sv 10)) aa)) (az (az (sv 5) (sv 11)) aa)));(· exists gQ ?_ ?_;(· exists qj (g:=Fe K 2 (lY (gj 17) (lY (gj 14) Fg))) ?_ ?_ ?_ ?_ ?_ ?_ ?_;exact fi;exact hc;exact vd (bR (bu (bJ (bu (sv 13) (bu (sv 10) aF rfl) rfl)) (bu (bJ (bu (au aC (sv 13) (az (az (sv 5) (sv 10)) aa)) (bu (sv 11) aF rfl) rfl)) aF rfl) rfl));exact bY hc (ao (ak (i:=17) nd rfl oi oi) (ao (ak (i:=14) nd rfl oi oi) bG));exact dM rfl (aJ _ _ (aJ _ _ cV 14) 17);(· exists gQ ?_ ?_;(· exists Ae ?_;exact mY (i:=12) (aY hr) rfl (by ac_rfl) (bu (sv 17) (bu (sv 14) aF rfl) rfl) (au aC (vM (i:=12) (aY hr) rfl (by ac_rfl) (bu (sv 17) (bu (sv 14) aF rfl) rfl) aa ⟨rfl,rfl,rfl,rfl⟩) aa) (by rfl));(· exists gQ ?_ ?_;(· exists Np (k:=16) ?_ ?_ ?_ ?_ ?_ ?_ ?_ ?_ ?_ ?_ ?_ ?_ ?_ ?_ ?_ ?_ ?_ ?_ ?_ ?_ ?_ ?_ ?_;exact rfl;exact hc;rfl;exact ou;exact rfl;(· first|exact ei rfl|exact ef (ei rfl));exact sv 14;exact sv 17;exact sv 14;exact sv 17;exact KY (i:=12) (aY hr) rfl (by first|exact ei rfl|exact ef (ei rfl)|exact ef (ef rfl)) (bu (sv 17) (bu (sv 14) aF rfl) rfl) (λ_ _=>rfl);rfl;rfl;rfl;(· intro _ _;rfl);(· intro _ _;rfl);(· intro _ _;rfl);(· intro _;rfl);rfl;rfl;rfl;rfl;rfl);exact qw));(· intro _;rfl));exact qw));(· intro _;rfl));(· exists Bf ?_;(· rfl';(· exists 6,gV rfl (by rfl) dX (cO (N':=["pool","calendar","plan","many","last","ways","rooms","waits","home","pairs","one","other","table","hour","way","loads","wide","start","found","row"]) hc (pO rfl (by rfl)) (cN (sv 16)) ⇑(ak (i:=19) ‹["pool","calendar","plan","many","last","ways","rooms","waits","home","pairs","one","other","table","hour","way","loads","wide","start","found","row"]› rfl (ei rfl) (ef rfl)) (cU (dW)) ⇑(cg) ⇑((gV rfl (by rfl) dX (sv 19)))));(· rfl';exact p8 (i:=18) (N':=["pool","calendar","plan","many","last","ways","rooms","waits","home","pairs","one","other","table","hour#13","way#14","loads","wide","start","found","hour","way"]) hc nd rfl oi (pO rfl (by rfl)) (cN (lR rfl (by rfl) dz (HR rfl hc (by rfl) iY (O3 (i:=12) rfl (by ac_rfl))))) ⇑(bY hc (ao (ak (i:=19) ‹["pool","calendar","plan","many","last","ways","rooms","waits","home","pairs","one","other","table","hour#13","way#14","loads","wide","start","found","hour","way"]› rfl (ei rfl) (ef rfl)) (ao (ak (i:=20) ‹["pool","calendar","plan","many","last","ways","rooms","waits","home","pairs","one","other","table","hour#13","way#14","loads","wide","start","found","hour","way"]› rfl (ei rfl) (ef rfl)) bG))) (gF rfl (bC (show 19<=19 by decide) (bC (show 19<=20 by decide) gJ))) ⇑(cg) ⇑((bJ (bu (sv 19) (bu (sv 20) (bu (Jb (i:=12) (aY hr) rfl (by first|exact ei rfl|exact ef (ei rfl)|exact ef (ef rfl)) (bu (sv 19) (bu (sv 20) aF rfl) rfl) (λ_ _=>rfl)) aF rfl) rfl) rfl))) (by rfl) (by intro _;rfl) (ei rfl);(· rfl';(· exists(),bJ (bu (bJ (bu (sv 3) (bu (sv 4) (bu (sv 5) (bu (sv 6) (bu (sv 7) aF rfl) rfl) rfl) rfl) rfl)) (bu (sv 18) aF rfl) rfl));exact aA)))));rfl;(· intro _;rfl);exact oi)
noncomputable abbrev s29:fR:=top 34
noncomputable def b29:List S:=[.ret (.and (.inst [.bool] ↑0) (.cmp .eq ↑0 ↑1))]
noncomputable def f29:Fd:=⟨2,2,b29⟩
theorem aez:aU ["found","due"] ["found","due"] (aK s29):={}
include cl in
theorem d29(a:jw K "_law_truth" "_law_truth" s29 f fd)(Be:mg "bool"=b_)(jQ:mg "isinstance"=b_):↥(["found","due"],2,f29):=by
 exists a,aez,0,0;refine bj ?_ ?_;.exists(),kO (Ha .bool rfl (by rfl) jQ (sv 0) (by rfl) Be (by kernel_rfl) (by decide) (by rfl)) (jH (gn (gq (aY hr)) (sv 0) (sv 1) (aV _)))
 exact aA
noncomputable abbrev s30:fR:=top 35
noncomputable def b30:List S:=[.asg 2 (.bin .mul (.lst [⇑0]) ↑1),.gf (.nY ⇑0 (.blt .len [↑0])) [3] ck [.FT 2 (.bin .mod ↑3 ↑1) (.bin .add (.bin .mul (.idx ↑2 (.bin .mod ↑3 ↑1)) ⇑1000003) (.idx ↑0 ↑3))],.ret (.slice ↑2 (.con .non) (.blt .min2 [.blt .len [↑0],↑1]))]
noncomputable def f30:Fd:=⟨2,4,b30⟩
theorem adt:aU ["script","most","cells","k"] ["script","most"] (aK s30):={}
include cl in
theorem d30(a:jw K "_law_folded" "_law_folded" s30 f fd)(cT:mg "len"=b_)(oA:mg "min"=b_)(aO:mg "range"=b_):↥(["script","most"],2,f30):=by
 exists a,adt,0,0;refine bj ?_ ?_;.exists 2,au jA (bR (bu aa aF rfl)) (sv 1)
 rfl';.exists 3,dN rfl (by rfl) aO (eY rfl (by rfl) cT (sv 0)),0;(· rfl';exact vL (k:=2) rfl (by ac_rfl) (au gG (sv 3) (sv 1)) (au aC (au jA (az (sv 2) (au gG (sv 3) (sv 1))) aa) (az (sv 0) (sv 3)));exact aA)
 rfl';.exists(),bT (sv 2) di (cj (uX rfl hc (by rfl) oA (bu (eY rfl (by rfl) cT (sv 0)) (bu (sv 1) aF rfl) rfl)))
 exact aA
noncomputable abbrev s31:fR:=top 36
noncomputable def b31:List S:=[.gf (.bin .add (.lst [⇑0]) (.call 30 [.slice ↑0 (.con .non) ⇑63,⇑20])) [1] ck [.asg 2 (.call 17 [↑1]),.Gi [3,4] (.call 24 [↑2]),.gf (.call 27 [↑2,↑3,↑4]) [5,6] a_ [.asg 7 (.blt .list [↑6]),.asg 8 (.call 25 [↑5,↑6]),.ifs (.not (.call 29 [.call 14 [↑5,↑7],↑8])) [.ret (.con (.bl a_))] [],.asg 9 (.and ↑8 (.call 26 [↑5,↑6])),.ifs (.or (.not (.call 29 [.call 15 [↑5,↑7],↑9])) (.cmp .ne ↑7 ↑6)) [.ret (.con (.bl a_))] []]],.ret (.con (.bl ck))]
noncomputable def f31:Fd:=⟨1,10,b31⟩
theorem aea:aU ["script","cell","pool","calendar","plan","table","other","handed","right","clean"] ["script"] (aK s31):={}
include cl in
theorem d31(b:jw K "law" "law" s31 f fd)(iY:mg "list"=b_)(e:↥(24,"_law_case",1,0))(g:↥(26,"_law_clean",2,0))(h:↥(30,"_law_folded",2,0))(j:↥(27,"_law_others",3,0))(l:↥(17,"_law_pool",1,0))(m:↥(25,"_law_right",2,0))(a:↥(29,"_law_truth",2,0))(o:↥(15,"cal_clean",2,0))(p:↥(14,"cal_right",2,0)):↥(["script"],1,f31):=by
 exists b,aea,0,0;refine bj ?_ ?_;.exists 1,cN (au aC (bR (bu aa aF rfl)) (dY h hr (bf (bT (sv 0) di (cj aa)) (bf aa aG rfl) rfl))),0;(· rfl';(· exists 2,dY l hr (bf (sv 1) aG rfl));(· rfl';exact kJ (dY e hr (bf (sv 2) aG rfl)) (bY hc (ao (ak (i:=3) nd rfl oi oi) (ao (ak (i:=4) nd rfl oi oi) bG))) (dM rfl (aJ _ _ (aJ _ _ cV 4) 3));(· rfl';exact j4 fi hc (cN (dY j hr (bf (sv 2) (bf (sv 3) (bf (sv 4) aG rfl) rfl) rfl))) (bY hc (ao (ak (i:=5) nd rfl oi oi) (ao (ak (i:=6) nd rfl oi oi) bG))) (dM rfl (aJ _ _ (aJ _ _ cV 6) 5)) (by rfl';(· exists 7,BJ rfl (by rfl) iY (sv 6));(· rfl';(· exists 8,dY m hr (bf (sv 5) (bf (sv 6) aG rfl) rfl));(· rfl';(· exists eX ?_ ?_ ?_;exact km (jY (dY a hr (bf (dY p hr (bf (sv 5) (bf (sv 7) aG rfl) rfl)) (bf (sv 8) aG rfl) rfl)));(· rfl';(· exists(),iu);exact aA);exact aA);(· rfl';(· exists 9,kO (sv 8) (jH (dY g hr (bf (sv 5) (bf (sv 6) aG rfl) rfl))));(· rfl';(· exists eX ?_ ?_ ?_;exact SW.st (nG (km (jY (dY a hr (bf (dY o hr (bf (sv 5) (bf (sv 7) aG rfl) rfl)) (bf (sv 9) aG rfl) rfl)))) (mq (bL (yU (aY hr)) (sv 7) (sv 6) (aV _))));(· rfl';(· exists(),iu);exact aA);exact aA);exact aA)))));exact aA)))
 rfl';.exists(),iu
 exact aA
end _T
end
noncomputable section
namespace _T
open PySem _L Spec PyProof.Rows _H
noncomputable def Γ:Tab:=λi=>[f0,f1,f2,f3,f4,f5,f6,f7,f8,f9,f10,f11,f12,W3,Ws,Yn,Xf,f17,f18,f19,f20,f21,f22,f23,f24,f25,f26,f27,f28,f29,f30,f31][i]?
end _T
end
noncomputable section
namespace _T
open _H
variable{w n x L M:Nat}{y z m a i p t v h last B:Int}{Q:R->List Sl->Prop}{ρ:List Sl}{s:Sl}{ds:List D}{c:Call}{is:List Nat}{F:Int->Int->Int}{ps:List (Int×Int)}{kvs:List (List Int×Int)}{rooms:List (List Int)}{wd:D}{wt:List (Option (List Int))}
local macro_rules|`(tactic|symm)=>`(tactic|first|apply aq|apply DY)
noncomputable abbrev big:Int:=1606938044258990275541962092341162602522202993782792835301376
theorem aR{x:Int}(h0:0<m)(b:m<big)(k:∀d x z:Int,0<=d->d<m->Q (.val (.int d)) [.own ck [.int x,.int y,.int z],.val a_ (.int m)]):(run Γ w (n+1) 18 [.own ck [.int x,.int y,.int z],.val a_ (.int m)]).sat Q:=by
 have e:m<1606938044258990275541962092341162602522202993782792835301376:=b;refine bh (d:=f18) rfl rfl (by decide) ?_;symm;simp[f18];constructor;.intro _;symm;simp[h0];apply aq;simp[h0,e,lD];apply aq;simp;exact k _ _ _ (nX _ (by lia)) (kA _ h0)
 . intro _;symm;simp[lD];apply aq;simp;generalize j:(y+7919*(z+1))%1000000007=q;have l:0<=q/\q<1000000007:=by lia
   have f:-18446744073709551616<q+11/\q+11<18446744073709551616:=by lia
   symm;simp[f];generalize hs:(q+11)*(q+48271)%998244353=st;have g:-18446744073709551616<st/\st<18446744073709551616:=by lia
   symm;simp[g,h0];exact k _ _ _ (nX _ (by lia)) (kA _ h0)
theorem J6{x:Int}(k:∀a b c:Int,Q (.own [.int a,.int b,.int c]) [.val a_ (.int x)]):(run Γ w (n+1) 17 [.val a_ (.int x)]).sat Q:=by refine bh (d:=f17) rfl rfl (by decide) ?_;symm;simp[f17];exact k _ _ _
structure Wy where(s t r h:Int)
variable{ws:List Wy}
noncomputable def Wy.d(w:Wy):D:=.tup [.int w.s,.int w.t,.int w.r,.int w.h]
structure Wy.Ok(m:Int)(w:Wy):Prop where
 s0:0<=w.s
 s1:w.s<m
 t0:0<=w.t
 t1:w.t<m
 ne:w.s≠w.t
 r0:0<=w.r
 r1:w.r<=1000000000
 h0:1<=w.h
 h1:w.h<=1000000
theorem other{b:Int}(h1:0<=a)(f:a<m)(g:0<=b)(j:b<m-1):0<=(a+1+b)%m/\(a+1+b)%m<m/\(a+1+b)%m≠a:=by
 by_cases h:a+1+b<m;.rw[Int.emod_eq_of_lt (by lia) h];lia
 . have e:(a+1+b)%m=a+1+b-m:=by rw[<-Int.sub_emod_right,Int.emod_eq_of_lt (by lia) (by lia)]
   rw[e];lia
noncomputable def eZ(m:Int)(ws:List Wy):D:=.tup [.int m,.tup (ws.map Wy.d)]
structure af0(m:Int)(ws:List Wy):Prop where
 m0:2<=m
 m1:m<=6
 len:ws.length<=12
 ok:∀w∈ws,w.Ok m
@[simp]theorem afu{m:Int}{ws:List Wy}:oO (eZ m ws) (.int 0)=aB (.val (.int m)):=rfl
@[simp]theorem afq{m:Int}{ws:List Wy}:oO (eZ m ws) (.int 1)=aB (.val (.tup (ws.map Wy.d))):=rfl
theorem rK{ns:List Int}{lo hi:Int}(h0:0<=i)(h1:i<(ns.length:Int))(k:∀x∈ns,lo<=x/\x<=hi):∃r,at' (ns.map D.int) i=aB (.int r)/\lo<=r/\r<=hi:=by
 have b:i.toNat<ns.length:=by lia
 refine⟨ns[i.toNat],?_,k _ (gu b)⟩;rw[eG h0 (by simpa using h1)];simp[b]
theorem iW(h:a<=1000000000000000000000):a<big:=by show _<(1606938044258990275541962092341162602522202993782792835301376:Int);lia
theorem sG{x:Int}(h0:0<m)(k:∀d x z:Int,0<=d->d<m->Q (.val (.int d)) [.own ck [.int x,.int y,.int z],.val a_ (.int m)]):(run Γ w (n+2) 19 [.own ck [.int x,.int y,.int z],.val a_ (.int m)]).sat Q:=by refine bh (d:=f19) rfl rfl (by decide) ?_;symm;simp[f19];refine aR (by decide) (by decide) λd x z d0 d1=>?_;simp;refine aR (by decide) (by decide) λe x z b f=>?_;simp[h0];exact k _ _ _ (nX _ (by lia)) (kA _ h0)
structure aX where(s t h:Int)
noncomputable def aX.d(r:aX):D:=.tup [.int r.s,.int r.t,.int r.h]
structure aX.Ok(m:Int)(r:aX):Prop where
 s0:0<=r.s
 s1:r.s<m
 t0:0<=r.t
 t1:r.t<m
 ne:r.s≠r.t
 h0:1<=r.h
 h1:r.h<=1000000
noncomputable def jb(p:Int×Int):D:=.tup [.int p.1,.int p.2]
noncomputable def Sy(m:Int)(p:Int×Int):Prop:=0<=p.1/\p.1<m/\0<=p.2/\p.2<m/\p.1≠p.2
inductive JRo(y m:Int)(b:Nat)(s4 s5 s6 s7:Sl)(i:Nat)(ρ:List Sl):Prop where|mk(x z:Int)(ps:List (Int×Int))(s3:Sl)(q0:ρ=[.own ck [.int x,.int y,.int z],.val a_ (.int m),.own a_ (ps.map jb),s3,s4,s5,s6,s7])(q1:fr s3=ck)(q2:(∀p∈ps,Sy m p))(q3:ps.length<=b+i)
inductive JRp(y m:Int)(b:Nat)(s3 s6 s7:Sl)(i:Nat)(ρ:List Sl):Prop where|mk(x z:Int)(ps:List (Int×Int))(s4 s5:Sl)(q0:ρ=[.own ck [.int x,.int y,.int z],.val a_ (.int m),.own a_ (ps.map jb),s3,s4,s5,s6,s7])(q1:(fr s4=ck/\fr s5=ck))(q2:(∀p∈ps,Sy m p))(q3:ps.length<=b+i)
inductive JRq(y m:Int)(ds:List D)(s3 s4:Sl)(r:List D)(ρ:List Sl):Prop where|mk(x z:Int)(us:List (Int×Int))(vs:List aX)(s5 s7:Sl)(q0:ρ=[.own ck [.int x,.int y,.int z],.val a_ (.int m),.lent ds,s3,s4,s5,.own a_ (vs.map aX.d),s7])(q1:(fr s5=ck/\fr s7=ck))(q2:r=us.map jb)(q3:(∀p∈us,Sy m p))(q4:(∀v∈vs,v.Ok m))(q5:us.length+vs.length<=12)
theorem Fo{x:Int}(m0:2<=m)(m1:m<=6)(k:∀(vs:List aX)(x z:Int),(∀v∈vs,v.Ok m)->vs.length<=12->Q (.own (vs.map aX.d)) [.own ck [.int x,.int y,.int z],.val a_ (.int m)]):(run Γ w (n+3) 20 [.own ck [.int x,.int y,.int z],.val a_ (.int m)]).sat Q:=by
 refine bh (d:=f20) rfl rfl (by decide) ?_;symm;simp[f20];apply aq;simp[show m-1<=1000000000 by lia,show-1000000000<=m-1 by lia];refine dJ (JRo y m 0 _ _ _ _) ?_ ?_ ⟨x,z,[],.aM,rfl,rfl,by simp,by simp⟩
 . rintro i _ hi⟨x,z,ps,s3,rfl,J,u,A⟩;simp[J];apply aq;simp;refine aR (by decide) (by decide) λd x z d0 d1=>?_;simp;refine⟨λ_=>?_,λ_=>?_⟩
   . symm;simp[show ps.length<lim by show _<16777216;lia];refine⟨x,z,ps++[((i:Int),(i:Int)+1)],_,by simp[jb];rfl,rfl,λp hp'=>?_,by simp;lia⟩;rcases fq.mp hp' with hp'|hp';.exact u p hp'
     .rw[fm.mp hp'];refine⟨?_,?_,?_,?_,?_⟩<;>simp<;>lia
   .exact⟨x,z,ps,_,rfl,rfl,u,by lia⟩
 rintro _⟨x,z,ps,s3,rfl,J,u,A⟩;symm;simp;have U:ps.length<=5:=by lia
 refine aR (by lia) (iW (by lia)) λc x z c0 c1=>?_;simp;refine⟨by lia,?_⟩;refine dJ (JRp y m ps.length _ _ _) ?_ ?_ ⟨x,z,ps,.aM,.aM,rfl,⟨rfl,rfl⟩,u,by simp⟩
 . rintro i _ hi⟨x,z,j,s4,s5,rfl,⟨N,g⟩,l,C⟩;simp[N];apply aq;simp;refine aR (by lia) (iW (by lia)) λa x z E G=>?_;simp[g];apply aq;simp;refine aR (by lia) (iW (by lia)) λb x z b0 b1=>?_;obtain⟨t0,t1,W⟩:=other E G b0 b1;simp[show 0<m by lia,show j.length<lim by show _<16777216;lia];refine⟨x,z,j++[(a,(a+1+b)%m)],.val a_ (.int i),.val a_ (.int a),by simp[jb],⟨rfl,rfl⟩,λp hp'=>?_,by simp;lia⟩;rcases fq.mp hp' with hp'|hp';.exact l p hp'
   .rw[fm.mp hp'];exact⟨E,G,t0,t1,λz=>W z.symm⟩
 rintro _⟨x,z,j,s4,s5,rfl,⟨N,g⟩,l,C⟩;have H:j.length<=12:=by lia
 symm;simp;apply aq;simp;refine cG (JRq y m _ _ _) ?_ ?_ ⟨x,z,j,[],s5,.aM,rfl,⟨g,rfl⟩,rfl,l,by simp,by simpa using H⟩;.rintro d r _⟨x,z,o,vs,s5,s7,rfl,⟨g,O⟩,hr,I,hv,A⟩;cases o with|nil=>cases hr|cons p o=>
     obtain⟨rfl,rfl⟩:d=jb p/\r=o.map jb:=by simpa using hr
     have f:=I p (by simp);simp at A;simp[g,O,jb];apply aq;simp;refine aR (by decide) (by decide) λa x z E G=>?_;simp;refine sG (by decide) λb x z b0 b1=>?_;simp;refine aR (by decide) (by decide) λe x z X Y=>?_;obtain⟨h,he,h0,h1⟩:=rK (ns:=[1,1,2,2,3,1+a,1+b]) (lo:=1) (hi:=1000000) X (by simpa using Y) (by simp;lia);simp only[er,lc]at he;simp[he,show vs.length<lim by show _<16777216;lia];refine⟨x,z,o,vs++[⟨p.1,p.2,h⟩],.val a_ (.int p.1),.val a_ (.int p.2),by simp[aX.d],⟨rfl,rfl⟩,rfl,λq l=>I q (by simp[l]),λv hv'=>?_,by simp;lia⟩;rcases fq.mp hv' with hv'|hv';.exact hv v hv'
     .rw[fm.mp hv'];exact⟨f.1,f.2.1,f.2.2.1,f.2.2.2.1,f.2.2.2.2,h0,h1⟩
 .rintro _⟨x,z,o,vs,s5,s7,rfl,⟨g,O⟩,hr,I,hv,A⟩;symm;simp;exact k vs x z hv (by lia)
@[simp]theorem Ca{b e:Type}{a:b}{ρ:List Sl}{f:b->List Sl->Res e}:(Res.ok a ρ).bind f=f a ρ:=rfl
@[simp]theorem Yw{b e:Type}{f:b->List Sl->Res e}:(Res.stuck:Res b).bind f=.stuck:=rfl
@[simp]theorem vC{b:Type}{a:b}{ρ:List Sl}:lift (aB a) ρ=.ok a ρ:=rfl
theorem Y7{k:Int}(h0:0<=k)(h1:k<(ws.length:Int)):∃v,ws[k.toNat]?=aB v/\v∈ws/\at' (ws.map Wy.d) k=aB v.d:=by
 have b:k.toNat<ws.length:=by lia
 refine⟨ws[k.toNat],by simp[b],gu b,?_⟩;rw[eG h0 (by simpa using h1)];simp[b]
theorem Dy{v:Wy}:oO v.d (.int 0)=aB (.val (.int v.s)):=by simp[Wy.d]
theorem Ec{v:Wy}:oO v.d (.int 1)=aB (.val (.int v.t)):=by simp[Wy.d]
theorem YG{v:Wy}:oO v.d (.int 2)=aB (.val (.int v.r)):=by simp[Wy.d]
theorem acb{v:Wy}:oO v.d (.int 3)=aB (.val (.int v.h)):=by simp[Wy.d]
noncomputable def sm{b:Type}(f:b->Int):List b->Int|[]=>0|a::l=>f a+sm f l
section
variable{α β:Type}{f g:α->Int}{l k:List α}
@[simp]theorem Rr:sm f []=0:=rfl
@[simp]theorem cW{a:α}:sm f (a::l)=f a+sm f l:=rfl
theorem Hj:sm f (l++k)=sm f l+sm f k:=by induction l with|nil=>simp|cons a l b=>simp[b];lia
theorem iT(h:∀a∈l,f a=g a):sm f l=sm g l:=by induction l with|nil=>rfl|cons a l e=>rw[cW,cW,h a (by simp),e λb j=>h b (by simp[j])]
theorem Dd(h:l.Perm k):sm f l=sm f k:=by induction h with|nil=>rfl|cons a _ e=>simp[e]|swap a b l=>simp;lia|trans _ _ h1 j=>rw[h1,j]
theorem Ug:sm (λa=>f a+g a) l=sm f l+sm g l:=by induction l with|nil=>rfl|cons a l b=>simp only[cW,b];lia
theorem Jl:sm (λa=>f a-g a) l=sm f l-sm g l:=by induction l with|nil=>rfl|cons a l b=>simp only[cW,b];lia
theorem T4{c:Int}:sm (λa=>f a*c) l=sm f l*c:=by induction l with|nil=>simp|cons a l b=>simp only[cW,b,Int.add_mul]
theorem afP(h:∀a∈l,f a<=g a):sm f l<=sm g l:=by induction l with|nil=>simp|cons a l e=>have h1:=h a (by simp);have o:=e λb j=>h b (by simp[j]);simp only[cW];lia
theorem vX(h:∀a∈l,f a=0):sm f l=0:=by induction l with|nil=>rfl|cons a l e=>rw[cW,h a (by simp),e λb j=>h b (by simp[j])];rfl
theorem Rg{q:β->α}{l:List β}:sm f (l.map q)=sm (λb=>f (q b)) l:=by induction l with|nil=>rfl|cons a l e=>simp only[er,cW,e]
theorem ad9{l:List Int}:l.sum=sm (λi=>i) l:=by induction l with|nil=>rfl|cons a l b=>simp[b]
end
structure Tr where(h w l:Int)
noncomputable def Tr.d(x:Tr):D:=.tup [.int x.h,.int x.w,.int x.l]
noncomputable def zH:D->Tr|.tup [.int h,.int w,.int l]=>⟨h,w,l⟩|_=>⟨0,0,0⟩
@[simp]theorem acy{h w l:Int}:zH (.tup [.int h,.int w,.int l])=⟨h,w,l⟩:=rfl
@[simp]theorem ac8{x:Tr}:zH x.d=x:=rfl
@[simp]theorem adS{i:Int}:fG (.int i)=i:=rfl
noncomputable def wy(ws:List Wy)(k:Int):Wy:=(ws[k.toNat]?).getD ⟨0,0,0,0⟩
noncomputable def KC(ws:List Wy)(x:Tr):Prop:=0<=x.w/\x.w<(ws.length:Int)
theorem vO{k:Int}(h0:0<=k)(h1:k<(ws.length:Int)):at' (ws.map Wy.d) k=aB (wy ws k).d/\wy ws k∈ws:=by
 obtain⟨v,b,e,f⟩:=Y7 h0 h1;have:wy ws k=v:=by unfold wy;rw[b];rfl
 rw[this];exact⟨f,e⟩
theorem JG{x:Tr}:oO x.d (.int 0)=aB (.val (.int x.h)):=by simp[Tr.d]
theorem xH{x:Tr}:oO x.d (.int 1)=aB (.val (.int x.w)):=by simp[Tr.d]
theorem WR{x:Tr}:oO x.d (.int 2)=aB (.val (.int x.l)):=by simp[Tr.d]
noncomputable def rO(ws:List Wy)(x:Tr):Int:=x.h+(wy ws x.w).h
noncomputable def K6(ws:List Wy)(p:Int)(P:Int->Bool)(x:Tr):Int:=if(wy ws x.w).t=p/\P (rO ws x)=ck then x.l else 0
noncomputable def MJ(ws:List Wy)(p:Int)(P:Int->Bool)(x:Tr):Int:=if(wy ws x.w).s=p/\P x.h=ck then x.l else 0
noncomputable def lV(t:Int):Int->Bool:=λk=>decide (k<=t)
noncomputable def on'(t:Int):Int->Bool:=λk=>decide (t<=k)
noncomputable def come(ws:List Wy)(pl:List Tr)(p t:Int):Int:=sm (K6 ws p (lV t)) pl
noncomputable def left(ws:List Wy)(pl:List Tr)(p t:Int):Int:=sm (MJ ws p (lV t)) pl
noncomputable def stP(ws:List Wy)(pl:List Tr)(p:Int)(P:Int->Bool):Int:=sm (λx=>K6 ws p P x-MJ ws p P x) pl
theorem ad4{pl:List Tr}:stP ws pl p (lV t)=come ws pl p t-left ws pl p t:=Jl
noncomputable def LS(s:Sl)(ds:List D):Prop:=(∃b,s=.own b ds)\/∃b,s=.val b (.lst ds)
theorem jj{k:Nat}{e:Ev}(h:ρ[k]?=aB s)(hs:LS s ds):∃j,srcOf (aB k) e ρ=.ok ds (ρ.set k j)/\∀f,f[k]?=aB j->bH ρ (aB k) f=f.set k s:=by
 have l:=(fZ h).1;rcases hs with⟨b,rfl⟩|⟨b,rfl⟩;.exact⟨.lent ds,by unfold srcOf;simp only[h],λf _=>by unfold bH;simp only[h]⟩
 . refine⟨.val b (.lst ds),?_,λf h'=>?_⟩;.unfold srcOf;simp only[h,Eb,vC];obtain⟨h1,g⟩:=fZ h;rw[<-g,jS]
   .unfold bH;simp only[h];obtain⟨h1,g⟩:=fZ h';rw[<-g,jS]
noncomputable def LT(s:Sl)(ds:List D):Prop:=LS s ds\/s=.lent ds
theorem XC{k:Nat}{e:Ev}(h:ρ[k]?=aB s)(hs:LT s ds):∃g,srcOf (aB k) e ρ=.ok ds (ρ.set k g)/\∀b,b[k]?=aB g->bH ρ (aB k) b=b.set k s:=by
 rcases hs with hs|rfl;.exact jj h hs
 . refine⟨.lent ds,?_,λb h'=>?_⟩;.unfold srcOf;simp only[h];obtain⟨h1,f⟩:=fZ h;rw[<-f,jS]
   .unfold bH;simp only[h];obtain⟨h1,f⟩:=fZ h';rw[<-f,jS]
noncomputable def gv{κ:Type}[DecidableEq κ](kvs:List (κ×Int))(k:κ):Int:=((kvs.find? λb=>decide (b.1=k)).map (·.2)).getD 0
noncomputable def vV{κ:Type}(P:κ->Bool)(kvs:List (κ×Int)):Int:=sm (λb=>if P b.1=ck then b.2 else 0) kvs
section
variable{κ:Type}[DecidableEq κ]
theorem dO{a k:κ}{b:Int}{r:List (κ×Int)}:gv ((a,b)::r) k=if a=k then b else gv r k:=by unfold gv;by_cases h:a=k<;>simp[h]
theorem Cp{k:κ}:∀{r:List (κ×Int)},k∉r.map (·.1)->gv r k=0|[],_=>rfl|(a,b)::r,h=>by simp at h;rw[dO,if_neg (λe=>h.1 e.symm),Cp (r:=r) (by simpa using h.2)]
theorem lE{a k:κ}{b:Int}{r:List (κ×Int)}(hn:a∉r.map (·.1)):putD ((a,b)::r) k v=if a=k then(a,v)::r else(a,b)::putD r k v:=by
 unfold putD;by_cases h:a=k;.subst h;rw[if_pos (by simp),if_pos rfl];simp;refine(ga (g:=id) λj l=>?_).trans (by simp);rw[if_neg];rfl;intro e;exact hn (eM.mpr ⟨j,l,e⟩)
 . rw[if_neg h];by_cases f:(r.any λj=>decide (j.1=k))=ck;.rw[if_pos f,if_pos (by simp[f])];simp[h]
   .rw[if_neg f,if_neg (by simp[h];simpa using f)];simp
theorem iQ{k:κ}{v:Int}:∀{r:List (κ×Int)},(r.map (·.1)).Nodup->((putD r k v).map (·.1)).Nodup/\(putD r k v).length<=r.length+1/\(∀j∈(putD r k v).map (·.1),j=k\/j∈r.map (·.1))/\∀P,vV P (putD r k v)=vV P r+if P k=ck then v-gv r k else 0
 |[],_=>by simp[putD,vV,gv]|(a,b)::r,h=>by
   simp only[er,gS]at h;obtain⟨g,q,f,l⟩:=iQ (k:=k) (v:=v) (r:=r) h.2;rw[lE h.1];by_cases e:a=k;.subst e;rw[if_pos rfl];refine⟨by simpa using h,by simp,λj hj=>.inr (by simpa using hj),λP=>?_⟩;have:=Cp h.1;simp only[vV,cW,dO,if_true];split<;>lia
   . rw[if_neg e];refine⟨?_,by simp;lia,λj hj=>?_,λP=>?_⟩
     . simp only[er,gS];refine⟨λo=>?_,g⟩;rcases f a o with z|z;.exact e z
       .exact h.1 z
     . simp only[er,et]at hj ⊢;rcases hj with rfl|hj;.exact .inr (.inl rfl)
       . rcases f j hj with z|z;.exact .inl z
         .exact .inr (.inr z)
     .have:=l P;simp only[vV,cW,dO,if_neg e]at this ⊢;lia
theorem sr{P:κ->Bool}:∀{r:List (κ×Int)},(r.map (·.1)).Nodup->vV P r=sm (λk=>if P k=ck then gv r k else 0) (r.map (·.1))|[],_=>rfl|(a,b)::r,h=>by simp only[er,gS]at h;have g:=sr (P:=P) (r:=r) h.2;simp only[vV,cW,er]at g ⊢;rw[g,dO,if_pos rfl];congr 1;refine iT λk j=>?_;have f:¬ a=k:=λe=>h.1 (by rw[e];exact j);rw[dO,if_neg f]
end
theorem u9{k:Int}:∀{r:List (Int×Int)},k∈r.map (·.1)->uw (.cZ (.k r)) (.int k)=aB (.val (.int (gv r k)))
 |[],h=>by simp at h|(a,b)::r,h=>by
   by_cases e:a=k;.simp[uw,Dc.get,gv,e]
   .simp at h;have f:=u9 (k:=k) (r:=r) (by rcases h with h|h;exact absurd h.symm e;simpa using h);simp[uw,Dc.get,gv,e]at f ⊢;exact f
theorem GQ{k d:P}:ev c (.Uz x k d) ρ=match ρ[x]?with
 |some (.dq _)=>(bU (isVar k) (ev c k) ρ).bind λb ρ=>(bU (isVar d) (ev c d) ρ).bind λe ρ=>match ρ[x]?with|some (.dq m)=>lift ((m.get b).bind λo=>(fj e).map λv=>.val (.int (o.getD v))) ρ|_=>.stuck
 |_=>.stuck:=(rfl)
theorem Ob:ex c n (.tu x a_) ρ=match ρ[x]?with|some .aM=>.ok .next (ρ.set x (.dq (.k [])))|_=>.stuck:=(rfl)
theorem CV{k e:P}:ex c n (.dput x k e) ρ=(ev c e ρ).bind λr ρ=>match ρ[x]?with
 |some (.dq _)=>(bU (isVar k) (ev c k) ρ).bind λb ρ=>match ρ[x]?,r with
   |some (.dq m),.val (.int v)=>match m.put b v with|some f=>.ok .next (ρ.set x (.dq f))|none=>.stuck
   |_,_=>.stuck
 |_=>.stuck:=(rfl)
@[simp]theorem Wg{x:Nat}{k d:P}:isVar (.Uz x k d)=b_:=rfl
@[simp]theorem YB:sZ .Kd=uw:=rfl
theorem pF{k:Int}(h0:0<=k)(h1:k<(ws.length:Int))(q:Q (.val (.int (h+(wy ws k).h))) [.val a_ (eZ m ws),.val a_ (.int h),.val a_ (.int k)]):(run Γ w (n+1) 1 [.val a_ (eZ m ws),.val a_ (.int h),.val a_ (.int k)]).sat Q:=by refine bh (d:=f1) rfl rfl (by decide) ?_;symm;simpa[f1,(vO h0 h1).1,acb]using q
noncomputable def KP(ws:List Wy)(p:Int)(P:Int->Bool)(x:Tr):Int:=K6 ws p P x-MJ ws p P x
inductive JCh(ws:List Wy)(pl:List Tr)(p:Int)(a0 a1 a2:Sl)(r:List D)(ρ:List Sl):Prop where|mk(rest:List Tr)(kvs:List (Int×Int))(s4 s5 s6 s7:Sl)(q0:ρ=[a0,a1,a2,.dq (.k kvs),s4,s5,s6,s7])(q1:A4 (fr s4=ck) (fr s5=ck) (fr s6=ck) (fr s7=ck))(q2:r=rest.map Tr.d)(q3:(∀x∈rest,KC ws x))(q4:(kvs.map (·.1)).Nodup)(q5:kvs.length+rest.length<=pl.length)(q6:∀P,vV P kvs+sm (KP ws p P) rest=sm (KP ws p P) pl)
theorem Gz{kvs:List (Int×Int)}:(Dc.get (.k kvs) (.int i))=aB ((kvs.find? λb=>decide (b.1=i)).map (·.2)):=rfl
theorem Pa{kvs:List (Int×Int)}(h:kvs.length<lim):Dc.put (.k kvs) (.int i) v=aB (.k (putD kvs i v)):=by show(if _ then _ else _)=_;rw[if_pos h]
theorem jd{pl:List Tr}{s1:Sl}(hs:LS s1 (pl.map Tr.d))(O:∀x∈pl,KC ws x)(C:∀v∈ws,v.s≠v.t)(hl:pl.length<=60)(q:∀kvs:List (Int×Int),(kvs.map (·.1)).Nodup->kvs.length<=pl.length->(∀P,vV P kvs=stP ws pl p P)->Q (.val (.cZ (.k kvs))) [.val a_ (eZ m ws),s1,.val a_ (.int p)]):(run Γ w (n+2) 4 [.val a_ (eZ m ws),s1,.val a_ (.int p)]).sat Q:=by
 refine bh (d:=f4) rfl rfl (by decide) ?_;symm;simp[f4,Ob];apply aq;obtain⟨U,W,X⟩:=jj (ρ:=[.val a_ (eZ m ws),s1,.val a_ (.int p),.dq (.k []),.aM,.aM,.aM,.aM]) (k:=1) (e:=ev (run Γ w (n+1)) (.var 1)) rfl hs;simp[-dZ,-dD,W];refine cG (JCh ws pl p _ U _) ?_ ?_ ⟨pl,[],.aM,.aM,.aM,.aM,rfl,⟨rfl,rfl,rfl,rfl⟩,rfl,O,by simp,by simp,λP=>by simp[vV]⟩;.rintro d r _⟨b,kvs,s4,s5,s6,s7,rfl,⟨Y,Z,h6,E⟩,hr,hi,hn,G,hd⟩;cases b with|nil=>cases hr|cons x b=>
     obtain⟨rfl,rfl⟩:d=x.d/\r=b.map Tr.d:=by simpa using hr
     have A:=hi x (by simp);obtain⟨j,o⟩:=vO A.1 A.2;have u:=C _ o;have g:∀y∈b,KC ws y:=λy hy=>hi y (by simp[hy]);simp at G;have f:kvs.length<lim:=by show _<16777216;lia
     simp[Tr.d,Y,Z,h6];by_cases c1:(wy ws x.w).t=p;.have c2:(wy ws x.w).s≠p:=λz=>u (z.trans c1.symm);obtain⟨H,p2,p3,I⟩:=iQ (k:=rO ws x) (v:=gv kvs (rO ws x)+x.l) hn;symm;simp[j,Ec,c1];apply aq;simp;refine pF A.1 A.2 ?_;simp[E];apply aq;simp[CV,GQ,Gz];rw[show(map (λx=>x.snd) (find? (λJ=>decide (J.fst=x.h+(wy ws x.w).h)) kvs)).getD 0=gv kvs (rO ws x)from rfl,Pa f];simp;apply aq;simp[j,Dy,c2];refine⟨b,putD kvs (rO ws x) (gv kvs (rO ws x)+x.l),_,_,_,_,rfl,⟨rfl,rfl,rfl,rfl⟩,rfl,g,H,by lia,λP=>?_⟩;have:=hd P;rw[I P];simp only[cW,KP,K6,MJ,c1,c2,true_and,false_and,if_false]at this ⊢;split<;>split at this<;>simp_all<;>lia
     . by_cases c2:(wy ws x.w).s=p;.obtain⟨H,p2,p3,I⟩:=iQ (k:=x.h) (v:=gv kvs x.h-x.l) hn;symm;simp[j,Ec,c1];apply aq;simp[j,Dy,c2];apply aq;simp[CV,GQ,Gz];rw[show(map (λx=>x.snd) (find? (λJ=>decide (J.fst=x.h)) kvs)).getD 0=gv kvs x.h from rfl,Pa f];simp;refine⟨b,_,_,_,_,_,rfl,⟨rfl,rfl,rfl,E⟩,rfl,g,H,by lia,λP=>?_⟩;have:=hd P;rw[I P];simp only[cW,KP,K6,MJ,c1,c2,true_and,false_and,if_false]at this ⊢;split<;>split at this<;>simp_all<;>lia
       .symm;simp[j,Ec,c1];apply aq;simp[j,Dy,c2];refine⟨b,_,_,_,_,_,rfl,⟨rfl,rfl,rfl,E⟩,rfl,g,hn,by lia,λP=>?_⟩;have:=hd P;simp only[cW,KP,K6,MJ,c1,c2,false_and,if_false]at this ⊢;lia
 . rintro _⟨b,kvs,s4,s5,s6,s7,rfl,_,hr,hi,hn,G,hd⟩;have N:b=[]:=by cases b with|nil=>rfl|cons _ _=>cases hr
   subst N;rw[X _ rfl];symm;simp;exact q kvs hn (by simpa using G) λP=>by have:=hd P;simp at this;exact this
inductive F5(a0 a1 a2 a3 a4:Sl)(ρ:List Sl):Prop where|mk(s:Sl)(q0:ρ=[a0,a1,a2,a3,a4,s])(q1:fr s=ck)
theorem GK{kvs:List (Int×Int)}:blt .keys [.cZ (.k kvs)]=aB (.val (.tup ((kvs.map (·.1)).map D.int))):=by show aB _=aB _;simp
theorem fsm{P:Int->Bool}{kvs:List (Int×Int)}:∀l:List Int,∃ns:List Int,(l.map D.int).filterMap (λd=>if P (fG d)=ck then aB (D.int (gv kvs (fG d)))else b_)=ns.map D.int/\ns.sum=sm (λk=>if P k=ck then gv kvs k else 0) l
 |[]=>⟨[],rfl,rfl⟩|k::l=>by
   obtain⟨ns,h1,b⟩:=fsm (P:=P) (kvs:=kvs) l;by_cases h:P k=ck;.exact⟨gv kvs k::ns,by simp[h];simpa using h1,by simp[h,b]⟩
   .exact⟨ns,by simp[h];simpa using h1,by simp[h,b]⟩
noncomputable def gK(P:Int->Bool)(kvs:List (Int×Int))(d:D):Option D:=if P (fG d)=ck then aB (D.int (gv kvs (fG d)))else b_
theorem jC{pl:List Tr}{s1:Sl}(hs:LS s1 (pl.map Tr.d))(j:∀x∈pl,KC ws x)(e:∀v∈ws,v.s≠v.t)(l:pl.length<=60)(q:Q (.val (.int (stP ws pl p (lV t)))) [.val a_ (eZ m ws),s1,.val a_ (.int p),.val a_ (.int t)]):(run Γ w (n+3) 9 [.val a_ (eZ m ws),s1,.val a_ (.int p),.val a_ (.int t)]).sat Q:=by
 refine bh (d:=f9) rfl rfl (by decide) ?_;refine lQ (λρ=>∃kvs:List (Int×Int),ρ=[.val a_ (eZ m ws),s1,.val a_ (.int p),.val a_ (.int t),.val a_ (.cZ (.k kvs))]/\(kvs.map (·.1)).Nodup/\kvs.length<=pl.length/\∀P,vV P kvs=stP ws pl p P) ?_ ?_
 . rcases hs with⟨b,rfl⟩|⟨b,rfl⟩;.simp[f9];refine jd (.inl ⟨_,rfl⟩) j e l λkvs h1 g f=>?_;simp;exact⟨h1,g,f⟩
   .simp[f9];refine jd (.inr ⟨_,rfl⟩) j e l λkvs h1 g f=>?_;simp;exact⟨h1,g,f⟩
 . rintro _⟨kvs,rfl,h1,g,f⟩;symm;simp[GK];refine⟨λ_=>?_,by show _<=16777216;lia⟩;refine uv (F5 _ _ _ _ _) (gK (lV t) kvs) ⟨.aM,rfl,rfl⟩ ?_ ?_
   . rintro d hd _⟨s,rfl,hs⟩;obtain⟨⟨k,v⟩,u,rfl⟩:=eM.mp hd;have A:=u9 (r:=kvs) (k:=k) (eM.mpr ⟨_,u,rfl⟩);by_cases c:k<=t;.simp[hs,c,A,gK,lV];exact⟨_,rfl,rfl⟩
     .simp[hs,c,gK,lV];exact⟨_,rfl,rfl⟩
   . rintro _⟨s,rfl,hs⟩;obtain⟨ns,o,C⟩:=fsm (P:=lV t) (kvs:=kvs) (kvs.map (·.1));rw[eA]at o;have E:kvs.filterMap (gK (lV t) kvs ∘ D.int ∘ λx=>x.1)=ns.map D.int:=by rw[<-lw];exact o
     simp[E];rw[C,<-sr h1,f];exact q
noncomputable def pre(kvs:List (Int×Int)):Int->List Int->Bool|_,[]=>ck|st,k::r=>if st+gv kvs k<0 then a_ else pre kvs (st+gv kvs k) r
theorem Cd{kvs:List (Int×Int)}:∀{ks:List Int}{st:Int},ks.Pairwise (·<·)->(pre kvs st ks=ck↔∀t,(∃k∈ks,k<=t)->0<=st+sm (λk=>if lV t k=ck then gv kvs k else 0) ks)
 |[],st,_=>by simp[pre]|k::r,st,h=>by
   rw[ls]at h;have g:=Cd (kvs:=kvs) (ks:=r) (st:=st+gv kvs k) h.2;have z:∀t,¬(∃j∈r,j<=t)->sm (λk=>if lV t k=ck then gv kvs k else 0) r=0:=λt hn=>vX λj hj=>by rw[if_neg];simp only[lV,decide_eq_true_eq];intro b;exact hn ⟨j,hj,b⟩
   rw[pre];by_cases c:st+gv kvs k<0;.rw[if_pos c];refine⟨λq=>(by cases q),λq=>?_⟩;have:=q k ⟨k,by simp,gT _⟩;rw[cW,z k (λ⟨j,hj,b⟩=>by have:=h.1 j hj;lia)]at this;simp[lV]at this;lia
   . rw[if_neg c,g];constructor
     . intro q t⟨j,hj,b⟩;have f:k<=t:=by
        rcases et.mp hj with rfl|hj;.exact b
        .have:=h.1 j hj;lia
       have e:(if lV t k=ck then gv kvs k else 0)=gv kvs k:=by simp[lV,f]
       rw[cW,e];by_cases hr:∃j∈r,j<=t;.have:=q t hr;lia
       .rw[z t hr];lia
     . intro q t⟨j,hj,b⟩;have f:k<=t:=by have:=h.1 j hj;lia
       have:=q t ⟨k,by simp,f⟩;have e:(if lV t k=ck then gv kvs k else 0)=gv kvs k:=by simp[lV,f]
       rw[cW,e]at this;lia
theorem K9{kvs:List (Int×Int)}{ks:List Int}(hn:(kvs.map (·.1)).Nodup)(g:ks.Perm (kvs.map (·.1)))(hs:ks.Pairwise (·<=·)):pre kvs 0 ks=ck↔∀t,0<=vV (lV t) kvs:=by
 have b:ks.Pairwise (·<·):=by have hd:ks.Pairwise (·≠·):=g.nodup_iff.mpr hn;exact(hs.and hd).imp λ⟨h1,o⟩=>by lia
 rw[Cd b];have e:∀t,vV (lV t) kvs=sm (λk=>if lV t k=ck then gv kvs k else 0) ks:=λt=>by rw[sr hn];exact(Dd g).symm
 constructor
 . intro q t;by_cases c:∃k∈ks,k<=t;.have:=q t c;rw[e];lia
   .rw[e,vX λj l=>by rw[if_neg];simp only[lV,decide_eq_true_eq];intro f;exact c ⟨j,l,f⟩];exact gT _
 .intro q t _;have:=q t;rw[e]at this;lia
theorem Ig{ns:List Int}:∃ks:List Int,kE (ns.map D.int)=ks.map D.int/\ks.Perm ns/\ks.Pairwise (·<=·):=by
 have f:=gP (ns.map D.int);have hs:=jM (ns.map D.int);have e:kE (ns.map D.int)=((kE (ns.map D.int)).map fG).map D.int:=by rw[eA];refine((ga λd hd=>?_).trans (map_id _)).symm;obtain⟨i,_,rfl⟩:=eM.mp (f.mem_iff.mp hd);rfl
 refine⟨_,e,?_,?_⟩;.have:=f.map fG;rw[eA]at this;exact this.trans (.of_eq ((ga λd _=>rfl).trans (map_id _)))
 .rw[k_];refine hs.imp_of_mem λ{a b}g l h=>?_;obtain⟨i,_,rfl⟩:=eM.mp (f.mem_iff.mp g);obtain⟨j,_,rfl⟩:=eM.mp (f.mem_iff.mp l);simp[j8,bO,aZ]at h;show i<=j;lia
theorem Fp{kvs:List (Int×Int)}(h:kvs.length<61):blt .yz [.cZ (.k kvs)]=aB (.own (kE ((kvs.map (·.1)).map D.int))):=by
 have e:(kvs.map λp=>D.int p.1)=(kvs.map (·.1)).map D.int:=by simp
 show(if _ then _ else _)=_;rw[if_pos,e];rw[e];have h:=(show kvs.length<=63 by lia);simp[sortable,h,dI]
inductive JNs(kvs:List (Int×Int))(b:Bool)(a0 a1 a2 a3:Sl)(r:List D)(ρ:List Sl):Prop where|mk(ks:List Int)(st:Int)(s:Sl)(q0:ρ=[a0,a1,a2,a3,.val a_ (.int st),s])(q1:fr s=ck)(q2:r=ks.map D.int)(q3:(∀k∈ks,k∈kvs.map (·.1)))(q4:pre kvs st ks=b)
theorem uz{pl:List Tr}{s1:Sl}(E:LS s1 (pl.map Tr.d))(H:∀x∈pl,KC ws x)(o:∀v∈ws,v.s≠v.t)(W:pl.length<61)(q:∀r:Bool,(r=ck↔∀t,0<=stP ws pl p (lV t))->Q (.val (.bl r)) [.val a_ (eZ m ws),s1,.val a_ (.int p)]):(run Γ w (n+3) 5 [.val a_ (eZ m ws),s1,.val a_ (.int p)]).sat Q:=by
 refine bh (d:=f5) rfl rfl (by decide) ?_;refine lQ (λρ=>∃kvs:List (Int×Int),ρ=[.val a_ (eZ m ws),s1,.val a_ (.int p),.val a_ (.cZ (.k kvs)),.aM,.aM]/\(kvs.map (·.1)).Nodup/\kvs.length<=pl.length/\∀P,vV P kvs=stP ws pl p P) ?_ ?_
 . rcases E with⟨b,rfl⟩|⟨b,rfl⟩;.simp[f5];refine jd (.inl ⟨_,rfl⟩) H o (by lia) λkvs h1 A l=>?_;simp;exact⟨h1,A,l⟩
   .simp[f5];refine jd (.inr ⟨_,rfl⟩) H o (by lia) λkvs h1 A l=>?_;simp;exact⟨h1,A,l⟩
 rintro _⟨kvs,rfl,h1,A,l⟩;symm;simp;apply aq;obtain⟨ks,e,I,hs⟩:=Ig (ns:=kvs.map (·.1));have C:=q _ ((K9 h1 I hs).trans ⟨λz t=>by rw[<-l];exact z t,λz t=>by rw[l];exact z t⟩);simp[Fp (show kvs.length<61 by lia)];rw[eA]at e;have N:kE (kvs.map (D.int ∘ λx=>x.1))=ks.map D.int:=e;simp[N];refine cG (JNs kvs (pre kvs 0 ks) _ _ _ _) ?_ ?_ ⟨ks,0,.aM,rfl,rfl,rfl,λk u=>I.mem_iff.mp u,rfl⟩;.rintro d r _⟨f,st,s,rfl,J,hr,u,g⟩;cases f with|nil=>cases hr|cons k f=>
     obtain⟨rfl,rfl⟩:d=.int k/\r=f.map D.int:=by simpa using hr
     have O:=u9 (r:=kvs) (u k (by simp));simp[J];apply aq;simp[O];apply aq;rw[pre]at g;by_cases c:st+gv kvs k<0;.rw[if_pos c]at g;simp[c];apply aq;simp;rw[<-g]at C;exact C
     .rw[if_neg c]at g;simp[c];exact⟨f,_,_,rfl,rfl,rfl,λj U=>u j (by simp[U]),g⟩
 . rintro _⟨f,st,s,rfl,J,hr,u,g⟩;have G:f=[]:=by cases f with|nil=>rfl|cons _ _=>cases hr
   subst G;rw[pre]at g;symm;simp;rw[<-g]at C;exact C
theorem fH{bs:List Bool}:(bs.map D.bl).mapM zp=aB bs:=by induction bs with|nil=>rfl|cons b bs e=>simp[e]
noncomputable def ir:List Tr->Bool|a::b::r=>aZ [a.h,a.w] [b.h,b.w]&&ir (b::r)|_=>ck
noncomputable def Tr.k(x:Tr):D:=.tup [.int x.h,.int x.w]
theorem uB:∀pl:List Tr,(((pl.map Tr.k).zip (pl.map Tr.k).tail).map λp=>aZ (bO p.1) (bO p.2)).all id=ir pl|[]=>rfl|[_]=>rfl|a::b::r=>by have e:=uB (b::r);simp only[er,List.tail_cons,List.zip_cons_cons,nh,ir]at e ⊢;rw[e];rfl
noncomputable def Tn:D->D|.tup [a,b]=>.bl (aZ (bO a) (bO b))|d=>d
@[simp]theorem acB{a b:D}:Tn (.tup [a,b])=.bl (aZ (bO a) (bO b)):=rfl
inductive F1(a0:Sl)(ρ:List Sl):Prop where|mk(s:Sl)(t:Sl)(q0:ρ=[a0,s,t])(q1:fr s=ck)(q2:fr t=ck)
theorem aeq{a b:Tr}:cm .lt a.k b.k=aB (aZ (bO a.k) (bO b.k)):=rfl
theorem zG{b:Bool}{pl:List Tr}(u:pl.length<=60)(q:Q (.val (.bl (ir pl))) [.val b (.lst (pl.map Tr.k))]):(run Γ w (n+1) 0 [.own b (pl.map Tr.k)]).sat Q:=by
 refine bh (d:=f0) rfl rfl (by decide) ?_;symm;have l:cut (pl.map Tr.k) (aB 1) b_=(pl.map Tr.k).tail:=by cases pl with|nil=>rfl|cons a r=>simp[cut,dR];exact jU (by simp)
 simp[f0,wH,part,ni,l];refine⟨λ_=>?_,by show _<=16777217;lia⟩;refine gB (F1 _) Tn ⟨.aM,.aM,rfl,rfl,rfl⟩ ?_ ?_;.rintro d hd _⟨s,t,rfl,hs,g⟩;obtain⟨⟨x,y⟩,f,rfl⟩:=eM.mp hd;have j:=lb f;obtain⟨a,_,rfl⟩:=eM.mp j.1;obtain⟨c,_,rfl⟩:=eM.mp (List.mem_of_mem_tail j.2);simp[hs,g,aeq];exact⟨_,_,rfl,rfl,rfl⟩
 . rintro _⟨s,t,rfl,hs,g⟩;have e:=uB pl;have o:(((pl.map Tr.k).zip (pl.map Tr.k).tail).map λp=>D.tup [p.1,p.2]).map Tn=((((pl.map Tr.k).zip (pl.map Tr.k).tail).map λp=>aZ (bO p.1) (bO p.2))).map D.bl:=by rw[eA,eA];rfl
   rw[o];simp only[je,gH,fH,eT,bA,aQ,iM,e];simp;exact q
noncomputable def Eh(x:Tr):Bool:=decide (0<=x.h)&&decide (1<=x.l)
noncomputable def okD(d:D):D:=.bl (Eh (zH d))
noncomputable def TY(d:D):D:=(zH d).k
inductive F3(a0:Sl)(ρ:List Sl):Prop where|mk(s:Sl)(t:Sl)(u:Sl)(q0:ρ=[a0,s,t,u])(q1:fr s=ck)(q2:fr t=ck)(q3:fr u=ck)
theorem qU{s0:Sl}{pl:List Tr}(j:LS s0 (pl.map Tr.d))(r:pl.length<=60)(q:Q (.val (.bl (pl.all Eh&&ir pl))) [s0]):(run Γ w (n+2) 2 [s0]).sat Q:=by
 have b:pl.length<=lim:=by show _<=16777216;lia
 refine bh (d:=f2) rfl rfl (by decide) ?_;symm;obtain⟨G,l,o⟩:=jj (ρ:=[s0]) (k:=0) (e:=ev (run Γ w (n+1)) (.var 0)) rfl j;simp[f2,-dZ,-dD,l,b];refine gB (F3 _) okD ⟨.aM,.aM,.aM,rfl,rfl,rfl,rfl⟩ ?_ ?_
 . rintro d hd _⟨s,t,u,rfl,hs,f,g⟩;obtain⟨x,_,rfl⟩:=eM.mp hd;by_cases c:0<=x.h;.simp[hs,f,g,Tr.d,c,okD,Eh];first|exact⟨_,_,_,rfl,rfl,rfl,rfl⟩|exact⟨rfl,_,_,_,rfl,rfl,rfl,rfl⟩
   .simp[hs,f,g,Tr.d,c,okD,Eh];first|exact⟨_,_,_,rfl,rfl,rfl,rfl⟩|exact⟨rfl,_,_,_,rfl,rfl,rfl,rfl⟩
 rintro _⟨s,t,u,rfl,hs,f,g⟩;have A:(pl.map Tr.d).map okD=(pl.map Eh).map D.bl:=by rw[eA,eA];rfl
 have C:(pl.map Eh).all id=pl.all Eh:=by rw[kN];rfl
 rw[A];simp only[h_,kF];rw[o _ rfl];simp only[je,gH,fH,eT,bA,aQ,iM,C];simp only[zM,Aj,bA,ml];cases hc:pl.all Eh with|false=>rw[hc]at q;simp;apply aq;simp;simpa using q|true=>
   rw[hc]at q;simp;apply aq;simp[-dZ,-dD,l,b];refine gB (F3 _) TY ⟨.aM,.aM,.aM,rfl,rfl,rfl,rfl⟩ ?_ ?_;.rintro d hd _⟨s,t,u,rfl,hs,f,g⟩;obtain⟨x,_,rfl⟩:=eM.mp hd;simp[hs,f,g,Tr.d,TY];first|exact⟨_,_,_,rfl,rfl,rfl,rfl⟩|exact⟨rfl,_,_,_,rfl,rfl,rfl,rfl⟩
   rintro _⟨s,t,u,rfl,hs,f,g⟩;have E:(pl.map Tr.d).map TY=pl.map Tr.k:=by rw[eA];rfl
   rw[E];simp only[h_,kF];rw[o _ rfl];simp;refine zG r ?_;simpa using q
noncomputable def G6(ws:List Wy)(last:Int)(x:Tr):Prop:=KC ws x/\x.l<=(wy ws x.w).r/\rO ws x<=last
noncomputable def pN(ws:List Wy)(last:Int)(x:Tr):Bool:=@decide (G6 ws last x) (eO _)
theorem rY{x:Tr}:pN ws last x=ck↔G6 ws last x:=by unfold pN;simp
theorem vh{x:Tr}(h:¬ G6 ws last x):pN ws last x=a_:=by unfold pN;simp[h]
theorem Ik{x:Tr}(q:Q (.val (.bl (pN ws last x))) [.val a_ (eZ m ws),.val a_ (.int last),.val a_ x.d]):(run Γ w (n+2) 3 [.val a_ (eZ m ws),.val a_ (.int last),.val a_ x.d]).sat Q:=by
 refine bh (d:=f3) rfl rfl (by decide) ?_;symm;by_cases c0:0<=x.w
 . by_cases c1:x.w<(ws.length:Int)
   . obtain⟨b,e⟩:=vO c0 c1;by_cases c2:x.l<=(wy ws x.w).r
     . simp[f3,JG,xH,WR,c0,c1,b,YG,c2];refine pF c0 c1 ?_;simp;have:pN ws last x=decide (x.h+(wy ws x.w).h<=last):=by rw[gy,rY,decide_eq_true_eq];exact⟨λh=>h.2.2,λh=>⟨⟨c0,c1⟩,c2,h⟩⟩
       rw[this]at q;exact q
     .rw[vh λh=>c2 h.2.1]at q;simp[f3,xH,WR,c0,c1,b,YG,c2];exact q
   .rw[vh λh=>c1 h.1.2]at q;simp[f3,xH,c0,c1];exact q
 .rw[vh λh=>c0 h.1.1]at q;simp[f3,xH,c0];exact q
inductive F3b(a0 a1 a2:Sl)(ρ:List Sl):Prop where|mk(s:Sl)(q0:ρ=[a0,a1,a2,s])(q1:fr s=ck)
structure ig(m:Int)(ws:List Wy)(last:Int)(pl:List Tr):Prop where
 ok:pl.all Eh=ck
 Qx:ir pl=ck
 fit:∀x∈pl,G6 ws last x
 st:∀p,1<=p->p<m->∀t,0<=stP ws pl p (lV t)
noncomputable def QF(ws:List Wy)(last:Int)(d:D):D:=.bl (pN ws last (zH d))
theorem Th{x:Tr}:QF ws last x.d=.bl (pN ws last x):=rfl
noncomputable def jJ(ws:List Wy)(pl:List Tr)(p:Int):Bool:=@decide (∀t,0<=stP ws pl p (lV t)) (eO _)
noncomputable def Ab(ws:List Wy)(pl:List Tr)(d:D):D:=.bl (jJ ws pl (fG d))
theorem run_eq{x:Res R}{r:R}(h:x.sat λa b=>a=r/\b=ρ):x=.ok r ρ:=by obtain⟨a,b,e,rfl,rfl⟩:=sat_iff.mp h;exact e
theorem Fx{e f s2:Sl}{pl:List Tr}(hs:LS s2 (pl.map Tr.d))(g:pl.length<=60):ev (run Γ w (n+2)) (.call 2 [.var 2]) [e,f,s2]=.ok (.val (.bl (pl.all Eh&&ir pl))) [e,f,s2]:=by
 refine run_eq ?_;rcases hs with⟨b,rfl⟩|⟨b,rfl⟩;.simp;refine qU (.inl ⟨_,rfl⟩) g ?_;simp
 .simp;refine qU (.inr ⟨_,rfl⟩) g ?_;simp
theorem Ht{g s2:Sl}{pl:List Tr}(hs:LS s2 (pl.map Tr.d))(j:∀x∈pl,KC ws x)(f:∀v∈ws,v.s≠v.t)(l:pl.length<61):ev (run Γ w (n+3)) (.call 5 [.var 0,.var 2,.var 3]) [.val a_ (eZ m ws),g,s2,.val a_ (.int p)]=.ok (.val (.bl (jJ ws pl p))) [.val a_ (eZ m ws),g,s2,.val a_ (.int p)]:=by
 have e:∀r:Bool,(r=ck↔∀t,0<=stP ws pl p (lV t))->r=jJ ws pl p:=λr hr=>by rw[gy,hr];unfold jJ;simp
 refine run_eq ?_;rcases hs with⟨b,rfl⟩|⟨b,rfl⟩;.simp;refine uz (.inl ⟨_,rfl⟩) j f l λr hr=>?_;simp[e r hr]
 .simp;refine uz (.inr ⟨_,rfl⟩) j f l λr hr=>?_;simp[e r hr]
theorem gD{s2:Sl}{pl:List Tr}(b:LS s2 (pl.map Tr.d))(O:0<=m/\m<=60)(j:∀v∈ws,v.s≠v.t)(A:pl.length<61)(q:∀r:Bool,(r=ck↔ig m ws last pl)->Q (.val (.bl r)) [.val a_ (eZ m ws),.val a_ (.int last),s2]):(run Γ w (n+4) 6 [.val a_ (eZ m ws),.val a_ (.int last),s2]).sat Q:=by
 have g:pl.length<=lim:=by show _<=16777216;lia
 refine bh (d:=f6) rfl rfl (by decide) ?_;symm;obtain⟨U,C,E⟩:=jj (ρ:=[.val a_ (eZ m ws),.val a_ (.int last),s2]) (k:=2) (e:=ev (run Γ w (n+3)) (.var 2)) rfl b;simp[f6,-gZ,Fx b (show pl.length<=60 by lia),-dZ,-dD];refine⟨λc1=>?_,λc1 c2=>?_⟩
 . symm;simp;refine q a_ ⟨λh=>(by cases h),λh=>?_⟩;rcases c1 with⟨x,f,hz⟩|hz;.have:=eB.mp h.ok x f;rw[hz]at this;cases this
   .have:=h.Qx;rw[hz]at this;cases this
 simp[C,g,-dZ,-dD];refine gB (F3b _ _ _) (QF ws last) ⟨.aM,rfl,rfl⟩ ?_ ?_;.rintro d hd _⟨s,rfl,hs⟩;obtain⟨x,_,rfl⟩:=eM.mp hd;simp[hs];refine Ik ?_;simp[Th];exact⟨_,rfl,rfl⟩
 rintro _⟨s,rfl,hs⟩;have G:(pl.map Tr.d).map (QF ws last)=(pl.map (pN ws last)).map D.bl:=by rw[eA,eA];rfl
 have H:(pl.map (pN ws last)).all id=pl.all (pN ws last):=by rw[kN];rfl
 rw[G];simp only[h_,kF];rw[E _ rfl];simp only[je,gH,fH,eT,bA,aQ,iM,H];simp only[zM,Aj,bA,ml,lp];cases hc:pl.all (pN ws last)with|false=>simp;apply aq;simp;refine q a_ ⟨λh=>(by cases h),λh=>?_⟩;rw[eB.mpr λx f=>rY.mpr (h.fit x f)]at hc;cases hc|true=>
   have o:∀x∈pl,G6 ws last x:=λx f=>rY.mp (eB.mp hc x f);simp;apply aq;simp[show m<=1000000000 by lia,show-1000000000<=m by lia];refine⟨λ_=>?_,by lia⟩;refine gB (F3b _ _ _) (Ab ws pl) ⟨.aM,rfl,rfl⟩ ?_ ?_;.rintro d hd _⟨s,rfl,hs⟩;obtain⟨k,_,rfl⟩:=eM.mp hd;simp[hs,-gZ,Ht b (λx f=>(o x f).1) j A,Ab];exact⟨_,rfl,rfl⟩
   rintro _⟨s,rfl,hs⟩;generalize l:(dV (m.toNat-1)).map (λ(k:Nat)=>(1+(k:Int)))=L;have I:((dV (m.toNat-1)).map λ(k:Nat)=>D.int (1+(k:Int))).map (Ab ws pl)=(L.map (jJ ws pl)).map D.bl:=by rw[<-l,eA,eA,eA];rfl
   have J:(L.map (jJ ws pl)).all id=L.all (jJ ws pl):=by rw[kN];rfl
   rw[I];simp only[je,gH,fH,eT,bA,aQ,iM,J];simp;refine q _ ?_;rw[eB];constructor
   . intro h;refine⟨?_,?_,o,λp h1 W=>?_⟩;.rw[eB];exact c1
     .exact c2
     . have:p∈L:=by rw[<-l,eM];exact⟨(p-1).toNat,by rw[iN];lia,by lia⟩
       have:=h p this;unfold jJ at this;simpa using this
   .intro h p u;rw[<-l,eM]at u;obtain⟨k,N,rfl⟩:=u;rw[iN]at N;unfold jJ;simp only[decide_eq_true_eq];exact h.st _ (by lia) (by lia)
noncomputable def Hd(a b:Tr):Prop:=a.h<b.h\/a.h=b.h/\a.w<b.w
theorem p7{a b:Tr}:aZ [a.h,a.w] [b.h,b.w]=ck↔Hd a b:=by simp[aZ,Hd]
theorem jk:∀{pl:List Tr},ir pl=ck↔pl.Pairwise Hd
 |[]=>by simp[ir]|[a]=>by simp[ir]|a::b::r=>by
   have f:=jk (pl:=b::r);simp only[ir,fE,p7,f];rw[ls (a:=a)];refine⟨λ⟨h1,e⟩=>⟨λc hc=>?_,e⟩,λ⟨h1,e⟩=>⟨h1 b (by simp),e⟩⟩;rcases et.mp hc with rfl|hc;.exact h1
   .have:=(ls.mp e).1 c hc;unfold Hd at*;lia
noncomputable def neT(a b:Tr):Prop:=¬(a.h=b.h/\a.w=b.w)
theorem Bx{pl:List Tr}:∃ks:List Tr,kE (pl.map Tr.d)=ks.map Tr.d/\ks.Perm pl/\(pl.Pairwise neT->ir ks=ck):=by
 have q:=gP (pl.map Tr.d);have hs:=jM (pl.map Tr.d);let g:D->Tr:=λd=>match d with|.tup [.int h,.int w,.int l]=>⟨h,w,l⟩|_=>⟨0,0,0⟩;have r:∀x:Tr,g x.d=x:=λx=>rfl;have e:kE (pl.map Tr.d)=((kE (pl.map Tr.d)).map g).map Tr.d:=by rw[eA];refine((ga λd hd=>?_).trans (map_id _)).symm;obtain⟨i,_,rfl⟩:=eM.mp (q.mem_iff.mp hd);rfl
 have f:((kE (pl.map Tr.d)).map g).Perm pl:=by have:=q.map g;rw[eA]at this;exact this.trans (.of_eq ((ga λd _=>rfl).trans (map_id _)))
 refine⟨_,e,f,λhn=>?_⟩;rw[jk];have j:((kE (pl.map Tr.d)).map g).Pairwise neT:=(f.pairwise_iff (λ{a b}h=>by unfold neT at*;lia)).mpr hn;have o:((kE (pl.map Tr.d)).map g).Pairwise λa b=>j8 a.d b.d=ck:=by rw[e,k_]at hs;exact hs
 refine(o.and j).imp λ{a b}⟨h1,h2⟩=>?_;simp[j8,bO,Tr.d,fG,aZ]at h1;unfold neT at h2;unfold Hd;lia
theorem nU{pl:List Tr}(h:pl.length<61):sortable (pl.map Tr.d)=ck:=by have h:=(show pl.length<=63 by lia);simp[sortable,h,rB,dI,Tr.d]
theorem Bp{k:Nat}{src f:P}{one:Bool}:ex c n (.FW x src k is one f) ρ=(srcOf (isVar src) (ev c src) ρ).bind λds b=>if ds.length<=lim then(iV is one (ev c f) ds [] (b++dA k .aM)).bind λg e=>(lift (put (bH ρ (isVar src) (e.take b.length)) x (.hold g)) ρ).bind λj _=>.ok .next j else .stuck:=(rfl)
theorem nR{src:P}{one:Bool}{body:List S}:ex c n (.yE src is one body) ρ=(ev c src ρ).bind λr b=>(lift (items r.d) b).bind λds b=>jh is one (ji c n body) ds b:=(rfl)
theorem Jv:ex c n (.fO x) ρ=match ρ[x]?with|some (.hold b)=>.ok .next (ρ.set x (.val a_ (.lst (b.map D.lst))))|_=>.stuck:=(rfl)
theorem Cg{i j e:P}{sub:Bool}:ex c n (.yD x i j sub e) ρ=(bU (isVar i) (ev c i) ρ).bind λk ρ=>(lift (fV ρ x k) ρ).bind λ_ ρ=>(bU (isVar j) (ev c j) ρ).bind λl ρ=>(lift ((fV ρ x k).bind λrow=>(fj l).bind λl=>(at' row l).bind fj) ρ).bind λu ρ=>(bU (isVar e) (ev c e) ρ).bind λw ρ=>(bU (isVar i) (ev c i) ρ).bind λk ρ=>(lift (fV ρ x k) ρ).bind λ_ ρ=>(bU (isVar j) (ev c j) ρ).bind λl ρ=>vH ρ x ((gh ρ x).bind λb=>(fj w).bind λv=>(fj k).bind λk=>(fj l).bind λl=>gA b k (setAt l (.int (if sub then u-v else u+v)))):=(rfl)
theorem Oh{y:Nat}{j k l:P}:ex c n (.Kh x y j k l) ρ=(lift (gh ρ x) ρ).bind λb ρ=>iH x y (bU (isVar j) (ev c j)) (bU (isVar k) (ev c k)) (bU (isVar l) (ev c l)) b.length 0 ρ:=(rfl)
@[simp]theorem aa9{a:Sl}{l:List Sl}{x:Nat}:gh (a::l) x=match(a::l)[x]?with|some (.hold b)=>aB b|_=>b_:=rfl
@[simp]theorem Vu{ρ:List Sl}{x:Nat}{b:List (List D)}:vH ρ x (aB b)=.ok .next (ρ.set x (.hold b)):=rfl
@[simp]theorem ab4{a:Sl}{l:List Sl}{x:Nat}{k:Int}:fV (a::l) x (.int k)=match(a::l)[x]?with|some (.hold b)=>rowAt b k|_=>b_:=by unfold fV gh;cases h:(a::l)[x]?with|none=>rfl|some s=>cases s<;>rfl
theorem my{is:List Nat}{one:Bool}{l:Ev}(J:List Sl->Prop)(g:D->List D){Q:List (List D)->List Sl->Prop}:∀{ds:List D}{b:List (List D)}{ρ:List Sl},J ρ->(∀d,d∈ds->∀ρ,J ρ->∃f,bV ρ is one d=aB f/\(l f).sat λr o=>r=.own (g d)/\J o)->(∀ρ,J ρ->Q (b++ds.map g) ρ)->(iV is one l ds b ρ).sat Q|[],b,ρ,j,h,k=>by rw[JD];simpa using k ρ j|d::r,b,ρ,j,h,k=>by obtain⟨f,e,h1⟩:=h d (by simp) ρ j;rw[Ib,e];show((l f).bind _).sat Q;rw[aQ];refine h1.imp λx o⟨A,j3⟩=>?_;subst A;exact my J g j3 (λd' q=>h d' (by simp[q])) λu C=>by simpa using k u C
theorem rR{x y N:Nat}{g l o:List Sl->Res D}(J:Nat->List Sl->Prop){Q:Fl->List Sl->Prop}(h:∀r ρ,r<N->J r ρ->∃b,put ρ y .aM=aB b/\(rowOne x r g l o b).sat λ_ f=>J (r+1) f)(k:∀ρ,J N ρ->Q .next ρ):∀(m r:Nat)(ρ:List Sl),r+m=N->J r ρ->(iH x y g l o m r ρ).sat Q|0,r,ρ,e,j=>by rw[iH];exact k ρ (by rw[<-e];exact j)|m+1,r,ρ,e,j=>by obtain⟨b,q,h1⟩:=h r ρ (by lia) j;rw[iH,q];show((rowOne x r g l o b).bind _).sat Q;rw[aQ];exact h1.imp λ_ f u=>rR J h k m (r+1) f (by lia) u
noncomputable def cY(L:Nat)(f:Int->Int):List D:=(dV L).map λ(t:Nat)=>D.int (f (t:Int))
noncomputable def mat(M L:Nat)(F:Int->Int->Int):List (List D):=(dV M).map λ(p:Nat)=>cY L (F (p:Int))
noncomputable def up(F:Int->Int->Int)(p t v:Int):Int->Int->Int:=λa b=>if a=p/\b=t then v else F a b
@[simp]theorem rP{L:Nat}{f:Int->Int}:(cY L f).length=L:=by simp[cY]
@[simp]theorem Ck{M L:Nat}{F:Int->Int->Int}:(mat M L F).length=M:=by simp[mat]
theorem uR(h0:0<=i)(h1:i<(n:Int)):lD n i=aB i.toNat:=by unfold lD;rw[if_pos h0,if_pos h1]
theorem iU{f:Int->Int}(h0:0<=t)(h1:t<(L:Int)):at' (cY L f) t=aB (.int (f t)):=by
 unfold at';rw[rP,uR h0 h1];have:t.toNat<L:=by lia
 simp[cY,this,jp h0]
theorem pZ{r:Nat}(h:r<M):(mat M L F)[r]?=aB (cY L (F (r:Int))):=by simp[mat,h]
theorem uT(h0:0<=p)(h1:p<(M:Int)):rowAt (mat M L F) p=aB (cY L (F p)):=by unfold rowAt;rw[Ck,uR h0 h1];show(mat M L F)[p.toNat]?=_;rw[pZ (by lia),jp h0]
theorem xG{f:Int->Int}(h0:0<=t)(h1:t<(L:Int)):setAt t (.int v) (cY L f)=aB (cY L λb=>if b=t then v else f b):=by
 unfold setAt;rw[rP,uR h0 h1];show aB _=aB _;congr 1;refine ii (by simp) λi g j=>?_;simp at g;rw[List.getElem_set];by_cases e:t.toNat=i
 . rw[if_pos e];have:(i:Int)=t:=by lia
   simp[cY,this]
 . rw[if_neg e];have:¬(i:Int)=t:=by lia
   simp[cY,this]
theorem BV{r:Nat}(hr:r<M)(f:(r:Int)=p):(mat M L F).set r (cY L λb=>if b=t then v else F p b)=mat M L (up F p t v):=by
 refine ii (by simp) λi g j=>?_;simp at g;rw[List.getElem_set];by_cases e:r=i;.rw[if_pos e];subst e;simp[mat,f];congr 1;funext b;simp[up]
 . rw[if_neg e];have:¬(i:Int)=p:=by lia
   simp[mat];congr 1;funext b;simp[up,this]
theorem vW(h0:0<=p)(h1:p<(M:Int))(b:0<=t)(e:t<(L:Int)):gA (mat M L F) p (setAt t (.int v))=aB (mat M L (up F p t v)):=by unfold gA;rw[Ck,uR h0 h1];show((mat M L F)[p.toNat]?).bind _=_;rw[pZ (by lia),jp h0];show((setAt t (.int v) (cY L (F p))).map _)=_;rw[xG b e];show aB ((mat M L F).set p.toNat _)=_;rw[BV (by lia) (by lia)]
theorem Yp{k:Int}(h:(L:Int)=k):(dA k.toNat [D.int 0]).flatten=cY L λ_=>0:=by
 have:k.toNat=L:=by lia
 rw[this];unfold cY;induction L generalizing k with|zero=>rfl|succ L b=>rw[List.range_succ,kg,List.replicate_succ',List.flatten_append];rw[b (k:=(L:Int)) rfl (by lia)];rfl
theorem DR{a:List D}(b:a.length=M){f:Int->Int}:a.map (λ_=>cY L f)=mat M L λ_=>f:=by subst b;refine ii (by simp) λi e g=>by simp[mat]
noncomputable def bd(l:List S)(k:Nat):List S:=l.drop k
theorem De{l:List S}{k:Nat}{s:S}(h:l[k]?=aB s):bd l k=s::bd l (k+1):=by obtain⟨h1,b⟩:=fZ h;unfold bd;rw[gY h1,b]
theorem aD{l:List S}{s:S}{k:Nat}{Q:Fl->List Sl->Prop}(h:l[k]?=aB s)(q:(ex c n s ρ).sat (sQ c n (bd l (k+1)) Q)):(ji c n (bd l k) ρ).sat Q:=by rw[De h];exact aq q
theorem m7{l:List S}{s:S}{k:Nat}{Q:Fl->List Sl->Prop}(h:l[k]?=aB s)(M:List Sl->Prop)(q:(ex c n s ρ).sat λe b=>e=.next/\M b)(f:∀b,M b->(ji c n (bd l (k+1)) b).sat Q):(ji c n (bd l k) ρ).sat Q:=by rw[De h];exact lQ M q f
noncomputable def toW(v:aX):Wy:=⟨v.s,v.t,0,v.h⟩
noncomputable def rd(vs:List aX)(k:Int):aX:=(vs[k.toNat]?).getD ⟨0,0,0⟩
theorem cP{vs:List aX}{k:Int}(h0:0<=k)(h1:k<(vs.length:Int)):at' (vs.map aX.d) k=aB (rd vs k).d/\rd vs k∈vs:=by
 have b:k.toNat<vs.length:=by lia
 have:rd vs k=vs[k.toNat]:=by unfold rd;simp[b]
 rw[this];refine⟨?_,gu b⟩;rw[eG h0 (by simpa using h1)];simp[b]
theorem Qm{v:aX}:oO v.d (.int 0)=aB (.val (.int v.s)):=by simp[aX.d]
theorem Lb{v:aX}:oO v.d (.int 1)=aB (.val (.int v.t)):=by simp[aX.d]
theorem Gq{v:aX}:oO v.d (.int 2)=aB (.val (.int v.h)):=by simp[aX.d]
structure fB(vs:List aX)(T:Int)(x:Tr):Prop where
 h0:0<=x.h
 w0:0<=x.w
 w1:x.w<(vs.length:Int)o1:x.h+(rd vs x.w).h<=T
noncomputable def dl(vs:List aX)(p t:Int)(x:Tr):Int:=(if(rd vs x.w).t=p/\x.h+(rd vs x.w).h=t then x.l else 0)-(if(rd vs x.w).s=p/\x.h=t then x.l else 0)
noncomputable def iw(vs:List aX)(pl:List Tr)(p t:Int):Int:=sm (λx=>(if(rd vs x.w).t=p/\x.h+(rd vs x.w).h<=t then x.l else 0)-(if(rd vs x.w).s=p/\x.h<=t then x.l else 0)) pl
theorem Hx{vs:List aX}{pl:List Tr}:iw vs pl p (t+1)=iw vs pl p t+sm (dl vs p (t+1)) pl:=by
 unfold iw;rw[<-Ug];refine iT λx _=>?_;unfold dl;repeat' split
 all_goals lia
theorem Ip{vs:List aX}{pl:List Tr}{T:Int}(h:∀x∈pl,fB vs T x)(hv:∀v∈vs,1<=v.h):iw vs pl p 0=sm (dl vs p 0) pl:=by
 unfold iw;refine iT λx b=>?_;have f:=h x b;have h1:=f.h0;have e:=hv _ (cP f.w0 f.w1).2;unfold dl;repeat' split
 all_goals lia
noncomputable def WS(s:Sl)(vs:List aX):Prop:=(∃b,s=.own b (vs.map aX.d))\/∃b,s=.val b (.tup (vs.map aX.d))
noncomputable def O1:Sl->Sl|.own b ds=>.val b (.lst ds)|s=>s
theorem WS.pk{s:Sl}{vs:List aX}(h:WS s vs){ρ:List Sl}{k:Nat}(e:ρ[k]?=aB s):∃d,pk ρ k=aB d/\items d=aB (vs.map aX.d):=by
 rcases h with⟨b,rfl⟩|⟨b,rfl⟩;.exact⟨_,by unfold _H.pk;rw[e],rfl⟩
 .exact⟨_,by unfold _H.pk;rw[e],rfl⟩
inductive Jx(l:List Sl)(ρ:List Sl):Prop where|mk(s:Sl)(q0:ρ=l++[s])(q1:fr s=ck)
theorem K3{k:Int}(h:0<=k)(h0:0<ds.length)(h1:ds.length*k.toNat<=lim):pA (.lst ds) (.int k)=aB (.own (dA k.toNat ds).flatten):=by show(if _ then _ else _)=_;rw[if_pos ⟨h,h0,h1⟩]
inductive JS1(vs:List aX)(M L:Nat)(pl:List Tr)(a0 a1 s2 p3 fW:Sl)(r:List D)(ρ:List Sl):Prop where|mk(done rest:List Tr)(F:Int->Int->Int)(s5 s6 s7 s8 s9 fP:Sl)(q0:ρ=[a0,a1,s2,p3,.hold (mat M L F),s5,s6,s7,s8,s9,fP,fW])(q1:A6 (fr s5=ck) (fr s6=ck) (fr s7=ck) (fr s8=ck) (fr s9=ck) (fr fP=ck))(q2:r=rest.map Tr.d)(q3:pl=done++rest)(q4:∀p t,F p t=sm (dl vs p t) done)
inductive JS2(vs:List aX)(M L:Nat)(pl:List Tr)(a0 a1 s2 p3 s6 s7 s8 s9 fP:Sl)(i:Nat)(ρ:List Sl):Prop where|mk(F:Int->Int->Int)(s5 fW:Sl)(q0:ρ=[a0,a1,s2,p3,.hold (mat M L F),s5,s6,s7,s8,s9,fP,fW])(q1:(fr s5=ck/\fr fW=ck))(q2:∀p t,0<=p->p<(M:Int)->0<=t->F p t=if t<=(i:Int)then iw vs pl p t else sm (dl vs p t) pl)
inductive JS3(vs:List aX)(M L:Nat)(pl:List Tr)(i:Nat)(a0 a1 s2 p3 s5 s6 s7 s8 s9 fP:Sl)(r:Nat)(ρ:List Sl):Prop where|mk(F:Int->Int->Int)(fW:Sl)(q0:ρ=[a0,a1,s2,p3,.hold (mat M L F),s5,s6,s7,s8,s9,fP,fW])(q1:fr fW=ck)(q2:∀p t,0<=p->p<(M:Int)->0<=t->F p t=if t<=(i:Int)\/(t=(i:Int)+1/\p<(r:Int))then iw vs pl p t else sm (dl vs p t) pl)
theorem mH{T:Int}{vs:List aX}{pl:List Tr}{s2 s3:Sl}(ab:WS s2 vs)(ac:LS s3 (pl.map Tr.d))(m0:2<=m)(m1:m<=6)(t0:0<=T)(t1:T<=12)(hv:∀v∈vs,v.Ok m)(hf:∀x∈pl,fB vs T x)(q:Q (.val (.lst ((mat m.toNat (T+1).toNat (iw vs pl)).map D.lst))) [.val a_ (.int m),.val a_ (.int T),s2,O1 s3]):(run Γ w (n+1) 23 [.val a_ (.int m),.val a_ (.int T),s2,s3]).sat Q:=by
 refine bh (d:=f23) rfl rfl (by decide) ?_;have hM:(m.toNat:Int)=m:=by lia
 have hL:((T+1).toNat:Int)=T+1:=by lia
 generalize m.toNat=M at*;generalize ae:(T+1).toNat=L at*;refine lQ (λρ=>ρ=[.val a_ (.int m),.val a_ (.int T),s2,s3,.hold (mat M L λ_ _=>0),.aM,.aM,.aM,.aM,.aM,.aM,.aM]) ?_ ?_
 . simp[f23,Bp,show m<=1000000000 by lia,show-1000000000<=m by lia];refine⟨λ_=>?_,by lia⟩;rw[aQ];refine my (Jx [.val a_ (.int m),.val a_ (.int T),s2,s3,.aM,.aM,.aM,.aM,.aM,.aM,.aM,.aM]) (λ_=>cY L λ_=>0) ⟨.aM,rfl,rfl⟩ ?_ ?_;.rintro d hd _⟨s,rfl,hs⟩;simp[hs,show 0<=T+1 by lia,show T+1<=16777216 by lia,K3];refine⟨?_,⟨_,rfl,rfl⟩⟩;rw[ae];unfold cY;rw[List.map_const',j_]
   .rintro _⟨s,rfl,hs⟩;rw[mv,DR (M:=M) (by simp;lia)];simp
 . rintro _ rfl;refine lQ (λρ=>∃(F:Int->Int->Int)(s5 s6 s7 s8 s9 fP:Sl),ρ=[.val a_ (.int m),.val a_ (.int T),s2,O1 s3,.hold (mat M L F),s5,s6,s7,s8,s9,fP,.aM]/\(fr s5=ck/\fr s6=ck/\fr s7=ck/\fr s8=ck/\fr s9=ck/\fr fP=ck)/\∀p t,F p t=sm (dl vs p t) pl) ?_ ?_
   . have I:∀J,(jh [5,6,7] a_ (ji (run Γ w n) w [.Gi [8,9,10] (.idx (.var 2) (.var 6)),.yD 4 (.var 8) (.var 5) ck (.var 7),.yD 4 (.var 9) (.bin .add (.var 5) (.var 10)) a_ (.var 7)]) (pl.map Tr.d) [.val a_ (.int m),.val a_ (.int T),s2,J,.hold (mat M L λ_ _=>0),.aM,.aM,.aM,.aM,.aM,.aM,.aM]).sat (λfl ρ=>fl=.next/\∃(F:Int->Int->Int)(s5 s6 s7 s8 s9 fP:Sl),ρ=[.val a_ (.int m),.val a_ (.int T),s2,J,.hold (mat M L F),s5,s6,s7,s8,s9,fP,.aM]/\(fr s5=ck/\fr s6=ck/\fr s7=ck/\fr s8=ck/\fr s9=ck/\fr fP=ck)/\∀p t,F p t=sm (dl vs p t) pl):=by
      intro J;refine cG (JS1 vs M L pl _ _ s2 J _) ?_ ?_ ⟨[],pl,_,.aM,.aM,.aM,.aM,.aM,.aM,rfl,⟨rfl,rfl,rfl,rfl,rfl,rfl⟩,rfl,rfl,λ_ _=>rfl⟩;.rintro d r _⟨done,g,F,s5,s6,s7,s8,s9,fP,rfl,⟨H,U,W,X,Y,A⟩,hr,hpl,j⟩;cases g with|nil=>cases hr|cons x g=>
          obtain⟨rfl,rfl⟩:d=x.d/\r=g.map Tr.d:=by simpa using hr
          have Z:=hf x (by rw[hpl];simp);obtain⟨hg,O⟩:=cP Z.w0 Z.w1;have ok:=hv _ O;obtain⟨d2,e2,i2⟩:=ab.pk (ρ:=[.val a_ (.int m),.val a_ (.int T),s2,J,.hold (mat M L F),.val a_ (.int x.h),.val a_ (.int x.w),.val a_ (.int x.l),s8,s9,fP,.aM]) (k:=2) rfl;have h0:=Z.h0;have o1:=Z.o1;have:=ok.s0;have:=ok.s1;have:=ok.t0;have:=ok.t1;have:=ok.h0;have:=ok.ne;simp[Tr.d,H,U,W];apply aq;simp[e2,i2,oO,hg];generalize af:rd vs x.w=v at*;simp[aX.d,X,Y,A];have r1:rowAt (mat M L F) v.s=aB (cY L (F v.s)):=uT (by lia) (by lia);have r2:at' (cY L (F v.s)) x.h=aB (.int (F v.s x.h)):=iU (by lia) (by lia);have r3:gA (mat M L F) v.s (setAt x.h (.int (F v.s x.h-x.l)))=aB (mat M L (up F v.s x.h (F v.s x.h-x.l))):=vW (by lia) (by lia) (by lia) (by lia);symm;simp[Cg,r1,r2,r3];have hG:∀p t,up F v.s x.h (F v.s x.h-x.l) p t=F p t-if v.s=p/\x.h=t then x.l else 0:=λp t=>by
           unfold up;by_cases c:p=v.s/\t=x.h;.obtain⟨rfl,rfl⟩:=c;simp
           .rw[if_neg c,if_neg (λz=>c ⟨z.1.symm,z.2.symm⟩)];lia
          generalize up F v.s x.h (F v.s x.h-x.l)=G at*;have r4:rowAt (mat M L G) v.t=aB (cY L (G v.t)):=uT (by lia) (by lia);have r5:at' (cY L (G v.t)) (x.h+v.h)=aB (.int (G v.t (x.h+v.h))):=iU (by lia) (by lia);have r6:gA (mat M L G) v.t (setAt (x.h+v.h) (.int (G v.t (x.h+v.h)+x.l)))=aB (mat M L (up G v.t (x.h+v.h) (G v.t (x.h+v.h)+x.l))):=vW (by lia) (by lia) (by lia) (by lia);symm;simp[Cg,r4,r5,r6];refine⟨done++[x],g,_,_,_,_,_,_,_,rfl,⟨rfl,rfl,rfl,rfl,rfl,rfl⟩,rfl,by rw[hpl];simp,λp t=>?_⟩;rw[Hj,cW,Rr,<-j];unfold up dl;rw[af];have:=hG p t;by_cases c:p=v.t/\t=x.h+v.h;.obtain⟨rfl,rfl⟩:=c;rw[if_pos ⟨rfl,rfl⟩,if_pos ⟨rfl,rfl⟩];lia
          .rw[if_neg c,if_neg (λz=>c ⟨z.1.symm,z.2.symm⟩)];lia
      . rintro _⟨done,g,F,s5,s6,s7,s8,s9,fP,rfl,⟨H,U,W,X,Y,A⟩,hr,hpl,j⟩;have ag:g=[]:=by cases g with|nil=>rfl|cons _ _=>cases hr
        subst ag;rw[ow]at hpl;subst hpl;exact⟨rfl,F,s5,s6,s7,s8,s9,fP,rfl,⟨H,U,W,X,Y,A⟩,j⟩
     rcases ac with⟨b,rfl⟩|⟨b,rfl⟩;.simp[nR];exact I _
     .simp[nR];exact I _
   . rintro _⟨F,s5,s6,s7,s8,s9,fP,rfl,⟨H,U,W,X,Y,A⟩,j⟩;refine lQ (λρ=>∃(F:Int->Int->Int)(s5 fW:Sl),ρ=[.val a_ (.int m),.val a_ (.int T),s2,O1 s3,.hold (mat M L F),s5,s6,s7,s8,s9,fP,fW]/\∀p t,0<=p->p<(M:Int)->0<=t->t<=T->F p t=iw vs pl p t) ?_ ?_
     . simp[nR,show T+1<=1000000000 by lia,show-1000000000<=T+1 by lia];refine dJ (JS2 vs M L pl _ _ s2 (O1 s3) s6 s7 s8 s9 fP) ?_ ?_ ⟨F,s5,.aM,rfl,⟨H,rfl⟩,λp t C E u=>?_⟩
       . rintro i _ hi⟨F,s5,fW,rfl,⟨H,o⟩,j⟩;simp[H];apply aq;simp[Oh];refine rR (N:=M) (JS3 vs M L pl i _ _ s2 (O1 s3) (.val a_ (.int (1+(i:Int)))) s6 s7 s8 s9 fP) ?_ ?_ M 0 _ (by lia) ⟨F,fW,rfl,o,λp t C E u=>?_⟩
         . rintro r _ hr⟨F,fW,rfl,o,j⟩;have r1:at' (cY L (F r)) (1+(i:Int))=aB (.int (F r (1+(i:Int)))):=iU (by lia) (by lia);have r2:at' (cY L (F r)) (1+(i:Int)-1)=aB (.int (F r (1+(i:Int)-1))):=iU (by lia) (by lia);have r3:=xG (L:=L) (f:=F r) (t:=1+(i:Int)) (v:=F r (1+(i:Int))+F r (1+(i:Int)-1)) (by lia) (by lia);have e1:=j r (1+(i:Int)) (by lia) (by lia) (by lia);have e2:=j r (1+(i:Int)-1) (by lia) (by lia) (by lia);rw[if_neg (by lia)]at e1;rw[if_pos (by lia)]at e2;have e3:=Hx (vs:=vs) (pl:=pl) (p:=r) (t:=(i:Int));rw[show 1+(i:Int)-1=(i:Int)by lia]at e2;rw[show 1+(i:Int)=(i:Int)+1 by lia]at e1;simp[o,rowOne,pZ hr,r1,r2,r3,BV hr rfl];refine⟨_,_,rfl,rfl,λp t C E u=>?_⟩;unfold up;by_cases c:p=(r:Int)/\t=1+(i:Int);.obtain⟨rfl,rfl⟩:=c;rw[if_pos ⟨rfl,rfl⟩,if_pos (by lia),show 1+(i:Int)-1=(i:Int)by lia,show 1+(i:Int)=(i:Int)+1 by lia];lia
           . rw[if_neg c,j p t C E u];by_cases c2:t<=(i:Int)\/t=(i:Int)+1/\p<(r:Int);.rw[if_pos c2,if_pos (by lia)]
             .rw[if_neg c2,if_neg (by lia)]
         . rintro _⟨F,fW,rfl,o,j⟩;simp;refine⟨F,_,fW,rfl,⟨rfl,o⟩,λp t C E u=>?_⟩;rw[j p t C E u];by_cases c:t<=(i:Int)+1;.rw[if_pos (by lia),if_pos (by lia)]
           .rw[if_neg (by lia),if_neg (by lia)]
         . rw[j p t C E u];by_cases c:t<=(i:Int);.rw[if_pos c,if_pos (.inl c)]
           .rw[if_neg c,if_neg (by lia)]
       .rintro _⟨F,s5,fW,rfl,_,j⟩;exact⟨rfl,F,⟨s5,fW,rfl⟩,λp t C E u h2=>by rw[j p t C E u,if_pos (by lia)]⟩
       . rw[j];by_cases c:t<=((0:Nat):Int)
         . have:t=0:=by lia
           subst this;rw[if_pos c,Ip hf λv h=>(hv v h).h0]
         .rw[if_neg c]
     . rintro _⟨F,s5,fW,rfl,j⟩;have e:mat M L F=mat M L (iw vs pl):=by unfold mat cY;refine ga λp hp=>ga λt u=>?_;simp at hp u;rw[j p t (by lia) (by lia) (by lia) (by lia)]
       rw[e];symm;simp[Jv];apply aq;simp;exact q
noncomputable def o6(vs:List aX)(T:Int)(p:Int×Int):Prop:=0<=p.1/\0<=p.2/\p.2<(vs.length:Int)/\p.1+(rd vs p.2).h<=T
theorem RM{vs:List aX}{T h:Int}:∀{xs:List D},(∀x∈xs,∃k:Int,x=D.int k/\o6 vs T (h,k))->∃ks:List Int,xs=ks.map D.int/\∀k∈ks,o6 vs T (h,k)|[],_=>⟨[],rfl,by simp⟩|x::xs,h=>by obtain⟨v,rfl,h1⟩:=h x (by simp);obtain⟨ws,rfl,b⟩:=RM (xs:=xs) λy e=>h y (by simp[e]);exact⟨v::ws,rfl,λu hu=>by
    rcases et.mp hu with rfl|hu;.exact h1
    .exact b u hu⟩
theorem WS.ix{vs:List aX}(h:WS s vs){k:Nat}(e:ρ[k]?=aB s)(h0:0<=i)(h1:i<(vs.length:Int)):∃d,_H.pk ρ k=aB d/\oO d (.int i)=aB (.val (rd vs i).d):=by obtain⟨d,b,f⟩:=h.pk e;exact⟨d,b,by simp[oO,f,(cP h0 h1).1]⟩
theorem WS.len{s:Sl}{vs:List aX}(h:WS s vs){ρ:List Sl}{k:Nat}(e:ρ[k]?=aB s):∃d,_H.pk ρ k=aB d/\blt .len [d]=aB (.val (.int (vs.length:Int))):=by obtain⟨d,b,f⟩:=h.pk e;exact⟨d,b,by show(items d).map (λds=>R.val (.int ds.length))=_;rw[f];simp⟩
theorem PJ{P:Int->Prop}:∀{xs:List D},(∀x∈xs,∃k:Int,x=D.int k/\P k)->∃ks:List Int,xs=ks.map D.int/\∀k∈ks,P k
 |[],_=>⟨[],rfl,by simp⟩|x::xs,h=>by
   obtain⟨k,rfl,b⟩:=h x (by simp);obtain⟨ks,e,f⟩:=PJ (xs:=xs) λy g=>h y (by simp[g]);refine⟨k::ks,by rw[e];rfl,λj hj=>?_⟩;rcases et.mp hj with rfl|hj;.exact b
   .exact f j hj
noncomputable def OD(vs:List aX)(m:Int)(q:Int×Int):Prop:=0<(rd vs q.2).t/\(rd vs q.2).s≠m-1
noncomputable def Dj(vs:List aX)(p t:Int)(q:Int×Int):Int:=(if(rd vs q.2).t=p/\q.1+(rd vs q.2).h<=t then 1 else 0)-(if(rd vs q.2).s=p/\q.1<=t then 1 else 0)
inductive RP(vs:List aX)(m T:Int):Int->Int->List (Int×Int)->Prop|nil{b:Int}:RP vs m T 0 b []|snoc{a b b':Int}{ps:List (Int×Int)}{q:Int×Int}:RP vs m T a b ps->o6 vs T q->OD vs m q->(rd vs q.2).s=a->1<=(rd vs q.2).h->b<=q.1->q.1+(rd vs q.2).h<=b'->RP vs m T (rd vs q.2).t b' (ps++[q])
theorem RP.sum{vs:List aX}{T b:Int}(h:RP vs m T a b ps):∀p:Int,1<=p->∀t,0<=sm (Dj vs p t) ps/\(b<=t->sm (Dj vs p t) ps=if p=a then 1 else 0):=by induction h with|nil=>intro p j t;exact⟨by simp[sm],λ_=>by rw[if_neg (by lia)];rfl⟩|@snoc a b E ps q h1 f c e G H r l=>
   intro p j t;obtain⟨I,o⟩:=l p j t;have A:sm (Dj vs p t) (ps++[q])=sm (Dj vs p t) ps+((if(rd vs q.2).t=p/\q.1+(rd vs q.2).h<=t then 1 else 0)-(if a=p/\q.1<=t then 1 else 0)):=by rw[Hj];simp only[sm,Dj,e];lia
   rw[A];generalize sm (Dj vs p t) ps=s at*;generalize(rd vs q.2).t=u at*;generalize(rd vs q.2).h=C at*;generalize q.1=g at*;by_cases z:b<=t;.have:=o z;clear o l;by_cases c1:p=a<;>by_cases c2:u=p<;>by_cases c3:g<=t<;>by_cases c4:g+C<=t<;>simp_all<;>lia
   .rw[if_neg (λy:a=p/\g<=t=>z (by lia))];refine⟨by split<;>lia,λy=>absurd y (by lia)⟩
theorem RP.fit{vs:List aX}{T b:Int}(h:RP vs m T a b ps):∀q∈ps,o6 vs T q/\OD vs m q:=by induction h with|nil=>simp|snoc h1 f c e l o g j=>
   intro q hq;rcases fq.mp hq with hq|hq;.exact j q hq
   .rw[fm.mp hq];exact⟨f,c⟩
theorem RP.ndp{vs:List aX}{T b:Int}(h:RP vs m T a b ps):ps.Nodup/\∀q∈ps,q.1<b:=by induction h with|nil=>simp|@snoc a b o ps q h1 f c e r u j g=>
   refine⟨?_,λy hy=>?_⟩;.rw[List.nodup_append];refine⟨g.1,by simp,λy hy z l=>?_⟩;rw[fm.mp l];intro e;have:=g.2 y hy;rw[e]at this;lia
   . rcases fq.mp hy with hy|hy;.have:=g.2 y hy;lia
     .rw[fm.mp hy];lia
structure YF(vs:List aX)(m T:Int)(ps:List (Int×Int)):Prop where
 nd:ps.Nodup
 fit:∀q∈ps,o6 vs T q/\OD vs m q
 pos:∀p:Int,1<=p->∀t,0<=sm (Dj vs p t) ps
 fin:∀p:Int,1<=p->p<m-1->∀t,T<=t->sm (Dj vs p t) ps=0
theorem YF.nil{vs:List aX}{T:Int}:YF vs m T []:=⟨by simp,by simp,λ_ _ _=>by simp[sm],λ_ _ _ _ _=>rfl⟩
theorem RP.whole{vs:List aX}{T b:Int}(h:RP vs m T (m-1) b ps)(f:b<=T):YF vs m T ps:=⟨h.ndp.1,h.fit,λp e t=>(h.sum p e t).1,λp h1 g t j=>by rw[(h.sum p h1 t).2 (by lia),if_neg (by lia)]⟩
inductive JRt(y m T:Int)(vs:List aX)(a1 a2 s3:Sl)(i:Nat)(ρ:List Sl):Prop where|mk(x z place hour:Int)(ps:List (Int×Int))(s7 s8 s9:Sl)(q0:ρ=[.own ck [.int x,.int y,.int z],a1,a2,s3,.val a_ (.int place),.val a_ (.int hour),.own a_ (ps.map jb),s7,s8,s9])(q1:A3 (fr s7=ck) (fr s8=ck) (fr s9=ck))(q2:0<=hour)(q3:hour<=T)(q4:A3 (0<=place) (place<m) (RP vs m T place hour ps))(q5:ps.length<=i)
inductive MRt(y m T:Int)(vs:List aX)(a1 a2 s3:Sl)(ρ:List Sl):Prop where|mk(x z place hour:Int)(ps:List (Int×Int))(s7 s8 s9:Sl)(q0:ρ=[.own ck [.int x,.int y,.int z],a1,a2,s3,.val a_ (.int place),.val a_ (.int hour),.own a_ (ps.map jb),s7,s8,s9])(q1:A4 (hour<=T) (0<=place) (place<m) (RP vs m T place hour ps))(q2:ps.length<=8)
theorem Dv{x T:Int}{vs:List aX}{s3:Sl}(m0:2<=m)(g:WS s3 vs)(hl:vs.length<=12)(t0:0<=T)(t1:T<=12)(hv:∀v∈vs,v.Ok m)(k:∀(ps:List (Int×Int))(x z:Int),YF vs m T ps->ps.length<=8->Q (.own (ps.map jb)) [.own ck [.int x,.int y,.int z],.val a_ (.int m),.val a_ (.int T),s3]):(run Γ w (n+2) 21 [.own ck [.int x,.int y,.int z],.val a_ (.int m),.val a_ (.int T),s3]).sat Q:=by
 have r:vs.length<=lim:=by show _<=16777216;lia
 refine bh (d:=f21) rfl rfl (by decide) ?_;refine aD (l:=Rv) (k:=0) rfl ?_;simp[f21];refine aD (l:=Rv) (k:=1) rfl ?_;simp;refine aR (by lia) (iW (by lia)) λh x z h0 h1=>?_;simp;refine aD (l:=Rv) (k:=2) rfl ?_;simp;refine m7 (l:=Rv) (k:=3) rfl (MRt y m T vs (.val a_ (.int m)) (.val a_ (.int T)) s3) ?_ ?_
 . simp;refine dJ (JRt y m T vs _ _ s3) ?_ ?_ ⟨x,z,0,h,[],.aM,.aM,.aM,rfl,⟨rfl,rfl,rfl⟩,h0,by lia,⟨by lia,by lia,.nil⟩,by simp⟩
   . rintro i _ hi⟨x,z,b,hour,ps,s7,s8,s9,rfl,⟨U,W,X⟩,r0,r1,⟨u,A,q⟩,hpl⟩;obtain⟨d0,Y,Z⟩:=g.len (ρ:=[.own ck [.int x,.int y,.int z],.val a_ (.int m),.val a_ (.int T),s3,.val a_ (.int b),.val a_ (.int hour),.own a_ (ps.map jb),.val a_ (.int i),s8,s9]) (k:=3) rfl;simp[U];apply aq;simp[Y,Z,show(vs.length:Int)<=1000000000 by lia,r];refine Er (Jx [.own ck [.int x,.int y,.int z],.val a_ (.int m),.val a_ (.int T),s3,.val a_ (.int b),.val a_ (.int hour),.own a_ (ps.map jb),.val a_ (.int i),s8,s9]) (λd=>∃k:Int,d=D.int k/\A3 (o6 vs T (hour,k)) ((rd vs k).s=b) (0<(rd vs k).t)) ⟨.aM,rfl,rfl⟩ ?_ ?_
     . rintro d hd _⟨s,rfl,hs⟩;obtain⟨j,hj,rfl⟩:=eM.mp hd;simp at hj;obtain⟨d1,C,I⟩:=g.ix (ρ:=[.own ck [.int x,.int y,.int z],.val a_ (.int m),.val a_ (.int T),s3,.val a_ (.int b),.val a_ (.int hour),.own a_ (ps.map jb),.val a_ (.int i),s8,s9,.val a_ (.int (j:Int))]) (k:=3) (i:=(j:Int)) rfl (by lia) (by lia);have H:Jx [.own ck [.int x,.int y,.int z],.val a_ (.int m),.val a_ (.int T),s3,.val a_ (.int b),.val a_ (.int hour),.own a_ (ps.map jb),.val a_ (.int i),s8,s9] [.own ck [.int x,.int y,.int z],.val a_ (.int m),.val a_ (.int T),s3,.val a_ (.int b),.val a_ (.int hour),.own a_ (ps.map jb),.val a_ (.int i),s8,s9,.val a_ (.int (j:Int))]:=⟨_,rfl,rfl⟩;simp[hs,C,I,Qm,Lb,Gq];refine⟨λc1=>⟨λc2=>?_,λ_=>H⟩,λ_=>H⟩;split;.rename_i c;exact⟨⟨⟨r0,by show(0:Int)<=(j:Int);lia,by show(j:Int)<_;lia,c⟩,c1,c2⟩,H⟩
       .exact H
     . rintro xs _⟨s,rfl,hs⟩J hx;obtain⟨ks,rfl,hk⟩:=PJ hx;simp[W];apply aq;simp[Mf];refine⟨λ_=>?_,λ_=>⟨λ_=>?_,λN=>?_⟩⟩;.symm;simp;exact⟨x,z,b,hour,ps,_,_,_,rfl,⟨r1,u,A,q⟩,by lia⟩
       .symm;simp;exact⟨x,z,b,hour,ps,_,_,_,rfl,⟨r1,u,A,q⟩,by lia⟩
       rename_i O;have ab:0<(ks.length:Int):=by cases ks with|nil=>exact absurd rfl N|cons a l=>simp<;>lia
       have ac:(ks.length:Int)<=12:=by simp at J;lia
       symm;simp;refine aR (by lia) (iW (by lia)) λd x z d0 d1=>?_;have E:d.toNat<ks.length:=by lia
       have G:at' (ks.map D.int) d=aB (.int ks[d.toNat]):=by rw[eG d0 (by simpa using d1)];simp[E]
       have o:=hk _ (gu E);generalize ks[d.toNat]=f at G o;obtain⟨⟨f1,f2,f3,f4⟩,fs,ft⟩:=o;simp[G,X];apply aq;simp[show ps.length<lim by show _<16777216;lia];obtain⟨d1,C,I⟩:=g.ix (ρ:=[.own ck [.int x,.int y,.int z],.val a_ (.int m),.val a_ (.int T),s3,.val a_ (.int b),.val a_ (.int hour),.own a_ (ps.map jb++[.tup [.int hour,.int f]]),.val a_ (.int i),.own a_ (ks.map D.int),.val a_ (.int f)]) (k:=3) (i:=f) rfl f2 f3;symm;simp[C,I,Lb];obtain⟨d2,e2,i2⟩:=g.ix (ρ:=[.own ck [.int x,.int y,.int z],.val a_ (.int m),.val a_ (.int T),s3,.val a_ (.int (rd vs f).t),.val a_ (.int hour),.own a_ (ps.map jb++[.tup [.int hour,.int f]]),.val a_ (.int i),.own a_ (ks.map D.int),.val a_ (.int f)]) (k:=3) (i:=f) rfl f2 f3;symm;simp[e2,i2,Gq];refine aR (by decide) (by decide) λe x z e0 C=>?_;obtain⟨hg,he,g0,g1⟩:=rK (ns:=[0,0,0,1,2]) (lo:=0) (hi:=2) e0 (by simpa using C) (by simp);simp only[er,lc]at he;simp[he];have ok:(rd vs f).Ok m:=hv _ (cP f2 f3).2;have:=ok.h0;refine⟨x,z,_,_,ps++[(hour,f)],_,_,_,by rw[kg];rfl,⟨rfl,rfl,rfl⟩,?_,?_,⟨ok.t0,ok.t1,.snoc q ⟨f1,f2,f3,f4⟩ ⟨ft,?_⟩ fs (by show 1<=(rd vs f).h;lia) (gT _) ?_⟩,by simp;lia⟩;.split<;>lia
       .split<;>lia
       .rw[fs];exact O
       .show hour+(rd vs f).h<=_;split<;>lia
   .rintro _⟨x,z,b,hour,ps,s7,s8,s9,rfl,_,r0,r1,⟨u,A,q⟩,hpl⟩;exact⟨rfl,x,z,b,hour,ps,s7,s8,s9,rfl,⟨r1,u,A,q⟩,hpl⟩
 . rintro _⟨x,z,b,hour,ps,s7,s8,s9,rfl,⟨r1,u,A,q⟩,hpl⟩;refine aD (l:=Rv) (k:=4) rfl ?_;simp;refine⟨λ_=>?_,λae=>?_⟩;.symm;simp;exact k [] x z .nil (by simp)
   . refine aD (l:=Rv) (k:=5) rfl ?_;simp;obtain rfl:b=m-1:=by lia
     exact k ps x z (q.whole r1) hpl
structure jV(vs:List aX)(T:Int)(kvs:List (List Int×Int)):Prop where
 nd:(kvs.map (·.1)).Nodup
 fit:∀k∈kvs.map (·.1),∃h w:Int,k=[h,w]/\o6 vs T (h,w)
theorem jV.nil{vs:List aX}{T:Int}:jV vs T []:=⟨by simp,by simp⟩
theorem jV.put{vs:List aX}{T:Int}{w:Int}(t:jV vs T kvs)(f:o6 vs T (h,w)):jV vs T (putD kvs [h,w] v)/\(putD kvs [h,w] v).length<=kvs.length+1:=by obtain⟨b,e,g,_⟩:=iQ (k:=[h,w]) (v:=v) t.nd;exact⟨⟨b,λk j=>by
  rcases g k j with rfl|z;.exact⟨h,w,rfl,f⟩
  .exact t.fit k z⟩,e⟩
noncomputable def inK(vs:List aX)(p t:Int):List Int->Bool|[h,w]=>decide ((rd vs w).t=p/\h+(rd vs w).h<=t)|_=>a_
noncomputable def ouK(vs:List aX)(p t:Int):List Int->Bool|[h,w]=>decide ((rd vs w).s=p/\h<=t)|_=>a_
noncomputable def stK(vs:List aX)(p t:Int)(kvs:List (List Int×Int)):Int:=vV (inK vs p t) kvs-vV (ouK vs p t) kvs
theorem Ms{vs:List aX}{q:Int×Int}(h:(kvs.map (·.1)).Nodup):stK vs p t (putD kvs [q.1,q.2] (gv kvs [q.1,q.2]+v))=stK vs p t kvs+v*Dj vs p t q:=by
 obtain⟨_,_,_,e⟩:=iQ (k:=[q.1,q.2]) (v:=gv kvs [q.1,q.2]+v) h;unfold stK;rw[e,e];have hv:gv kvs [q.1,q.2]+v-gv kvs [q.1,q.2]=v:=by lia
 rw[hv];by_cases c1:(rd vs q.2).t=p/\q.1+(rd vs q.2).h<=t<;>by_cases c2:(rd vs q.2).s=p/\q.1<=t;all_goals
  simp only[inK,ouK,Dj,c1,c2,decide_true,decide_false,if_true,if_false];try simp
  try lia
theorem ye{k:List Int}{r:List (List Int×Int)}{x:List Int×Int}(h:x∈putD r k v):x=(k,v)\/x∈r:=by
 unfold putD at h;split at h
 . obtain⟨y,b,e⟩:=eM.mp h;by_cases c:y.1=k;.rw[if_pos c]at e;exact .inl (by rw[<-e];try rw[c])
   .rw[if_neg c]at e;exact .inr (by rw[<-e];exact b)
 . rcases fq.mp h with z|z;.exact .inr z
   .exact .inl (fm.mp z)
theorem HS{k:List Int}:∀{r:List (List Int×Int)},(∀x∈r,1<=x.2)->0<=gv r k
 |[],_=>by simp[gv]|(a,b)::r,h=>by
   rw[dO];split;.have:=h (a,b) (by simp);simp at this;lia
   .exact HS λx e=>h x (by simp[e])
structure yQ(vs:List aX)(m T v B:Int)(rest:List (Int×Int))(kvs:List (List Int×Int)):Prop where
 ok:jV vs T kvs
 cl:∀h w:Int,[h,w]∈kvs.map (·.1)->OD vs m (h,w)one:∀x∈kvs,1<=x.2
 b0:0<=B
 nd:rest.Nodup
 lo:∀q∈rest,gv kvs [q.1,q.2]<=B
 hi:∀x∈kvs,x.2<=B+v
 todo:∀q∈rest,o6 vs T q/\OD vs m q
 pos:∀p:Int,1<=p->∀t,0<=stK vs p t kvs+v*sm (Dj vs p t) rest
 fin:∀p:Int,1<=p->p<m-1->∀t,T<=t->stK vs p t kvs+v*sm (Dj vs p t) rest=0
theorem yQ.nil{vs:List aX}{m T v:Int}:yQ vs m T v 0 [] []:=⟨jV.nil,by simp,by simp,by decide,by simp,by simp,by simp,by simp,λ_ _ _=>by simp[stK,vV,sm],λ_ _ _ _ _=>by simp[stK,vV,sm]⟩
theorem PQ{k:List Int}{B:Int}(e:0<=B):∀{r:List (List Int×Int)},(∀x∈r,x.2<=B)->gv r k<=B
 |[],_=>by simp[gv];exact e|(a,b)::r,h=>by
   rw[dO];split;.exact h (a,b) (by simp)
   .exact PQ e λx f=>h x (by simp[f])
theorem vf{k j:List Int}{v:Int}(f:j≠k):∀{r:List (List Int×Int)},(r.map (·.1)).Nodup->gv (putD r k v) j=gv r j
 |[],_=>by simp[putD,gv,iE f]|(a,b)::r,n=>by
   simp only[er,gS]at n;rw[lE n.1];split;.rename_i e;subst e;rw[dO,dO,if_neg (iE f),if_neg (iE f)]
   .rw[dO,dO,vf f n.2]
theorem yQ.begin{vs:List aX}{T:Int}(h:yQ vs m T 0 B [] kvs)(r:YF vs m T ps)(hv:0<=v):yQ vs m T v B ps kvs:=⟨h.ok,h.cl,h.one,h.b0,r.nd,λq _=>PQ h.b0 λx e=>by have:=h.hi x e;lia,λx e=>by have:=h.hi x e;lia,r.fit,λp f t=>by have a:=h.pos p f t;have b:=Int.mul_nonneg hv (r.pos p f t);simp only[sm,Int.mul_zero]at a;lia,λp h1 g t j=>by have a:=h.fin p h1 g t j;rw[r.fin p h1 g t j];simpa[sm]using a⟩
theorem yQ.done{vs:List aX}{T:Int}(h:yQ vs m T v B [] kvs)(hv:0<=v):yQ vs m T 0 (B+v) [] kvs:=⟨h.ok,h.cl,h.one,by have:=h.b0;lia,by simp,by simp,λx b=>by have:=h.hi x b;lia,by simp,λp e t=>by have a:=h.pos p e t;simpa[sm]using a,λp h1 f t g=>by have a:=h.fin p h1 f t g;simpa[sm]using a⟩
theorem yQ.put{vs:List aX}{m T v B:Int}{q:Int×Int}{b:List (Int×Int)}{kvs:List (List Int×Int)}(h:yQ vs m T v B (q::b) kvs)(hv:1<=v):yQ vs m T v B b (putD kvs [q.1,q.2] (gv kvs [q.1,q.2]+v)):=by
 obtain⟨f,c⟩:=h.todo q (by simp);have e:∀p t,stK vs p t (putD kvs [q.1,q.2] (gv kvs [q.1,q.2]+v))+v*sm (Dj vs p t) b=stK vs p t kvs+v*sm (Dj vs p t) (q::b):=λp t=>by rw[Ms h.ok.nd];simp only[sm,Int.mul_add];lia
 have j:=gS.mp h.nd;refine⟨(h.ok.put f).1,λr w u=>?_,λx o=>?_,h.b0,j.2,λg l=>?_,λx o=>?_,λg l=>h.todo g (by simp[l]),λp A t=>by rw[e];exact h.pos p A t,λp h1 C t E=>by rw[e];exact h.fin p h1 C t E⟩
 . obtain⟨_,_,G,_⟩:=iQ (k:=[q.1,q.2]) (v:=gv kvs [q.1,q.2]+v) h.ok.nd;rcases G _ u with z|z
   . obtain⟨rfl,rfl⟩:r=q.1/\w=q.2:=by simpa using z
     exact c
   .exact h.cl r w z
 . rcases ye o with rfl|z;.have:=HS (k:=[q.1,q.2]) h.one;show 1<=gv kvs [q.1,q.2]+v;lia
   .exact h.one x z
 .rw[vf (λe=>j.1 (by
    obtain⟨H,I⟩:g.1=q.1/\g.2=q.2:=by simpa using e
    have:g=q:=Prod.ext H I;rw[<-this];exact l)) h.ok.nd];exact h.lo g (by simp[l])
 . rcases ye o with rfl|z;.have:=h.lo q (by simp);show gv kvs [q.1,q.2]+v<=B+v;lia
   .exact h.hi x z
noncomputable def trK(b:List Int×Int):Tr:=match b.1 with|[h,w]=>⟨h,w,b.2⟩|_=>⟨0,0,0⟩
theorem Il{k:List Int}{v:Int}:∀{r:List (List Int×Int)},(r.map (·.1)).Nodup->(k,v)∈r->gv r k=v
 |[],_,h=>by simp at h|(a,b)::r,n,h=>by
   simp only[er,gS]at n;rw[dO];rcases et.mp h with z|z;.cases z;rw[if_pos rfl]
   .rw[if_neg (λe=>n.1 (eM.mpr ⟨(k,v),z,e.symm⟩))];exact Il n.2 z
structure PlC(vs:List aX)(m T B:Int)(kvs:List (List Int×Int))(pl:List Tr):Prop where
 e:kE (kvs.map λp=>D.tup (p.1.map D.int))=pl.map Tr.k
 len:pl.length=kvs.length
 val:∀x∈pl,gv kvs [x.h,x.w]=x.l/\[x.h,x.w]∈kvs.map (·.1)fit:∀x∈pl,fB vs T x
 Qx:ir pl=ck
 one:∀x∈pl,1<=x.l/\x.l<=B
 cl:∀x∈pl,OD vs m (x.h,x.w)pos:∀p:Int,1<=p->∀t,0<=iw vs pl p t
 fin:∀p:Int,1<=p->p<m-1->∀t,T<=t->iw vs pl p t=0
theorem yQ.abU{vs:List aX}{T:Int}(t:yQ vs m T 0 B [] kvs):∃pl,PlC vs m T B kvs pl:=by
 have A:∀o∈kvs,∃h w l:Int,o=([h,w],l)/\o6 vs T (h,w)/\OD vs m (h,w)/\gv kvs [h,w]=l/\(1<=l/\l<=B)/\[h,w]∈kvs.map (·.1):=λo j=>by have C:o.1∈kvs.map (·.1):=eM.mpr ⟨o,j,rfl⟩;obtain⟨h,w,e,f⟩:=t.ok.fit o.1 C;obtain⟨k,l⟩:=o;simp only at e;subst e;exact⟨h,w,l,rfl,f,t.cl h w C,Il t.ok.nd j,⟨t.one _ j,by have:=t.hi _ j;simp only at this;lia⟩,C⟩
 let g:D->Tr:=λd=>match d with|.tup [.int h,.int w]=>⟨h,w,gv kvs [h,w]⟩|_=>⟨0,0,0⟩;have I:=gP (kvs.map λp=>D.tup (p.1.map D.int));have hs:=jM (kvs.map λp=>D.tup (p.1.map D.int));have e:kE (kvs.map λp=>D.tup (p.1.map D.int))=((kE (kvs.map λp=>D.tup (p.1.map D.int))).map g).map Tr.k:=by rw[eA];refine((ga λd hd=>?_).trans (map_id _)).symm;obtain⟨o,j,rfl⟩:=eM.mp (I.mem_iff.mp hd);obtain⟨h,w,l,rfl,_⟩:=A o j;rfl
 have q:((kE (kvs.map λp=>D.tup (p.1.map D.int))).map g).Perm (kvs.map trK):=by have:=I.map g;rw[eA]at this;refine this.trans (.of_eq (ga λo j=>?_));obtain⟨h,w,l,rfl,_,_,e,_⟩:=A o j;show(⟨h,w,gv kvs [h,w]⟩:Tr)=⟨h,w,l⟩;rw[e]
 generalize(kE (kvs.map λp=>D.tup (p.1.map D.int))).map g=pl at e q;have mem:∀x∈pl,∃h w l:Int,x=⟨h,w,l⟩/\o6 vs T (h,w)/\OD vs m (h,w)/\gv kvs [h,w]=l/\(1<=l/\l<=B)/\[h,w]∈kvs.map (·.1):=λx r=>by obtain⟨o,j,rfl⟩:=eM.mp (q.mem_iff.mp r);obtain⟨h,w,l,rfl,z⟩:=A o j;exact⟨h,w,l,rfl,z⟩
 have st:∀p u,iw vs pl p u=stK vs p u kvs:=λp u=>by
  unfold iw stK vV;rw[Dd q,Rg,<-Jl];refine iT λo j=>?_;obtain⟨h,w,l,rfl,_⟩:=A o j;by_cases c1:(rd vs w).t=p/\h+(rd vs w).h<=u<;>by_cases c2:(rd vs w).s=p/\h<=u;all_goals simp only[trK,inK,ouK,c1,c2,decide_true,decide_false,if_true,if_false]
  all_goals simp
 refine⟨pl,e,by rw[q.length_eq,eu],λx r=>?_,λx r=>?_,?_,λx r=>?_,λx r=>?_,λp h1 u=>?_,λp h1 E u N=>?_⟩;.obtain⟨h,w,l,rfl,_,_,z,_,y⟩:=mem x r;exact⟨z,y⟩
 .obtain⟨h,w,l,rfl,f,_⟩:=mem x r;exact⟨f.1,f.2.1,f.2.2.1,f.2.2.2⟩
 . rw[jk];have hn:(kvs.map trK).Pairwise neT:=by rw[k_];have:=t.ok.nd;unfold List.Nodup at this;rw[k_]at this;refine List.Pairwise.imp_of_mem (λ{a b}O U z=>?_) this;obtain⟨h,w,l,rfl,_⟩:=A a O;obtain⟨h',J,W,rfl,_⟩:=A b U;intro y;apply z;show[h,w]=[h',J];rw[show h=h' from y.1,show w=J from y.2]
   have G:pl.Pairwise neT:=(q.pairwise_iff (λ{a b}h=>by unfold neT at*;lia)).mpr hn;have H:pl.Pairwise λa b=>j8 a.k b.k=ck:=by rw[e,k_]at hs;exact hs
   refine(H.and G).imp λ{a b}⟨h1,E⟩=>?_;simp[j8,bO,Tr.k,fG,aZ]at h1;unfold neT at E;unfold Hd;lia
 .obtain⟨h,w,l,rfl,_,_,_,z,_⟩:=mem x r;exact z
 .obtain⟨h,w,l,rfl,_,z,_⟩:=mem x r;exact z
 .rw[st];have:=t.pos p h1 u;simpa[sm]using this
 .rw[st];have:=t.fin p h1 E u N;simpa[sm]using this
theorem eU{C:Type}{one:Bool}{f:P}(J:List Sl->Prop)(e g:C->D){Q:List D->List Sl->Prop}{l:List C}(j:J ρ)(h:∀p∈l,∀ρ,J ρ->∃o,bV ρ is one (e p)=aB o/\(ev c f o).sat λr A=>r.d=g p/\J A)(k:∀ρ,J ρ->Q (l.map g) ρ):(jr c is one b_ f (l.map e) ρ).sat Q:=by
 suffices hh:∀(l:List C)(u:List D)(ρ:List Sl),J ρ->(∀p∈l,∀ρ,J ρ->∃o,bV ρ is one (e p)=aB o/\(ev c f o).sat λr A=>r.d=g p/\J A)->(turns is one (jR c b_) (ev c f) (l.map e) u ρ).sat λxs ρ=>J ρ/\xs=u++l.map g from(hh l [] ρ j h).imp λxs ρ⟨E,q2⟩=>by rw[q2];exact k ρ E
 intro l;induction l with|nil=>intro u ρ j _;exact⟨j,by simp⟩|cons p l G=>intro u ρ j h;obtain⟨o,H,h1⟩:=h p (by simp) ρ j;rw[er];show(match bV ρ is one (e p)with|none=>Res.stuck|some ρ=>(jR c b_ ρ).bind λ(b:Bool)(ρ:List Sl)=>if b=ck then(ev c f ρ).bind λ(x:R)(ρ:List Sl)=>turns is one (jR c b_) (ev c f) (l.map e) (u++[x.d]) ρ else turns is one (jR c b_) (ev c f) (l.map e) u ρ).sat _;rw[H];show((jR c b_ o).bind _).sat _;rw[jR];show((ev c f o).bind _).sat _;rw[aQ];refine h1.imp λr A⟨I,j3⟩=>?_;rw[I];exact(G (u++[g p]) A j3 λq N=>h q (by simp[N])).imp λxs ρ⟨E,q2⟩=>⟨E,by rw[q2];simp⟩
@[simp]theorem aaF{c:Call}{x:Nat}{ks:List P}{d:P}{ρ:List Sl}:ev c (.yC x ks d) ρ=match ρ[x]?with
 |some (.dq _)=>(evs c ks ρ).bind λb ρ=>(bU (isVar d) (ev c d) ρ).bind λe ρ=>match ρ[x]?with|some (.dq m)=>lift ((m.pL b).bind λo=>(fj e).map λv=>.val (.int (o.getD v))) ρ|_=>.stuck
 |_=>.stuck:=(rfl)
theorem JM{ks:List P}:ev c (.Kg x ks) ρ=(lift (pk ρ x) ρ).bind λ_ ρ=>(evs c ks ρ).bind λb ρ=>(lift (pk ρ x) ρ).bind λe ρ=>lift (wL e b) ρ:=(rfl)
theorem P0:ev c (.vw x) ρ=match ρ[x]?with|some (.dq m)=>.ok (.val (.cZ m)) (ρ.set x (.val a_ (.cZ m)))|some (.uN kvs)=>.ok (.val (.dv (kvs.map (·.1)) (kvs.map (·.2)))) (ρ.set x (.val a_ (.dv (kvs.map (·.1)) (kvs.map (·.2)))))|some (.own b ds)=>.ok (.val (.lst ds)) (ρ.set x (.val b (.lst ds)))|some (.val _ d)=>.ok (.val d) ρ|_=>.stuck:=(rfl)
theorem qy:ex c n (.tu x ck) ρ=match ρ[x]?with|some .aM=>.ok .next (ρ.set x (.dq (.t [])))|_=>.stuck:=(rfl)
theorem nF{ks:List P}{e:P}:ex c n (.nZ x ks e) ρ=(ev c e ρ).bind λr ρ=>match ρ[x]?with
 |some (.dq _)=>(evs c ks ρ).bind λb ρ=>match ρ[x]?,r with
   |some (.dq m),.val (.int v)=>match m.K8 b v with|some f=>.ok .next (ρ.set x (.dq f))|none=>.stuck
   |_,_=>.stuck
 |_=>.stuck:=(rfl)
@[simp]theorem Ua{x:Nat}{ks:List P}{d:P}:isVar (.yC x ks d)=b_:=rfl
@[simp]theorem V1{x:Nat}{ks:List P}:isVar (.Kg x ks)=b_:=rfl
@[simp]theorem Yx{x:Nat}:isVar (.vw x)=b_:=rfl
@[simp]theorem Df{kvs:List (List Int×Int)}{a b:Int}:Dc.pL (.t kvs) [.int a,.int b]=aB ((kvs.find? λe=>decide (e.1=[a,b])).map (·.2)):=rfl
theorem vA{b:Int}(h:kvs.length<lim):Dc.K8 (.t kvs) [.int a,.int b] v=aB (.t (putD kvs [a,b] v)):=by show(if _ then _ else _)=_;rw[if_pos ⟨rfl,h⟩];rfl
theorem m5{k:List Int}:∀{r:List (List Int×Int)},k∈r.map (·.1)->(r.find? λg=>decide (g.1=k)).map (·.2)=aB (gv r k)
 |[],h=>by simp at h|(a,b)::r,h=>by
   by_cases e:a=k;.simp[gv,e]
   .simp at h;have f:=m5 (k:=k) (r:=r) (by rcases h with h|h;exact absurd h.symm e;simpa using h);simp[gv,e]at f ⊢;exact f
theorem Cq(h:kvs.length<=60):blt .Wk [.cZ (.t kvs)]=aB (.own (kvs.map λp=>.tup (p.1.map D.int))):=by show(if _ then _ else _)=_;rw[if_pos (by lia)]
theorem xx{vs:List aX}{T:Int}(h:kvs.length<=60)(t:jV vs T kvs):blt .sorted [.lst (kvs.map λp=>.tup (p.1.map D.int))]=aB (.own (kE (kvs.map λp=>.tup (p.1.map D.int)))):=by show(if _ then _ else _)=_;rw[if_pos];have h:=(show kvs.length<=63 by lia);simp only[sortable,eu,h,decide_true,Bool.true_and,kK];right;rw[eB];intro d hd;obtain⟨p,f,rfl⟩:=eM.mp hd;obtain⟨a,b,e,_⟩:=t.fit p.1 (eM.mpr ⟨p,f,rfl⟩);rw[e];rfl
theorem CG(h:kvs.length<=60):(kE (kvs.map λp=>D.tup (p.1.map D.int))).length<=lim:=by rw[(gP _).length_eq,eu];show _<=16777216;lia
theorem yS{l:List Sl}{i a b:Nat}{vs:List aX}{T:Int}{Q:List D->List Sl->Prop}{pl:List Tr}(t:PlC vs m T B kvs pl)(hi:(l++[Sl.aM,Sl.aM])[i]?=aB (.val a_ (.cZ (.t kvs))))(J:a=l.length)(N:b=l.length+1)(q:∀(s u:Sl),Q (pl.map Tr.d) (l++[s,u])):(jr c [a,b] a_ b_ (.tup [.var a,.var b,.Kg i [.var a,.var b]]) (kE (kvs.map λp=>.tup (p.1.map D.int))) (l++[.aM,.aM])).sat Q:=by
 subst J N;have f:i<l.length:=by
  have:=(fZ hi).1;simp at this;rcases ri i l.length with z|z;.exact z
  . rw[eF z]at hi;have:i-l.length=0\/i-l.length=1:=by lia
    rcases this with z|z<;>(rw[z]at hi;cases hi)
 have j:l[i]?=aB (.val a_ (.cZ (.t kvs))):=by rw[dQ f]at hi;exact hi
 have r:∀{s u:Sl},(l++[s,u])[l.length]?=aB s:=λ{s u}=>by simp
 have A:∀{s u:Sl},(l++[s,u])[l.length+1]?=aB u:=λ{s u}=>by rw[eF (by lia)];simp
 have O:∀{s u:Sl},(l++[s,u])[i]?=aB (.val a_ (.cZ (.t kvs))):=λ{s u}=>by rw[dQ f];exact j
 rw[t.e];refine eU (λρ=>∃s u,ρ=l++[s,u]/\fr s=ck/\fr u=ck) Tr.k Tr.d ⟨_,_,rfl,rfl,rfl⟩ ?_ ?_
 . rintro x U _⟨s,u,rfl,hs,C⟩;obtain⟨g,E⟩:=t.val x U;obtain⟨h,w,lo⟩:=x;simp only at g E;refine⟨l++[.val a_ (.int h),.val a_ (.int w)],?_,?_⟩
   . show putAll _ _ _=_;rw[gw,qK,r];simp only[hs,if_true];show putAll ((l++[s,u]).set l.length _) _ _=_;have W:(l++[s,u]).set l.length (.val a_ (.int h))=l++[.val a_ (.int h),u]:=by rw[jT _ _ (dW)];simp
     rw[W,gw,qK,A];simp only[C,if_true];show putAll ((l++[_,u]).set (l.length+1) _) _ _=_;rw[jT _ _ (by lia),sJ];simp
   . have G:pk (l++[Sl.val a_ (.int h),Sl.val a_ (.int w)]) i=aB (.cZ (.t kvs)):=by unfold pk;rw[O]
     have H:ev c (.var l.length) (l++[Sl.val a_ (.int h),Sl.val a_ (.int w)])=.ok (.val (.int h)) (l++[Sl.val a_ (.int h),Sl.val a_ (.int w)]):=by rw[CT,r]
     have I:ev c (.var (l.length+1)) (l++[Sl.val a_ (.int h),Sl.val a_ (.int w)])=.ok (.val (.int w)) (l++[Sl.val a_ (.int h),Sl.val a_ (.int w)]):=by rw[CT,A]
     have X:wL (.cZ (.t kvs)) [.int h,.int w]=aB (.val (.int (gv kvs [h,w]))):=by show((Dc.t kvs).pL [.int h,.int w]).bind (λo=>o.map λv=>R.val (.int v))=_;rw[Df,m5 E];rfl
     have Y:ev c (.Kg i [.var l.length,.var (l.length+1)]) (l++[Sl.val a_ (.int h),Sl.val a_ (.int w)])=.ok (.val (.int (gv kvs [h,w]))) (l++[Sl.val a_ (.int h),Sl.val a_ (.int w)]):=by rw[JM,G];simp only[vC,Ca,o4,kZ,H,I,G,R.d,X]
     rw[HQ];simp only[o4,kZ,H,I,Y,Ca,R.d];exact⟨by rw[g];rfl,_,_,rfl,rfl,rfl⟩
 .rintro _⟨s,u,rfl,hs,C⟩;exact q s u
inductive JF2(y m B:Int)(vs:List aX)(T v:Int)(b:Nat)(a1 a2 a3 a5:Sl)(r:List D)(ρ:List Sl):Prop where|mk(x z:Int)(kvs:List (List Int×Int))(ps:List (Int×Int))(s7 s8:Sl)(q0:ρ=[.own ck [.int x,.int y,.int z],a1,a2,a3,.dq (.t kvs),a5,.val a_ (.int v),s7,s8])(q1:(fr s7=ck/\fr s8=ck))(q2:r=ps.map jb)(q3:(1<=v/\v<=100000000))(q4:yQ vs m T v B ps kvs)(q5:kvs.length+ps.length<=b)
inductive JF1(y m:Int)(vs:List aX)(T:Int)(a1 a2 a3:Sl)(i:Nat)(ρ:List Sl):Prop where|mk(x z:Int)(kvs:List (List Int×Int))(s5 s6 s7 s8:Sl)(q0:ρ=[.own ck [.int x,.int y,.int z],a1,a2,a3,.dq (.t kvs),s5,s6,s7,s8])(q1:A4 (fr s5=ck) (fr s6=ck) (fr s7=ck) (fr s8=ck))(q2:(∃B:Int,B<=100000000*(i:Int)/\yQ vs m T 0 B [] kvs))(q3:kvs.length<=8*i)
theorem Gv{x T:Int}{vs:List aX}(H:vs.length<=12)(t0:0<=T)(t1:T<=12)(hv:∀v∈vs,v.Ok m)(m0:2<=m)(k:∀(kvs:List (List Int×Int))(pl:List Tr)(x z:Int),PlC vs m T 600000000 kvs pl->pl.length<=48->Q (.own (pl.map Tr.d)) [.own ck [.int x,.int y,.int z],.val a_ (.int m),.val a_ (.int T),.own ck (vs.map aX.d)]):(run Γ w (n+3) 22 [.own ck [.int x,.int y,.int z],.val a_ (.int m),.val a_ (.int T),.own ck (vs.map aX.d)]).sat Q:=by
 refine bh (d:=f22) rfl rfl (by decide) ?_;symm;simp[f22,qy];apply aq;simp;refine aR (by decide) (by decide) λd x z d0 d1=>?_;simp[show d<=1000000000 by lia,show-1000000000<=d by lia];refine dJ (JF1 y m vs T _ _ _) ?_ ?_ ⟨x,z,[],.aM,.aM,.aM,.aM,rfl,⟨rfl,rfl,rfl,rfl⟩,⟨0,by simp,yQ.nil⟩,by simp⟩
 . rintro i _ hi⟨x,z,kvs,s5,s6,s7,s8,rfl,⟨I,J,A,C⟩,⟨B,N,j⟩,g⟩;simp[I];apply aq;simp;refine aR (by decide) (by decide) λa x z Z a1=>?_;simp;refine sG (by decide) λb x z b0 b1=>?_;simp;refine aR (by decide) (by decide) λe x z O U=>?_;obtain⟨v,he,W,X⟩:=rK (ns:=[1,1,2,1+a,1+b]) (i:=e) (lo:=1) (hi:=100000000) O (by simpa using U) (by simp;lia);simp only[er,lc]at he;simp[he,J];apply aq;simp;refine Dv m0 (.inl ⟨_,rfl⟩) H t0 t1 hv λps x z o hpl=>?_;simp;refine cG (JF2 y m B vs T v (8*(i+1)) _ _ _ _) ?_ ?_ ⟨x,z,kvs,ps,s7,s8,rfl,⟨A,C⟩,rfl,⟨W,X⟩,j.begin o (by lia),by lia⟩;.rintro d r _⟨x,z,kvs,ps,s7,s8,rfl,⟨A,C⟩,hr,o,j,g⟩;cases ps with|nil=>cases hr|cons p ps=>
       obtain⟨rfl,rfl⟩:d=jb p/\r=ps.map jb:=by simpa using hr
       simp at g;have E:kvs.length<lim:=by show _<16777216;lia
       simp[jb,A,C];apply aq;simp[nF,vA E];have Y:=j.put o.1;have q2:=(iQ (k:=[p.1,p.2]) (v:=gv kvs [p.1,p.2]+v) j.ok.nd).2.1;exact⟨x,z,_,ps,_,_,rfl,⟨rfl,rfl⟩,rfl,o,Y,by show(putD kvs [p.1,p.2] (gv kvs [p.1,p.2]+v)).length+_<=_;lia⟩
   . rintro _⟨x,z,kvs,ps,s7,s8,rfl,⟨A,C⟩,hr,o,j,g⟩;obtain rfl:ps=[]:=by cases ps with|nil=>rfl|cons a l=>cases hr
     simp;exact⟨x,z,kvs,_,_,_,_,rfl,⟨rfl,rfl,A,C⟩,⟨B+v,by have:=o.2;lia,j.done (by have:=o.1;lia)⟩,by simp at g;lia⟩
 . rintro _⟨x,z,kvs,s5,s6,s7,s8,rfl,_,⟨B,N,j⟩,g⟩;have q:kvs.length<=60:=by lia
   obtain⟨pl,f⟩:=j.abU;symm;simp[P0,Cq q,xx q j.ok];refine⟨λ_=>?_,CG q⟩;refine yS (l:=[.own ck [.int x,.int y,.int z],.val a_ (.int m),.val a_ (.int T),.own ck (vs.map aX.d),.val a_ (.cZ (.t kvs)),s5,s6,s7,s8]) (i:=4) f rfl rfl rfl λs u=>?_;exact k kvs pl x z ⟨f.e,f.len,f.val,f.fit,f.Qx,λx G=>⟨(f.one x G).1,by have:=(f.one x G).2;lia⟩,f.cl,f.pos,f.fin⟩ (by have:=f.len;lia)
inductive Zp{α β:Type}(R:α->β->Prop):List α->List β->Prop|nil:Zp R [] []|cons{a:α}{b:β}{l:List α}{k:List β}:R a b->Zp R l k->Zp R (a::l) (b::k)
theorem Zp.len{b e:Type}{R:b->e->Prop}{l:List b}{k:List e}(h:Zp R l k):k.length=l.length:=by induction h with|nil=>rfl|cons _ _ f=>simp[f]
theorem Zp.get{f g:Type}{R:f->g->Prop}{l:List f}{k:List g}(h:Zp R l k):∀{i:Nat}{a:f},l[i]?=aB a->∃b,k[i]?=aB b/\R a b:=by induction h with|nil=>intro i a e;simp at e|cons r _ j=>intro i a e;cases i with|zero=>simp at e;subst e;exact⟨_,by simp,r⟩|succ i=>simp at e;obtain⟨b,o,q⟩:=j e;exact⟨b,by simpa using o,q⟩
theorem Zp.ints{b:Type}{P:b->Int->Prop}{l:List b}{xs:List D}(h:Zp (λa d=>∃i:Int,d=D.int i/\P a i) l xs):∃is:List Int,xs=is.map D.int/\Zp P l is:=by induction h with|nil=>exact⟨[],rfl,.nil⟩|cons r _ e=>obtain⟨i,rfl,p⟩:=r;obtain⟨is,rfl,z⟩:=e;exact⟨i::is,rfl,.cons p z⟩
theorem uF{A:Type}{one:Bool}{f:P}(J:List Sl->Prop)(e:A->D)(C:A->D->Prop){Q:List D->List Sl->Prop}{l:List A}(j:J ρ)(h:∀p∈l,∀ρ,J ρ->∃g,bV ρ is one (e p)=aB g/\(ev c f g).sat λr u=>C p r.d/\J u)(k:∀xs ρ,J ρ->Zp C l xs->Q xs ρ):(jr c is one b_ f (l.map e) ρ).sat Q:=by
 suffices hh:∀(l:List A)(o:List D)(ρ:List Sl),J ρ->(∀p∈l,∀ρ,J ρ->∃g,bV ρ is one (e p)=aB g/\(ev c f g).sat λr u=>C p r.d/\J u)->(turns is one (jR c b_) (ev c f) (l.map e) o ρ).sat λxs ρ=>J ρ/\∃ys,xs=o++ys/\Zp C l ys from(hh l [] ρ j h).imp λxs ρ⟨E,ys,q2,q3⟩=>by rw[q2];exact k ys ρ E q3
 intro l;induction l with|nil=>intro o ρ j _;exact⟨j,[],by simp,.nil⟩|cons p l G=>intro o ρ j h;obtain⟨g,H,h1⟩:=h p (by simp) ρ j;rw[er];show(match bV ρ is one (e p)with|none=>Res.stuck|some ρ=>(jR c b_ ρ).bind λ(b:Bool)(ρ:List Sl)=>if b=ck then(ev c f ρ).bind λ(x:R)(ρ:List Sl)=>turns is one (jR c b_) (ev c f) (l.map e) (o++[x.d]) ρ else turns is one (jR c b_) (ev c f) (l.map e) o ρ).sat _;rw[H];show((jR c b_ g).bind _).sat _;rw[jR];show((ev c f g).bind _).sat _;rw[aQ];refine h1.imp λr u⟨I,j3⟩=>?_;exact(G (o++[r.d]) u j3 λq N=>h q (by simp[N])).imp λxs ρ⟨E,ys,q2,q3⟩=>⟨E,r.d::ys,by rw[q2];simp,.cons I q3⟩
theorem Bm{k:List Int}{v:Int}:∀{r:List (List Int×Int)},(r.map (·.1)).Nodup->gv (putD r k v) k=v
 |[],_=>by simp[putD,gv]|(a,b)::r,n=>by
   simp only[er,gS]at n;rw[lE n.1];split;.rename_i e;rw[dO,if_pos e]
   .rename_i e;rw[dO,if_neg e,Bm n.2]
noncomputable def cL(r:List Int):D:=.tup (r.map D.int)
theorem intsOf:∀{xs:List D},(∀x∈xs,∃i,x=D.int i)->∃b:List Int,xs=b.map D.int|[],_=>⟨[],rfl⟩|x::xs,h=>by obtain⟨v,rfl⟩:=h x (by simp);obtain⟨ws,rfl⟩:=intsOf (xs:=xs) λy e=>h y (by simp[e]);exact⟨v::ws,rfl⟩
inductive JU(vs:List aX)(T:Int)(pl:List Tr)(a0 a1 a2 a3 a4:Sl)(tl:List Sl)(r:List D)(ρ:List Sl):Prop where|mk(kvs:List (List Int×Int))(done rest:List Tr)(s6 s7 s8:Sl)(q0:ρ=a0::a1::a2::a3::a4::.dq (.t kvs)::s6::s7::s8::tl)(q1:A3 (fr s6=ck) (fr s7=ck) (fr s8=ck))(q2:r=rest.map Tr.d)(q3:(∀x∈rest,fB vs T x))(q4:(pl=done++rest/\∀x∈done,gv kvs [x.h,x.w]=x.l))(q5:jV vs T kvs)(q6:kvs.length+rest.length<=100)
theorem Ff{vs:List aX}{T:Int}{E G H I J:Sl}{tl:List Sl}{pl:List Tr}{Q:Fl->List Sl->Prop}(o:∀x∈pl,fB vs T x)(u:pl.Pairwise neT)(Y:pl.length<=100)(q:∀(kvs:List (List Int×Int))(s6 s7 s8:Sl),(fr s6=ck/\fr s7=ck/\fr s8=ck)->jV vs T kvs->(∀x∈pl,gv kvs [x.h,x.w]=x.l)->kvs.length<=100->Q .next (E::G::H::I::J::.dq (.t kvs)::s6::s7::s8::tl)):(jh [6,7,8] a_ (ji c w [.nZ 5 [.var 6,.var 7] (.var 8)]) (pl.map Tr.d) (E::G::H::I::J::.dq (.t [])::.aM::.aM::.aM::tl)).sat Q:=by
 refine cG (JU vs T pl E G H I J tl) ?_ ?_ ⟨[],[],pl,.aM,.aM,.aM,rfl,⟨rfl,rfl,rfl⟩,rfl,o,⟨rfl,by simp⟩,jV.nil,by simpa using Y⟩;.rintro d r _⟨kvs,done,b,s6,s7,s8,rfl,⟨N,O,U⟩,hr,o,⟨g,j⟩,A,W⟩;cases b with|nil=>cases hr|cons x b=>
     obtain⟨rfl,rfl⟩:d=x.d/\r=b.map Tr.d:=by simpa using hr
     simp at W;have C:kvs.length<lim:=by show _<16777216;lia
     simp[Tr.d,N,O,U];apply aq;simp[nF,vA C];have f:=o x (by simp);obtain⟨Z,q2⟩:=A.put (v:=x.l) (h:=x.h) (w:=x.w) ⟨f.h0,f.w0,f.w1,f.o1⟩;refine⟨_,done++[x],b,_,_,_,rfl,⟨rfl,rfl,rfl⟩,rfl,λy hy=>o y (by simp[hy]),⟨by rw[g];simp,λy hy=>?_⟩,Z,by lia⟩;rcases fq.mp hy with hy|hy
     . rw[vf (λe=>?_) A.nd];.exact j y hy
       .rw[g,List.pairwise_append]at u;have:=u.2.2 y hy x (by simp);unfold neT at this;simp at e;exact this e
     .rw[fm.mp hy];exact Bm A.nd
 . rintro _⟨kvs,done,b,s6,s7,s8,rfl,⟨N,O,U⟩,hr,o,⟨g,j⟩,A,W⟩;obtain rfl:b=[]:=by cases b with|nil=>rfl|cons a l=>cases hr
   exact q kvs s6 s7 s8 ⟨N,O,U⟩ A (λx X=>j x (by rw[g]at X;simpa using X)) (by lia)
structure gU(m T:Int)(vs:List aX)(rooms:List (List Int)):Prop where
 m0:2<=m
 m1:m<=6
 t0:0<=T
 t1:T<=12
 vl:vs.length<=12
 hv:∀v∈vs,v.Ok m
 rl:rooms.length=vs.length
 ro:∀r∈rooms,(r.length:Int)=T+1
theorem Za{f:Int->Int}{lo hi:Option Int}:∃is:List Int,cut (cY L f) lo hi=is.map D.int/\is.length<=L:=by
 refine⟨cut ((dV L).map λ(t:Nat)=>f (t:Int)) lo hi,?_,?_⟩
 . have:cY L f=((dV L).map λ(t:Nat)=>f (t:Int)).map D.int:=by unfold cY;rw[eA];rfl
   rw[this];simp[cut,List.map_take,List.map_drop]
 .simp[cut];lia
theorem yr:blt .int [.bl ck]=aB (.val (.int 1)):=rfl
theorem xT:blt .int [.bl a_]=aB (.val (.int 0)):=rfl
noncomputable def rm(rooms:List (List Int))(w h:Int):Int:=((rooms[w.toNat]?.getD [])[h.toNat]?).getD 0
noncomputable def wD:Option (List Int)->D|none=>.non|some r=>cL r
noncomputable def FN(vs:List aX)(pl:List Tr)(T:Int)(p:Nat)(o:Option (List Int)):Prop:=∀r,o=aB r->(r.length:Int)=T/\∀j:Nat,(j:Int)<T->iw vs pl (p:Int) (j:Int)<=(r[j]?).getD 0
theorem Nj{T:Int}{f:Int->Int}(t0:0<=T):cut (cY (T+1).toNat f) b_ (aB T)=((dV T.toNat).map λ(j:Nat)=>f (j:Int)).map D.int:=by
 have e:cut (cY (T+1).toNat f) b_ (aB T)=(cY (T+1).toNat f).take T.toNat:=by have g:(cY (T+1).toNat f).length=(T+1).toNat:=rP;simp[cut,dR,g,t0]
 rw[e];refine ii (by simp;lia) λi a b=>?_;simp[cY]
theorem xN(h:2<=M):cut ((mat M L F).map D.lst) (aB 1) (aB (-1))=(dV (M-2)).map λ(k:Nat)=>D.lst (cY L (F ((k:Int)+1))):=by
 have f:((mat M L F).map D.lst).length=M:=by simp
 have e:cut ((mat M L F).map D.lst) (aB 1) (aB (-1))=(((mat M L F).map D.lst).drop 1).take (M-2):=by show((mat M L F).map D.lst|>.drop (min 1 _)).take ((-1+(((mat M L F).map D.lst).length:Int)).toNat-min 1 _)=_;rw[f,show min 1 M=1 by lia,show(-1+(M:Int)).toNat-1=M-2 by lia]
 rw[e];refine ii (by simp;lia) λi a b=>?_;simp[mat]
inductive Jy(y:Int)(l:List Sl)(ρ:List Sl):Prop where|mk(x z:Int)(s:Sl)(q0:ρ=.own ck [.int x,.int y,.int z]::(l++[s]))(q1:fr s=ck)
inductive JRm(y T:Int)(vs:List aX)(pl:List Tr)(a1 a2 a3 a4 a5 a6 s8 fP fW s12:Sl)(i:Nat)(ρ:List Sl):Prop where|mk(x z:Int)(rooms:List (List Int))(s7:Sl)(q0:ρ=[.own ck [.int x,.int y,.int z],a1,a2,a3,a4,a5,a6,s7,s8,.own a_ (rooms.map cL),fP,fW,s12])(q1:fr s7=ck)(q2:rooms.length=i)(q3:(∀x∈pl,x.w<(rooms.length:Int)->x.l<=rm rooms x.w x.h))(q4:∀r∈rooms,(r.length:Int)=T+1)
inductive JWt(y T:Int)(M:Nat)(vs:List aX)(pl:List Tr)(a1 a2 a3 a4 a5 a6 a7 a8 a9:Sl)(r:List D)(ρ:List Sl):Prop where|mk(x z:Int)(ws:List (Option (List Int)))(fW s12:Sl)(q0:ρ=[.own ck [.int x,.int y,.int z],a1,a2,a3,a4,a5,a6,a7,a8,a9,.own a_ (ws.map wD),fW,s12])(q1:(fr fW=ck/\fr s12=ck))(q2:1<=ws.length)(q3:ws.length+r.length=M-1)(q4:r=((dV (M-2)).drop (ws.length-1)).map (λ(k:Nat)=>D.lst (cY (T+1).toNat (iw vs pl ((k:Int)+1)))))(q5:(∀p o,ws[p]?=aB o->FN vs pl T p o))(q6:ws[0]?=aB b_)
inductive Jyy(y:Int)(l:List Sl)(ρ:List Sl):Prop where|mk(x z:Int)(s u:Sl)(q0:ρ=.own ck [.int x,.int y,.int z]::(l++[s,u]))(q1:fr s=ck)(q2:fr u=ck)
theorem JH{x:Int}(k:∀(m T:Int)(vs:List aX)(rooms:List (List Int))(wt:List (Option (List Int)))(I:List (List Int×Int))(pl:List Tr)(x z:Int),gU m T vs rooms->PlC vs m T 600000000 I pl->pl.length<=48->(∀x∈pl,x.l<=rm rooms x.w x.h)->(wt.length:Int)=m->(∀p o,wt[p]?=aB o->FN vs pl T p o)->wt[0]?=aB b_->Q (.val (.tup [.tup [.int m,.int T,.tup (vs.map aX.d),.tup (rooms.map cL),.tup (wt.map wD)],.lst (pl.map Tr.d)])) [.own ck [.int x,.int y,.int z]]):(run Γ w (n+4) 24 [.own ck [.int x,.int y,.int z]]).sat Q:=by
 refine bh (d:=f24) rfl rfl (by decide) ?_;refine aD (l:=En) (k:=0) rfl ?_;simp[f24];refine aR (by decide) (by decide) λa x z a0 a1=>?_;simp;obtain⟨m,hm,m0,m1⟩:∃m,m=2+a/\2<=m/\m<=6:=⟨_,rfl,by lia,by lia⟩;rw[<-hm];refine aD (l:=En) (k:=1) rfl ?_;simp;refine aR (by decide) (by decide) λb x z b0 b1=>?_;simp;refine aR (by decide) (by decide) λc x z c0 c1=>?_;simp;refine aR (by decide) (by decide) λe x z O g=>?_;obtain⟨T,he,t0,t1⟩:=rK (ns:=[b,4+c,12]) (i:=e) (lo:=0) (hi:=12) O (by simpa using g) (by simp;lia);simp only[er,lc]at he;simp[he];refine aD (l:=En) (k:=2) rfl ?_;simp;refine Fo m0 m1 λvs x z hv W=>?_;simp;refine aD (l:=En) (k:=3) rfl ?_;simp;refine Gv W t0 t1 hv m0 λI pl x z hP hpl=>?_;have U:=hP.fit;have ac:pl.Pairwise neT:=(jk.mp hP.Qx).imp λh=>by unfold Hd at h;unfold neT;lia
 simp;refine aD (l:=En) (k:=4) rfl ?_;simp[qy];refine aD (l:=En) (k:=5) rfl ?_;simp;refine Ff (vs:=vs) (T:=T) U ac (by lia) λkvs s6 s7 s8 hs ht hg hk=>?_;obtain⟨h6,h7,h8⟩:=hs;simp;refine aD (l:=En) (k:=6) rfl ?_;simp;refine aD (l:=En) (k:=7) rfl ?_;simp[show(vs.length:Int)<=1000000000 by lia];have ae:T+1<=1000000000:=by lia
 have af:-1000000000<=T+1:=by lia
 have ag:(T+1).toNat<=lim:=by show _<=16777216;lia
 refine dJ (JRm y T vs pl _ _ _ _ _ s6 s8 _ _ _) ?_ ?_ ⟨x,z,[],s7,rfl,h7,rfl,λx X hw=>absurd (U x X).w0 (by simp at hw;lia),by simp⟩
 . rintro i _ hi⟨x,z,rooms,s7,rfl,h7,A,J,Qy⟩;simp[h7];apply aq;simp[ae,af,ag];refine uF (Jy y [.val a_ (.int m),.val a_ (.int T),.own a_ (vs.map aX.d),.own a_ (pl.map Tr.d),.dq (.t kvs),s6,.val a_ (.int i),s8,.own a_ (rooms.map cL),.aM,.aM,.aM]) (λ(j:Nat)=>D.int (j:Int)) (λ(j:Nat)d=>∃v:Int,d=D.int v/\(gv kvs [(j:Int),(i:Int)]<=1000000000->gv kvs [(j:Int),(i:Int)]<=v)) ⟨x,z,.aM,rfl,rfl⟩ ?_ ?_;.rintro j _ _⟨x,z,s,rfl,hs⟩;simp[hs];refine aR (by decide) (by decide) λa x z a0 a1=>?_;simp;refine sG (by decide) λb x z b0 b1=>?_;simp;refine aR (by decide) (by decide) λe x z O g=>?_;obtain⟨v,he,v0,_⟩:=rK (ns:=[0,0,1,a,b]) (i:=e) (lo:=0) (hi:=1000000000) O (by simpa using g) (by simp;lia);simp only[er,lc]at he;simp[he];refine⟨λay=>?_,x,z,_,rfl,rfl⟩;have eg:gv kvs [(j:Int),(i:Int)]=(map (λx=>x.snd) (find? (λkv=>decide (kv.fst=[(j:Int),(i:Int)])) kvs)).getD 0:=rfl;rw[<-eg];split<;>lia
   . rintro xs _⟨x,z,s,rfl,hs⟩X;obtain⟨is,rfl,G⟩:=X.ints;have hl:=G.len;simp at hl;simp[show rooms.length<lim by show _<16777216;lia];refine⟨x,z,rooms++[is],_,by rw[kg];rfl,rfl,by simp[A],λy N ah=>?_,λr hr=>?_⟩
     . have f:=U y N;have f0:=f.w0;by_cases c:y.w<(rooms.length:Int);.have:=J y N c;unfold rm at this ⊢;rw[dQ (by lia)];exact this
       . simp at ah;have ew:y.w=(i:Int):=by lia
         unfold rm;rw[eF (by lia),show y.w.toNat-rooms.length=0 by lia];have hh:=(hv _ (cP f.w0 f.w1).2).h0;have ho:=f.o1;have h0:=f.h0;obtain⟨v,g,e2⟩:=G.get (i:=y.h.toNat) (a:=y.h.toNat) (by rw[p5 (by lia)]);have eh:((y.h.toNat:Nat):Int)=y.h:=by lia
         rw[eh,<-ew,hg y N]at e2;simp[g];exact e2 (by have:=(hP.one y N).2;lia)
     rcases fq.mp hr with hr|hr;.exact Qy r hr
     .rw[fm.mp hr];lia
 . rintro _⟨x,z,rooms,s7,rfl,h7,A,J,Qy⟩;simp;refine aD (l:=En) (k:=8) rfl ?_;simp;refine aD (l:=En) (k:=9) rfl ?_;simp;refine mH (.inl ⟨_,rfl⟩) (.inl ⟨_,rfl⟩) m0 m1 t0 t1 hv U ?_;simp[O1,wH,part,ni];rw[xN (by lia)];refine cG (JWt y T m.toNat vs pl _ _ _ _ _ _ _ _ _) ?_ ?_ ⟨x,z,[b_],.aM,.aM,rfl,⟨rfl,rfl⟩,by simp,by simp;lia,by simp,λp o e=>?_,by simp⟩
   . rintro d r _⟨x,z,ws,fW,s12,rfl,⟨Y,Z⟩,w1,C,hr,hW,E⟩;have hi:ws.length-1<m.toNat-2:=by simp only[g_]at C;lia
     rw[gY (by simpa using hi),er]at hr;obtain⟨ai,ab⟩:=kS hr;subst ai;have am:((dV (m.toNat-2))[ws.length-1]'(by simpa using hi))=ws.length-1:=mn _;rw[am,show(((ws.length-1:Nat)):Int)+1=(ws.length:Int)by lia];simp[Y];apply aq;simp[wH,part,ni];rw[Nj t0];generalize Z2:(dV T.toNat).map (λ(j:Nat)=>iw vs pl (ws.length:Int) (j:Int))=is;have ap:is.length=T.toNat:=by rw[<-Z2];simp
     have ar:is.length<=lim:=by show _<=16777216;lia
     symm;simp[ar];refine uF (Jy y [.val a_ (.int m),.val a_ (.int T),.own a_ (vs.map aX.d),.val a_ (.lst (pl.map Tr.d)),.dq (.t kvs),s6,s7,s8,.own a_ (rooms.map cL),.own a_ (ws.map wD),.lent (is.map D.int),s12]) D.int (λ_ d=>∃v:Int,d=D.int v/\0<=v) ⟨x,z,.aM,rfl,rfl⟩ ?_ ?_;.rintro d hd _⟨x,z,s,rfl,hs⟩;simp[hs];refine aR (by decide) (by decide) λa x z a0 a1=>?_;simp;refine aR (by decide) (by decide) λe x z O g=>?_;obtain⟨v,he,v0,_⟩:=rK (ns:=[0,0,1,a]) (i:=e) (lo:=0) (hi:=1000000000) O (by simpa using g) (by simp;lia);simp only[er,lc]at he;simp[he];exact⟨v0,x,z,_,rfl,rfl⟩
     . rintro xs _⟨x,z,s,rfl,hs⟩X;obtain⟨js,rfl,G⟩:=X.ints;have av:=G.len;simp[Z];apply aq;simp;refine⟨λ_=>?_,by show _<=16777216;lia⟩;have ez:((is.map D.int).zip (js.map D.int)).map (λp=>D.tup [p.1,p.2])=(is.zip js).map λp=>D.tup [.int p.1,.int p.2]:=by rw[List.zip_map,eA];rfl
       rw[ez];refine eU (Jyy y [.val a_ (.int m),.val a_ (.int T),.own a_ (vs.map aX.d),.val a_ (.lst (pl.map Tr.d)),.dq (.t kvs),s6,s7,s8,.own a_ (rooms.map cL),.own a_ (ws.map wD),.val a_ (.lst (is.map D.int)),.val a_ (.lst (js.map D.int))]) (λp:Int×Int=>D.tup [.int p.1,.int p.2]) (λp=>D.int (p.1+p.2)) ⟨x,z,.aM,.aM,rfl,rfl,rfl⟩ ?_ ?_;.rintro p U _⟨x,z,s,u,rfl,hs,hu⟩;simp[hs,hu];exact⟨x,z,_,_,rfl,rfl,rfl⟩
       . rintro _⟨x,z,s,u,rfl,hs,hu⟩;have eg:(is.zip js).map (λp=>D.int (p.1+p.2))=((is.zip js).map λp=>p.1+p.2).map D.int:=by rw[eA];rfl
         rw[eg];have hok:FN vs pl T ws.length (aB ((is.zip js).map λp=>p.1+p.2)):=λr hr=>by
          cases hr;refine⟨by simp[ap,av];lia,λj hj=>?_⟩;have g:is[j]?=aB (iw vs pl (ws.length:Int) (j:Int)):=by rw[<-Z2,ey,p5 (by lia)];rfl
          obtain⟨v,e2,v0⟩:=G.get g;have e3:(is.zip js)[j]?=aB (iw vs pl (ws.length:Int) (j:Int),v):=i4.mpr ⟨g,e2⟩;rw[ey,e3];simp only[eT,getD_some];lia
         have aw:FN vs pl T ws.length b_:=λr hr=>by cases hr
         generalize(is.zip js).map (λp=>p.1+p.2)=ax at*;have H:∀o,FN vs pl T ws.length o->∀p o',(ws++[o])[p]?=aB o'->FN vs pl T p o':=λo ho p o' e=>by
          by_cases c:p<ws.length;.rw[dQ c]at e;exact hW p o' e
          . rw[eF (by lia)]at e;have:p-ws.length=0:=by cases q:p-ws.length with|zero=>rfl|succ n=>rw[q]at e;simp at e
            rw[this]at e;cases e;rw[show p=ws.length by lia];exact ho
         simp only[g_]at C;simp;refine aR (by decide) (by decide) λe x z O g=>?_;by_cases ce:0<e;.simp[ce,yr,xT,show ws.length<lim by show _<16777216;lia];exact⟨x,z,ws++[aB ax],_,_,by rw[kg];rfl,⟨rfl,rfl⟩,by simp,by simp;lia,by rw[ab,hR];simp only[nK];rw[show ws.length+1-1=ws.length-1+1 by lia],H _ hok,by rw[dQ (by lia)];exact E⟩
         .simp[ce,yr,xT,show ws.length<lim by show _<16777216;lia];exact⟨x,z,ws++[b_],_,_,by rw[kg];rfl,⟨rfl,rfl⟩,by simp,by simp;lia,by rw[ab,hR];simp only[nK];rw[show ws.length+1-1=ws.length-1+1 by lia],H _ aw,by rw[dQ (by lia)];exact E⟩
   .rintro _⟨x,z,ws,fW,s12,rfl,⟨Y,Z⟩,w1,C,hr,hW,E⟩;simp at C;simp;refine aD (l:=En) (k:=10) rfl ?_;simp[show ws.length<lim by show _<16777216;lia];refine aD (l:=En) (k:=11) rfl ?_;simp;have G:=k m T vs rooms (ws++[b_]) I pl x z ⟨m0,m1,t0,t1,W,hv,A,Qy⟩ hP hpl (λy N=>J y N (by rw[A];exact(U y N).w1)) (by simp;lia) (λp o e=>by
      by_cases c:p<ws.length;.rw[dQ c]at e;exact hW p o e
      .rw[eF (by lia)]at e;intro r hr;subst hr;cases q:p-ws.length with|zero=>rw[q]at e;simp at e|succ n=>rw[q]at e;simp at e) (by rw[dQ (by lia)];exact E);rw[kg]at G;exact G
   .cases p with|zero=>simp at e;subst e;intro r h;cases h|succ p=>simp at e
noncomputable def Rj(r:List Int):Int:=(r.max?).getD 0
theorem M7{r:List Int}(h:r≠[]):blt .FP [cL r]=aB (.val (.int (Rj r))):=by
 have b:(r.map D.int).mapM fj=aB r:=by clear h;induction r with|nil=>rfl|cons a l e=>simp[mapM_cons,e,fj]
 obtain⟨i,hi⟩:∃i,r.max?=aB i:=by cases r with|nil=>exact absurd rfl h|cons a l=>exact⟨_,List.max?_cons'⟩
 show((aB (r.map D.int)).bind λds=>ds.mapM fj).bind (λns=>ns.max?.map λi=>R.val (.int i))=_;rw[bind_some,b,bind_some,hi];unfold Rj;rw[hi];rfl
noncomputable def bI(m T:Int)(vs:List aX)(rooms:List (List Int))(wd:D):D:=.tup [.int m,.int T,.tup (vs.map aX.d),.tup (rooms.map cL),wd]
@[simp]theorem cD0{m T:Int}{vs:List aX}{rooms:List (List Int)}{wd:D}:oO (bI m T vs rooms wd) (.int 0)=aB (.val (.int m)):=by simp[bI]
@[simp]theorem cD1{m T:Int}{vs:List aX}{rooms:List (List Int)}{wd:D}:oO (bI m T vs rooms wd) (.int 1)=aB (.val (.int T)):=by simp[bI]
@[simp]theorem cD2{m T:Int}{vs:List aX}{rooms:List (List Int)}{wd:D}:oO (bI m T vs rooms wd) (.int 2)=aB (.val (.tup (vs.map aX.d))):=by simp[bI]
@[simp]theorem cD3{m T:Int}{vs:List aX}{rooms:List (List Int)}{wd:D}:oO (bI m T vs rooms wd) (.int 3)=aB (.val (.tup (rooms.map cL))):=by simp[bI]
noncomputable def mU(vs:List aX)(rooms:List (List Int)):List Wy:=(vs.zip rooms).map λp=>⟨p.1.s,p.1.t,Rj p.2,p.1.h⟩
theorem ad2{vs:List aX}:((vs.map aX.d).zip (rooms.map cL)).map (λp=>D.tup [p.1,p.2])=(vs.zip rooms).map λp=>D.tup [p.1.d,cL p.2]:=by rw[List.zip_map,eA];rfl
inductive Jxx(l:List Sl)(ρ:List Sl):Prop where|mk(s:Sl)(u:Sl)(q0:ρ=l++[s,u])(q1:fr s=ck)(q2:fr u=ck)
theorem dH{T:Int}{vs:List aX}(ok:gU m T vs rooms)(q:Q (.val (eZ m (mU vs rooms))) [.val a_ (bI m T vs rooms wd)]):(run Γ w (n+1) 10 [.val a_ (bI m T vs rooms wd)]).sat Q:=by
 refine bh (d:=f10) rfl rfl (by decide) ?_;symm;have l:=ok.vl;have hr:=ok.rl;simp[f10];refine⟨λ_=>?_,by show _<=16777216;lia⟩;rw[ad2];refine eU (Jxx [.val a_ (bI m T vs rooms wd),.aM]) _ (λp=>(⟨p.1.s,p.1.t,Rj p.2,p.1.h⟩:Wy).d) ⟨.aM,.aM,rfl,rfl,rfl⟩ ?_ ?_
 . rintro⟨v,r⟩g _⟨s,u,rfl,hs,f⟩;have j:=ok.ro r (lb g).2;have b:r≠[]:=by rintro rfl;have:=ok.t0;simp at j;lia
   simp[hs,f,Qm,Lb,Gq,M7 b,Wy.d];exact⟨_,_,rfl,rfl,rfl⟩
 . rintro _⟨s,u,rfl,hs,f⟩;simp;apply aq;simp;have e:D.tup [.int m,.tup ((vs.zip rooms).map λp=>(⟨p.1.s,p.1.t,Rj p.2,p.1.h⟩:Wy).d)]=eZ m (mU vs rooms):=by unfold eZ mU;rw[eA];rfl
   rw[e];exact q
noncomputable def seR(vs:List aX)(pl:List Tr)(t:Int):Int:=sm (λx=>(if(rd vs x.w).s=0/\t<=x.h then x.l else 0)-(if(rd vs x.w).t=0/\t<=x.h+(rd vs x.w).h then x.l else 0)) pl
section
variable{m T:Int}{vs:List aX}{rooms:List (List Int)}{pl:List Tr}
theorem Ad(h:rooms.length=vs.length):(mU vs rooms).length=vs.length:=by unfold mU;rw[eu,List.length_zip];lia
theorem pq(h:rooms.length=vs.length){k:Int}(h0:0<=k)(h1:k<(vs.length:Int)):(wy (mU vs rooms) k).s=(rd vs k).s/\(wy (mU vs rooms) k).t=(rd vs k).t/\(wy (mU vs rooms) k).h=(rd vs k).h:=by
 have b:k.toNat<vs.length:=by lia
 have f:k.toNat<rooms.length:=by lia
 have e:(vs.zip rooms)[k.toNat]?=aB (vs[k.toNat],rooms[k.toNat]):=by rw[g9 (by simp;lia),List.getElem_zip]
 unfold wy rd mU;simp[b,e]
theorem Qj(h:rooms.length=vs.length)(b:∀x∈pl,fB vs T x):∀x∈pl,KC (mU vs rooms) x:=λx e=>by have f:=b x e;exact⟨f.w0,by rw[Ad h];exact f.w1⟩
theorem tR(hv:∀v∈vs,v.Ok m):∀v∈mU vs rooms,v.s≠v.t:=λv b=>by obtain⟨p,e,rfl⟩:=eM.mp b;exact(hv p.1 (lb e).1).ne
theorem tV(h:rooms.length=vs.length)(b:∀x∈pl,fB vs T x):stP (mU vs rooms) pl p (lV t)=iw vs pl p t:=by unfold stP iw;refine iT λx e=>?_;have f:=b x e;obtain⟨g,j,l⟩:=pq h f.w0 f.w1;unfold K6 MJ rO lV;rw[g,j,l];simp only[decide_eq_true_eq]
theorem afy(h:rooms.length=vs.length)(b:∀x∈pl,fB vs T x):-stP (mU vs rooms) pl 0 (on' t)=seR vs pl t:=by
 have:seR vs pl t=sm (λx=>(K6 (mU vs rooms) 0 (on' t) x-MJ (mU vs rooms) 0 (on' t) x)*(-1)) pl:=by unfold seR;refine iT λx e=>?_;have f:=b x e;obtain⟨g,j,l⟩:=pq h f.w0 f.w1;unfold K6 MJ rO on';rw[g,j,l];simp only[decide_eq_true_eq];lia
 rw[this,T4];unfold stP;lia
end
theorem pI{T:Int}{vs:List aX}{pl:List Tr}{s1:Sl}(ok:gU m T vs rooms)(hs:LS s1 (pl.map Tr.d))(e:∀x∈pl,fB vs T x)(f:pl.length<=60)(q:Q (.val (.int (iw vs pl p t))) [.val a_ (bI m T vs rooms wd),s1,.val a_ (.int p),.val a_ (.int t)]):(run Γ w (n+4) 16 [.val a_ (bI m T vs rooms wd),s1,.val a_ (.int p),.val a_ (.int t)]).sat Q:=by
 refine bh (d:=Xf) rfl rfl (by decide) ?_;symm;rcases hs with⟨b,rfl⟩|⟨b,rfl⟩;.simp[Xf];refine dH ok ?_;simp;refine jC (.inl ⟨_,rfl⟩) (Qj ok.rl e) (tR ok.hv) f ?_;rw[tV ok.rl e];simpa using q
 .simp[Xf];refine dH ok ?_;simp;refine jC (.inr ⟨_,rfl⟩) (Qj ok.rl e) (tR ok.hv) f ?_;rw[tV ok.rl e];simpa using q
@[simp]theorem cD4{m T:Int}{vs:List aX}{rooms:List (List Int)}{wd:D}:oO (bI m T vs rooms wd) (.int 4)=aB (.val wd):=by simp[bI]
theorem Pn{T:Int}{vs:List aX}{x:Tr}(ok:gU m T vs rooms)(f:fB vs T x):∃r:List Int,at' (rooms.map cL) x.w=aB (cL r)/\at' (r.map D.int) x.h=aB (.int (rm rooms x.w x.h))/\r∈rooms/\rooms[x.w.toNat]?=aB r/\rm rooms x.w x.h∈r:=by
 have f0:=f.w0;have f1:=f.w1;have f2:=f.h0;have f3:=f.o1;have j:=(ok.hv _ (cP f.w0 f.w1).2).h0;have b:x.w.toNat<rooms.length:=by rw[ok.rl];lia
 have hr:=ok.ro rooms[x.w.toNat] (gu b);have g:x.h.toNat<rooms[x.w.toNat].length:=by lia
 have e:rm rooms x.w x.h=rooms[x.w.toNat][x.h.toNat]:=by unfold rm;simp[b,g]
 refine⟨rooms[x.w.toNat],?_,?_,gu b,by simp[b],by rw[e];exact gu g⟩;.rw[eG f0 (by simp;lia),ey];simp[b]
 .rw[eG f2 (by simp;lia),ey,e];simp[g]
noncomputable def Ji(rooms:List (List Int))(x:Tr):Bool:=decide (x.l<=rm rooms x.w x.h)
inductive F3c(a0 a1:Sl)(ρ:List Sl):Prop where|mk(s:Sl)(t:Sl)(u:Sl)(q0:ρ=[a0,a1,s,t,u])(q1:fr s=ck)(q2:fr t=ck)(q3:fr u=ck)
theorem uq{T:Int}{vs:List aX}{pl:List Tr}{s1:Sl}(ok:gU m T vs rooms)(f:LS s1 (pl.map Tr.d))(l:∀x∈pl,fB vs T x)(I:pl.length<=60)(q:Q (.val (.bl (pl.all (Ji rooms)))) [.val a_ (bI m T vs rooms wd),s1]):(run Γ w (n+1) 11 [.val a_ (bI m T vs rooms wd),s1]).sat Q:=by
 have b:pl.length<=lim:=by show _<=16777216;lia
 refine bh (d:=f11) rfl rfl (by decide) ?_;symm;obtain⟨J,o,A⟩:=jj (ρ:=[.val a_ (bI m T vs rooms wd),s1]) (k:=1) (e:=ev (run Γ w n) (.var 1)) rfl f;simp[f11,-dZ,-dD,o,b];refine eU (F3c _ _) Tr.d (λx=>D.bl (Ji rooms x)) ⟨.aM,.aM,.aM,rfl,rfl,rfl,rfl⟩ ?_ ?_;.rintro x C _⟨s,t,u,rfl,hs,g,j⟩;obtain⟨r,r1,E,_⟩:=Pn ok (l x C);simp[hs,g,j,Tr.d,r1,cL,E,Ji];exact⟨_,_,_,rfl,rfl,rfl,rfl⟩
 rintro _⟨s,t,u,rfl,hs,g,j⟩;have G:pl.map (λx=>D.bl (Ji rooms x))=(pl.map (Ji rooms)).map D.bl:=by rw[eA];rfl
 have H:(pl.map (Ji rooms)).all id=pl.all (Ji rooms):=by rw[kN];rfl
 rw[G];simp only[h_,kF];rw[A _ rfl];simp only[je,gH,fH,eT,bA,aQ,iM,H];simp only[ml,lp];exact q
noncomputable def Xb(vs:List aX)(pl:List Tr)(p:Int):Option (List Int)->Bool|none=>ck|some r=>r.zipIdx.all λq=>decide (iw vs pl p (q.2:Int)<=q.1)
theorem Og{r:List Int}:((r.map D.int).mapIdx λi d=>D.tup [.int (i:Int),d])=r.zipIdx.map λq=>D.tup [.int (q.2:Int),.int q.1]:=by rw[List.mapIdx_eq_zipIdx_map,List.zipIdx_map,eA];rfl
theorem Tw{T:Int}{vs:List aX}{pl:List Tr}{s1 e f:Sl}(ok:gU m T vs rooms)(hs:LS s1 (pl.map Tr.d))(g:∀x∈pl,fB vs T x)(j:pl.length<=60):ev (run Γ w (n+4)) (.call 16 [.var 0,.var 1,.var 2,.var 4]) [.val a_ (bI m T vs rooms wd),s1,.val a_ (.int p),e,.val a_ (.int t),f]=.ok (.val (.int (iw vs pl p t))) [.val a_ (bI m T vs rooms wd),s1,.val a_ (.int p),e,.val a_ (.int t),f]:=by
 refine run_eq ?_;rcases hs with⟨b,rfl⟩|⟨b,rfl⟩;.simp;refine pI ok (.inl ⟨_,rfl⟩) g j ?_;simp
 .simp;refine pI ok (.inr ⟨_,rfl⟩) g j ?_;simp
inductive F4c(a0 a1 a2 a3:Sl)(ρ:List Sl):Prop where|mk(s:Sl)(t:Sl)(q0:ρ=[a0,a1,a2,a3,s,t])(q1:fr s=ck)(q2:fr t=ck)
theorem ug{T:Int}{vs:List aX}{o:Option (List Int)}{pl:List Tr}{s1:Sl}(ok:gU m T vs rooms)(b:LS s1 (pl.map Tr.d))(g:∀x∈pl,fB vs T x)(l:pl.length<=60)(u:0<=p)(ho:wt[p.toNat]?=aB o)(e:∀r,o=aB r->(r.length:Int)<=100)(q:Q (.val (.bl (Xb vs pl p o))) [.val a_ (bI m T vs rooms (.tup (wt.map wD))),s1,.val a_ (.int p)]):(run Γ w (n+5) 12 [.val a_ (bI m T vs rooms (.tup (wt.map wD))),s1,.val a_ (.int p)]).sat Q:=by
 have hpl:p.toNat<wt.length:=by
  rcases ri p.toNat wt.length with h|h;.exact h
  .rw[List.getElem?_eq_none h]at ho;cases ho
 have A:at' (wt.map wD) p=aB (wD o):=by rw[eG u (by simp;lia),ey,ho];rfl
 refine bh (d:=f12) rfl rfl (by decide) ?_;symm;simp[f12,A];cases o with|none=>symm;simp[wD];apply aq;simp;exact q|some r=>
   symm;simp[wD,cL];apply aq;have C:=e r rfl;simp[show r.length<=lim by show _<=16777216;lia];rw[Og];refine eU (F4c _ _ _ _) (λq:Int×Nat=>D.tup [.int (q.2:Int),.int q.1]) (λq=>D.bl (decide (iw vs pl p (q.2:Int)<=q.1))) ⟨.aM,.aM,rfl,rfl,rfl⟩ ?_ ?_;.rintro⟨v,j⟩H _⟨s,t,rfl,hs,f⟩;simp[hs,f,-gZ,Tw ok b g l];exact⟨_,_,rfl,rfl,rfl⟩
   rintro _⟨s,t,rfl,hs,f⟩;have E:(r.zipIdx.map λq:Int×Nat=>D.bl (decide (iw vs pl p (q.2:Int)<=q.1)))=(r.zipIdx.map λq:Int×Nat=>decide (iw vs pl p (q.2:Int)<=q.1)).map D.bl:=by rw[eA];rfl
   have G:(r.zipIdx.map λq:Int×Nat=>decide (iw vs pl p (q.2:Int)<=q.1)).all id=Xb vs pl p (aB r):=by rw[kN];rfl
   rw[E];simp only[je,gH,fH,eT,bA,aQ,iM,G];simp only[h_,kF];exact q
structure sH(m:Int)(vs:List aX)(rooms:List (List Int))(wt:List (Option (List Int)))(pl:List Tr):Prop where
 room:∀x∈pl,x.l<=rm rooms x.w x.h
 wait:∀p:Int,1<=p->p<m->∀r,wt[p.toNat]?=aB (aB r)->∀j:Nat,j<r.length->iw vs pl p (j:Int)<=(r[j]?).getD 0
theorem Bj{vs:List aX}{pl:List Tr}{r:List Int}:Xb vs pl p (aB r)=ck↔∀j:Nat,j<r.length->iw vs pl p (j:Int)<=(r[j]?).getD 0:=by
 show(r.zipIdx.all λq=>decide (iw vs pl p (q.2:Int)<=q.1))=ck↔_;rw[eB];constructor;.intro h j b;have:=h (r[j],j) (List.mem_iff_getElem?.mpr ⟨j,by rw[List.getElem?_zipIdx];simp[b]⟩);simpa[b]using this
 .rintro h⟨v,j⟩g;obtain⟨h1,e,f⟩:=List.mem_zipIdx g;have:=h j (by lia);simp at f;rw[decide_eq_true_eq];simp at e;simp[e]at this;rw[f];exact this
theorem J3{T:Int}{vs:List aX}{pl:List Tr}{s1:Sl}(ok:gU m T vs rooms)(hs:LS s1 (pl.map Tr.d))(e:∀x∈pl,fB vs T x)(f:pl.length<=60):ev (run Γ w (n+1)) (.call 11 [.var 0,.var 1]) [.val a_ (bI m T vs rooms wd),s1]=.ok (.val (.bl (pl.all (Ji rooms)))) [.val a_ (bI m T vs rooms wd),s1]:=by
 refine run_eq ?_;rcases hs with⟨b,rfl⟩|⟨b,rfl⟩;.simp;refine uq ok (.inl ⟨_,rfl⟩) e f ?_;simp
 .simp;refine uq ok (.inr ⟨_,rfl⟩) e f ?_;simp
theorem Hl{T:Int}{vs:List aX}{o:Option (List Int)}{pl:List Tr}{s1:Sl}(ok:gU m T vs rooms)(hs:LS s1 (pl.map Tr.d))(f:∀x∈pl,fB vs T x)(g:pl.length<=60)(j:0<=p)(ho:wt[p.toNat]?=aB o)(e:∀r,o=aB r->(r.length:Int)<=100):ev (run Γ w (n+5)) (.call 12 [.var 0,.var 1,.var 2]) [.val a_ (bI m T vs rooms (.tup (wt.map wD))),s1,.val a_ (.int p)]=.ok (.val (.bl (Xb vs pl p o))) [.val a_ (bI m T vs rooms (.tup (wt.map wD))),s1,.val a_ (.int p)]:=by
 refine run_eq ?_;rcases hs with⟨b,rfl⟩|⟨b,rfl⟩;.simp;refine ug ok (.inl ⟨_,rfl⟩) f g j ho e ?_;simp
 .simp;refine ug ok (.inr ⟨_,rfl⟩) f g j ho e ?_;simp
structure IK(m:Int)(wt:List (Option (List Int))):Prop where
 al:(wt.length:Int)=m
 aok:∀(p:Nat)(r:List Int),wt[p]?=aB (aB r)->r.length<=100
noncomputable def Wb(vs:List aX)(pl:List Tr)(wt:List (Option (List Int)))(p:Int):Bool:=Xb vs pl p ((wt[p.toNat]?).getD b_)
theorem xY{T:Int}{vs:List aX}{pl:List Tr}{s1:Sl}(ok:gU m T vs rooms)(C:IK m wt)(g:LS s1 (pl.map Tr.d))(E:∀x∈pl,fB vs T x)(G:pl.length<=60)(q:∀b:Bool,(b=ck↔sH m vs rooms wt pl)->Q (.val (.bl b)) [.val a_ (bI m T vs rooms (.tup (wt.map wD))),s1]):(run Γ w (n+6) 13 [.val a_ (bI m T vs rooms (.tup (wt.map wD))),s1]).sat Q:=by
 have m0:=ok.m0;have m1:=ok.m1;have H:=C.al;refine bh (d:=W3) rfl rfl (by decide) ?_;symm;have f:pl.all (Ji rooms)=ck↔∀x∈pl,x.l<=rm rooms x.w x.h:=by rw[eB];unfold Ji;simp
 have u:=J3 (w:=w) (n:=n+4) (wd:=.tup (wt.map wD)) ok g E G;generalize pl.all (Ji rooms)=b at u f;cases b with|false=>simp[W3,-gZ,u];apply aq;simp;exact q a_ ⟨λh=>(by cases h),λh=>f.mpr h.room⟩|true=>
   simp[W3,-gZ,u];apply aq;simp[show m<=1000000000 by lia,show-1000000000<=m by lia];refine⟨λ_=>?_,by show _<=16777217;lia⟩;refine eU (λρ=>∃s,ρ=[.val a_ (bI m T vs rooms (.tup (wt.map wD))),s1,s]/\fr s=ck) (λ(k:Nat)=>D.int (1+(k:Int))) (λ(k:Nat)=>D.bl (Wb vs pl wt (1+(k:Int)))) ⟨.aM,rfl,rfl⟩ ?_ ?_
   . rintro k A _⟨s,rfl,hs⟩;rw[iN]at A;have j:(1+(k:Int)).toNat<wt.length:=by lia
     have e:wt[(1+(k:Int)).toNat]?=aB wt[(1+(k:Int)).toNat]:=g9 j;simp[hs,-gZ,Hl ok g E G (by lia) e (λr hr=>by have:=C.aok _ r (by rw[e,hr]);lia),Wb,j]
   rintro _⟨s,rfl,hs⟩;have I:((dV (m.toNat-1)).map λ(k:Nat)=>D.bl (Wb vs pl wt (1+(k:Int))))=((dV (m.toNat-1)).map λ(k:Nat)=>Wb vs pl wt (1+(k:Int))).map D.bl:=by rw[eA];rfl
   rw[I];simp only[je,gH,fH,eT,bA,aQ,iM];simp only[h_,kF];refine q _ ?_;rw[kN,eB];constructor;.intro h;refine⟨f.mp rfl,λp h1 J r hr=>?_⟩;have:=h (p-1).toNat (by rw[iN];lia);simp only[mE,id]at this;rw[show 1+(((p-1).toNat:Nat):Int)=p by lia]at this;unfold Wb at this;rw[hr]at this;exact Bj.mp this
   .intro h k A;rw[iN]at A;simp only[mE,id];unfold Wb;cases e:(wt[(1+(k:Int)).toNat]?).getD b_ with|none=>rfl|some r=>rw[Bj];refine h.wait _ (by lia) (by lia) r ?_;cases e2:wt[(1+(k:Int)).toNat]?with|none=>rw[e2]at e;cases e|some o=>rw[e2]at e;simp at e;rw[e]
structure oU(m:Int)(ws:List Wy)(last:Int)(pl:List Tr):Prop where
 right:ig m ws last pl
 way:∀x∈pl,(wy ws x.w).t≠0/\(wy ws x.w).s≠m-1
 st:∀p,1<=p->p<m-1->stP ws pl p (lV last)=0
noncomputable def Ij(m:Int)(ws:List Wy)(k:Int):Bool:=!decide ((wy ws k).t=0)&&!decide ((wy ws k).s=m-1)
theorem vq{k:Int}(h0:0<=k)(h1:k<(ws.length:Int))(q:Q (.val (.bl (Ij m ws k))) [.val a_ (eZ m ws),.val a_ (.int k)]):(run Γ w (n+1) 7 [.val a_ (eZ m ws),.val a_ (.int k)]).sat Q:=by
 refine bh (d:=f7) rfl rfl (by decide) ?_;symm;have b:=(vO h0 h1).1;unfold Ij at q;by_cases c1:(wy ws k).t=0;.simp[c1]at q;simpa[f7,b,Dy,Ec,c1]using q
 . by_cases c2:(wy ws k).s=m-1;.simp[c1,c2]at q;simpa[f7,b,Dy,Ec,c1,c2]using q
   . have e:((wy ws k).s==m-1)=a_:=by simp[c2]
     simp[c1,c2]at q;simpa[f7,b,Dy,Ec,c1,e]using q
noncomputable def cwD(m:Int)(ws:List Wy):D->D|.tup [.int _,.int k,.int _]=>.bl (Ij m ws k)|d=>d
@[simp]theorem afO{m:Int}{ws:List Wy}{h k l:Int}:cwD m ws (.tup [.int h,.int k,.int l])=.bl (Ij m ws k):=rfl
noncomputable def noD(ws:List Wy)(pl:List Tr)(last:Int):D->D|.int p=>.bl (stP ws pl p (lV last)==0)|d=>d
inductive F6(a0 a1 a2:Sl)(ρ:List Sl):Prop where|mk(s:Sl)(t:Sl)(u:Sl)(q0:ρ=[a0,a1,a2,s,t,u])(q1:fr s=ck)(q2:fr t=ck)(q3:fr u=ck)
theorem Gn{s2:Sl}{pl:List Tr}(hs:LS s2 (pl.map Tr.d))(g:0<=m/\m<=60)(f:∀v∈ws,v.s≠v.t)(j:pl.length<61):∃r:Bool,(r=ck↔ig m ws last pl)/\ev (run Γ w (n+4)) (.call 6 [.var 0,.var 1,.var 2]) [.val a_ (eZ m ws),.val a_ (.int last),s2]=.ok (.val (.bl r)) [.val a_ (eZ m ws),.val a_ (.int last),s2]:=by
 refine⟨@decide _ (eO (ig m ws last pl)),by simp,run_eq ?_⟩;have e:∀r:Bool,(r=ck↔ig m ws last pl)->r=@decide _ (eO (ig m ws last pl)):=λr hr=>by rw[gy,hr];simp
 rcases hs with⟨b,rfl⟩|⟨b,rfl⟩;.simp;refine gD (.inl ⟨_,rfl⟩) g f j λr hr=>?_;simp[e r hr]
 .simp;refine gD (.inr ⟨_,rfl⟩) g f j λr hr=>?_;simp[e r hr]
theorem Eg{s2:Sl}{pl:List Tr}(hs:LS s2 (pl.map Tr.d))(f:∀x∈pl,KC ws x)(e:∀v∈ws,v.s≠v.t)(g:pl.length<=60):ev (run Γ w (n+3)) (.call 9 [.var 0,.var 2,.var 3,.var 1]) [.val a_ (eZ m ws),.val a_ (.int last),s2,.val a_ (.int p)]=.ok (.val (.int (stP ws pl p (lV last)))) [.val a_ (eZ m ws),.val a_ (.int last),s2,.val a_ (.int p)]:=by
 refine run_eq ?_;rcases hs with⟨b,rfl⟩|⟨b,rfl⟩;.simp;refine jC (.inl ⟨_,rfl⟩) f e g ?_;simp
 .simp;refine jC (.inr ⟨_,rfl⟩) f e g ?_;simp
theorem lZ{s2:Sl}{pl:List Tr}(b:LS s2 (pl.map Tr.d))(I:0<=m/\m<=60)(g:∀v∈ws,v.s≠v.t)(J:pl.length<61)(q:∀r:Bool,(r=ck↔oU m ws last pl)->Q (.val (.bl r)) [.val a_ (eZ m ws),.val a_ (.int last),s2]):(run Γ w (n+5) 8 [.val a_ (eZ m ws),.val a_ (.int last),s2]).sat Q:=by
 have j:pl.length<=lim:=by show _<=16777216;lia
 refine bh (d:=f8) rfl rfl (by decide) ?_;symm;obtain⟨s',N,O⟩:=jj (ρ:=[.val a_ (eZ m ws),.val a_ (.int last),s2]) (k:=2) (e:=ev (run Γ w (n+4)) (.var 2)) rfl b;obtain⟨r,hr,U⟩:=Gn (w:=w) (n:=n) (last:=last) b I g J;simp[f8,-gZ,U,-dZ,-dD];cases r with|false=>simp;apply aq;simp;refine q a_ ⟨λh=>(by cases h),λh=>?_⟩;have:=hr.mpr h.right;cases this|true=>
   have A:=hr.mp rfl;have C:∀x∈pl,KC ws x:=λx f=>(A.fit x f).1;simp[N,j,-dZ,-dD];refine gB (F6 _ _ _) (cwD m ws) ⟨.aM,.aM,.aM,rfl,rfl,rfl,rfl⟩ ?_ ?_;.rintro d hd _⟨s,t,u,rfl,hs,E,G⟩;obtain⟨x,f,rfl⟩:=eM.mp hd;have hi:=C x f;simp[Tr.d,hs,E,G];refine vq hi.1 hi.2 ?_;simp;exact⟨_,_,_,rfl,rfl,rfl,rfl⟩
   rintro _⟨s,t,u,rfl,hs,E,G⟩;have W:(pl.map Tr.d).map (cwD m ws)=(pl.map λx=>Ij m ws x.w).map D.bl:=by rw[eA,eA];rfl
   have X:(pl.map λx=>Ij m ws x.w).all id=pl.all λx=>Ij m ws x.w:=by rw[kN];rfl
   rw[W];simp only[h_,kF];rw[O _ rfl];simp only[je,gH,fH,eT,bA,aQ,iM,X];simp only[zM,Aj,bA,ml,lp];have l:(pl.all λx=>Ij m ws x.w)=ck↔∀x∈pl,(wy ws x.w).t≠0/\(wy ws x.w).s≠m-1:=by
    rw[eB];refine⟨λh x f=>?_,λh x f=>?_⟩;.have:=h x f;unfold Ij at this;simpa using this
    .have:=h x f;unfold Ij;simpa using this
   cases hc:pl.all λx=>Ij m ws x.w with|false=>simp;apply aq;simp;refine q a_ ⟨λh=>(by cases h),λh=>?_⟩;rw[l.mpr h.way]at hc;cases hc|true=>
     simp;apply aq;simp[show m-1<=1000000000 by lia,show-1000000000<=m-1 by lia];refine⟨λ_=>?_,by lia⟩;refine gB (F3b _ _ _) (noD ws pl last) ⟨.aM,rfl,rfl⟩ ?_ ?_;.rintro d hd _⟨s,rfl,hs⟩;obtain⟨k,_,rfl⟩:=eM.mp hd;simp[hs,-gZ,Eg b C g (show pl.length<=60 by lia),noD];exact⟨_,rfl,rfl⟩
     rintro _⟨s,rfl,hs⟩;generalize o:(dV (m.toNat-1-1)).map (λ(k:Nat)=>(1+(k:Int)))=L;have Y:((dV (m.toNat-1-1)).map λ(k:Nat)=>D.int (1+(k:Int))).map (noD ws pl last)=(L.map λp=>stP ws pl p (lV last)==0).map D.bl:=by rw[<-o,eA,eA,eA];rfl
     have Z:(L.map λp=>stP ws pl p (lV last)==0).all id=L.all λp=>stP ws pl p (lV last)==0:=by rw[kN];rfl
     rw[Y];simp only[je,gH,fH,eT,bA,aQ,iM,Z];simp only[h_,kF];refine q _ ?_;rw[eB];constructor
     . intro h;refine⟨A,l.mp hc,λp h1 h2=>?_⟩;have:p∈L:=by rw[<-o,eM];exact⟨(p-1).toNat,by rw[iN];lia,by lia⟩
       have:=h p this;simpa using this
     .intro h p H;rw[<-o,eM]at H;obtain⟨k,hk,rfl⟩:=H;rw[iN]at hk;rw[h.st _ (by lia) (by lia)];rfl
theorem qR{T:Int}{vs:List aX}{pl:List Tr}(h:rooms.length=vs.length)(r:ig m (mU vs rooms) T pl):∀x∈pl,fB vs T x:=λx b=>by obtain⟨⟨f1,f2⟩,_,f3⟩:=r.fit x b;rw[Ad h]at f2;have hok:=eB.mp r.ok x b;simp[Eh]at hok;unfold rO at f3;rw[(pq h f1 f2).2.2]at f3;exact⟨hok.1,f1,f2,f3⟩
noncomputable def RG(m T:Int)(vs:List aX)(rooms:List (List Int))(wt:List (Option (List Int)))(pl:List Tr):Prop:=ig m (mU vs rooms) T pl/\sH m vs rooms wt pl
noncomputable def WY(m T:Int)(vs:List aX)(rooms:List (List Int))(wt:List (Option (List Int)))(pl:List Tr):Prop:=oU m (mU vs rooms) T pl/\sH m vs rooms wt pl
section
variable{w n:Nat}{m T:Int}{vs:List aX}{rooms:List (List Int)}{wt:List (Option (List Int))}{pl:List Tr}{s1:Sl}{Q:R->List Sl->Prop}
theorem BL(ok:gU m T vs rooms)(f:IK m wt)(hs:LS s1 (pl.map Tr.d))(g:∀x∈pl,fB vs T x)(j:pl.length<=60):∃b:Bool,(b=ck↔sH m vs rooms wt pl)/\ev (run Γ w (n+6)) (.call 13 [.var 0,.var 1]) [.val a_ (bI m T vs rooms (.tup (wt.map wD))),s1]=.ok (.val (.bl b)) [.val a_ (bI m T vs rooms (.tup (wt.map wD))),s1]:=by
 refine⟨@decide _ (eO (sH m vs rooms wt pl)),by simp,run_eq ?_⟩;have e:∀r:Bool,(r=ck↔sH m vs rooms wt pl)->r=@decide _ (eO (sH m vs rooms wt pl)):=λr hr=>by rw[gy,hr];simp
 rcases hs with⟨b,rfl⟩|⟨b,rfl⟩;.simp;refine xY ok f (.inl ⟨_,rfl⟩) g j λr hr=>?_;simp[e r hr]
 .simp;refine xY ok f (.inr ⟨_,rfl⟩) g j λr hr=>?_;simp[e r hr]
theorem aau(ok:gU m T vs rooms):ev (run Γ w (n+6)) (.call 10 [.var 0]) [.val a_ (bI m T vs rooms wd),s1]=.ok (.val (eZ m (mU vs rooms))) [.val a_ (bI m T vs rooms wd),s1]:=by refine run_eq ?_;simp;refine dH ok ?_;simp
theorem Fq(ok:gU m T vs rooms)(hs:LS s1 (pl.map Tr.d))(f:pl.length<61):∃b:Bool,(b=ck↔ig m (mU vs rooms) T pl)/\ev (run Γ w (n+6)) (.call 6 [.call 10 [.var 0],.idx (.var 0) (.con (.int 1)),.var 1]) [.val a_ (bI m T vs rooms wd),s1]=.ok (.val (.bl b)) [.val a_ (bI m T vs rooms wd),s1]:=by
 have m0:=ok.m0;have m1:=ok.m1;refine⟨@decide _ (eO (ig m (mU vs rooms) T pl)),by simp,run_eq ?_⟩;have e:∀r:Bool,(r=ck↔ig m (mU vs rooms) T pl)->r=@decide _ (eO (ig m (mU vs rooms) T pl)):=λr hr=>by rw[gy,hr];simp
 rcases hs with⟨b,rfl⟩|⟨b,rfl⟩;.simp;refine dH ok ?_;simp;refine gD (.inl ⟨_,rfl⟩) (by lia) (tR ok.hv) f λr hr=>?_;simp[e r hr]
 .simp;refine dH ok ?_;simp;refine gD (.inr ⟨_,rfl⟩) (by lia) (tR ok.hv) f λr hr=>?_;simp[e r hr]
theorem Fw(ok:gU m T vs rooms)(hs:LS s1 (pl.map Tr.d))(f:pl.length<61):∃b:Bool,(b=ck↔oU m (mU vs rooms) T pl)/\ev (run Γ w (n+6)) (.call 8 [.call 10 [.var 0],.idx (.var 0) (.con (.int 1)),.var 1]) [.val a_ (bI m T vs rooms wd),s1]=.ok (.val (.bl b)) [.val a_ (bI m T vs rooms wd),s1]:=by
 have m0:=ok.m0;have m1:=ok.m1;refine⟨@decide _ (eO (oU m (mU vs rooms) T pl)),by simp,run_eq ?_⟩;have e:∀r:Bool,(r=ck↔oU m (mU vs rooms) T pl)->r=@decide _ (eO (oU m (mU vs rooms) T pl)):=λr hr=>by rw[gy,hr];simp
 rcases hs with⟨b,rfl⟩|⟨b,rfl⟩;.simp;refine dH ok ?_;simp;refine lZ (.inl ⟨_,rfl⟩) (by lia) (tR ok.hv) f λr hr=>?_;simp[e r hr]
 .simp;refine dH ok ?_;simp;refine lZ (.inr ⟨_,rfl⟩) (by lia) (tR ok.hv) f λr hr=>?_;simp[e r hr]
theorem vB(ok:gU m T vs rooms)(r:IK m wt)(e:LS s1 (pl.map Tr.d))(u:pl.length<61)(q:∀b:Bool,(b=ck↔RG m T vs rooms wt pl)->Q (.val (.bl b)) [.val a_ (bI m T vs rooms (.tup (wt.map wD))),s1]):(run Γ w (n+7) 14 [.val a_ (bI m T vs rooms (.tup (wt.map wD))),s1]).sat Q:=by refine bh (d:=Ws) rfl rfl (by decide) ?_;symm;obtain⟨b,j,l⟩:=Fq (w:=w) (n:=n) (wd:=.tup (wt.map wD)) ok e u;cases b with|false=>simp[Ws,-gZ,l];exact q a_ ⟨λh=>(by cases h),λh=>j.mpr h.1⟩|true=>have o:=j.mp rfl;obtain⟨b2,f,g⟩:=BL (w:=w) (n:=n) ok r e (qR ok.rl o) (by lia);simp[Ws,-gZ,l,g];exact q b2 ⟨λh=>⟨o,f.mp h⟩,λh=>f.mpr h.2⟩
theorem mW(ok:gU m T vs rooms)(r:IK m wt)(e:LS s1 (pl.map Tr.d))(u:pl.length<61)(q:∀b:Bool,(b=ck↔WY m T vs rooms wt pl)->Q (.val (.bl b)) [.val a_ (bI m T vs rooms (.tup (wt.map wD))),s1]):(run Γ w (n+7) 15 [.val a_ (bI m T vs rooms (.tup (wt.map wD))),s1]).sat Q:=by refine bh (d:=Yn) rfl rfl (by decide) ?_;symm;obtain⟨b,j,l⟩:=Fw (w:=w) (n:=n) (wd:=.tup (wt.map wD)) ok e u;cases b with|false=>simp[Yn,-gZ,l];exact q a_ ⟨λh=>(by cases h),λh=>j.mpr h.1⟩|true=>have o:=j.mp rfl;obtain⟨b2,f,g⟩:=BL (w:=w) (n:=n) ok r e (qR ok.rl o.right) (by lia);simp[Yn,-gZ,l,g];exact q b2 ⟨λh=>⟨o,f.mp h⟩,λh=>f.mpr h.2⟩
end
@[simp]theorem W7:sZ .Ke=vg ck:=rfl
@[simp]theorem abR{b:Bool}{i j:Int}:vg b (.int i) (.int j)=aB (.val (.bl (b !=decide (0<=i/\i<j)))):=rfl
theorem Jf{b c d:Int}:cm .geT (.tup [.int a,.int b]) (.tup [.int c,.int d])=aB (!aZ [a,b] [c,d]):=rfl
noncomputable def tq(pl:List Tr)(j:Nat):Tr:=(pl[j]?).getD ⟨0,0,0⟩
theorem JN{pl:List Tr}{j:Nat}(h:j<pl.length):at' (pl.map Tr.d) (j:Int)=aB (tq pl j).d/\tq pl j∈pl:=by
 have e:tq pl j=pl[j]:=by unfold tq;simp[h]
 rw[e];refine⟨?_,gu h⟩;rw[eG (by lia) (by simpa using h)];simp[h]
theorem Ue{T:Int}{vs:List aX}(ok:gU m T vs rooms)(f0:0<=a)(f1:a<(vs.length:Int))(f2:0<=h)(f3:h<T+1):∃r:List Int,at' (rooms.map cL) a=aB (cL r)/\at' (r.map D.int) h=aB (.int (rm rooms a h)):=by
 have b:a.toNat<rooms.length:=by rw[ok.rl];lia
 have hr:=ok.ro rooms[a.toNat] (gu b);have f:h.toNat<rooms[a.toNat].length:=by lia
 have e:rm rooms a h=rooms[a.toNat][h.toNat]:=by unfold rm;simp[b,f]
 refine⟨rooms[a.toNat],?_,?_⟩;.rw[eG f0 (by simp;lia),ey];simp[b]
 .rw[eG f2 (by simp;lia),ey,e];simp[f]
structure qC(T:Int)(vs:List aX)(rooms:List (List Int))(pl:List Tr)(j:Nat):Prop where
 Qx:0<j->Hd (tq pl (j-1)) (tq pl j)fit:fB vs T (tq pl j)hT:(tq pl j).h<=T
 l0:1<=(tq pl j).l
 l1:(tq pl j).l<=rm rooms (tq pl j).w (tq pl j).h
structure oH(T:Int)(vs:List aX)(wt:List (Option (List Int)))(pl:List Tr)(p:Int)(h:Nat):Prop where st:0<=iw vs pl p (h:Int)wa:(h:Int)<T->∀r,wt[p.toNat]?=aB (aB r)->iw vs pl p (h:Int)<=(r[h]?).getD 0
structure W5(m T:Int)(vs:List aX)(rooms:List (List Int))(wt:List (Option (List Int)))(pl:List Tr):Prop where
 step:∀j,j<pl.length->qC T vs rooms pl j
 hour:∀p:Int,1<=p->p<m->∀h:Nat,(h:Int)<=T->oH T vs wt pl p h
inductive YD(T:Int)(vs:List aX)(rooms:List (List Int))(pl:List Tr)(a0 a1 a2 a3 a4 a5 a6:Sl)(i:Nat)(ρ:List Sl):Prop where|mk(s7:Sl)(s8:Sl)(s9:Sl)(fP:Sl)(q0:ρ=[a0,a1,a2,a3,a4,a5,a6,s7,s8,s9,fP,.aM,.aM,.aM])(q1:A4 (fr s7=ck) (fr s8=ck) (fr s9=ck) (fr fP=ck))(q2:∀j,j<i->qC T vs rooms pl j)
inductive adp(T:Int)(vs:List aX)(wt:List (Option (List Int)))(pl:List Tr)(l:List Sl)(a9 a10 a11:Sl)(i:Nat)(ρ:List Sl):Prop where|mk(s8:Sl)(s12:Sl)(jL:Sl)(q0:ρ=l++[s8,a9,a10,a11,s12,jL])(q1:A3 (fr s8=ck) (fr s12=ck) (fr jL=ck))(q2:∀p:Int,1<=p->p<1+(i:Int)->∀h:Nat,(h:Int)<=T->oH T vs wt pl p h)
inductive aew(T:Int)(vs:List aX)(wt:List (Option (List Int)))(pl:List Tr)(l:List Sl)(a9 a10 a11 a12 a13:Sl)(p:Int)(j:Nat)(ρ:List Sl):Prop where|mk(s8:Sl)(q0:ρ=l++[s8,a9,a10,a11,a12,a13])(q1:fr s8=ck)(q2:∀h:Nat,h<j->oH T vs wt pl p h)
theorem zJ{T:Int}{vs:List aX}{pl:List Tr}(ok:gU m T vs rooms)(af:(wt.length:Int)=m)(W:∀(p:Nat)(r:List Int),wt[p]?=aB (aB r)->(r.length:Int)=T)(hl:pl.length<=60)(q:∀b:Bool,(b=ck↔W5 m T vs rooms wt pl)->Q (.val (.bl b)) [.val a_ (bI m T vs rooms (.tup (wt.map wD))),.val a_ (.lst (pl.map Tr.d))]):(run Γ w (n+4) 25 [.val a_ (bI m T vs rooms (.tup (wt.map wD))),.val a_ (.lst (pl.map Tr.d))]).sat Q:=by
 have m0:=ok.m0;have m1:=ok.m1;have t0:=ok.t0;have t1:=ok.t1;have ag:=ok.vl;have hv:=ok.hv;have X:T+1<=1000000000:=by lia
 have Y:-1000000000<=T+1:=by lia
 refine bh (d:=f25) rfl rfl (by decide) ?_;refine aD (l:=Qn) (k:=0) rfl ?_;simp[f25];simp only[bI];simp;rw[show(D.tup [.int m,.int T,.tup (vs.map aX.d),.tup (rooms.map cL),.tup (wt.map wD)])=bI m T vs rooms (.tup (wt.map wD))from rfl];refine aD (l:=Qn) (k:=1) rfl ?_;simp[show(pl.length:Int)<=1000000000 by lia];refine dJ (YD T vs rooms pl _ _ _ _ _ _ _) ?_ ?_ ⟨.aM,.aM,.aM,.aM,rfl,⟨rfl,rfl,rfl,rfl⟩,by simp⟩
 . rintro i _ hi⟨s7,s8,s9,fP,rfl,⟨h7,u,h9,G⟩,U⟩;obtain⟨e1,e2⟩:=JN hi;have A:¬ qC T vs rooms pl i->Q (.val (.bl a_)) [.val a_ (bI m T vs rooms (.tup (wt.map wD))),.val a_ (.lst (pl.map Tr.d))]:=λh=>q a_ ⟨λz=>(by cases z),λz=>absurd (z.step i hi) h⟩;have f:qC T vs rooms pl i->∀j,j<i+1->qC T vs rooms pl j:=λh j Z=>by
    by_cases c:j<i;.exact U j c
    .rw[show j=i by lia];exact h
   simp[h7];apply aq;simp[e1,Tr.d,u,h9,G];generalize g:tq pl i=x at*;have H:(0<i->Hd (tq pl (i-1)) x)->∀(ρ:List Sl),ρ=[.val a_ (bI m T vs rooms (.tup (wt.map wD))),.val a_ (.lst (pl.map Tr.d)),.val a_ (.int m),.val a_ (.int T),.val a_ (.tup (vs.map aX.d)),.val a_ (.tup (rooms.map cL)),.val a_ (.tup (wt.map wD)),.val a_ (.int i),.val a_ (.int x.h),.val a_ (.int x.w),.val a_ (.int x.l),.aM,.aM,.aM]->(ji (run Γ w (n+3)) w (match Qn with|[_,.gf _ _ _ [_,_,s,t],_,_,_]=>[s,t]|_=>[]) ρ).sat (fQ (YD T vs rooms pl (.val a_ (bI m T vs rooms (.tup (wt.map wD)))) (.val a_ (.lst (pl.map Tr.d))) (.val a_ (.int m)) (.val a_ (.int T)) (.val a_ (.tup (vs.map aX.d))) (.val a_ (.tup (rooms.map cL))) (.val a_ (.tup (wt.map wD))) (i+1)) (λfl ρ=>sQ (run Γ w (n+3)) w (bd Qn 2) (eQ 2 Q) fl ρ)):=by
    rintro hr _ rfl;symm;by_cases c1:0<=x.w/\x.w<(vs.length:Int)
    . by_cases c2:0<=x.h/\x.h<T+1
      . by_cases c3:x.l<1;.simp[c1,c2,c3];symm;simp;exact A λz=>by have:=z.l0;rw[g]at this;lia
        . obtain⟨r,r1,r2⟩:=Ue ok c1.1 c1.2 c2.1 c2.2;by_cases c4:rm rooms x.w x.h<x.l;.simp[c1,c2,c3,r1,cL,r2,c4];symm;simp;exact A λz=>by have:=z.l1;rw[g]at this;lia
          . simp[c1,c2,c3,r1,cL,r2,c4];symm;by_cases c5:T<x.h+(rd vs x.w).h;.simp[(cP c1.1 c1.2).1,Gq,c5];symm;simp;exact A λz=>by have:=z.fit.o1;rw[g]at this;lia
            .simp[(cP c1.1 c1.2).1,Gq,c5];exact⟨_,_,_,_,rfl,⟨rfl,rfl,rfl,rfl⟩,f (by
               refine⟨λz=>?_,?_,?_,?_,?_⟩;.rw[g];exact hr z
               .rw[g];exact⟨c2.1,c1.1,c1.2,by lia⟩
               .rw[g];lia
               .rw[g];lia
               .rw[g];lia)⟩
      .simp[c1,c2];symm;simp;exact A λz=>c2 (by have h1:=z.fit.h0;have C:=z.hT;rw[g]at h1 C;lia)
    .simp[c1];symm;simp;exact A λz=>c1 (by have h1:=z.fit.w0;have C:=z.fit.w1;rw[g]at h1 C;lia)
   symm;by_cases c:i=0;.subst c;simp;exact H (by lia) _ rfl
   . obtain⟨e3,_⟩:=JN (pl:=pl) (j:=i-1) (by lia);rw[show((i-1:Nat):Int)=(i:Int)-1 by lia]at e3;by_cases d:aZ [(tq pl (i-1)).h,(tq pl (i-1)).w] [x.h,x.w]=ck;.simp[show 0<i by lia,e3,JG,xH,Jf,d];exact H (λ_=>p7.mp d) _ rfl
     .simp[show 0<i by lia,e3,JG,xH,Jf,d];symm;simp;exact A λz=>d (p7.mpr (by have:=z.Qx (by lia);rw[g]at this;exact this))
 . rintro _⟨s7,s8,s9,fP,rfl,⟨h7,u,h9,G⟩,U⟩;have hp:∀x∈pl,fB vs T x:=λx g=>by obtain⟨j,h1,rfl⟩:=o_.mp g;have:=(U j h1).fit;unfold tq at this;simpa[h1]using this
   simp;refine aD (l:=Qn) (k:=2) rfl ?_;simp;refine mH (.inr ⟨_,rfl⟩) (.inr ⟨_,rfl⟩) m0 m1 t0 t1 hv hp ?_;simp[O1];have ab:∀p:Int,0<=p->p<m->at' ((mat m.toNat (T+1).toNat (iw vs pl)).map D.lst) p=aB (.lst (cY (T+1).toNat (iw vs pl p))):=λp h0 h1=>by rw[eG h0 (by simp;lia),ey,pZ (by lia),jp h0];rfl
   generalize(mat m.toNat (T+1).toNat (iw vs pl)).map D.lst=MM at*;generalize Ku:bI m T vs rooms (.tup (wt.map wD))=E at*;refine aD (l:=Qn) (k:=3) rfl ?_;simp[show m<=1000000000 by lia,show-1000000000<=m by lia];refine dJ (adp T vs wt pl [.val a_ E,.val a_ (.lst (pl.map Tr.d)),.val a_ (.int m),.val a_ (.int T),.val a_ (.tup (vs.map aX.d)),.val a_ (.tup (rooms.map cL)),.val a_ (.tup (wt.map wD)),s7] s9 fP (.val a_ (.lst MM))) ?_ ?_ ⟨_,_,_,rfl,⟨u,rfl,rfl⟩,λp h1 C=>absurd C (by lia)⟩
   . rintro i _ hi⟨s8,s12,jL,rfl,⟨u,I,J⟩,hh⟩;have N:1+(i:Int)<m:=by lia
     simp[I];apply aq;simp[ab (1+(i:Int)) (by lia) N,J];apply aq;simp[X,Y];refine dJ (aew T vs wt pl [.val a_ E,.val a_ (.lst (pl.map Tr.d)),.val a_ (.int m),.val a_ (.int T),.val a_ (.tup (vs.map aX.d)),.val a_ (.tup (rooms.map cL)),.val a_ (.tup (wt.map wD)),s7] s9 fP (.val a_ (.lst MM)) (.val a_ (.int (1+(i:Int)))) (.val a_ (.lst (cY (T+1).toNat (iw vs pl (1+(i:Int)))))) (1+(i:Int))) ?_ ?_ ⟨_,rfl,u,by simp⟩
     . rintro j _ Z⟨s8,rfl,u,hg⟩;have ac:(j:Int)<=T:=by lia
       have O:at' (cY (T+1).toNat (iw vs pl (1+(i:Int)))) (j:Int)=aB (.int (iw vs pl (1+(i:Int)) (j:Int))):=iU (by lia) (by lia);have A:¬ oH T vs wt pl (1+(i:Int)) j->Q (.val (.bl a_)) [.val a_ E,.val a_ (.lst (pl.map Tr.d))]:=λh=>q a_ ⟨λz=>(by cases z),λz=>absurd (z.hour _ (by lia) N j ac) h⟩;have f:oH T vs wt pl (1+(i:Int)) j->∀h,h<j+1->oH T vs wt pl (1+(i:Int)) h:=λh k hk=>by
        by_cases c:k<j;.exact hg k c
        .rw[show k=j by lia];exact h
       have ae:(1+(i:Int)).toNat<wt.length:=by lia
       obtain⟨o,ho⟩:∃o,wt[(1+(i:Int)).toNat]?=aB o:=⟨_,g9 ae⟩;have ea:at' (wt.map wD) (1+(i:Int))=aB (wD o):=by rw[eG (by lia) (by simp;lia),ey,ho];rfl
       simp[u];apply aq;by_cases c1:iw vs pl (1+(i:Int)) (j:Int)<0;.simp[O,c1];symm;simp;exact A λz=>by have:=z.st;lia
       . by_cases c2:(j:Int)<T;.cases o with|none=>simp[O,c1,c2,ea,wD];exact⟨_,rfl,rfl,f ⟨by lia,λ_ r e=>by rw[ho]at e;cases e⟩⟩|some r=>
             have ah:=W _ _ ho;have g2:at' (r.map D.int) (j:Int)=aB (.int ((r[j]?).getD 0)):=by
              have:j<r.length:=by lia
              rw[eG (by lia) (by simp;lia),ey];simp[this]
             by_cases c3:(r[j]?).getD 0<iw vs pl (1+(i:Int)) (j:Int);.simp[O,c1,c2,ea,wD,cL,g2,c3];symm;simp;exact A λz=>by have:=z.wa c2 r ho;lia
             .simp[O,c1,c2,ea,wD,cL,g2,c3];exact⟨_,rfl,rfl,f ⟨by lia,λ_ r' e=>by rw[ho]at e;cases e;lia⟩⟩
         .simp[O,c1,c2];exact⟨_,rfl,rfl,f ⟨by lia,λz=>absurd z c2⟩⟩
     . rintro _⟨s8,rfl,u,hg⟩;simp;refine⟨_,_,_,rfl,⟨u,rfl,rfl⟩,λp h1 C h hT=>?_⟩;by_cases c:p<1+(i:Int);.exact hh p h1 c h hT
       .rw[show p=1+(i:Int)by lia];exact hg h (by lia)
   .rintro _⟨s8,s12,jL,rfl,⟨u,I,J⟩,hh⟩;simp;refine aD (l:=Qn) (k:=4) rfl ?_;simp;exact q ck ⟨λ_=>⟨U,λp h1 C=>hh p h1 (by lia)⟩,λ_=>rfl⟩
theorem pg:∀{pl:List Tr},(∀j,0<j->j<pl.length->Hd (tq pl (j-1)) (tq pl j))->ir pl=ck
 |[],_=>rfl|[_],_=>rfl|a::b::r,h=>by
   have e:=pg (pl:=b::r) λj h1 f=>by
    have:=h (j+1) (by lia) (by simp at f ⊢;lia);have g:tq (a::b::r) (j+1-1)=tq (b::r) (j-1):=by unfold tq;rw[show j+1-1=(j-1)+1 by lia];rfl
    have l:tq (a::b::r) (j+1)=tq (b::r) j:=rfl;rw[g,l]at this;exact this
   have h0:=h 1 (by lia) (by simp);have:aZ [a.h,a.w] [b.h,b.w]=ck:=p7.mpr h0;simp only[ir,this,e];rfl
theorem xj{pl:List Tr}(h:ir pl=ck){j:Nat}(h1:0<j)(b:j<pl.length):Hd (tq pl (j-1)) (tq pl j):=by have:=nN.mp (jk.mp h) (j-1) j (by lia) b (by lia);unfold tq;simpa[b,show j-1<pl.length by lia]using this
section
variable{m T:Int}{vs:List aX}{rooms:List (List Int)}{wt:List (Option (List Int))}{pl:List Tr}
theorem Aq{x:Tr}(b:x∈pl):∃j,j<pl.length/\tq pl j=x:=by obtain⟨j,h1,rfl⟩:=o_.mp b;exact⟨j,h1,by unfold tq;simp[h1]⟩
theorem QT(hv:∀v∈vs,v.Ok m)(b:∀x∈pl,fB vs T x)(h:t<0):iw vs pl p t=0:=by refine vX λx e=>?_;have f:=b x e;have h0:=f.h0;have g:=(hv _ (cP f.w0 f.w1).2).h0;rw[if_neg (λz=>by lia),if_neg (λz=>by lia)];rfl
theorem Mv(hv:∀v∈vs,v.Ok m)(b:∀x∈pl,fB vs T x)(h:T<=t):iw vs pl p t=iw vs pl p T:=by
 refine iT λx e=>?_;have f:=b x e;have h0:=f.o1;have l:=(hv _ (cP f.w0 f.w1).2).h0;have g:(x.h+(rd vs x.w).h<=t)=(x.h+(rd vs x.w).h<=T):=by apply propext;lia
 have j:(x.h<=t)=(x.h<=T):=by apply propext;lia
 simp only[g,j]
theorem Xp(ok:gU m T vs rooms){x:Tr}(f:fB vs T x):rm rooms x.w x.h<=(wy (mU vs rooms) x.w).r:=by
 obtain⟨r,r1,o,q,j,b⟩:=Pn ok f;have f0:=f.w0;have f1:=f.w1;have l:x.w.toNat<vs.length:=by lia
 have e:(vs.zip rooms)[x.w.toNat]?=aB (vs[x.w.toNat],r):=i4.mpr ⟨by simp[l],j⟩;have:(wy (mU vs rooms) x.w).r=Rj r:=by unfold wy mU;simp[e]
 rw[this];unfold Rj;have g:r≠[]:=λe=>by rw[e]at b;cases b
 cases e:r.max? with|none=>simp at e;exact absurd e g|some i=>exact(oE.mp e).2 _ b
theorem M4(ok:gU m T vs rooms)(q:∀(p:Nat)(r:List Int),wt[p]?=aB (aB r)->(r.length:Int)=T):W5 m T vs rooms wt pl↔RG m T vs rooms wt pl:=by
 have m0:=ok.m0;have t0:=ok.t0;constructor
 . intro h;have o:∀x∈pl,fB vs T x:=λx b=>by obtain⟨j,h1,rfl⟩:=Aq b;exact(h.step j h1).fit
   have u:∀x∈pl,x.l<=rm rooms x.w x.h:=λx b=>by obtain⟨j,h1,rfl⟩:=Aq b;exact(h.step j h1).l1
   refine⟨⟨?_,pg λj h1 g=>(h.step j g).Qx h1,λx b=>?_,λp h1 g t=>?_⟩,u,λp h1 g r e j C=>?_⟩;.rw[eB];intro x b;obtain⟨j,h1,rfl⟩:=Aq b;have:=h.step j h1;simp[Eh,this.l0,this.fit.h0]
   .have f:=o x b;refine⟨⟨f.w0,by rw[Ad ok.rl];exact f.w1⟩,Int.le_trans (u x b) (Xp ok f),?_⟩;unfold rO;rw[(pq ok.rl f.w0 f.w1).2.2];exact f.o1
   . rw[tV ok.rl o];by_cases c1:t<0;.rw[QT ok.hv o c1];exact gT _
     . by_cases c2:T<=t;.rw[Mv ok.hv o c2];have:=(h.hour p h1 g T.toNat (by lia)).st;rwa[jp t0]at this
       .have:=(h.hour p h1 g t.toNat (by lia)).st;rwa[jp (by lia)]at this
   .have:=q _ _ e;exact(h.hour p h1 g j (by lia)).wa (by lia) r e
 . rintro⟨A,E⟩;have o:=qR ok.rl A;refine⟨λj C=>?_,λp h1 g k G=>?_⟩;.have b:=(JN C).2;have f:=o _ b;have hok:=eB.mp A.ok _ b;simp[Eh]at hok;have H:=(ok.hv _ (cP f.w0 f.w1).2).h0;have ho:=f.o1;exact⟨λz=>xj A.Qx z C,f,by lia,hok.2,E.room _ b⟩
   . refine⟨?_,λz r e=>?_⟩;.rw[<-tV ok.rl o];exact A.st p h1 g _
     .have:=q _ _ e;exact E.wait p h1 g r e k (by lia)
structure LawC(m T:Int)(vs:List aX)(pl:List Tr):Prop where
 way:∀x∈pl,(rd vs x.w).t≠0/\(rd vs x.w).s≠m-1
 st:∀p:Int,1<=p->p<m-1->iw vs pl p T=0
theorem Jg(ok:gU m T vs rooms)(g:RG m T vs rooms wt pl):LawC m T vs pl↔WY m T vs rooms wt pl:=by
 have e:=qR ok.rl g.1;constructor
 . intro h;refine⟨⟨g.1,λx b=>?_,λp h1 j=>?_⟩,g.2⟩;.have f:=e x b;rw[(pq ok.rl f.w0 f.w1).1,(pq ok.rl f.w0 f.w1).2.1];exact h.way x b
   .rw[tV ok.rl e];exact h.st p h1 j
 . rintro⟨h,_⟩;refine⟨λx b=>?_,λp h1 j=>?_⟩;.have f:=e x b;have:=h.way x b;rw[(pq ok.rl f.w0 f.w1).1,(pq ok.rl f.w0 f.w1).2.1]at this;exact this
   .rw[<-tV ok.rl e];exact h.st p h1 j
end
inductive abP(T:Int)(vs:List aX)(m:Int)(pl:List Tr)(l:List Sl)(r:List D)(ρ:List Sl):Prop where|mk(rest:List Tr)(s t u:Sl)(q0:ρ=l++[s,t,u])(q1:A3 (fr s=ck) (fr t=ck) (fr u=ck))(q2:r=rest.map Tr.d)(q3:(∀x∈rest,x∈pl))(q4:∀x∈pl,x∈rest\/((rd vs x.w).t≠0/\(rd vs x.w).s≠m-1))
theorem yX{T:Int}{vs:List aX}{pl:List Tr}(ok:gU m T vs rooms)(E:∀x∈pl,fB vs T x)(X:pl.length<=60)(q:∀b:Bool,(b=ck↔LawC m T vs pl)->Q (.val (.bl b)) [.val a_ (bI m T vs rooms wd),.val a_ (.lst (pl.map Tr.d))]):(run Γ w (n+4) 26 [.val a_ (bI m T vs rooms wd),.val a_ (.lst (pl.map Tr.d))]).sat Q:=by
 have m0:=ok.m0;have m1:=ok.m1;have t0:=ok.t0;have t1:=ok.t1;have J:=ok.vl;have hv:=ok.hv;refine bh (d:=f26) rfl rfl (by decide) ?_;refine aD (l:=b26) (k:=0) rfl ?_;simp[f26];simp only[bI];simp;rw[show(D.tup [.int m,.int T,.tup (vs.map aX.d),.tup (rooms.map cL),wd])=bI m T vs rooms wd from rfl];generalize Y:bI m T vs rooms wd=g at*;refine aD (l:=b26) (k:=1) rfl ?_;simp;refine cG (abP T vs m pl [.val a_ g,.val a_ (.lst (pl.map Tr.d)),.val a_ (.int m),.val a_ (.int T),.val a_ (.tup (vs.map aX.d)),.val a_ (.tup (rooms.map cL)),.val a_ wd]) ?_ ?_ ⟨pl,.aM,.aM,.aM,rfl,⟨rfl,rfl,rfl⟩,rfl,λx h=>h,λx h=>.inl h⟩;.rintro d r _⟨e,s,t,u,rfl,⟨hs,G,H⟩,hr,hi,hd⟩;cases e with|nil=>cases hr|cons x e=>
     obtain⟨rfl,rfl⟩:d=x.d/\r=e.map Tr.d:=by simpa using hr
     have o:=hi x (by simp);have f:=E x o;have I:¬((rd vs x.w).t≠0/\(rd vs x.w).s≠m-1)->Q (.val (.bl a_)) [.val a_ g,.val a_ (.lst (pl.map Tr.d))]:=λh=>q a_ ⟨λz=>(by cases z),λz=>absurd (z.way x o) h⟩;simp[Tr.d,hs,G,H];apply aq;by_cases c1:(rd vs x.w).t=0;.simp[(cP f.w0 f.w1).1,Lb,c1];symm;simp;exact I λz=>z.1 c1
     . by_cases c2:(rd vs x.w).s=m-1;.simp[(cP f.w0 f.w1).1,Lb,Qm,c1,c2];symm;simp;exact I λz=>z.2 c2
       . simp[(cP f.w0 f.w1).1,Lb,Qm,c1,c2];refine⟨e,_,_,_,rfl,⟨rfl,rfl,rfl⟩,rfl,λy A=>hi y (by simp[A]),λy A=>?_⟩;rcases hd y A with z|z
         . rcases et.mp z with z|z;.rw[z];exact .inr ⟨c1,c2⟩
           .exact .inl z
         .exact .inr z
 . rintro _⟨e,s,t,u,rfl,⟨hs,G,H⟩,hr,hi,hd⟩;obtain rfl:e=[]:=by cases e with|nil=>rfl|cons a l=>cases hr
   have C:∀x∈pl,(rd vs x.w).t≠0/\(rd vs x.w).s≠m-1:=λx o=>by
    rcases hd x o with z|z;.simp at z
    .exact z
   simp;refine aD (l:=b26) (k:=2) rfl ?_;simp;refine mH (.inr ⟨_,rfl⟩) (.inr ⟨_,rfl⟩) m0 m1 t0 t1 hv E ?_;simp[O1,wH,part,ni];rw[xN (by lia)];have N:∀p:Int,at' (cY (T+1).toNat (iw vs pl p)) T=aB (.int (iw vs pl p T)):=λp=>iU (by lia) (by lia);refine⟨λ_=>?_,by simp;show _<=16777218;lia⟩;refine eU (Jx [.val a_ g,.val a_ (.lst (pl.map Tr.d)),.val a_ (.int m),.val a_ (.int T),.val a_ (.tup (vs.map aX.d)),.val a_ (.tup (rooms.map cL)),.val a_ wd,s,t,u]) _ (λ(k:Nat)=>D.bl (iw vs pl ((k:Int)+1) T==0)) ⟨.aM,rfl,rfl⟩ ?_ ?_;.rintro k _ _⟨O,rfl,j⟩;simp[j,N];exact⟨_,rfl,rfl⟩
   rintro _⟨O,rfl,j⟩;have U:((dV (m.toNat-2)).map λ(k:Nat)=>D.bl (iw vs pl ((k:Int)+1) T==0))=((dV (m.toNat-2)).map λ(k:Nat)=>iw vs pl ((k:Int)+1) T==0).map D.bl:=by rw[eA];rfl
   rw[U];simp only[je,gH,fH,eT,bA,aQ,iM];simp;refine q _ ?_;rw[eB];constructor;.intro h;refine⟨C,λp h1 Z=>?_⟩;have:=h (p-1).toNat (by rw[iN];lia);rw[show(((p-1).toNat:Nat):Int)+1=p by lia]at this;simpa using this
   .intro h k W;rw[iN]at W;rw[h.st _ (by lia) (by lia)];rfl
theorem mF{a b:Bool}(q:Q (.val (.bl (a==b))) [.val a_ (.bl a),.val a_ (.bl b)]):(run Γ w (n+1) 29 [.val a_ (.bl a),.val a_ (.bl b)]).sat Q:=by refine bh (d:=f29) rfl rfl (by decide) ?_;symm;simp[f29,show cm .eq (.bl a) (.bl b)=aB (a==b)from rfl];exact q
theorem Us{i j e:P}:ex c n (.Zz x i j e) ρ=(bU (isVar i) (ev c i) ρ).bind λk ρ=>(lift (fV ρ x k) ρ).bind λ_ ρ=>(bU (isVar j) (ev c j) ρ).bind λl ρ=>(lift ((fV ρ x k).bind λrow=>(fj l).bind λl=>(at' row l).bind fj) ρ).bind λu ρ=>(bU (isVar e) (ev c e) ρ).bind λw ρ=>(bU (isVar i) (ev c i) ρ).bind λk ρ=>(lift (fV ρ x k) ρ).bind λ_ ρ=>(bU (isVar j) (ev c j) ρ).bind λl ρ=>vH ρ x ((gh ρ x).bind λb=>(fj w).bind λv=>(fj k).bind λk=>(fj l).bind λl=>gA b k (setAt l (.int (if u<v then v else u)))):=(rfl)
@[simp]theorem R7{x:Nat}{ks:List P}:isVar (.FQ x ks)=b_:=rfl
theorem K4{ks:List P}:ev c (.FQ x ks) ρ=match ρ[x]?with
 |some (.dq _)=>(evs c ks ρ).bind λb ρ=>match ρ[x]?with|some (.dq m)=>lift ((m.pL b).bind λo=>o.map λv=>.val (.int v)) ρ|_=>.stuck
 |_=>.stuck:=(rfl)
theorem Lp{vs:List aX}{T:Int}(t:jV vs T kvs){d:D}(hd:d∈kE (kvs.map λp=>D.tup (p.1.map D.int))):∃h w:Int,d=.tup [.int h,.int w]/\o6 vs T (h,w)/\[h,w]∈kvs.map (·.1):=by obtain⟨p,j,rfl⟩:=eM.mp ((gP _).mem_iff.mp hd);have g:p.1∈kvs.map (·.1):=eM.mpr ⟨p,j,rfl⟩;obtain⟨a,b,e,f⟩:=t.fit p.1 g;exact⟨a,b,by rw[e];rfl,f,by rw[<-e];exact g⟩
theorem PK{vs:List aX}{T:Int}:∀{xs:List D},(∀x∈xs,∃y:Tr,x=y.d/\fB vs T y)->∃pl:List Tr,xs=pl.map Tr.d/\∀y∈pl,fB vs T y|[],_=>⟨[],rfl,by simp⟩|x::xs,h=>by obtain⟨v,rfl,h1⟩:=h x (by simp);obtain⟨ws,rfl,b⟩:=PK (xs:=xs) λy e=>h y (by simp[e]);exact⟨v::ws,rfl,λu hu=>by
    rcases et.mp hu with rfl|hu;.exact h1
    .exact b u hu⟩
theorem yt{l:List Sl}{i a b:Nat}{vs:List aX}{T:Int}{Q:List D->List Sl->Prop}(t:jV vs T kvs)(hi:(l++[Sl.aM,Sl.aM])[i]?=aB (.val a_ (.cZ (.t kvs))))(I:a=l.length)(J:b=l.length+1)(q:∀(pl:List Tr)(s u:Sl),(∀y∈pl,fB vs T y)->pl.length<=kvs.length->Q (pl.map Tr.d) (l++[s,u])):(jr c [a,b] a_ b_ (.tup [.var a,.var b,.Kg i [.var a,.var b]]) (kE (kvs.map λp=>.tup (p.1.map D.int))) (l++[.aM,.aM])).sat Q:=by
 subst I J;have e:i<l.length:=by
  have:=(fZ hi).1;simp at this;rcases ri i l.length with z|z;.exact z
  . rw[eF z]at hi;have:i-l.length=0\/i-l.length=1:=by lia
    rcases this with z|z<;>(rw[z]at hi;cases hi)
 have g:l[i]?=aB (.val a_ (.cZ (.t kvs))):=by rw[dQ e]at hi;exact hi
 have j:∀{s u:Sl},(l++[s,u])[l.length]?=aB s:=λ{s u}=>by simp
 have r:∀{s u:Sl},(l++[s,u])[l.length+1]?=aB u:=λ{s u}=>by rw[eF (by lia)];simp
 have N:∀{s u:Sl},(l++[s,u])[i]?=aB (.val a_ (.cZ (.t kvs))):=λ{s u}=>by rw[dQ e];exact g
 refine tX (λρ=>∃s u,ρ=l++[s,u]/\fr s=ck/\fr u=ck) (λd=>∃y:Tr,d=y.d/\fB vs T y) ⟨_,_,rfl,rfl,rfl⟩ ?_ ?_
 . rintro d hd _⟨s,u,rfl,hs,A⟩;obtain⟨h,w,rfl,f,O⟩:=Lp t hd;refine⟨l++[.val a_ (.int h),.val a_ (.int w)],?_,?_⟩
   . show putAll _ _ _=_;rw[gw,qK,j];simp only[hs,if_true];show putAll ((l++[s,u]).set l.length _) _ _=_;have U:(l++[s,u]).set l.length (.val a_ (.int h))=l++[.val a_ (.int h),u]:=by rw[jT _ _ (dW)];simp
     rw[U,gw,qK,r];simp only[A,if_true];show putAll ((l++[_,u]).set (l.length+1) _) _ _=_;rw[jT _ _ (by lia),sJ];simp
   . have C:pk (l++[Sl.val a_ (.int h),Sl.val a_ (.int w)]) i=aB (.cZ (.t kvs)):=by unfold pk;rw[N]
     have E:ev c (.var l.length) (l++[Sl.val a_ (.int h),Sl.val a_ (.int w)])=.ok (.val (.int h)) (l++[Sl.val a_ (.int h),Sl.val a_ (.int w)]):=by rw[CT,j]
     have G:ev c (.var (l.length+1)) (l++[Sl.val a_ (.int h),Sl.val a_ (.int w)])=.ok (.val (.int w)) (l++[Sl.val a_ (.int h),Sl.val a_ (.int w)]):=by rw[CT,r]
     have W:wL (.cZ (.t kvs)) [.int h,.int w]=aB (.val (.int (gv kvs [h,w]))):=by show((Dc.t kvs).pL [.int h,.int w]).bind (λo=>o.map λv=>R.val (.int v))=_;rw[Df,m5 O];rfl
     have X:ev c (.Kg i [.var l.length,.var (l.length+1)]) (l++[Sl.val a_ (.int h),Sl.val a_ (.int w)])=.ok (.val (.int (gv kvs [h,w]))) (l++[Sl.val a_ (.int h),Sl.val a_ (.int w)]):=by rw[JM,C];simp only[vC,Ca,o4,kZ,E,G,C,R.d,W]
     rw[HQ];simp only[o4,kZ,E,G,X,Ca,R.d];exact⟨⟨⟨h,w,gv kvs [h,w]⟩,rfl,⟨f.1,f.2.1,f.2.2.1,f.2.2.2⟩⟩,_,_,rfl,rfl,rfl⟩
 .rintro xs _⟨s,u,rfl,hs,A⟩H Y;obtain⟨pl,rfl,Z⟩:=PK Y;refine q pl s u Z ?_;rw[eu]at H;rw[H,(gP _).length_eq,eu];exact dW
theorem Es{T:Int}(h:∀r∈rooms,(r.length:Int)=T+1):(rooms.map cL).map (λd=>(items d).getD [])=mat rooms.length (T+1).toNat (rm rooms):=by
 rw[eA];refine ii (by simp) λi a b=>?_;simp only[List.getElem_map,mat,mn,mE];have hi:i<rooms.length:=by simpa using a
 have hr:=h _ (gu hi);show(rooms[i].map D.int)=cY _ _;refine ii (by simp;lia) λj c d=>?_;have e:j<rooms[i].length:=by simpa using c
 simp[cY,rm,hi,e]
noncomputable def tL(M L:Nat)(F:Int->Int->Int):List (List Int):=(dV M).map λ(p:Nat)=>(dV L).map λ(t:Nat)=>F (p:Int) (t:Int)
theorem GC:(mat M L F).map (λr=>D.tup r)=(tL M L F).map cL:=by unfold mat tL cY cL;rw[eA,eA];refine ga λp _=>?_;simp[Function.comp_def]
theorem Bs{k:List Int}{v:Int}:∀{r:List (List Int×Int)},(r.map (·.1)).Nodup->k∈(putD r k v).map (·.1)
 |[],_=>by simp[putD]|(a,b)::r,n=>by
   simp only[er,gS]at n;rw[lE n.1];split;.rename_i e;simp[e]
   .simp only[er,et];exact .inr (Bs n.2)
noncomputable def PrH(vs:List aX)(T:Int)(p:Int×Int):Prop:=0<=p.1/\p.1<(vs.length:Int)/\0<=p.2/\p.2<(vs.length:Int)/\(rd vs p.1).h+(rd vs p.2).h<=T
inductive acY(vs:List aX)(T:Int)(B:Nat)(l:List Sl)(i:Nat)(ρ:List Sl):Prop where|mk(ps:List (Int×Int))(fP fW:Sl)(q0:ρ=l++[.own a_ (ps.map jb),fP,fW,.aM,.aM,.aM,.aM,.aM,.aM,.aM])(q1:(fr fP=ck/\fr fW=ck))(q2:(∀p∈ps,PrH vs T p))(q3:ps.length<=B+12*i)
inductive aem(vs:List aX)(T:Int)(B:Nat)(l:List Sl)(fP:Sl)(i:Nat)(ρ:List Sl):Prop where|mk(ps:List (Int×Int))(fW:Sl)(q0:ρ=l++[.own a_ (ps.map jb),fP,fW,.aM,.aM,.aM,.aM,.aM,.aM,.aM])(q1:fr fW=ck)(q2:(∀p∈ps,PrH vs T p))(q3:ps.length<=B+i)
inductive adV(vs:List aX)(T:Int)(l:List Sl)(r:List D)(ρ:List Sl):Prop where|mk(kvs:List (List Int×Int))(rest:List Tr)(jL pU uP:Sl)(q0:ρ=l++[.dq (.t kvs),jL,pU,uP,.aM,.aM,.aM])(q1:A3 (fr jL=ck) (fr pU=ck) (fr uP=ck))(q2:r=rest.map Tr.d)(q3:(∀x∈rest,fB vs T x))(q4:jV vs T kvs)(q5:kvs.length+rest.length<=50)
inductive acC(vs:List aX)(T:Int)(M L:Nat)(l:List Sl)(uP:Sl)(r:List D)(ρ:List Sl):Prop where|mk(kvs:List (List Int×Int))(F:Int->Int->Int)(rest:List (Int×Int))(fP fW jL pU wG:Sl)(q0:ρ=l++[fP,fW,.dq (.t kvs),jL,pU,uP,.hold (mat M L F),wG,.aM])(q1:A3 (fr fP=ck) (fr fW=ck) (fr jL=ck))(q2:(fr pU=ck/\fr wG=ck))(q3:r=rest.map jb)(q4:(∀p∈rest,PrH vs T p))(q5:jV vs T kvs)(q6:kvs.length+2*rest.length<=52)
inductive ab2(vs:List aX)(T:Int)(M L B:Nat)(l:List Sl)(jL uP:Sl)(r:List D)(ρ:List Sl):Prop where|mk(kvs:List (List Int×Int))(F:Int->Int->Int)(rest:List (Int×Int))(pU wG:Sl)(q0:ρ=l++[.dq (.t kvs),jL,pU,uP,.hold (mat M L F),wG,.aM])(q1:(fr pU=ck/\fr wG=ck))(q2:r=rest.map jb)(q3:(∀p∈rest,o6 vs T p))(q4:jV vs T kvs)(q5:kvs.length+rest.length<=B)
theorem Jz{x T:Int}{vs:List aX}{pl:List Tr}(ok:gU m T vs rooms)(hp:∀x∈pl,fB vs T x)(hl:pl.length<=50)(k:∀(sU:List (List Int))(Qz:List Tr)(x z:Int),gU m T vs sU->Qz.length<=58->Q (.val (.tup [bI m T vs sU (.tup (wt.map wD)),.lst (Qz.map Tr.d)])) [.own ck [.int x,.int y,.int z],.val a_ (bI m T vs rooms (.tup (wt.map wD))),.val a_ (.lst (pl.map Tr.d))]):(run Γ w (n+2) 28 [.own ck [.int x,.int y,.int z],.val a_ (bI m T vs rooms (.tup (wt.map wD))),.val a_ (.lst (pl.map Tr.d))]).sat Q:=by
 have m0:=ok.m0;have m1:=ok.m1;have t0:=ok.t0;have t1:=ok.t1;have ae:=ok.vl;have hv:=ok.hv;have af:=ok.rl;have Qy:=ok.ro;refine bh (d:=f28) rfl rfl (by decide) ?_;refine aD (l:=Fb) (k:=0) rfl ?_;simp[f28];simp only[bI];simp;rw[show(D.tup [.int m,.int T,.tup (vs.map aX.d),.tup (rooms.map cL),.tup (wt.map wD)])=bI m T vs rooms (.tup (wt.map wD))from rfl];generalize Ku:bI m T vs rooms (.tup (wt.map wD))=A at*;refine aD (l:=Fb) (k:=1) rfl ?_;simp;refine aR (by decide) (by decide) λe x z e0 e1=>?_;obtain⟨N,he,_⟩:=rK (ns:=[0,m-1]) (i:=e) (lo:=0) (hi:=6) e0 (by simpa using e1) (by simp;lia);simp only[er,lc]at he;simp[he];refine aD (l:=Fb) (k:=2) rfl ?_;simp;refine aD (l:=Fb) (k:=3) rfl ?_;simp[show(vs.length:Int)<=1000000000 by lia];refine dJ (acY vs T 0 [.own ck [.int x,.int y,.int z],.val a_ A,.val a_ (.lst (pl.map Tr.d)),.val a_ (.int m),.val a_ (.int T),.val a_ (.tup (vs.map aX.d)),.val a_ (.tup (rooms.map cL)),.val a_ (.tup (wt.map wD)),.val a_ (.int N)]) ?_ ?_ ⟨[],.aM,.aM,rfl,⟨rfl,rfl⟩,by simp,by simp⟩
 . rintro i _ hi⟨ps,fP,fW,rfl,⟨I,C⟩,o,hpl⟩;have X:(i:Int)<(vs.length:Int):=by lia
   have U:=(cP (vs:=vs) (k:=(i:Int)) (by lia) X).1;simp[I];apply aq;simp[show(vs.length:Int)<=1000000000 by lia];refine dJ (aem vs T (12*i) [.own ck [.int x,.int y,.int z],.val a_ A,.val a_ (.lst (pl.map Tr.d)),.val a_ (.int m),.val a_ (.int T),.val a_ (.tup (vs.map aX.d)),.val a_ (.tup (rooms.map cL)),.val a_ (.tup (wt.map wD)),.val a_ (.int N)] (.val a_ (.int i))) ?_ ?_ ⟨ps,fW,rfl,C,o,by lia⟩
   . rintro j _ hj⟨ps,fW,rfl,C,o,hpl⟩;have Y:(j:Int)<(vs.length:Int):=by lia
     have Z:=(cP (vs:=vs) (k:=(j:Int)) (by lia) Y).1;simp[C];apply aq;by_cases c1:(rd vs (i:Int)).s=N
     . by_cases c2:(rd vs (i:Int)).t=(rd vs (j:Int)).s
       . by_cases c3:(rd vs (j:Int)).t=N
         . simp[U,Z,Qm,Lb,c1,c2,c3];symm;by_cases c4:(rd vs (i:Int)).h+(rd vs (j:Int)).h<=T
           . simp[U,Z,Gq,c4];symm;simp[show ps.length<lim by show _<16777216;lia];refine⟨ps++[((i:Int),(j:Int))],_,by simp[jb];rfl,rfl,λp hp=>?_,by simp;lia⟩;rcases fq.mp hp with hp|hp;.exact o p hp
             .rw[fm.mp hp];exact⟨by simp,X,by simp,Y,c4⟩
           .simp[U,Z,Gq,c4];exact⟨ps,_,rfl,rfl,o,by lia⟩
         .simp[U,Z,Qm,Lb,c1,c2,c3];exact⟨ps,_,rfl,rfl,o,by lia⟩
       .simp[U,Z,Qm,Lb,c1,c2];exact⟨ps,_,rfl,rfl,o,by lia⟩
     .simp[U,Qm,c1];exact⟨ps,_,rfl,rfl,o,by lia⟩
   .rintro _⟨ps,fW,rfl,C,o,hpl⟩;simp;exact⟨ps,_,_,rfl,⟨rfl,C⟩,o,by lia⟩
 rintro _⟨ps,fP,fW,rfl,⟨I,C⟩,o,hpl⟩;simp;refine aD (l:=Fb) (k:=4) rfl ?_;simp[qy];refine aD (l:=Fb) (k:=5) rfl ?_;simp;refine cG (adV vs T [.own ck [.int x,.int y,.int z],.val a_ A,.val a_ (.lst (pl.map Tr.d)),.val a_ (.int m),.val a_ (.int T),.val a_ (.tup (vs.map aX.d)),.val a_ (.tup (rooms.map cL)),.val a_ (.tup (wt.map wD)),.val a_ (.int N),.own a_ (ps.map jb),fP,fW]) ?_ ?_ ⟨[],pl,.aM,.aM,.aM,rfl,⟨rfl,rfl,rfl⟩,rfl,hp,jV.nil,by simpa using hl⟩;.rintro d r _⟨kvs,g,jL,pU,uP,rfl,⟨J,E,ab⟩,hr,G,H,O⟩;cases g with|nil=>cases hr|cons u g=>
     obtain⟨rfl,rfl⟩:d=u.d/\r=g.map Tr.d:=by simpa using hr
     simp at O;have f:=G u (by simp);simp[Tr.d,J,E,ab];apply aq;simp[nF,vA (show kvs.length<lim by show _<16777216;lia)];obtain⟨q1,q2⟩:=H.put (v:=u.l) (h:=u.h) (w:=u.w) ⟨f.h0,f.w0,f.w1,f.o1⟩;exact⟨_,g,_,_,_,rfl,⟨rfl,rfl,rfl⟩,rfl,λy hy=>G y (by simp[hy]),q1,by lia⟩
 rintro _⟨kvs,g,jL,pU,uP,rfl,⟨J,E,ab⟩,hr,G,H,O⟩;obtain rfl:g=[]:=by cases g with|nil=>rfl|cons a l=>cases hr
 simp at O;simp;have hL:((T+1).toNat:Int)=T+1:=by lia
 have Z4:=Es (T:=T) Qy;rw[af]at Z4;refine m7 (l:=Fb) (k:=6) rfl (λρ=>ρ=[.own ck [.int x,.int y,.int z],.val a_ A,.val a_ (.lst (pl.map Tr.d)),.val a_ (.int m),.val a_ (.int T),.val a_ (.tup (vs.map aX.d)),.val a_ (.tup (rooms.map cL)),.val a_ (.tup (wt.map wD)),.val a_ (.int N),.own a_ (ps.map jb),fP,fW,.dq (.t kvs),jL,pU,uP,.hold (mat vs.length (T+1).toNat (rm rooms)),.aM,.aM]) ?_ ?_
 . simp[Bp,show rooms.length<=lim by show _<=16777216;lia];rw[aQ];refine my (Jx [.own ck [.int x,.int y,.int z],.val a_ A,.val a_ (.lst (pl.map Tr.d)),.val a_ (.int m),.val a_ (.int T),.val a_ (.tup (vs.map aX.d)),.val a_ (.tup (rooms.map cL)),.val a_ (.tup (wt.map wD)),.val a_ (.int N),.own a_ (ps.map jb),fP,fW,.dq (.t kvs),jL,pU,uP,.aM,.aM,.aM]) (λd=>(items d).getD []) ⟨.aM,rfl,rfl⟩ ?_ ?_;.rintro d hd _⟨s,rfl,hs⟩;obtain⟨r,hr,rfl⟩:=eM.mp hd;have:=Qy r hr;simp[hs,cL,show r.length<=lim by show _<=16777216;lia];exact⟨_,rfl,rfl⟩
   .rintro _⟨s,rfl,hs⟩;rw[mv,Z4];simp
 rintro _ rfl;generalize ai:(T+1).toNat=L at*;refine m7 (l:=Fb) (k:=7) rfl (λρ=>∃(x z:Int)(kvs:List (List Int×Int))(F:Int->Int->Int)(fP fW jL pU wG:Sl),ρ=[.own ck [.int x,.int y,.int z],.val a_ A,.val a_ (.lst (pl.map Tr.d)),.val a_ (.int m),.val a_ (.int T),.val a_ (.tup (vs.map aX.d)),.val a_ (.tup (rooms.map cL)),.val a_ (.tup (wt.map wD)),.val a_ (.int N),.own a_ (ps.map jb),fP,fW,.dq (.t kvs),jL,pU,uP,.hold (mat vs.length L F),wG,.aM]/\jV vs T kvs/\kvs.length<=52) ?_ ?_
 . simp[nR];refine aR (by lia) (iW (by lia)) λe x z e0 e1=>?_;simp[wH,part,ni];have ec:∀(a b:Option Int)(us:List (Int×Int)),cut (us.map jb) a b=(cut us a b).map jb:=λa b us=>by unfold cut;simp
   rw[ec,ec];have hu:∀p∈cut (cut ps (aB e) b_) b_ (aB 1),PrH vs T p:=λp hp=>by
    have h1:p∈cut ps (aB e) b_:=by unfold cut at hp;exact o3 (o2 hp)
    unfold cut at h1;exact o p (o3 (o2 h1))
   have am:(cut (cut ps (aB e) b_) b_ (aB 1)).length<=1:=by unfold cut dR;simp;lia
   generalize cut (cut ps (aB e) b_) b_ (aB 1)=us at*;refine cG (acC vs T vs.length L [.own ck [.int x,.int y,.int z],.val a_ A,.val a_ (.lst (pl.map Tr.d)),.val a_ (.int m),.val a_ (.int T),.val a_ (.tup (vs.map aX.d)),.val a_ (.tup (rooms.map cL)),.val a_ (.tup (wt.map wD)),.val a_ (.int N),.own a_ (ps.map jb)] uP) ?_ ?_ ⟨kvs,_,us,_,_,_,_,.aM,rfl,⟨I,C,J⟩,⟨E,rfl⟩,rfl,hu,H,by lia⟩;.rintro d r _⟨kvs,F,g,fP,fW,jL,pU,wG,rfl,⟨I,C,J⟩,⟨E,W⟩,hr,Z5,H,O⟩;cases g with|nil=>cases hr|cons u QB=>
       obtain⟨rfl,rfl⟩:d=jb u/\r=QB.map jb:=by simpa using hr
       obtain⟨u1,u2,u3,u4,u5⟩:=Z5 u (by simp);have g1:=(hv _ (cP u1 u2).2).h0;have g2:=(hv _ (cP u3 u4).2).h0;simp at O;simp[jb,I,C];apply aq;simp[(cP u1 u2).1,(cP u3 u4).1,Gq,J];apply aq;simp[nR,(cP u1 u2).1,Gq];rw[show[D.tup [.int (T-(rd vs u.1).h-(rd vs u.2).h),.int u.1],D.tup [.int (T-(rd vs u.1).h-(rd vs u.2).h+(rd vs u.1).h),.int u.2]]=[(T-(rd vs u.1).h-(rd vs u.2).h,u.1),(T-(rd vs u.1).h-(rd vs u.2).h+(rd vs u.1).h,u.2)].map jb from rfl];refine cG (ab2 vs T vs.length L (kvs.length+2) [.own ck [.int x,.int y,.int z],.val a_ A,.val a_ (.lst (pl.map Tr.d)),.val a_ (.int m),.val a_ (.int T),.val a_ (.tup (vs.map aX.d)),.val a_ (.tup (rooms.map cL)),.val a_ (.tup (wt.map wD)),.val a_ (.int N),.own a_ (ps.map jb),.val a_ (.int u.1),.val a_ (.int u.2)] (.val a_ (.int (T-(rd vs u.1).h-(rd vs u.2).h))) uP) ?_ ?_ ⟨kvs,F,_,_,_,rfl,⟨E,W⟩,rfl,?_,H,by simp⟩;.rintro d r _⟨kvs,F,g,pU,wG,rfl,⟨E,W⟩,hr,G,H,O⟩;cases g with|nil=>cases hr|cons v g=>
           obtain⟨rfl,rfl⟩:d=jb v/\r=g.map jb:=by simpa using hr
           obtain⟨f0,f1,f2,f3⟩:=G v (by simp);have g3:=(hv _ (cP f1 f2).2).h0;simp at O;have ac:kvs.length<lim:=by show _<16777216;lia
           simp[jb,E,W];apply aq;simp[nF,vA ac];generalize hw:((kvs.find? λkv=>decide (kv.1=[v.1,v.2])).map (·.2)).getD 0+1=vw at*;obtain⟨q1,q2⟩:=H.put (v:=vw) (h:=v.1) (w:=v.2) ⟨f0,f1,f2,f3⟩;have ag:=Bs (k:=[v.1,v.2]) (v:=vw) H.nd;have hf:=m5 ag;have r1:rowAt (mat vs.length L F) v.2=aB (cY L (F v.2)):=uT (by lia) (by lia);have r2:at' (cY L (F v.2)) v.1=aB (.int (F v.2 v.1)):=iU (by lia) (by lia);have r3:∀q:Int,gA (mat vs.length L F) v.2 (setAt v.1 (.int q))=aB (mat vs.length L (up F v.2 v.1 q)):=λq=>vW (by lia) (by lia) (by lia) (by lia);symm;simp[Us,K4,r1,r2,hf,r3];refine⟨_,_,g,_,_,rfl,⟨rfl,rfl⟩,rfl,λy hy=>G y (by simp[hy]),q1,?_⟩;lia
       . rintro _⟨kvs,F,g,pU,wG,rfl,⟨E,W⟩,hr,G,H,ah⟩;obtain rfl:g=[]:=by cases g with|nil=>rfl|cons a l=>cases hr
         simp at ah;simp;exact⟨kvs,F,QB,_,_,_,_,_,rfl,⟨rfl,rfl,rfl⟩,⟨E,W⟩,rfl,λp hp=>Z5 p (by simp[hp]),H,by lia⟩
       . intro p hp;simp at hp;rcases hp with rfl|rfl;.exact⟨by show 0<=T-(rd vs u.1).h-(rd vs u.2).h;lia,u1,u2,by show T-(rd vs u.1).h-(rd vs u.2).h+(rd vs u.1).h<=T;lia⟩
         .exact⟨by show 0<=T-(rd vs u.1).h-(rd vs u.2).h+(rd vs u.1).h;lia,u3,u4,by show T-(rd vs u.1).h-(rd vs u.2).h+(rd vs u.1).h+(rd vs u.2).h<=T;lia⟩
   .rintro _⟨kvs,F,g,fP,fW,jL,pU,wG,rfl,⟨I,C,J⟩,⟨E,W⟩,hr,G,H,O⟩;exact⟨rfl,x,z,kvs,⟨F,_,_,_,_,_,rfl⟩,H,by lia⟩
 rintro _⟨x,z,kvs,F,fP,fW,jL,pU,wG,rfl,H,O⟩;refine aD (l:=Fb) (k:=8) rfl ?_;simp[Jv];refine aD (l:=Fb) (k:=9) rfl ?_;simp[show vs.length<=lim by show _<=16777216;lia];refine eU (Jx [.own ck [.int x,.int y,.int z],.val a_ A,.val a_ (.lst (pl.map Tr.d)),.val a_ (.int m),.val a_ (.int T),.val a_ (.tup (vs.map aX.d)),.val a_ (.tup (rooms.map cL)),.val a_ (.tup (wt.map wD)),.val a_ (.int N),.own a_ (ps.map jb),fP,fW,.dq (.t kvs),jL,pU,uP,.val a_ (.lst ((mat vs.length L F).map D.lst)),wG,.aM]) D.lst D.tup ⟨.aM,rfl,rfl⟩ ?_ ?_;.rintro r hr _⟨s,rfl,hs⟩;simp[hs];exact⟨_,rfl,rfl⟩
 rintro _⟨s,rfl,hs⟩;rw[GC];simp;refine aD (l:=Fb) (k:=10) rfl ?_;simp[P0,Cq (show kvs.length<=60 by lia),xx (show kvs.length<=60 by lia) H];refine⟨λ_=>?_,CG (by lia)⟩;refine yt (l:=[.own ck [.int x,.int y,.int z],.val a_ A,.val a_ (.lst (pl.map Tr.d)),.val a_ (.int m),.val a_ (.int T),.val a_ (.tup (vs.map aX.d)),.val a_ (.tup ((tL vs.length L F).map cL)),.val a_ (.tup (wt.map wD)),.val a_ (.int N),.own a_ (ps.map jb),fP,fW,.val a_ (.cZ (.t kvs)),jL,pU,uP,.val a_ (.lst ((mat vs.length L F).map D.lst)),wG,.aM]) (i:=12) H rfl rfl rfl λQz s u ap ar=>?_;simp;refine aD (l:=Fb) (k:=11) rfl ?_;simp;refine k (tL vs.length L F) Qz x z ⟨m0,m1,t0,t1,ae,hv,by simp[tL],λr hr=>?_⟩ (by lia);unfold tL at hr;obtain⟨p,_,rfl⟩:=eM.mp hr;simp;lia
theorem m9{pl:List Tr}{a b:Option Int}:cut (pl.map Tr.d) a b=(cut pl a b).map Tr.d:=by unfold cut;simp
theorem Xe{pl:List Tr}{a b:Option Int}:(cut pl a b).length<=pl.length:=by unfold cut;simp;lia
theorem TQ{pl:List Tr}(h:0<=a):(cut pl b_ (aB a)).length<=a.toNat:=by unfold cut dR;simp[h];lia
theorem sy{pl:List Tr}(h:0<=a):(cut pl (aB a) b_).length<=pl.length-a.toNat:=by unfold cut dR;simp[h];lia
theorem Mz{pl:List Tr}(h:0<=a):(cut pl (aB a) (aB (a+2))).length<=2:=by unfold cut dR;simp[h,show 0<=a+2 by lia];lia
theorem LQ:blt .Kf [.lst ds]=aB (.own ds.reverse):=rfl
noncomputable def tl(l:List Tr):D:=.lst (l.map Tr.d)
theorem adw{fs:List (List Tr)}{f:List Tr}:(fs.map tl++[.lst (f.map Tr.d)])=(fs++[f]).map tl:=by simp[tl]
noncomputable def Zq(vs:List aX)(e:Int)(d:D):Option D:=if(zH d).h+(rd vs (zH d).w).h<=e then aB d else b_
theorem acw{vs:List aX}{e:Int}{pl:List Tr}:(pl.map Tr.d).filterMap (Zq vs e)=(pl.filter λx=>decide (x.h+(rd vs x.w).h<=e)).map Tr.d:=by induction pl with|nil=>rfl|cons x pl b=>
   rw[er,i5,List.filter_cons];have h:Zq vs e x.d=if x.h+(rd vs x.w).h<=e then aB x.d else b_:=rfl;rw[h];by_cases c:x.h+(rd vs x.w).h<=e;.simp only[if_pos c,c,decide_true,if_true,er,b]
   .simp only[if_neg c,c,decide_false,b];simp
inductive P60(y:Int)(l:List Sl)(ρ:List Sl):Prop where|mk(x z:Int)(s:Sl)(q0:ρ=.own ck [.int x,.int y,.int z]::(l++[s]))(q1:fr s=ck)
noncomputable def Lx(m T:Int)(vs:List aX)(wd:D)(d:D):Prop:=∃(rooms:List (List Int))(pl:List Tr),gU m T vs rooms/\pl.length<=60/\d=.tup [bI m T vs rooms wd,.lst (pl.map Tr.d)]
inductive M60(y:Int)(B:Nat)(l:List Sl)(l2:List Sl)(ρ:List Sl):Prop where|mk(x z:Int)(fs:List (List Tr))(s9 fP fW s12 jL:Sl)(q0:ρ=.own ck [.int x,.int y,.int z]::(l++[.own a_ (fs.map tl),s9,fP,fW,s12,jL]++l2))(q1:(∀f∈fs,f.length<=60))(q2:fs.length<=B)
inductive acv(B:Nat)(l l2:List Sl)(r:List D)(ρ:List Sl):Prop where|mk(fs:List (List Tr))(rest:List Tr)(jL:Sl)(q0:ρ=l++(.own a_ (fs.map tl)::l2)++[jL,.aM,.aM])(q1:fr jL=ck)(q2:r=rest.map Tr.d)(q3:(∀f∈fs,f.length<=60))(q4:fs.length+2*rest.length<=B)
theorem Ar{x T:Int}{vs:List aX}{pl:List Tr}(ok:gU m T vs rooms)(hp:∀x∈pl,fB vs T x)(hl:pl.length<=50)(k:∀(ds:List D)(x z:Int),(∀d∈ds,Lx m T vs (.tup (wt.map wD)) d)->Q (.own ds) [.own ck [.int x,.int y,.int z],.val a_ (bI m T vs rooms (.tup (wt.map wD))),.val a_ (.lst (pl.map Tr.d))]):(run Γ w (n+3) 27 [.own ck [.int x,.int y,.int z],.val a_ (bI m T vs rooms (.tup (wt.map wD))),.val a_ (.lst (pl.map Tr.d))]).sat Q:=by
 have m0:=ok.m0;have m1:=ok.m1;have t0:=ok.t0;have t1:=ok.t1;have ab:=ok.vl;have hv:=ok.hv;refine bh (d:=f27) rfl rfl (by decide) ?_;refine aD (l:=Gr) (k:=0) rfl ?_;simp[f27];simp only[bI];simp;rw[show(D.tup [.int m,.int T,.tup (vs.map aX.d),.tup (rooms.map cL),.tup (wt.map wD)])=bI m T vs rooms (.tup (wt.map wD))from rfl];generalize Ku:bI m T vs rooms (.tup (wt.map wD))=g at*;refine aD (l:=Gr) (k:=1) rfl ?_;simp;refine aD (l:=Gr) (k:=2) rfl ?_;simp;refine aR (by lia) (iW (by lia)) λa x z O a1=>?_;simp;refine m7 (l:=Gr) (k:=3) rfl (M60 y 40 [.val a_ g,.val a_ (.lst (pl.map Tr.d)),.val a_ (.int m),.val a_ (.int T),.val a_ (.tup (vs.map aX.d)),.val a_ (.tup (rooms.map cL)),.val a_ (.tup (wt.map wD))] [.aM,.aM]) ?_ ?_
 . by_cases c:a<(pl.length:Int)
   . have hk:a.toNat<pl.length:=by lia
     have U:at' (pl.map Tr.d) a=aB (Tr.d pl[a.toNat]):=by rw[eG O (by simpa using c)];simp[hk]
     generalize pl[a.toNat]=u at U;simp[c];apply aq;simp[U,Tr.d];apply aq;simp;have b1:=TQ (pl:=pl) O;have b2:=sy (pl:=pl) (a:=a+1) (by lia);have b3:=sy (pl:=pl) O;have b4:=sy (pl:=pl) (a:=a+2) (by lia);have b5:=Mz (pl:=pl) O;have lA:∀v:Tr,(cut pl b_ (aB a)++[v]++cut pl (aB (a+1)) b_).length<=52:=λv=>by simp;lia
     refine cG (acv 30 [.own ck [.int x,.int y,.int z],.val a_ g,.val a_ (.lst (pl.map Tr.d)),.val a_ (.int m),.val a_ (.int T),.val a_ (.tup (vs.map aX.d)),.val a_ (.tup (rooms.map cL)),.val a_ (.tup (wt.map wD))] [.val a_ (.int a),.val a_ (.int u.h),.val a_ (.int u.w),.val a_ (.int u.l)]) ?_ ?_ ⟨[pl,[]],[⟨u.h+1,u.w,u.l⟩,⟨u.h-1,u.w,u.l⟩,⟨u.h,u.w+1,u.l⟩,⟨u.h,u.w-1,u.l⟩,⟨u.h,u.w,u.l+1⟩,⟨u.h,u.w,u.l-1⟩,⟨u.h,u.w,-u.l⟩,⟨u.h+13,u.w,u.l⟩,⟨u.h-T-1,u.w,u.l⟩,⟨100000000000000000000000000000,u.w,u.l⟩,⟨u.h,u.w-vs.length,u.l⟩,⟨u.h,100000000000000000000000000000,u.l⟩,⟨u.h,u.w,u.l+100000000000000000000000000000⟩],.aM,rfl,rfl,rfl,by simp;lia,by simp⟩;.rintro d r _⟨fs,b,jL,rfl,I,hr,q,A⟩;cases b with|nil=>cases hr|cons v b=>
         obtain⟨rfl,rfl⟩:d=v.d/\r=b.map Tr.d:=by simpa using hr
         simp at A;have l1:=lA v;obtain⟨ks,f1,f2,_⟩:=Bx (pl:=cut pl b_ (aB a)++[v]++cut pl (aB (a+1)) b_);have C:blt .sorted [.lst ((cut pl b_ (aB a)++[v]++cut pl (aB (a+1)) b_).map Tr.d)]=aB (.own (ks.map Tr.d)):=by show(if _ then _ else _)=_;rw[if_pos (nU (by lia)),f1]
         have l2:=f2.length_eq;have G:(cut pl b_ (aB a)).length+1<=lim:=by show _<=16777216;lia
         have H:(cut pl b_ (aB a)).length+1+(cut pl (aB (a+1)) b_).length<=lim:=by show _<=16777216;lia
         have J:fs.length<lim:=by show _<16777216;lia
         have g4:fs.length+1<lim:=by show _<16777216;lia
         simp at C;simp[I];apply aq;simp[wH,part,ni,m9,G,H,J];apply aq;simp[wH,part,ni,m9,G,H,g4,C];refine⟨fs++[cut pl b_ (aB a)++[v]++cut pl (aB (a+1)) b_]++[ks],b,.val a_ v.d,by simp[tl],rfl,rfl,λf e=>?_,by simp;lia⟩;simp at e;rcases e with e|rfl|rfl;.exact q f e
         .simp;lia
         .lia
     . rintro _⟨fs,b,jL,rfl,I,hr,q,A⟩;obtain rfl:b=[]:=by cases b with|nil=>rfl|cons a l=>cases hr
       simp at A;have ha:(cut pl b_ (aB a)).length+(cut pl (aB (a+1)) b_).length<=lim:=by show _<=16777216;lia
       have C:(cut pl b_ (aB a)).length+1<=lim:=by show _<=16777216;lia
       have hc:(cut pl b_ (aB a)).length+1+(cut pl (aB a) b_).length<=lim:=by show _<=16777216;lia
       have hd:(cut pl b_ (aB a)).length+(cut pl (aB a) (aB (a+2))).length<=lim:=by show _<=16777216;lia
       have he:(cut pl b_ (aB a)).length+(cut pl (aB a) (aB (a+2))).length+(cut pl (aB (a+2)) b_).length<=lim:=by show _<=16777216;lia
       have G:fs.length<lim:=by show _<16777216;lia
       have H:fs.length+1<lim:=by show _<16777216;lia
       have J:fs.length+1+1<lim:=by show _<16777216;lia
       simp;apply aq;simp[wH,part,ni,m9,ha,G];apply aq;simp[wH,part,ni,m9,U,C,hc,H];apply aq;simp[wH,part,ni,m9,hd,he,J,LQ];refine⟨x,z,fs++[cut pl b_ (aB a)++cut pl (aB (a+1)) b_,cut pl b_ (aB a)++[u]++cut pl (aB a) b_,cut pl b_ (aB a)++(cut pl (aB a) (aB (a+2))).reverse++cut pl (aB (a+2)) b_],.val a_ (.int a),.val a_ (.int u.h),.val a_ (.int u.w),.val a_ (.int u.l),jL,by simp[tl,Tr.d],λf e=>?_,by simp;lia⟩;simp at e;rcases e with e|rfl|rfl|rfl;.exact q f e
       .simp;lia
       .simp;lia
       .simp;lia
   .simp[c];exact⟨x,z,[pl,[]],_,_,_,_,_,rfl,by simp;lia,by simp⟩
 rintro _⟨x,z,fs,s9,fP,fW,s12,jL,rfl,q,A⟩;refine aD (l:=Gr) (k:=4) rfl ?_;simp;refine aR (by lia) (iW (by lia)) λe1 x z _ _=>?_;simp;refine aR (by lia) (iW (by lia)) λe2 x z _ _=>?_;simp;refine aR (by lia) (iW (by lia)) λe3 x z _ _=>?_;simp;generalize W:(⟨e1,e2,1+e3⟩:Tr)=o;have X:D.tup [.int e1,.int e2,.int (1+e3)]=o.d:=by rw[<-W];rfl
 rw[X];obtain⟨ks,f1,f2,_⟩:=Bx (pl:=pl++[o]);have C:blt .sorted [.lst ((pl++[o]).map Tr.d)]=aB (.own (ks.map Tr.d)):=by show(if _ then _ else _)=_;rw[if_pos (nU (by simp;lia)),f1]
 simp at C;have Y:=f2.length_eq;simp at Y;have g0:pl.length+1<=lim:=by show _<=16777216;lia
 have G:fs.length<lim:=by show _<16777216;lia
 have H:fs.length+1<lim:=by show _<16777216;lia
 have J:fs.length+1+1<lim:=by show _<16777216;lia
 refine aD (l:=Gr) (k:=5) rfl ?_;simp[g0,C,G];refine aD (l:=Gr) (k:=6) rfl ?_;simp[g0,H];refine aD (l:=Gr) (k:=7) rfl ?_;simp;refine aR (by lia) (iW (by lia)) λE x z _ _=>?_;simp;refine aD (l:=Gr) (k:=8) rfl ?_;simp;refine⟨λ_=>?_,by show _<=16777216;lia⟩;refine uv (Jx [.own ck [.int x,.int y,.int z],.val a_ g,.val a_ (.lst (pl.map Tr.d)),.val a_ (.int m),.val a_ (.int T),.val a_ (.tup (vs.map aX.d)),.val a_ (.tup (rooms.map cL)),.val a_ (.tup (wt.map wD)),.own a_ (fs.map tl++[.lst (ks.map Tr.d),.lst (pl.map Tr.d++[o.d])]),s9,fP,fW,s12,jL,.val a_ o.d,.val a_ (.int E)]) (Zq vs E) ⟨.aM,rfl,rfl⟩ ?_ ?_
 . rintro d hd _⟨s,rfl,hs⟩;obtain⟨u,hu,rfl⟩:=eM.mp hd;have f:=hp u hu;by_cases c:u.h+(rd vs u.w).h<=E;.simp[hs,JG,xH,(cP f.w0 f.w1).1,Gq,c,Zq];exact⟨_,rfl,rfl⟩
   .simp[hs,JG,xH,(cP f.w0 f.w1).1,Gq,c,Zq];exact⟨_,rfl,rfl⟩
 rintro _⟨s,rfl,hs⟩;rw[acw];have ac:(pl.filter λx=>decide (x.h+(rd vs x.w).h<=E)).length<=pl.length:=List.length_filter_le _ _;generalize(pl.filter λx=>decide (x.h+(rd vs x.w).h<=E))=N at*;have e9:fs.map tl++[.lst (ks.map Tr.d),.lst (pl.map Tr.d++[o.d]),.lst (N.map Tr.d)]=(fs++[ks,pl++[o],N]).map tl:=by simp[tl]
 simp[J];rw[e9];have hg:∀f∈fs++[ks,pl++[o],N],f.length<=60:=λf e=>by
  simp at e;rcases e with e|rfl|rfl|rfl;.exact q f e
  .lia
  .simp;lia
  .lia
 have ae:(fs++[ks,pl++[o],N]).length<=43:=by simp;lia
 generalize fs++[ks,pl++[o],N]=gs at*;refine aD (l:=Gr) (k:=9) rfl ?_;simp[show gs.length<=lim by show _<=16777216;lia];refine eU (Jx [.own ck [.int x,.int y,.int z],.val a_ g,.val a_ (.lst (pl.map Tr.d)),.val a_ (.int m),.val a_ (.int T),.val a_ (.tup (vs.map aX.d)),.val a_ (.tup (rooms.map cL)),.val a_ (.tup (wt.map wD)),.lent (gs.map tl),s9,fP,fW,s12,jL,.val a_ o.d,.val a_ (.int E)]) tl (λf=>D.tup [g,.lst (f.map Tr.d)]) ⟨.aM,rfl,rfl⟩ ?_ ?_;.rintro f e _⟨s,rfl,hs⟩;simp[hs,tl];exact⟨_,rfl,rfl⟩
 rintro _⟨s,rfl,hs⟩;simp;refine⟨λ_=>?_,by show 2<=16777216;lia⟩;refine tX (P60 y [.val a_ g,.val a_ (.lst (pl.map Tr.d)),.val a_ (.int m),.val a_ (.int T),.val a_ (.tup (vs.map aX.d)),.val a_ (.tup (rooms.map cL)),.val a_ (.tup (wt.map wD)),.own a_ (gs.map tl),s9,fP,fW,s12,jL,.val a_ o.d,.val a_ (.int E)]) (Lx m T vs (.tup (wt.map wD))) ⟨x,z,.aM,rfl,rfl⟩ ?_ ?_;.rintro d hd _⟨x,z,s,rfl,hs⟩;obtain⟨j,hj,rfl⟩:=eM.mp hd;simp[hs];rw[<-Ku];refine Jz ok hp hl λsU Qz x z h1 h2=>?_;simp;exact⟨⟨sU,Qz,h1,by lia,rfl⟩,x,z,_,rfl,rfl⟩
 rintro xs _⟨x,z,s,rfl,hs⟩Z hx;simp at Z;simp;refine⟨by show _<=16777216;lia,?_⟩;refine k _ x z λd hd=>?_;rcases fq.mp hd with hd|hd;.obtain⟨f,e,rfl⟩:=eM.mp hd;exact⟨rooms,f,ok,hg f e,by rw[Ku]⟩
 .exact hx d hd
theorem Nb{e:List Int}{a b:Option Int}:cut (e.map D.int) a b=(cut e a b).map D.int:=by unfold cut;simp
theorem acN{pl:List Tr}:jm 8 (.lst (pl.map Tr.d))=ck:=by show(pl.map Tr.d).all (jm 7)=ck;rw[eB];intro d hd;obtain⟨x,_,rfl⟩:=eM.mp hd;rfl
theorem XN:∀{pl:List Tr},jB (pl.map Tr.d) (pl.map Tr.d)=ck|[]=>rfl|x::pl=>by show(((x.h==x.h)&&((x.w==x.w)&&((x.l==x.l)&&ck)))&&jB (pl.map Tr.d) (pl.map Tr.d))=ck;rw[XN];simp
theorem Ce{pl:List Tr}:cm .ne (.lst (pl.map Tr.d)) (.lst (pl.map Tr.d))=aB a_:=by show(if jm 8 (.lst (pl.map Tr.d))&&jm 8 (.lst (pl.map Tr.d))then aB (!jB (pl.map Tr.d) (pl.map Tr.d))else b_)=_;rw[acN,XN];rfl
inductive acD(m T:Int)(vs:List aX)(wd:D)(l:List Sl)(r:List D)(ρ:List Sl):Prop where|mk(s5:Sl)(s6:Sl)(s7:Sl)(s8:Sl)(s9:Sl)(q0:ρ=l++[s5,s6,s7,s8,s9])(q1:A3 (fr s5=ck) (fr s6=ck) (fr s7=ck))(q2:(fr s8=ck/\fr s9=ck))(q3:∀d∈r,Lx m T vs wd d)
inductive J60(v:Sl)(r:List D)(ρ:List Sl):Prop where|mk(s1:Sl)(s2:Sl)(s3:Sl)(s4:Sl)(s5:Sl)(s6:Sl)(s7:Sl)(s8:Sl)(s9:Sl)(q0:ρ=[v,s1,s2,s3,s4,s5,s6,s7,s8,s9])(q1:A4 (fr s1=ck) (fr s2=ck) (fr s3=ck) (fr s4=ck))(q2:A5 (fr s5=ck) (fr s6=ck) (fr s7=ck) (fr s8=ck) (fr s9=ck))(q3:∀d∈r,∃i,d=D.int i)
inductive adC(ns:List Int)(_:Nat)(ρ:List Sl):Prop where|mk(cs:List Int)(s:Sl)(q0:ρ=[.own a_ (ns.map D.int),.val a_ (.int 20),.own a_ (cs.map D.int),s])(q1:fr s=ck)(q2:cs.length=20)
theorem zZ{ns:List Int}(hn:ns.length<=63)(k:∀b:List Int,b.length<=20->Q (.own (b.map D.int)) [.own a_ (ns.map D.int),.val a_ (.int 20)]):(run Γ w (n+1) 30 [.own a_ (ns.map D.int),.val a_ (.int 20)]).sat Q:=by
 refine bh (d:=f30) rfl rfl (by decide) ?_;symm;simp[f30];refine⟨by show 20<=16777216;lia,?_⟩;symm;simp;refine⟨by lia,?_⟩;refine dJ (g:=λ(k:Nat)=>D.int (k:Int)) (adC ns) ?_ ?_ ⟨dA 20 0,.aM,by simp,rfl,by simp⟩
 . rintro i _ hi⟨b,s,rfl,hs,hc⟩;have r:0<=(i:Int)%20:=nX _ (by decide);have u:(i:Int)%20<20:=kA _ (by decide);obtain⟨j,e,f⟩:∃j,(i:Int)%20=j/\j.toNat<b.length:=⟨_,rfl,by lia⟩;have l:at' (b.map D.int) j=aB (.int b[j.toNat]):=by rw[eG (by lia) (by simp;lia)];simp[f]
   have o:at' (ns.map D.int) (i:Int)=aB (.int ns[i]):=by rw[eG (by lia) (by simp;lia)];simp[hi]
   have q:lD b.length j=aB j.toNat:=by unfold lD;rw[if_pos (by lia),if_pos (by lia)]
   simp[hs];apply aq;simp[e,l,o,q];exact⟨b.set j.toNat (b[j.toNat]*1000003+ns[i]),.val a_ (.int i),by simp[List.map_set],rfl,by simpa using hc⟩
 .rintro _⟨b,s,rfl,hs,hc⟩;symm;simp[wH,part,ni,Nb];exact k _ (by unfold cut;simp;lia)
theorem Nr(ns:List Int)(hn:ns.length<=63):∃as,run Γ 100000000 40 31 [.val a_ (.lst (ns.map D.int))]=.ok (.val (.bl ck)) as:=by
 suffices h:∀w,(run Γ w 40 31 [.val a_ (.lst (ns.map D.int))]).sat λr _=>r=.val (.bl ck)by obtain⟨a,ρ,e,rfl⟩:=sat_iff.mp (h 100000000);exact⟨ρ,e⟩
 intro w;refine bh (d:=f31) rfl rfl (by decide) ?_;symm;have X:cut (ns.map D.int) b_ (aB 63)=ns.map D.int:=by unfold cut dR;simp;exact jU (by simp;lia)
 simp[f31,wH,part,ni,X];refine zZ hn λY Z=>?_;have hl:1+Y.length<=lim:=by show _<=16777216;lia
 simp[hl];refine cG (J60 (.val a_ (.lst (ns.map D.int)))) ?_ ?_ ?_
 . rintro d r _⟨s1,s2,s3,s4,s5,s6,s7,s8,s9,rfl,⟨h1,h2,h3,h4⟩,⟨u,A,C,E,q⟩,hd⟩;obtain⟨x,rfl⟩:=hd d (by simp);simp[h1];apply aq;simp;refine J6 λa b c=>?_;simp[h2];apply aq;simp;refine JH λm T vs rooms wt ab pl x z ok hP hpl ac G J ae=>?_;have o:∀(p:Nat)(r:List Int),wt[p]?=aB (aB r)->(r.length:Int)=T:=λp r e=>(J p _ e r rfl).1;have N:IK m wt:=⟨G,λp r e=>by have:=o p r e;have:=ok.t1;lia⟩;rw[show(D.tup [.int m,.int T,.tup (vs.map aX.d),.tup (rooms.map cL),.tup (wt.map wD)])=bI m T vs rooms (.tup (wt.map wD))from rfl];simp[h3,h4];apply aq;simp;refine Ar ok hP.fit (by lia) λds x z g=>?_;simp;refine cG (acD m T vs (.tup (wt.map wD)) [.val a_ (.lst (ns.map D.int)),.val a_ (.int _),.own a_ [.int x,.int _,.int z],.val a_ (bI m T vs rooms (.tup (wt.map wD))),.val a_ (.lst (pl.map Tr.d))]) ?_ ?_ ⟨_,_,_,_,_,rfl,⟨u,A,C⟩,⟨E,q⟩,g⟩
   . rintro d r _⟨s5,s6,s7,s8,s9,rfl,⟨u,A,C⟩,⟨E,q⟩,g⟩;obtain⟨sU,Qz,f,H,rfl⟩:=g d (by simp);have U:∀d∈r,Lx m T vs (.tup (wt.map wD)) d:=λd h=>g d (by simp[h]);simp[u,A];apply aq;simp[C,show Qz.length<=lim by show _<=16777216;lia];apply aq;simp;refine zJ f G o H λr1 j=>?_;rw[M4 f o]at j;simp[E];apply aq;simp;refine vB f N (.inl ⟨_,rfl⟩) (by lia) λb1 O=>?_;obtain rfl:b1=r1:=by rw[gy,O,j]
     simp;refine mF ?_;simp;apply aq;cases b1 with|false=>
       simp[q];apply aq;simp;refine mW f N (.inl ⟨_,rfl⟩) (by lia) λb2 l=>?_;obtain rfl:b2=a_:=by cases b2 with|false=>rfl|true=>exact absurd (j.mpr ⟨(l.mp rfl).1.right,(l.mp rfl).2⟩) (by simp)
       simp;refine mF ?_;simp[Ce];exact⟨_,_,_,_,_,rfl,⟨rfl,rfl,rfl⟩,⟨rfl,rfl⟩,U⟩|true=>
       have W:=j.mp rfl;simp;refine yX f (qR f.rl W.1) H λc1 I=>?_;rw[Jg f W]at I;simp[q];apply aq;simp;refine mW f N (.inl ⟨_,rfl⟩) (by lia) λb2 l=>?_;obtain rfl:b2=c1:=by rw[gy,l,I]
       simp;refine mF ?_;simp[Ce];exact⟨_,_,_,_,_,rfl,⟨rfl,rfl,rfl⟩,⟨rfl,rfl⟩,U⟩
   .rintro _⟨s5,s6,s7,s8,s9,rfl,⟨u,A,C⟩,⟨E,q⟩,g⟩;simp;exact⟨_,_,_,_,_,_,_,_,_,rfl,⟨rfl,rfl,rfl,rfl⟩,⟨u,A,C,E,q⟩,λd h=>hd d (fv _ h)⟩
 .rintro _⟨s1,s2,s3,s4,s5,s6,s7,s8,s9,rfl,_,_,hd⟩;symm;simp
 . refine⟨.aM,.aM,.aM,.aM,.aM,.aM,.aM,.aM,.aM,rfl,⟨rfl,rfl,rfl,rfl⟩,⟨rfl,rfl,rfl,rfl,rfl⟩,λd hd=>?_⟩;simp at hd;rcases hd with rfl|⟨i,_,rfl⟩;.exact⟨_,rfl⟩
   .exact⟨_,rfl⟩
end _T
end
structure PySem.W.Fast:Prop where(tw11788046790011653845 tw507924212465916505 tw14907172221716416245 tw4913090329752789210 tw124424612780429610 tw5609564486176187781 tw1170165298154498350 tw5393794884467152746 tw16507353071207544725 tw18340359863625109416 tw18281840948934056829 tw8294842647720853721 tw25647897741359923 tw16377526673630770081 tw9240786614325118424 tw5035071961548495501 tw3152197315838426453 tw11730344019601695311 tw6318573102155125313 tw1249060004053717643 tw17552226486077589842 tw18307608871603499932 tw9633875870924867916 tw15126357052843835563 tw11924705396699997885 tw15052435632236651660 tw8490015257562301668 tw8387947218730344969 tw2743490200122936696 tw13553521036402222387 tw18342644275803235501 tw11842537088375069569 tw10859653958812835130 tw12950180198291113574 tw1394365443830349921 tw12660990361298696886 tw15643711315100332662 tw4859471642084250408 tw13381058685329134767 tw10575500044120757974 tw1153665891161630285 tw16277962517261970063 tw13788686823540345862 tw8393422405968966047 tw18122841377556159108 tw13309118995966441379 tw18334516196326040708 tw3994845597938715051 tw16879012595851200065 tw2416675743367735532 tw14669151060797572082 tw10520658431272605605 tw4718183597530742806 tw8438564283171595357 tw15717479701585806920 tw5606073074397721784 tw10177626562683694171 tw3494064102454932675 tw13798029889134499013 tw1641227394022020052 tw7869163916877452670 tw11341553777679083597 tw5887492581021270018 tw13322895035106064200 tw7516338820278658245 tw11141729845556032019 tw4970768144209980804 tw14722219875933508666 tw796427908465942632 tw4820784412120214528 tw17663164849485422091 tw17187004120336203272 tw1963122026962980129 tw3518025156659977215 tw18047920624814751900 tw8950666356558848466 tw7588547919389989267 tw14398823323463986572 tw18210763200479346384 tw1273320057805239720 tw5611844774149408076 tw11806580820624382818 tw14576100700864930840 tw7065236614037986428 tw8171914279611375224 tw15204716045085737112 tw1623711748930501230 tw15241064137865123175 tw12785338404254641676 tw17650359555798426868 tw9063251599970762418 tw3662381986353717230 tw2801915224191042006 tw11697590204254980311 tw8469651377272755504 tw17873790396400339830 tw10486916252613030858 tw17484514257508236032 tw13283186728676245339 tw12523560288898133664 tw6707911545032338213 tw12433463231078033352 tw13376589533940877083 tw1262828973822677804 tw16161378519255669558 tw9678268809486991687 tw17852800942845165210 tw3908618783559665872 tw4799245956992904304 tw16407298956825542178 tw16352509492081083083 tw3761974411771668148 tw9767697719927214506 tw15177256843714102032 tw11263257379708481313 tw3891668204643326432 tw72315068634246421 tw14825870073958834939 tw13369039928907995828 tw11333317538065980383 tw3176742587872128412 tw3999086933541099944 tw11446820030273835403 tw11368791715102381339 tw14934776903618026011 tw5681034032133272472 tw16499872811896768923 tw7611006281238714862 tw5610493934701646151 tw10901279106407938029 tw17165684452903879631 tw13119571962160402457 tw15298484654568236932 tw4476113616382076071 tw1642198814125896410 tw1866406799401116997 tw11020156970765798538 tw14459313321560276886 tw9943100350123853897 tw6975676841200689023 tw13872883380053799904 tw3781706077673527085 tw551630852881729960 tw7050643227407065857 tw4990098777333535566 tw3569363453144980681 tw5887683996001098189 tw13086526531613663146 tw10394047896206302522 tw14423001420500082608 tw2514838084741970028 tw8769036670135212981 tw4583703666826266399 tw6994614736062021055 tw15559932101409715999 tw8759006304434483736 tw15588417195106011313 tw17330988513876116749 tw13917213523344966177 tw1171873608697498798 tw12910875974237035853 tw12208334002314255618 tw5902661766371159210 tw16011496373191659206 tw994691169352843020 tw6266330316406849483 tw1969776359423223719 tw3456247856765212246 tw8880090491104494717 tw15260390617842547759 tw15462399624225841232 tw15612677061975974589 tw7550425284760211502 tw6591091005540274258 tw130014543386176875 tw3212001344961355109 tw17607953381223694783 tw8471067057049391456 tw16305054828774342833 tw3163400819664822704:True)
namespace _T
open PySem _L Spec PyProof.Rows _H
theorem Yb{P:List c_ → Prop}{n:Nat}(h:∀(a:c_)(b:List c_),b.length=n → P (a::b))(b:List c_)(c:b.length=n+1):P b:=by cases b with|nil=>cases c|cons a b=>exact h a b (Nat.succ.inj c)
theorem lk0{P:List c_ → Prop}(h:P [])(b:List c_)(c:b.length=0):P b:=by cases b with|nil=>exact h|cons a b=>cases c
theorem DG{P:List c_ → Prop}(h:∀a,P [a]):∀b:List c_,b.length=1 → P b:=Yb λa=>lk0 (h a)
theorem pR{P:List c_ → Prop}(h:∀a b,P [a,b]):∀c:List c_,c.length=2 → P c:=Yb λa=>DG (h a)
theorem vN{P:List c_ → Prop}(h:∀a b c,P [a,b,c]):∀e:List c_,e.length=3 → P e:=Yb λa=>pR (h a)
theorem Gx{P:List c_ → Prop}(h:∀a b c d,P [a,b,c,d]):∀e:List c_,e.length=4 → P e:=Yb λa=>vN (h a)
theorem lk5{P:List c_ → Prop}(h:∀a b c d e,P [a,b,c,d,e]):∀f:List c_,f.length=5 → P f:=Yb λa=>Gx (h a)
local macro_rules|`(term|‹$p›)=>`(λ_ _ _ _ _ _=>$p)
structure Txt(K:PySem.W.Frag):Prop where
 D0:cH K "is_rising" s0
 D1:cH K "hour_out" s1
 D2:cH K "is_plan" s2
 D3:cH K "triple_fits" s3
 D4:cH K "changes_at" s4
 D5:cH K "never_short" s5
 D6:cH K "plan_right" s6
 D7:cH K "is_clean_way" s7
 D8:cH K "plan_clean" s8
 D9:cH K "stands_at" s9
 D10:cH K "roomiest_net" fP
 D11:cH K "within_hours_rooms" fW
 D12:cH K "within_waits" s12
 D13:cH K "hours_hold" jL
 D14:cH K "cal_right" pU
 D15:cH K "cal_clean" uP
 D16:cH K "cal_stands" s16
 D17:cH K "_law_pool" wG
 D18:cH K "_law_next" s18
 D19:cH K "_law_wide" s19
 D20:cH K "_law_roads" s20
 D21:cH K "_law_route" s21
 D22:cH K "_law_flow" s22
 D23:cH K "_law_stocks" s23
 D24:cH K "_law_case" s24
 D25:cH K "_law_right" s25
 D26:cH K "_law_clean" s26
 D27:cH K "_law_others" s27
 D28:cH K "_law_home" s28
 D29:cH K "_law_truth" s29
 D30:cH K "_law_folded" s30
 D31:cH K "law" s31
 Kr:PySem.W.nsIn K en "abs"=aB b_
 dF:PySem.W.nsIn K en "all"=aB b_
 Be:PySem.W.nsIn K en "bool"=aB b_
 lB:PySem.W.nsIn K en "enumerate"=aB b_
 Ks:PySem.W.nsIn K en "int"=aB b_
 jQ:PySem.W.nsIn K en "isinstance"=aB b_
 cT:PySem.W.nsIn K en "len"=aB b_
 iY:PySem.W.nsIn K en "list"=aB b_
 ou:PySem.W.nsIn K en "max"=aB b_
 oA:PySem.W.nsIn K en "min"=aB b_
 aO:PySem.W.nsIn K en "range"=aB b_
 dz:PySem.W.nsIn K en "sorted"=aB b_
 Kq:PySem.W.nsIn K en "sum"=aB b_
 dX:PySem.W.nsIn K en "tuple"=aB b_
 oh:PySem.W.nsIn K en "zip"=aB b_
noncomputable def lM{K:PySem.W.Frag}(T:Txt K):Nat->df:=λk=>0
structure Oks(Pg:d_)(w:fb)(K:PySem.W.Frag)(mg:Str->Option c_)(base:fk)(cl:Nat->df)(n:Nat):Prop where
 c0:bD Pg w K mg base n (run Γ 100000000 n) 0 "is_rising" 1
 c1:bD Pg w K mg base n (run Γ 100000000 n) 1 "hour_out" 3
 c2:bD Pg w K mg base n (run Γ 100000000 n) 2 "is_plan" 1
 c3:bD Pg w K mg base n (run Γ 100000000 n) 3 "triple_fits" 3
 c4:bD Pg w K mg base n (run Γ 100000000 n) 4 "changes_at" 3
 c5:bD Pg w K mg base n (run Γ 100000000 n) 5 "never_short" 3
 c6:bD Pg w K mg base n (run Γ 100000000 n) 6 "plan_right" 3
 c7:bD Pg w K mg base n (run Γ 100000000 n) 7 "is_clean_way" 2
 c8:bD Pg w K mg base n (run Γ 100000000 n) 8 "plan_clean" 3
 c9:bD Pg w K mg base n (run Γ 100000000 n) 9 "stands_at" 4
 Z7:bD Pg w K mg base n (run Γ 100000000 n) 10 "roomiest_net" 1
 c11:bD Pg w K mg base n (run Γ 100000000 n) 11 "within_hours_rooms" 2
 c12:bD Pg w K mg base n (run Γ 100000000 n) 12 "within_waits" 3
 c13:bD Pg w K mg base n (run Γ 100000000 n) 13 "hours_hold" 2
 c14:bD Pg w K mg base n (run Γ 100000000 n) 14 "cal_right" 2
 c15:bD Pg w K mg base n (run Γ 100000000 n) 15 "cal_clean" 2
 c16:bD Pg w K mg base n (run Γ 100000000 n) 16 "cal_stands" 4
 c17:bD Pg w K mg base n (run Γ 100000000 n) 17 "_law_pool" 1
 Oz:bD Pg w K mg base n (run Γ 100000000 n) 18 "_law_next" 2
 Z8:bD Pg w K mg base n (run Γ 100000000 n) 19 "_law_wide" 2
 c20:bD Pg w K mg base n (run Γ 100000000 n) 20 "_law_roads" 2
 c21:bD Pg w K mg base n (run Γ 100000000 n) 21 "_law_route" 4
 c22:bD Pg w K mg base n (run Γ 100000000 n) 22 "_law_flow" 4
 Z9:bD Pg w K mg base n (run Γ 100000000 n) 23 "_law_stocks" 4
 c24:bD Pg w K mg base n (run Γ 100000000 n) 24 "_law_case" 1
 c25:bD Pg w K mg base n (run Γ 100000000 n) 25 "_law_right" 2
 c26:bD Pg w K mg base n (run Γ 100000000 n) 26 "_law_clean" 2
 c27:bD Pg w K mg base n (run Γ 100000000 n) 27 "_law_others" 3
 c28:bD Pg w K mg base n (run Γ 100000000 n) 28 "_law_home" 3
 c29:bD Pg w K mg base n (run Γ 100000000 n) 29 "_law_truth" 2
 c30:bD Pg w K mg base n (run Γ 100000000 n) 30 "_law_folded" 2
 c31:bD Pg w K mg base n (run Γ 100000000 n) 31 "law" 1
set_option maxHeartbeats 0 in
theorem HJ{Pg:d_}{w:fb}{K:PySem.W.Frag}{mg:Str->Option c_}{base:fk}(T:Txt K)(X:K.In base)(G:base.Ns en mg):∀n,Oks Pg w K mg base (lM T) n
 |0=>{
   c0:=cR (ps:=["things"]) X G T.D0 rfl ‹DG λ_=>rfl›
   c1:=cR (ps:=["net","hour","way"]) X G T.D1 rfl ‹vN λ_ _ _=>rfl›
   c2:=cR (ps:=["triples"]) X G T.D2 rfl ‹DG λ_=>rfl›
   c3:=cR (ps:=["net","last","triple"]) X G T.D3 rfl ‹vN λ_ _ _=>rfl›
   c4:=cR (ps:=["net","plan","place"]) X G T.D4 rfl ‹vN λ_ _ _=>rfl›
   c5:=cR (ps:=["net","plan","place"]) X G T.D5 rfl ‹vN λ_ _ _=>rfl›
   c6:=cR (ps:=["net","last","plan"]) X G T.D6 rfl ‹vN λ_ _ _=>rfl›
   c7:=cR (ps:=["net","number"]) X G T.D7 rfl ‹pR λ_ _=>rfl›
   c8:=cR (ps:=["net","last","plan"]) X G T.D8 rfl ‹vN λ_ _ _=>rfl›
   c9:=cR (ps:=["net","plan","place","hour"]) X G T.D9 rfl ‹Gx λ_ _ _ _=>rfl›
   Z7:=cR (ps:=["calendar"]) X G T.D10 rfl ‹DG λ_=>rfl›
   c11:=cR (ps:=["calendar","plan"]) X G T.D11 rfl ‹pR λ_ _=>rfl›
   c12:=cR (ps:=["calendar","plan","place"]) X G T.D12 rfl ‹vN λ_ _ _=>rfl›
   c13:=cR (ps:=["calendar","plan"]) X G T.D13 rfl ‹pR λ_ _=>rfl›
   c14:=cR (ps:=["calendar","plan"]) X G T.D14 rfl ‹pR λ_ _=>rfl›
   c15:=cR (ps:=["calendar","plan"]) X G T.D15 rfl ‹pR λ_ _=>rfl›
   c16:=cR (ps:=["calendar","plan","place","hour"]) X G T.D16 rfl ‹Gx λ_ _ _ _=>rfl›
   c17:=cR (ps:=["cell"]) X G T.D17 rfl ‹DG λ_=>rfl›
   Oz:=cR (ps:=["pool","base"]) X G T.D18 rfl ‹pR λ_ _=>rfl›
   Z8:=cR (ps:=["pool","base"]) X G T.D19 rfl ‹pR λ_ _=>rfl›
   c20:=cR (ps:=["pool","many"]) X G T.D20 rfl ‹pR λ_ _=>rfl›
   c21:=cR (ps:=["pool","many","last","ways"]) X G T.D21 rfl ‹Gx λ_ _ _ _=>rfl›
   c22:=cR (ps:=["pool","many","last","ways"]) X G T.D22 rfl ‹Gx λ_ _ _ _=>rfl›
   Z9:=cR (ps:=["many","last","ways","plan"]) X G T.D23 rfl ‹Gx λ_ _ _ _=>rfl›
   c24:=cR (ps:=["pool"]) X G T.D24 rfl ‹DG λ_=>rfl›
   c25:=cR (ps:=["calendar","plan"]) X G T.D25 rfl ‹pR λ_ _=>rfl›
   c26:=cR (ps:=["calendar","plan"]) X G T.D26 rfl ‹pR λ_ _=>rfl›
   c27:=cR (ps:=["pool","calendar","plan"]) X G T.D27 rfl ‹vN λ_ _ _=>rfl›
   c28:=cR (ps:=["pool","calendar","plan"]) X G T.D28 rfl ‹vN λ_ _ _=>rfl›
   c29:=cR (ps:=["found","due"]) X G T.D29 rfl ‹pR λ_ _=>rfl›
   c30:=cR (ps:=["script","most"]) X G T.D30 rfl ‹pR λ_ _=>rfl›
   c31:=cR (ps:=["script"]) X G T.D31 rfl ‹DG λ_=>rfl›}|n+1=>have a:=HJ (Pg:=Pg) (w:=w) (base:=base) T X G n
   {c0:=cQ (ps:=["things"]) X G T.D0 rfl rfl ‹DG λ_=>rfl› λ_ _ F=>d0 (cl:=lM T) F (mg_none_of X G T.dF) (mg_none_of X G T.oh)
    c1:=cQ (ps:=["net","hour","way"]) X G T.D1 rfl rfl ‹vN λ_ _ _=>rfl› λ_ _ F=>d1 (cl:=lM T) F
    c2:=cQ (ps:=["triples"]) X G T.D2 rfl rfl ‹DG λ_=>rfl› λ_ _ F=>d2 (cl:=lM T) F (mg_none_of X G T.dF) a.c0
    c3:=cQ (ps:=["net","last","triple"]) X G T.D3 rfl rfl ‹vN λ_ _ _=>rfl› λ_ _ F=>d3 (cl:=lM T) F (mg_none_of X G T.cT) a.c1
    c4:=cQ (ps:=["net","plan","place"]) X G T.D4 rfl rfl ‹vN λ_ _ _=>rfl› λ_ _ F=>d4 (cl:=lM T) F a.c1
    c5:=cQ (ps:=["net","plan","place"]) X G T.D5 rfl rfl ‹vN λ_ _ _=>rfl› λ_ _ F=>d5 (cl:=lM T) F (mg_none_of X G T.dz) a.c4
    c6:=cQ (ps:=["net","last","plan"]) X G T.D6 rfl rfl ‹vN λ_ _ _=>rfl› λ_ _ F=>d6 (cl:=lM T) F (mg_none_of X G T.dF) (mg_none_of X G T.aO) a.c2 a.c5 a.c3
    c7:=cQ (ps:=["net","number"]) X G T.D7 rfl rfl ‹pR λ_ _=>rfl› λ_ _ F=>d7 (cl:=lM T) F
    c8:=cQ (ps:=["net","last","plan"]) X G T.D8 rfl rfl ‹vN λ_ _ _=>rfl› λ_ _ F=>d8 (cl:=lM T) F (mg_none_of X G T.dF) (mg_none_of X G T.aO) a.c7 a.c6 a.c9
    c9:=cQ (ps:=["net","plan","place","hour"]) X G T.D9 rfl rfl ‹Gx λ_ _ _ _=>rfl› λ_ _ F=>d9 (cl:=lM T) F (mg_none_of X G T.Kq) a.c4
    Z7:=cQ (ps:=["calendar"]) X G T.D10 rfl rfl ‹DG λ_=>rfl› λ_ _ F=>d10 (cl:=lM T) F (mg_none_of X G T.ou) (mg_none_of X G T.dX) (mg_none_of X G T.oh)
    c11:=cQ (ps:=["calendar","plan"]) X G T.D11 rfl rfl ‹pR λ_ _=>rfl› λ_ _ F=>d11 (cl:=lM T) F (mg_none_of X G T.dF)
    c12:=cQ (ps:=["calendar","plan","place"]) X G T.D12 rfl rfl ‹vN λ_ _ _=>rfl› λ_ _ F=>d12 (cl:=lM T) F (mg_none_of X G T.dF) (mg_none_of X G T.lB) a.c16
    c13:=cQ (ps:=["calendar","plan"]) X G T.D13 rfl rfl ‹pR λ_ _=>rfl› λ_ _ F=>d13 (cl:=lM T) F (mg_none_of X G T.dF) (mg_none_of X G T.aO) a.c11 a.c12
    c14:=cQ (ps:=["calendar","plan"]) X G T.D14 rfl rfl ‹pR λ_ _=>rfl› λ_ _ F=>d14 (cl:=lM T) F a.c13 a.c6 a.Z7
    c15:=cQ (ps:=["calendar","plan"]) X G T.D15 rfl rfl ‹pR λ_ _=>rfl› λ_ _ F=>d15 (cl:=lM T) F a.c13 a.c8 a.Z7
    c16:=cQ (ps:=["calendar","plan","place","hour"]) X G T.D16 rfl rfl ‹Gx λ_ _ _ _=>rfl› λ_ _ F=>d16 (cl:=lM T) F a.Z7 a.c9
    c17:=cQ (ps:=["cell"]) X G T.D17 rfl rfl ‹DG λ_=>rfl› λ_ _ F=>d17 (cl:=lM T) F (mg_none_of X G T.Kr) (mg_none_of X G T.ou)
    Oz:=cQ (ps:=["pool","base"]) X G T.D18 rfl rfl ‹pR λ_ _=>rfl› λ_ _ F=>d18 (cl:=lM T) F
    Z8:=cQ (ps:=["pool","base"]) X G T.D19 rfl rfl ‹pR λ_ _=>rfl› λ_ _ F=>d19 (cl:=lM T) F a.Oz
    c20:=cQ (ps:=["pool","many"]) X G T.D20 rfl rfl ‹pR λ_ _=>rfl› λ_ _ F=>d20 (cl:=lM T) F (mg_none_of X G T.cT) (mg_none_of X G T.aO) a.Oz a.Z8
    c21:=cQ (ps:=["pool","many","last","ways"]) X G T.D21 rfl rfl ‹Gx λ_ _ _ _=>rfl› λ_ _ F=>d21 (cl:=lM T) F (mg_none_of X G T.cT) (mg_none_of X G T.oA) (mg_none_of X G T.aO) a.Oz
    c22:=cQ (ps:=["pool","many","last","ways"]) X G T.D22 rfl rfl ‹Gx λ_ _ _ _=>rfl› λ_ _ F=>d22 (cl:=lM T) F (mg_none_of X G T.iY) (mg_none_of X G T.aO) (mg_none_of X G T.dz) a.Oz a.c21 a.Z8
    Z9:=cQ (ps:=["many","last","ways","plan"]) X G T.D23 rfl rfl ‹Gx λ_ _ _ _=>rfl› λ_ _ F=>d23 (cl:=lM T) F (mg_none_of X G T.aO)
    c24:=cQ (ps:=["pool"]) X G T.D24 rfl rfl ‹DG λ_=>rfl› λ_ _ F=>d24 (cl:=lM T) F (mg_none_of X G T.Ks) (mg_none_of X G T.cT) (mg_none_of X G T.oA) (mg_none_of X G T.aO) (mg_none_of X G T.dX) (mg_none_of X G T.oh) a.c22 a.Oz a.c20 a.Z9 a.Z8
    c25:=cQ (ps:=["calendar","plan"]) X G T.D25 rfl rfl ‹pR λ_ _=>rfl› λ_ _ F=>d25 (cl:=lM T) F (mg_none_of X G T.cT) (mg_none_of X G T.aO) a.Z9
    c26:=cQ (ps:=["calendar","plan"]) X G T.D26 rfl rfl ‹pR λ_ _=>rfl› λ_ _ F=>d26 (cl:=lM T) F (mg_none_of X G T.dF) a.Z9
    c27:=cQ (ps:=["pool","calendar","plan"]) X G T.D27 rfl rfl ‹vN λ_ _ _=>rfl› λ_ _ F=>d27 (cl:=lM T) F (mg_none_of X G T.cT) (mg_none_of X G T.aO) (mg_none_of X G T.dz) a.c28 a.Oz
    c28:=cQ (ps:=["pool","calendar","plan"]) X G T.D28 rfl rfl ‹vN λ_ _ _=>rfl› λ_ _ F=>d28 (cl:=lM T) F (mg_none_of X G T.cT) (mg_none_of X G T.iY) (mg_none_of X G T.ou) (mg_none_of X G T.aO) (mg_none_of X G T.dz) (mg_none_of X G T.dX) a.Oz
    c29:=cQ (ps:=["found","due"]) X G T.D29 rfl rfl ‹pR λ_ _=>rfl› λ_ _ F=>d29 (cl:=lM T) F (mg_none_of X G T.Be) (mg_none_of X G T.jQ)
    c30:=cQ (ps:=["script","most"]) X G T.D30 rfl rfl ‹pR λ_ _=>rfl› λ_ _ F=>d30 (cl:=lM T) F (mg_none_of X G T.cT) (mg_none_of X G T.oA) (mg_none_of X G T.aO)
    c31:=cQ (ps:=["script"]) X G T.D31 rfl rfl ‹DG λ_=>rfl› λ_ _ F=>d31 (cl:=lM T) F (mg_none_of X G T.iY) a.c24 a.c26 a.c30 a.c27 a.c17 a.c25 a.c29 a.c15 a.c14}
set_option maxHeartbeats 0 in
theorem Q3{Pg:d_}{w:fb}{K:PySem.W.Frag}{mg:Str->Option c_}{h:fk}{i:df}(T:Txt K)(X:K.In h)(G:h.Ns en mg)(g:mg "law"=aB (.ref i)):∃fd:iF,(∀(s:dc)(u:c_),oe s fd ⟨[u],[]⟩ [("script",u)])/\∀base:fk,K.In base->base.Ns en mg->oM Pg w K mg base GX 40 i fd ["script"] (KN K 1 (run Γ 100000000 40 31)):=by
 obtain⟨f,fd,a,F⟩:=T.D31.ex;have e:=g.symm.trans (mg_of X G a);cases e;refine⟨fd,λs u=>?_,λbase j l=>?_⟩;.obtain⟨q,r,kV,m,t,v,cdv,ct,o,rfl,lk,p⟩:=F.ex;exact .of_eq rfl
 .have b:=HJ (Pg:=Pg) (w:=w) (base:=base) T j l 39;exact d31 (cl:=lM T) (k:=39) (n:=100000000) (c:=run Γ 100000000 39) F (mg_none_of X G T.iY) b.c24 b.c26 b.c30 b.c27 b.c17 b.c25 b.c29 b.c15 b.c14
end _T
open PySem W PyProof.Rows
set_option maxRecDepth 100000 in
set_option maxHeartbeats 0 in
theorem PySem.Challenge.cw_hourhaul_k60_plans_by_calendars_judged_holds : PySem.Challenge.rw_hourhaul_k60_plans_by_calendars_judged.Holds := by
 w_on;o_law;k_head;(case hw=>w_witness2);k_fill;refine _L.J0 (l:=PySem.Challenge.rw_hourhaul_k60_plans_by_calendars_judged) (n:=63) (k:=40) (x:="script") (CX:=_L.GX) (sp:=λK=>_H.KN K 1 (_H.run _T.Γ 100000000 40 31)) rfl (by decide) rfl ⟨rfl,by decide,by decide⟩ (λw h Y=>PySem.W.kIn_of Y) ?F ?S ?C;case F=>
  intro w mg j h f G b;refine _T.Q3 ?T f G b;constructor;iterate 32(· refine' _H.Uo ?a ?l ?c ?k;case a|l|c|k=>k_is)
  iterate 15(· k_is)
 case S=>intro K H a ns g m i;obtain⟨as,e⟩:=_T.Nr ns g;exact _H.Et i e
 case C=>exact λH s e o z=>z
