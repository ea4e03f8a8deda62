import PyProof.Rows.All
import Wide.All
import OpenK.AllK
import Wide.FinOn
import Lean
import PyProof.EqAt
import PyProof.EqKinds
import PyProof.TupleCall
import PySem.Str
import PySem.Builtin.Int.W1All
import PyProof.NeKinds
import PyProof.ZipIter
import PyProof.SumWalkG
import PyProof.MinMaxWalk
import PyProof.WalksMore
import PyProof.SeqI3
import PyProof.WalkInts
import PyProof.Rows.CallKwBuiltin
import PyProof.Rows.Tup
import PyProof.CollectIter
import PyProof.EnumMake
import PyProof.TupleOfSeq
import PyProof.ListNew
import PyProof.ReprLoop
import PyProof.StationsW
import PyProof.ExcClass3
import PyProof.Rows.CatchBare
import OpenK.KOwn
import KE.KIsAll
import PyProof.NsDelKeeps
import PyProof.RulesAs
import PyProof.ExcArgsOwn
import PyProof.ListRange
import KE.RegKIsAll
import KE.KRevIter
import PyProof.Rows.SortRuns
import KE.KSortTup
import PyProof.DictWalks
import KE.KDictList
import KE.KItemsList
import PyProof.ExcBaseAll.ValueError
import PySem.Challenge.RW_hourhaul_k31_light_streams_told
set_option Elab.async false
set_option linter.all false
set_option maxRecDepth 100000
set_option genInjectivity false
set_option genSizeOf false
set_option compiler.extract_closed false
set_option bootstrap.genMatcherCode false
open Option renaming some→al,none→bdq,map_eq_some_iff→fe,map_some→ky,isSome_iff_exists→nh
open Bool renaming false→a7,true→bx,false_ne_true→c_,and_eq_true→ey,noConfusion→gE,false_eq_true→ip,and_eq_false_iff→kK,or_eq_false_iff→kQ,or_eq_true→kS,not_eq_true'→mI,false_and→nk,and_false→nm,and_true→nN
open PySem renaming wpAny_bind→a_,Value→bw,Shared→bZ,Addr→b_,wpAny_pure→cr,starEach→cw,wpAny→cy,model→cE,Program→da,Expr→df,mainGlobals→dE,compareOp→dO,World→eg,wpAny_mono→ei,Around→ej,wpAny_newObj_type→ek,eval→eu,Heap→ew,bootBuiltins→eK,Stmt→eM,sizeLine_eq→eW,wpAny_pyIter_tuple→fg,wpAny_field→fh,IsPair→fk,foldedSetIterable→fm,binaryOp→fx,wpAny_truthy_bool→fF,wpAny_callSpecial?_slot→fI,wpAny_loadPart'→fN,cLine→fT,behindInMarks→ga,swapsWith→gd,wpAny_pyIter_list→gy,wpAny_seqItems→gT,wpAny_call_entry→gX,wpAny_setField_rec→hJ,sysModules→hQ,wpAny_passesOwn→hX,FuncData→h8,wpAny_holding→h9,Builtin→io,attributeBase→iq,tupleKind_room_in1→iu,backTo→iA,assignEach→iE,holding→iO,IsZip→i6,swapsWithSole→i8,swappedStores→i9,relabel→i_,sliceBounds→jn,Scope→jt,assign→ka,getItem→kc,callType_new→ke,cellsFrom→kg,wpAny_rule→kl,NameKind→ku,Keyword→kG,wpAny_typeOf→kR,codeAny→kX,letOwnedTupleGo→k3,codeAny_builtin→k5,wpAny_nextOf_list_end→k6,wpAny_updateSeq_pair→k_,keywordEach→lj,ZipApart→lm,Operator→lp,IsPart→lw,tupleKind→lI,callerA→lP,PassesOwn→lS,wpAny_standAt→ma,wpAny_onRaise→md,plainId_quiet→me,wpAny_Call_Name_kw→mh,typeIs_int→mi,rawInt→ml,call_meets→mo,wpAny_pyIter_enum→mv,valueAt→mw,setItem→mA,seqIndex_neg→mB,concat_meets→mT,Meets→m2,wpAny_eqBool_int→nq,noFill_tuple_add→nv,unsupported→nz,subscripted→nB,seqIndex_of→nI,CmpOp→nL,wpAny_specialOf→nV,wpAny_execs_nil→nX,notedBy→n4,BindsTo→n8,wpAny_letOwnedTupleGo_enum→n9,typeLookup→n_,pyNext→oe,newFunctionEnv→og,backToKw→ol,atKey→om,wpAny_binaryOp_repeat_ref→oT,wpAny_comprehension_free→pf,wpAny_attempt→pp,seq_tuple_add→pE,assignInOrder→pV,wpAny_pyNext_enum_itemD→p4,field→p5,bindL→p9,bindC→p_,wpAny_pyNext_enum_endD→qh,wpAny_nextOf_list_item→qk,wpAny_getItem_list_neg→qo,standAt→qv,release→qB,pyIter→qE,codeAny_mono→rc,call_meetsIn→rd,wpAny_isTrue_Compare1→rh,builtinLookup_eq_fast→ri,wpAny_loadName_local→rj,wpAny_letGo→rl,bindName→r6,bindArgs→r8,Model→r_,wpAny_loadName_cell→sd
open List renaming getElem?_set_self→cp,replicate→cq,size_toArray→cx,mem_map→cK,mem_cons→cS,map_cons→dc,getElem?_append_left→dr,mem_of_getElem?→du,range→dy,mem_cons_of_mem→dA,length_cons→dL,length_map→dQ,mem_singleton→dV,map_map→ec,all_eq_true→eh,getElem?_map→er,getElem?_set_ne→ez,length_append→eB,nodup_cons→eI,mem_append→eJ,append_assoc→eP,mem_append_right→fi,append_nil→fo,lookup_cons→fv,getD_eq_getElem?_getD→fw,drop_eq_getElem_cons→fy,getElem?_eq_getElem→fS,map_congr_left→gi,find?_cons→gl,filterMap_cons→gu,getElem?_append_right→gx,map_append→gI,eq_nil_of_length_eq_zero→gN,replicate_succ→g9,contains_iff_mem→hB,mem_cons_self→h_,mem_range→ib,getElem?_replicate→ix,not_mem_nil→iH,mem_filter→i4,length_zip→i5,any_cons→jp,getD→jv,pairwise_cons→jI,getElem?_of_mem→j_,getElem?_zip_eq_some→kb,getElem?_take_of_lt→ki,sum_cons→km,of_mem_zip→ko,all_cons→kq,getElem?_cons_succ→kw,any_eq_true→kx,length_take→kB,getElem_mem→kC,cons_append→kD,pairwise_append→kM,length→kN,nodup_append→kT,length_range→kU,drop_eq_nil_iff→k4,getElem?_take→k8,filter_append→k9,pairwise_map→lT,zip_cons_cons→l_,length_drop→mf,nil_append→mn,take_append_of_le_length→mu,reverse_cons→mE,map_nil→mN,getElem?_set→mP,flatten_cons→mS,ext_getElem→nK,take_of_length_le→n7,foldl_cons→oj,min?_eq_some_iff→ox,length_singleton→oy,length_replicate→oz,length_filter_le→oB,eq_nil_or_concat→oC,countP_mono_left→oD,concat_eq_append→oF,mem_append_left→o_,getElem?_mapIdx→pc,toArray→qq,map_set→q_,foldl→rV
open PySem.Heap renaming get?_push_size→cv,lt_size→de,size_push→ef,get?_update_other→ic,get?_update_self→iL,SameBut→rf,IsTuple→rg
open Sum renaming inl→dJ,inr→l6
open Nat renaming ne_of_lt→dP,lt_of_lt_of_le→d_,le_trans→g_,lt_irrefl→ia,pow_le_pow_right→iX,le_of_lt→li,le_of_not_lt→ms,zero_add→oo,mul_comm→oq,lt_trans→ot,le_mul_of_pos_left→ow,ne_of_gt→rL
open PySem.Value renaming ref→dS,none→eL,type→fq,int→fR,bool→jr,notImplemented→kL
open PySem.PassesOwn renaming never→et
open Option.some renaming inj→eA
open PyProof.Rows renaming callWith_type1→eF,Keyed→gc,IntsAre→gS,wpS_bind→hV,slot_tuple_getitem→im,SortSt→iG,SortKind→iP,pendingOf→kf,wpS_pure→kj,envOfC→ll,AllBare→lW,assignInOrder_cons→mr,subscriptTail→pz,listUpdate_at→pS,IsTup→qa,wpS_get→qc,wpS_forRange→qf,subscriptTail_builtinR→qr,seqObj→qA,minRun'→qV,seqEpoch_at→rq,failedOf→rX,arrOf→r9
open PySem.NameKind renaming free→eH,cell→gf
open Or renaming inr→eN,inl→eR
open Pure renaming pure→eS
open Int renaming le_refl→eT,mul_comm→hY,mul_le_mul_of_nonneg_right→iS,mul_sub→i3,emod_lt_of_pos→lx,toNat_natCast→l7,sub_self→l8,sub_zero→mx,mul_zero→mM,emod_nonneg→m3,mul_add→n5,le_trans→oI,add_zero→oN,add_mul→p0,toNat_of_nonneg→qb,mul_neg→qS
open False renaming elim→e_
open PySem.Builtin.SmallTypes renaming ownedTupleIsFree→ft,ownedTupleHandOut→jS,nextOf→lb
open Ne renaming symm→fE
open PySem.Obj renaming mapSeq→f_
open PySem.SeqAt renaming EqAt→gL
open Function renaming comp_def→hE
open PySem.Shared renaming heap→hU
open ForInStep renaming yield→ii
open PySem.Str renaming ofString→iF
open PySem.Around renaming under_plainId→iN
open PySem.Builtin.Tuple renaming tupleExact→i7
open Array renaming length_toList→ja,toList_inj→l9,getD→ng
open PySem.Calls renaming spliced_cons→jx,callWith_builtin→kA,spliced_nil→ly,Name_function_global→m_,evalArgs_plain→oQ
open True renaming intro→kF
open PyProof.Rows.IntsAre renaming length→kH
open PyProof.Rows.IsTup renaming new→kP
open PySem.SeqAt.EqAt renaming same→k7
open PySem.Builtin.List renaming listExtendWith→lc,listTooLong→rS
open PySem.Heap.SameBut renaming update→m4
open PySem.Builtin.Slice renaming slicePlaces→nE,sliceAdjust→ro
open PySem.CmpOp renaming NotIn→oP
open List(foldl map toArray length_set forIn_cons forIn_nil all_map length_nil)
open PySem.W(mg_none_of keepIn methodObj mg_of kitx_dict)
open PySem.Heap(IsList)
open Nat(le_refl le_succ)
open PySem.Builtin.Tuple(tupleItemsOf)
open Option(bind_some isSome_map getD_none)
open PySem.Builtin.Slice(sliceApplied)
open Int(mul_one)
open PySem.Builtin.List(listLengthHint listSameRef)
open Array(toList)
open PySem.SeqAt.EqAt(int_str str_int none_bool none_int none_str bool_none bool_bool bool_int bool_str int_none int_bool int_int str_none str_bool str_str)
open PySem.F(slot_tuple_add entry_tuple_add args_tuple_add_2 slot_tuple_mul plainAttrs_list)
open PySem.SeqAt.RcAt(lists_lengths)
open PySem.SeqAt.RcNeAt(int_list str_list list_int list_str)
theorem dB{h:PySem.Heap}{o b:PySem.Obj}{a:PySem.Addr}(e:h.get? a=al o):(h.push b).get? a=al o:=PySem.Heap.get?_push_of_some _ e
theorem dX{b:Type}{l:List b}{i:Nat}{a:b}(h:l[i]?=al a):∃h:i<l.length,l[i]=a:=List.getElem?_eq_some_iff.mp h
theorem fj{b:Type}{l:List b}{i j:Nat}{a:b}(h:j≠i):(l.set i a)[j]?=l[j]?:=List.getElem?_set_ne (fE h)
theorem uY{n:Nat}:0<=n:=Nat.zero_le n
theorem dq{n:Nat}:n<=n:=Nat.le_refl n
namespace _L
open PySem Spec PyProof.Rows
variable{w:eg}{h:ew}{t' i:Nat}{M:r_}{A:ej}{s:bZ}{pos:Pos}{pins:List (b_×Obj)}{op:nL}{K:PySem.W.Frag}{tg:df}{us:List bw}
noncomputable abbrev Key:=Sum Int Str
noncomputable def oO:Key->bw->Bool|.inl k,v=>Value.isInt k v|.inr x,v=>Value.isStrOf x v
noncomputable def afJ(w:eg):Key->Int|.inl k=>hashInt k|.inr x=>hashStr w x
theorem bG:∀{k:Key}{v:bw},oO k v=bx->(∃i t,k=dJ i/\v=fR i t)\/(∃x t,k=l6 x/\v=Value.str x t)|.inl i,v,h=>by obtain⟨t,e⟩:=Value.isInt_shape (k:=i) (v:=v) h;exact .inl ⟨i,t,rfl,e⟩|.inr x,v,h=>by obtain⟨t,e⟩:=Value.isStrOf_shape (x:=x) (v:=v) h;exact .inr ⟨x,t,rfl,e⟩
theorem Gn(i:Int)(t:Tok):oO (.inl i) (.int i t)=bx:=by simp[oO,Value.isInt]
theorem Gd(x:Str)(t:Tok):oO (.inr x) (.str x t)=bx:=by simp[oO,Value.isStrOf]
theorem T6(a b:Int):decide ((dJ a:Key)=dJ b)=(a==b):=by
 by_cases e:a=b;.subst e;simp
 .have h:¬(dJ a:Key)=dJ b:=λq=>e (Sum.inl.inj q);rw[decide_eq_false h];exact(beq_eq_false_iff_ne.mpr e).symm
theorem TX(a b:Str):decide ((l6 a:Key)=l6 b)=decide (a=b):=by
 by_cases e:a=b;.subst e;simp
 .have h:¬(l6 a:Key)=l6 b:=λq=>e (Sum.inr.inj q);rw[decide_eq_false h,decide_eq_false e]
theorem T3(a:Int)(b:Str):decide ((dJ a:Key)=l6 b)=a7:=decide_eq_false (λq=>nomatch q)
theorem Su(a:Str)(b:Int):decide ((l6 a:Key)=dJ b)=a7:=decide_eq_false (λq=>nomatch q)
noncomputable def aZ(prog:da)(w:eg):PySem.KeyKind prog w Key where
 is:=oO;hash:=afJ w;inj:=λv a b g f=>by
  rcases bG g with⟨i,t,rfl,rfl⟩|⟨x,t,rfl,rfl⟩
  . rcases bG f with⟨j,u,rfl,e⟩|⟨y,u,rfl,e⟩;.injection e with e1 _;rw[e1]
    .exact nomatch e
  . rcases bG f with⟨j,u,rfl,e⟩|⟨y,u,rfl,e⟩;.exact nomatch e
    .injection e with e1 _;rw[e1]
 byValue:=λk v h=>by rcases bG h with⟨i,t,rfl,rfl⟩|⟨x,t,rfl,rfl⟩<;>rfl
 pyHash:=λc h=>by
  rcases bG c with⟨i,t,rfl,rfl⟩|⟨x,t,rfl,rfl⟩;.exact wpAny_pyHash_int h
  .exact wpAny_pyHash_str h
 eqBool:=λl c h=>by
  rcases bG l with⟨i,t,rfl,rfl⟩|⟨x,t,rfl,rfl⟩
  . rcases bG c with⟨j,u,rfl,rfl⟩|⟨y,u,rfl,rfl⟩;.rw[T6]at h;exact nq h
    .rw[T3]at h;exact int_str i t y u _ _ _ _ h
  . rcases bG c with⟨j,u,rfl,rfl⟩|⟨y,u,rfl,rfl⟩;.rw[Su]at h;exact str_int x t j u _ _ _ _ h
    .rw[TX]at h;exact wpAny_eqBool_str h
 «strs»:=λk x t v h=>by
  rcases bG h with⟨i,u,rfl,e⟩|⟨y,u,rfl,e⟩;.exact nomatch e
  .injection e with e1 _;subst e1;cases v<;>rfl
theorem yc(prog:da)(w:eg)(i:Int)(t:Tok):(aZ prog w).is (.inl i) (.int i t)=bx:=Gn i t
theorem yH(prog:da)(w:eg)(x:Str)(t:Tok):(aZ prog w).is (.inr x) (.str x t)=bx:=Gd x t
inductive V where|non|bl(b:Bool)|int(i:Int)|str(x:Str)|byt(b:Array UInt8)|flt(b:UInt64)|ref(a:b_)|ty(n:String)deriving DecidableEq
noncomputable def RelV:V->bw->Prop|.non,u=>u=eL|.bl b,u=>u=jr b|.int i,u=>∃t,u=fR i t|.str x,u=>∃t,u=Value.str x t|.byt b,u=>∃t,u=Value.bytes b t|.flt b,u=>∃t,u=Value.float b t|.ref a,u=>u=dS a|.ty n,u=>u=fq n
noncomputable abbrev Vals:List V->List bw->Prop:=Paired RelV
theorem Vals.length{xs:List V}{us:List bw}(r:Vals xs us):xs.length=us.length:=Paired.length r
theorem Vals.get:∀{xs:List V}{us:List bw}{i:Nat}{x:V},Vals xs us->xs[i]?=al x->∃u,us[i]?=al u/\RelV x u|_,_,_,_,.nil,e=>by simp at e|_,_,0,_,.cons r _,e=>by simp at e;subst e;exact⟨_,rfl,r⟩|_,_,i+1,x,.cons _ t,e=>by obtain⟨u,h1,a⟩:=Vals.get (i:=i) (x:=x) t (by simpa using e);exact⟨u,by simpa using h1,a⟩
theorem Vals.set{x:V}{u:bw}(r:RelV x u):∀{xs:List V}{us:List bw}(i:Nat),Vals xs us->Vals (xs.set i x) (us.set i u)|_,_,_,.nil=>.nil|_,_,0,.cons _ t=>.cons r t|_,_,i+1,.cons q t=>.cons q (Vals.set r i t)
theorem Vals.append:∀{xs ys:List V}{us ws:List bw},Vals xs us->Vals ys ws->Vals (xs++ys) (us++ws)|_,_,_,_,.nil,s=>s|_,_,_,_,.cons r t,s=>.cons r (Vals.append t s)
theorem Vals.take:∀{xs:List V}{us:List bw}(n:Nat),Vals xs us->Vals (xs.take n) (us.take n)|_,_,0,_=>.nil|_,_,_+1,.nil=>.nil|_,_,n+1,.cons r t=>.cons r (Vals.take n t)
theorem Vals.drop:∀{xs:List V}{us:List bw}(n:Nat),Vals xs us->Vals (xs.drop n) (us.drop n)|_,_,0,r=>r|_,_,_+1,.nil=>.nil|_,_,n+1,.cons _ t=>Vals.drop n t
noncomputable def o9:Option V->Option bw->Prop|some v,al u=>RelV v u|none,bdq=>True|_,_=>False
noncomputable def KV{κ:Type}:List (κ×V)->List (κ×bw)->Prop:=Paired λ(p:κ×V)(q:κ×bw)=>p.1=q.1/\RelV p.2 q.2
noncomputable def kV:Key->V|.inl i=>.int i|.inr x=>.str x
inductive HO where|lst(xs:List V)|tup(xs:List V)|dK(kvs:List (Key×V))|dT(kvs:List (List Key×V))|set(S:Int->Bool)(n:Nat)|ins(C dx:b_)(fs:List (Str×V))|own(x:b_)|xd(fs:List (Str×V))|met(f x:b_)|wX(lo hi:Int)|cQ(o:Obj)(u:HO)|WW(ps:Array bw)|ext(φ:ew->Prop)
noncomputable abbrev Hp:=b_->Option HO
variable{H:Hp}
noncomputable def upd(H:Hp)(a:b_)(o:HO):Hp:=λb=>if b=a then al o else H b
theorem aC{a:b_}{o:HO}:upd H a o a=al o:=by unfold upd;rw[if_pos rfl]
theorem ao{a b:b_}{o:HO}(h:b≠a):upd H a o b=H b:=by unfold upd;rw[if_neg h]
theorem wJ{a:b_}{o u:HO}:upd (upd H a o) a u=upd H a u:=by funext b;unfold upd;split<;>rfl
theorem aaY{a b:b_}{o u:HO}(h:H a=al o)(h':H b=al u)(d:o≠u):a≠b:=by intro e;subst e;rw[h]at h';exact d (eA h')
theorem gH{a b:b_}{o:HO}(h:H a=al o)(h':H b=bdq):a≠b:=by intro e;subst e;rw[h]at h';cases h'
section
variable(P:da)(w:eg)
noncomputable def bI(H:Hp)(h:ew)(a:b_):HO->Prop|.lst xs=>xs.length<=sizeLine/\∃(b:List bw)(n:Nat),Vals xs b/\h.get? a=al {cls:=.type "list",data:=.seq b.toArray n}|.tup xs=>xs.length<=sizeLine/\∃b:List bw,Vals xs b/\qa h a b.toArray|.dK kvs=>kvs.length<=sizeLine/\(a==hQ)=a7/\∃vs,KV kvs vs/\h.DictOf (aZ P w) a vs|.dT kvs=>kvs.length<=sizeLine/\(a==hQ)=a7/\∃xs:List (List Key×b_×bw),Paired (λ(p:List Key×V)(q:List Key×b_×bw)=>p.1=q.1/\H q.2.1=al (.tup (p.1.map kV))/\RelV p.2 q.2.2) kvs xs/\∃o es ep,h.get? a=al o/\o.ExactDict/\o.data=.dict es ep/\es.toList=xs.map (entryOfKey (lI (aZ P w)))/\(xs.map (·.1)).Nodup|.set S n=>h.SetOf (intKind P w) a S n|.ins C e fs=>H e=al (.own a)/\fs.length<=1000/\e≠a/\h.get? a=al (PySem.W.instObj C e)/\∃c,h.Ns1 e c/\(∀f,o9 (fs.lookup f) (c f))/\PySem.Within c (fs.map (·.1))|.own _=>∃o,h.get? a=al o|.xd fs=>∃c,h.Ns1 a c/\∀f,o9 (fs.lookup f) (c f)|.wX lo hi=>∃t u v,h.get? a=al {cls:=.type "range",data:=.fields #[.int lo t,.int hi u,.int 1 v]}|.cQ o u=>h.get? a=al o/\bI H h a u|.WW ps=>h.get? a=al {cls:=.none,data:=.fields ps}|.met f x=>h.get? a=al (methodObj (.ref f) (.ref x))|.ext g=>g h/\(∃o,h.get? a=al o)/\∀h1 j:ew,g h1->(∀o,h1.get? a=al o->j.get? a=al o)->g j
noncomputable def nF(H:Hp)(h:ew):Prop:=∀a o,H a=al o->bI P w H h a o
end
section
variable{P:da}{w:eg}{H H':Hp}{h h':ew}{a:b_}{o:HO}
theorem bI.lt(x:bI P w H h a o):a<h.objs.size:=by cases o with|lst xs=>obtain⟨_,_,_,_,e⟩:=x;exact de e|tup xs=>obtain⟨_,_,_,p⟩:=x;exact p.lt|dK kvs=>obtain⟨_,_,_,_,o,_,_,e,_⟩:=x;exact de e|dT kvs=>obtain⟨_,_,_,_,o,_,_,e,_⟩:=x;exact de e|set S n=>obtain⟨o,_,_,_,e,_⟩:=x;exact de e|ins C b fs=>obtain⟨_,_,_,e,_⟩:=x;exact de e|own y=>obtain⟨_,e⟩:=x;exact de e|xd fs=>obtain⟨_,⟨_,_,_,e,_⟩,_⟩:=x;exact de e|wX lo hi=>obtain⟨_,_,_,e⟩:=x;exact de e|cQ c u=>obtain⟨e,_⟩:=x;exact de e|WW ps=>exact de (show h.get? a=al _ from x)|met f y=>exact de (show h.get? a=al _ from x)|ext g=>obtain⟨_,⟨_,e⟩,_⟩:=x;exact de e
theorem Paired.Ve{g j:Type}{F G:g->j->Prop}:∀{c:List g}{e:List j},Paired F c e->(∀a b,F a b->G a b)->Paired G c e|_,_,.nil,_=>.nil|_,_,.cons r t,f=>.cons (f _ _ r) (Paired.Ve t f)
theorem bI.stay(x:bI P w H h a o)(k:∀b u,(b=a\/H b=al (.own a))->h.get? b=al u->h'.get? b=al u)(ho:∀b,H b=al (.own a)->H' b=al (.own a))(ht:∀b xs,H b=al (.tup xs)->H' b=al (.tup xs)):bI P w H' h' a o:=by induction o with|lst xs=>obtain⟨z,j,n,r,e⟩:=x;exact⟨z,j,n,r,k _ _ (.inl rfl) e⟩|tup xs=>obtain⟨z,j,r,g,e,c⟩:=x;exact⟨z,j,r,g,k _ _ (.inl rfl) e,c⟩|dK kvs=>obtain⟨z,y,vs,r,g,es,ep,e,c⟩:=x;exact⟨z,y,vs,r,g,es,ep,k _ _ (.inl rfl) e,c⟩|dT kvs=>obtain⟨z,y,xs,r,g,es,ep,e,c⟩:=x;exact⟨z,y,xs,Paired.Ve r λp q z=>⟨z.1,ht _ _ z.2.1,z.2.2⟩,g,es,ep,k _ _ (.inl rfl) e,c⟩|set S n=>obtain⟨g,es,ep,t,e,c⟩:=x;exact⟨g,es,ep,t,k _ _ (.inl rfl) e,c⟩|ins C G fs=>obtain⟨d,z,ne,e,l,⟨m,es,ep,B,c⟩,r⟩:=x;exact⟨ho _ d,z,ne,k _ _ (.inl rfl) e,l,⟨m,es,ep,k _ _ (.inr d) B,c⟩,r⟩|own y=>obtain⟨g,e⟩:=x;exact⟨g,k _ _ (.inl rfl) e⟩|xd fs=>obtain⟨l,⟨m,es,ep,e,c⟩,r⟩:=x;exact⟨l,⟨m,es,ep,k _ _ (.inl rfl) e,c⟩,r⟩|wX lo hi=>obtain⟨t,u,v,e⟩:=x;exact⟨t,u,v,k _ _ (.inl rfl) e⟩|cQ g u E=>obtain⟨e,q⟩:=x;exact⟨k _ _ (.inl rfl) e,E q⟩|WW ps=>have e:h.get? a=al {cls:=.none,data:=.fields ps}:=x;show h'.get? a=al {cls:=.none,data:=.fields ps};exact k a _ (.inl rfl) e|met f y=>have e:h.get? a=al (methodObj (.ref f) (.ref y)):=x;show h'.get? a=al (methodObj (.ref f) (.ref y));exact k a _ (.inl rfl) e|ext I=>obtain⟨p,⟨o,e⟩,st⟩:=x;exact⟨st _ _ p λo q=>k _ _ (.inl rfl) q,⟨o,k _ _ (.inl rfl) e⟩,st⟩
theorem nF.lt(x:nF P w H h)(e:H a=al o):a<h.objs.size:=(x a o e).lt
theorem nF.fresh(x:nF P w H h)(e:h.objs.size<=a):H a=bdq:=by cases q:H a with|none=>rfl|some u=>exact absurd (d_ (x.lt q) e) (ia _)
theorem nF.kept(x:nF P w H h)(k:∀b u,h.get? b=al u->h'.get? b=al u):nF P w H h':=λa o e=>(x a o e).stay (λb u _ q=>k b u q) (λ_ q=>q) λ_ _ q=>q
theorem nF.laid(x:nF P w H h)(k:∀b u,h.get? b=al u->h'.get? b=al u)(l:h.objs.size<=a)(f:bI P w (upd H a o) h' a o):nF P w (upd H a o) h':=λb u e=>by
 have g:=x.fresh l;by_cases j:b=a;.subst j;rw[aC]at e;cases e;exact f
 .rw[ao j]at e;exact(x b u e).stay (λc v _ q=>k c v q) (λc q=>by rw[ao (gH q g)];exact q) λc xs q=>by rw[ao (gH q g)];exact q
end
noncomputable def Rd(H:Hp)(a:b_)(u:HO):Prop:=H a=al u\/∃o,H a=al (.cQ o u)
theorem Rd.ok{P:da}{a:b_}{u:HO}(r:Rd H a u)(x:nF P w H h):bI P w H h a u:=by
 rcases r with r|⟨o,r⟩;.exact x a u r
 .obtain⟨_,q⟩:=x a _ r;exact q
noncomputable def Mut:Option HO->Prop|some (.lst _)=>True|some (.dK _)=>True|some (.dT _)=>True|some (.set _ _)=>True|some (.ins _ _ _)=>True|some (.ext _)=>True|_=>False
section
variable{P:da}{w:eg}{H:Hp}{h h':ew}{x e:b_}{o':HO}
theorem nF.write(ok:nF P w H h)(g:Mut (H x))(he:e=x\/H e=al (.own x))(k:∀b u,b≠e->h.get? b=al u->h'.get? b=al u)(l:∃u,h'.get? e=al u)(m:bI P w (upd H x o') h' x o'):nF P w (upd H x o') h':=λb u q=>by
 have f:∀c y,H c=al (.own y)->c≠x:=λc y r z=>by subst z;rw[r]at g;exact g
 have n:∀c xs,H c=al (.tup xs)->c≠x:=λc xs r z=>by subst z;rw[r]at g;exact g
 by_cases j:b=x;.subst j;rw[aC]at q;cases q;exact m
 . rw[ao j]at q;by_cases a:b=e
   . have o:H b=al (.own x):=by
      rcases he with z|z;.exact absurd (a.trans z) j
      .rw[a];exact z
     rw[q]at o;cases o;obtain⟨v,p⟩:=l;exact⟨v,by rw[a];exact p⟩
   . refine(ok b u q).stay (λc v hc r=>k c v ?_ r) (λc r=>by rw[ao (f c b r)];exact r) λc xs r=>by rw[ao (n c xs r)];exact r
     rcases hc with rfl|hc;.exact a
     . rintro rfl;rcases he with z|z;.exact f c b hc z
       .rw[hc]at z;cases z;exact j rfl
end
structure Un(fs ex:List b_)(H H':Hp)(h h':ew):Prop where
 keep:∀b o,h.get? b=al o->H b=bdq->b∉fs->b∉ex->h'.get? b=al o
 slot:∀b o,h.get? b=al o->H b=bdq->b∈fs->b∉ex->∃sl,h'.get? b=al {o with slots:=sl}free:∀b o,h.get? b=al o->H b=bdq->b∉ex->H' b=bdq
 there:∀b o,h.get? b=al o->b∉ex->∃o',h'.get? b=al o'
 tups:∀b xs,H b=al (.tup xs)->H' b=al (.tup xs)sE:∀b o u,H b=al (.cQ o u)->H' b=al (.cQ o u)wO:∀b ps,H b=al (.WW ps)->∃more,H' b=al (.WW (ps++more))
section
variable{fs fs' ex ex':List b_}{H H1 H2:Hp}{h h1 h2 h':ew}{a x e:b_}{o:HO}
theorem Un.any(u:Un fs ex H H1 h h1){b:b_}{c:Obj}(q:h.get? b=al c)(n:H b=bdq)(f:b∉ex):∃sl,h1.get? b=al {c with slots:=sl}:=by
 by_cases g:b∈fs;.exact u.slot b c q n g f
 .exact⟨c.slots,u.keep b c q n g f⟩
theorem Un.kept(k:∀b u,h.get? b=al u->h'.get? b=al u):Un fs ex H H h h':=⟨λb c q _ _ _=>k b c q,λb c q _ _ _=>⟨c.slots,k b c q⟩,λ_ _ _ n _=>n,λb c q _=>⟨c,k b c q⟩,λ_ _ q=>q,λ_ _ _ q=>q,λ_ ps q=>⟨#[],by rw[q];simp⟩⟩
theorem Un.refl:Un fs ex H H h h:=Un.kept λ_ _ q=>q
theorem Un.laid(k:∀b u,h.get? b=al u->h'.get? b=al u)(f:h.objs.size<=a)(c:H a=bdq):Un fs ex H (upd H a o) h h' where
 keep:=λb u q _ _ _=>k b u q;slot:=λb u q _ _ _=>⟨u.slots,k b u q⟩;free:=λb u q n _=>by rw[ao (dP (d_ (de q) f))];exact n
 there:=λb u q _=>⟨u,k b u q⟩;tups:=λb xs q=>by rw[ao (gH q c)];exact q
 sE:=λb u xs q=>by rw[ao (gH q c)];exact q
 wO:=λb ps q=>⟨#[],by rw[ao (gH q c),q];simp⟩
theorem Un.write(f:Mut (H x))(he:e=x\/H e=al (.own x))(k:∀b u,b≠e->h.get? b=al u->h'.get? b=al u)(g:∃u,h'.get? e=al u):Un fs ex H (upd H x o) h h':=by
 have l:∀b,H b=bdq->b≠x:=λb n z=>by subst z;rw[n]at f;exact f
 have m:∀b,H b=bdq->b≠e:=λb n z=>by
  subst z;rcases he with r|r;.exact l b n r
  .rw[n]at r;cases r
 have j:∀b u,H b=al u->¬ Mut (al u)->b≠x:=λb u q p z=>by subst z;rw[q]at f;exact p f
 refine⟨λb u q n _ _=>k b u (m b n) q,λb u q n _ _=>⟨u.slots,k b u (m b n) q⟩,λb u q n _=>by rw[ao (l b n)];exact n,λb u q _=>?_,λb xs q=>by rw[ao (j b _ q λz=>z)];exact q,λb u xs q=>by rw[ao (j b _ q λz=>z)];exact q,λb ps q=>⟨#[],by rw[ao (j b _ q λz=>z),q];simp⟩⟩;by_cases c:b=e;.subst c;exact g
 .exact⟨u,k b u c q⟩
end
noncomputable def trk(h:ew)(H:Hp):List b_:=(dy h.objs.size).filter λa=>(H a).isSome
noncomputable def vP(h:ew)(H:Hp):ew:=PySem.W.hideAll h (trk h H)
theorem Gk(h:ew)(H:Hp):(vP h H).objs.size=h.objs.size:=PySem.W.hideAll_size _ _
theorem Je{b:b_}{o:Obj}(e:h.get? b=al o)(n:H b=bdq):(vP h H).get? b=al o:=PySem.W.hideAll_get _ e λa=>by have q:(H b).isSome=bx:=(i4.mp a).2;rw[n]at q;simp at q
theorem Qn{b:b_}{o:Obj}(e:(vP h H).get? b=al o):h.get? b=al o/\H b=bdq:=by have a:h.get? b=al o:=PySem.W.of_hideAll (trk h H) e;refine⟨a,?_⟩;cases q:H b with|none=>rfl|some x=>have c:b∈trk h H:=i4.mpr ⟨ib.mpr (de a),by simp[q]⟩;have z:(vP h H).get? b=bdq:=PySem.W.hideAll_none (trk h H) c;rw[z]at e;cases e
structure Mod(K:PySem.W.Frag)(mg:Str->Option bw)(base:ew):Prop where
 pF:K.In base
 glob:base.Ns dE mg
 blt:∃mb,base.Ns builtinsNs mb/\∀x:Str,x≠"__name__"->mb x=eK x
 nolimit:base.NoLimit
structure Cx where
 prog:da
 w:eg
 K:PySem.W.Frag
 mg:Str->Option bw
 base:ew
 A:ej
 N:List Str
 s₀:bZ
 H₀:Hp
 env:Env
 outer:List Env
 stack:List Env
 ex:List b_
 fn:Str->Bool
 calm:Bool
 pn:List (b_×Obj)xe:bw->bZ->Prop
variable{X:Cx}
noncomputable def frs(l:List Env):List b_:=l.filterMap (·.frame)
noncomputable abbrev Cx.fs(X:Cx):List b_:=frs X.outer
noncomputable def vC(a:jt)(x:Str):Prop:=a.names.lookup x=al .local\/a.names.lookup x=al .cell\/a.names.lookup x=al .free
noncomputable def Loc(a:jt)(x:Str):Prop:=a.names.lookup x=al .local\/a.names.lookup x=al .cell
noncomputable def Look(env:Env)(h:ew)(m:Str->Option bw)(x:Str)(u:bw):Prop:=(env.kindOf x=al .local/\m x=al u)\/((env.kindOf x=al .cell\/env.kindOf x=al .free)/\∃c,env.cells.lookup x=al c/\h.IsCell c (al u))
structure Cx.Ok(X:Cx):Prop where
 mod:Mod X.K X.mg X.base
 kind:X.env.scope.kind=.function
 glob:X.env.globals=dE
 blt:X.env.builtins=builtinsNs
 above:X.s₀.heap.objs.size<=X.env.locals
 inj:∀x y c,X.env.cells.lookup x=al c->X.env.cells.lookup y=al c->x=y
 has:∀x,(X.env.kindOf x=al .cell\/X.env.kindOf x=al .free)->∃c,X.env.cells.lookup x=al c
 cab:∀x c,X.fn x=bx->X.env.cells.lookup x=al c->X.s₀.heap.objs.size<=c
 hd:X.calm=bx->X.A.handled=bdq
 frames:X.A.frames=al X.stack
 stk:X.stack=X.outer\/(X.stack=X.env::X.outer/\X.env.frame=al X.env.locals)exf:∀b∈X.ex,b≠X.env.locals/\∀x c,X.env.cells.lookup x=al c->c≠b
 bs:∀b o,X.base.get? b=al o->X.s₀.heap.get? b=al o/\X.H₀ b=bdq
 RW:X.base.objs.size<=X.s₀.heap.objs.size
 Ly:∀b o,X.base.get? b=al o->b∉X.ex
 Qt:∀b∈X.ex,b∉X.fs
 rE:X.s₀.heap.FunFrames X.base X.outer
 YZ:∀b∈X.fs,X.H₀ b=bdq
structure Inv(X:Cx)(pins:List (b_×Obj))(σ:List (Option V))(H:Hp)(s:bZ):Prop where
 ok:X.Ok
 os:s.os=X.s₀.os
 bare:lW s.gens
 base:Un X.fs X.ex X.H₀ H X.s₀.heap s.heap
 loc:∃m,s.heap.Ns X.env.locals m/\∀(i:Nat)(x:Str)(v:V),X.N[i]?=al x->σ[i]?=al (al v)->vC X.env.scope x->∃u,RelV v u/\Look X.env s.heap m x u
 cell:∀x c,X.env.cells.lookup x=al c->∃v,s.heap.IsCell c v
 free:H X.env.locals=bdq
 jz:∀x c,X.env.cells.lookup x=al c->H c=bdq
 pin:∀p∈X.pn++pins,s.heap.get? p.1=al p.2/\H p.1=bdq/\p.1≠X.env.locals/\p.1∉X.fs/\∀v,p.2.data≠.cell v
 hok:nF X.prog X.w H s.heap
 len:σ.length=X.N.length
section
variable{X:Cx}{pins:List (b_×Obj)}{σ:List (Option V)}{H H':Hp}{s:bZ}{h':ew}
theorem Cx.Ok.afu(ok:X.Ok){b:b_}{o:Obj}(e:X.base.get? b=al o):b∉X.fs:=λa=>by have:=(ok.rE.mem a).1;rw[e]at this;cases this
theorem Inv.bs(I:Inv X pins σ H s):∀b o,X.base.get? b=al o->s.heap.get? b=al o/\H b=bdq:=λb o e=>⟨I.base.keep b o (I.ok.bs b o e).1 (I.ok.bs b o e).2 (I.ok.afu e) (I.ok.Ly b o e),I.base.free b o (I.ok.bs b o e).1 (I.ok.bs b o e).2 (I.ok.Ly b o e)⟩
theorem Inv.bk(I:Inv X pins σ H s):∀b o,X.base.get? b=al o->s.heap.get? b=al o:=λb o e=>(I.bs b o e).1
theorem Inv.mod(I:Inv X pins σ H s):Mod X.K X.mg X.base:=I.ok.mod
theorem Inv.Ue(I:Inv X pins σ H s):X.K.In s.heap:=I.ok.mod.pF.keeps I.bk
theorem Inv.lt(I:Inv X pins σ H s):X.env.locals<s.heap.objs.size:=let⟨_,hn,_⟩:=I.loc;hn.lt
theorem Inv.sz(I:Inv X pins σ H s):X.s₀.heap.objs.size<=s.heap.objs.size:=g_ I.ok.above (li I.lt)
theorem Inv.aeV(I:Inv X pins σ H s){a:b_}(h:s.heap.objs.size<=a):a∉X.fs:=λb=>by obtain⟨_,o,ho,_⟩:=I.ok.rE.mem b;exact absurd (d_ (de ho) (g_ I.sz h)) (ia _)
theorem Inv.U5(I:Inv X pins σ H s):∀x c,X.env.cells.lookup x=al c->c≠X.env.locals:=λx c e z=>by obtain⟨v,o,ho,hd⟩:=I.cell x c e;obtain⟨m,⟨f,es,ep,a,b,_⟩,_⟩:=I.loc;rw[z,a]at ho;cases ho;rw[b]at hd;cases hd
theorem Inv.rE(I:Inv X pins σ H s):s.heap.FunFrames X.base X.outer:=by
 have all:∀(l:List Env),(∀b∈frs l,b∈X.fs)->X.s₀.heap.FunFrames X.base l->s.heap.FunFrames X.base l:=by intro l;induction l with|nil=>intro _ _;trivial|cons env r g=>intro hs j;obtain⟨k,⟨L,o,a,m,ho,hd⟩,hr⟩:=j;have c:L∈X.fs:=hs L (by unfold frs;rw[gu,a];exact h_);obtain⟨sl,e⟩:=I.base.slot L o ho (I.ok.YZ L c) c λz=>I.ok.Qt L z c;exact⟨k,⟨L,_,a,m,e,hd⟩,g (λb f=>hs b (by unfold frs;rw[gu,a];exact dA _ f)) hr⟩
 exact all X.outer (λ_ f=>f) I.ok.rE
theorem Inv.stack(I:Inv X pins σ H s):s.heap.FunFrames X.base X.stack:=by
 rcases I.ok.stk with e|⟨e,a⟩;.rw[e];exact I.rE
 .rw[e];obtain⟨m,b,_⟩:=I.loc;refine .cons (by rw[I.ok.kind];decide) a b ?_ I.rE;exact Heap.get?_none_of_le (g_ I.ok.RW I.ok.above)
theorem Inv.vL(I:Inv X pins σ H s):∀b∈frs X.stack,b∈X.env.locals::X.fs:=λb a=>by
 rcases I.ok.stk with e|⟨e,c⟩;.rw[e]at a;exact dA _ a
 .rw[e]at a;unfold frs at a;rw[gu,c]at a;exact a
theorem Inv.Du(I:Inv X pins σ H s):∀b∈frs X.stack,H b=bdq:=λb hb=>by
 rcases cS.mp (I.vL b hb)with e|hb;.rw[e];exact I.free
 .obtain⟨_,o,ho,_⟩:=I.ok.rE.mem hb;exact I.base.free b o ho (I.ok.YZ b hb) λz=>I.ok.Qt b z hb
theorem Inv.step{g':Array GenState}{d':Drawn}{ch:List b_}(I:Inv X pins σ H s)(f:∀b∈ch,(b∈X.ex\/X.s₀.heap.objs.size<=b)/\b≠X.env.locals/\(∀x c,X.env.cells.lookup x=al c->c≠b)/\∀p∈X.pn++pins,p.1≠b)(keep:∀b o,b≠X.env.locals->b∉X.fs->b∉ch->s.heap.get? b=al o->H b=bdq->h'.get? b=al o)(slot:∀b o,b≠X.env.locals->b∈X.fs->b∉ch->s.heap.get? b=al o->H b=bdq->∃sl,h'.get? b=al {o with slots:=sl})(free:∀b o,b∉ch->s.heap.get? b=al o->H b=bdq->H' b=bdq)(there:∀b o,b∉ch->s.heap.get? b=al o->∃B,h'.get? b=al B)(tups:∀b xs,H b=al (.tup xs)->H' b=al (.tup xs))(sE:∀b o u,H b=al (.cQ o u)->H' b=al (.cQ o u))(wO:∀b ps,H b=al (.WW ps)->∃more,H' b=al (.WW (ps++more)))(ns:∀m,s.heap.Ns X.env.locals m->h'.Ns X.env.locals m)(hok:nF X.prog X.w H' h')(O:lW g'):Inv X pins σ H' {s with heap:=h',gens:=g',drawn:=d',toks:=t'}:=by
 have C:∀b o,X.s₀.heap.get? b=al o->b≠X.env.locals:=λb o e=>dP (d_ (de e) I.ok.above);have j:∀b o,X.s₀.heap.get? b=al o->b∉X.ex->b∉ch:=λb o e a y=>by
  rcases(f b y).1 with z|z;.exact a z
  .exact absurd (d_ (de e) z) (ia _)
 have g:∀x c,X.env.cells.lookup x=al c->∀v,s.heap.IsCell c v->h'.IsCell c v:=λx c e v⟨o,ho,hd⟩=>by
  have E:c∉ch:=λz=>(f c z).2.2.1 x c e rfl;by_cases hc:c∈X.fs;.obtain⟨sl,q⟩:=slot c o (I.U5 x c e) hc E ho (I.jz x c e);exact⟨_,q,hd⟩
  .exact⟨o,keep c o (I.U5 x c e) hc E ho (I.jz x c e),hd⟩
 refine⟨I.ok,I.os,O,⟨λb o e n y a=>?_,λb o e n y a=>?_,λb o e n a=>?_,λb o e a=>?_,λb xs e=>tups b xs (I.base.tups b xs e),λb o xs e=>sE b o xs (I.base.sE b o xs e),λb ps e=>?_⟩,?_,λx c e=>?_,?_,λx c e=>?_,λp L=>?_,hok,I.len⟩;.exact keep b o (C b o e) y (j b o e a) (I.base.keep b o e n y a) (I.base.free b o e n a)
 .obtain⟨sl,t⟩:=I.base.slot b o e n y a;obtain⟨J,G⟩:=slot b _ (C b o e) y (j b o e a) t (I.base.free b o e n a);exact⟨J,G⟩
 .obtain⟨B,t⟩:=I.base.there b o e a;exact free b B (j b o e a) t (I.base.free b o e n a)
 .obtain⟨B,t⟩:=I.base.there b o e a;exact there b B (j b o e a) t
 .obtain⟨m1,t⟩:=I.base.wO b ps e;obtain⟨Q,G⟩:=wO b _ t;exact⟨m1++Q,by rw[G,Array.append_assoc]⟩
 . obtain⟨m,U,W⟩:=I.loc;refine⟨m,ns m U,λi x v t G Y=>?_⟩;obtain⟨u,r,l⟩:=W i x v t G Y;refine⟨u,r,?_⟩;rcases l with l|⟨k,c,e,z⟩;.exact .inl l
   .exact .inr ⟨k,c,e,g x c e _ z⟩
 .obtain⟨v,z⟩:=I.cell x c e;exact⟨v,g x c e v z⟩
 .obtain⟨m,⟨o,_,_,ho,_⟩,_⟩:=I.loc;exact free _ o (λz=>(f _ z).2.1 rfl) ho I.free
 .obtain⟨v,o,ho,hd⟩:=I.cell x c e;exact free c o (λz=>(f c z).2.2.1 x c e rfl) ho (I.jz x c e)
 .obtain⟨e,n,ne,N,d⟩:=I.pin p L;have E:p.1∉ch:=λz=>(f p.1 z).2.2.2 p L rfl;exact⟨keep p.1 p.2 ne N E e n,free p.1 p.2 E e n,ne,N,d⟩
theorem Inv.un(I:Inv X pins σ H s)(u:Un X.fs [] H H' s.heap h')(hok:nF X.prog X.w H' h'):Inv X pins σ H' {s with heap:=h',toks:=t'}:=by obtain⟨m,⟨o,es,ep,ho,r⟩,_⟩:=id I.loc;obtain⟨sl,j⟩:=u.any ho I.free (by simp);exact I.step (g':=s.gens) (d':=s.drawn) (ch:=[]) (λ_ z=>nomatch z) (λb o _ c _ e n=>u.keep b o e n c (by simp)) (λb o _ c _ e n=>u.slot b o e n c (by simp)) (λb o _ e n=>u.free b o e n (by simp)) (λb o _ e=>u.there b o e (by simp)) u.tups u.sE u.wO (λp k=>by obtain⟨q,f,g,a,l⟩:=k;rw[ho]at a;cases a;exact⟨_,f,g,j,l⟩) hok I.bare
theorem Inv.call{g':Array GenState}{d':Drawn}{ch:List b_}(I:Inv X pins σ H s)(u:Un (frs X.stack) ch H H' s.heap h')(hok:nF X.prog X.w H' h')(l:lW g')(a:∀b∈ch,(b∈X.ex\/X.s₀.heap.objs.size<=b)/\b≠X.env.locals/\(∀x c,X.env.cells.lookup x=al c->c≠b)/\∀p∈X.pn++pins,p.1≠b):Inv X pins σ H' {s with heap:=h',gens:=g',drawn:=d',toks:=t'}:=by obtain⟨m,⟨o,es,ep,ho,r⟩,_⟩:=id I.loc;obtain⟨sl,g⟩:=u.any ho I.free λz=>(a _ z).2.1 rfl;exact I.step (ch:=ch) a (λb o g q hc e n=>u.keep b o e n (λz=>(cS.mp (I.vL b z)).elim g q) hc) (λb o _ _ hc e n=>u.any e n hc) (λb o hc e n=>u.free b o e n hc) (λb o hc e=>u.there b o e hc) u.tups u.sE u.wO (λy t=>by obtain⟨B,j,k,f,v⟩:=t;rw[ho]at f;cases f;exact⟨_,j,k,g,v⟩) hok l
theorem Inv.turned{it:b_}(I:Inv X pins σ H s)(k:∀b o,b≠it->s.heap.get? b=al o->h'.get? b=al o)(g:H it=bdq)(f:it≠X.env.locals)(h1:it∈X.ex\/X.s₀.heap.objs.size<=it)(j:∀x c,X.env.cells.lookup x=al c->c≠it)(l:∀p∈X.pn++pins,p.1≠it):Inv X pins σ H {s with heap:=h',toks:=t'}:=by
 have a:∀b u,H b=al u->b≠it:=λb u e z=>by rw[z,g]at e;cases e
 refine I.step (g':=s.gens) (d':=s.drawn) (ch:=[it]) (λb t=>?_) (λb o _ _ hc e _=>k b o (λz=>hc (by simp[z])) e) (λb o _ _ hc e _=>⟨o.slots,k b o (λz=>hc (by simp[z])) e⟩) (λ_ _ _ _ n=>n) (λb o hc e=>⟨o,k b o (λz=>hc (by simp[z])) e⟩) (λ_ _ e=>e) (λ_ _ _ e=>e) (λb ps e=>⟨#[],by rw[e];simp⟩) (λm y=>?_) (λb u e=>?_) I.bare
 . have e:b=it:=by simpa using t
   subst e;exact⟨h1,f,j,l⟩
 .obtain⟨o,es,ep,ho,r⟩:=y;exact⟨o,es,ep,k _ o (fE f) ho,r⟩
 . refine(I.hok b u e).stay (λc v hc q=>k c v ?_ q) (λ_ q=>q) λ_ _ q=>q;rcases hc with z|z;.rw[z];exact a b u e
   .exact a c _ z
theorem Inv.tok(I:Inv X pins σ H s)(t:Nat):Inv X pins σ H {s with toks:=t}:=I.un (h':=s.heap) (t':=t) Un.refl I.hok
theorem Inv.kept{t':Nat}(I:Inv X pins σ H s)(k:∀b u,s.heap.get? b=al u->h'.get? b=al u):Inv X pins σ H {s with heap:=h',toks:=t'}:=I.un (Un.kept k) (I.hok.kept k)
theorem Inv.laid{a:b_}{o:HO}{t':Nat}(I:Inv X pins σ H s)(k:∀b u,s.heap.get? b=al u->h'.get? b=al u)(c:s.heap.objs.size<=a)(e:bI X.prog X.w (upd H a o) h' a o):Inv X pins σ (upd H a o) {s with heap:=h',toks:=t'}:=I.un (Un.laid k c (I.hok.fresh c)) (I.hok.laid k c e)
theorem Inv.write{x e:b_}{o:HO}{t':Nat}(I:Inv X pins σ H s)(f:Mut (H x))(he:e=x\/H e=al (.own x))(k:∀b u,b≠e->s.heap.get? b=al u->h'.get? b=al u)(a:∃u,h'.get? e=al u)(c:bI X.prog X.w (upd H x o) h' x o):Inv X pins σ (upd H x o) {s with heap:=h',toks:=t'}:=I.un (Un.write f he k a) (I.hok.write f he k a c)
theorem Inv.Cy{a:List (b_×Obj)}(I:Inv X pins σ H s)(h:∀p∈a,s.heap.get? p.1=al p.2/\H p.1=bdq/\p.1≠X.env.locals/\p.1∉X.fs/\∀v,p.2.data≠.cell v):Inv X a σ H s:=⟨I.ok,I.os,I.bare,I.base,I.loc,I.cell,I.free,I.jz,λp b=>(eJ.mp b).elim (λz=>I.pin p (o_ _ z)) (h p),I.hok,I.len⟩
theorem xT{N:List Str}(c:N.Nodup){j:Nat}{x:Str}(a:N[i]?=al x)(b:N[j]?=al x):i=j:=by obtain⟨h1,e⟩:=dX a;obtain⟨g,f⟩:=dX b;exact(List.getElem_inj c).mp (e.trans f.symm)
theorem tV{E:bw->bZ->Prop}{x:Str}{v:V}{u:bw}{Q:Unit->bZ->Prop}(I:Inv X pins σ H s)(hN:X.N.Nodup)(hi:X.N[i]?=al x)(l:Loc X.env.scope x)(r:RelV v u)(h:∀s',Inv X pins (σ.set i (al v)) H s'->(∃a,rf a s.heap s'.heap/\(a=X.env.locals\/X.env.cells.lookup x=al a))->Q () s')(hf:X.fn x=bx\/X.env.scope.names.lookup x=al .local:=by first|(left;rfl)|(right;rfl)|assumption):cy M A (storeName X.env x u) Q E s:=by
 obtain⟨m,hn,hl⟩:=id I.loc;have O:(X.env.scope.kind==.class||(X.env.scope.kind==.module&&X.env.locals !=X.env.globals))=a7:=by rw[I.ok.kind];rfl
 have C:i<σ.length:=by rw[I.len];exact(dX hi).1
 have U5:=I.U5;have f:∀{a:b_}{h':ew},(∃o,s.heap.get? a=al o/\H a=bdq)->rf a s.heap h'->nF X.prog X.w H h':=λ{a h'}ha hs b ob e=>by
  obtain⟨_,_,t⟩:=ha;refine(I.hok b ob e).stay (λc Z hc q=>(hs.2 c ?_).trans q) (λ_ q=>q) λ_ _ q=>q;rintro rfl;rcases hc with rfl|hc;.rw[t]at e;cases e
  .rw[t]at hc;cases hc
 rcases l with hk|hk
 . refine wpAny_storeName_local hk hn (λh' ac hs=>?_) O;obtain⟨oL,_,_,ae,_⟩:=id hn;refine h _ ⟨I.ok,I.os,I.bare,⟨λb o e n G l=>?_,λb o e n G l=>?_,I.base.free,λb o e l=>?_,I.base.tups,I.base.sE,I.base.wO⟩,⟨_,ac,λj y v' g B e3=>?_⟩,λy c e=>?_,I.free,I.jz,λp hp=>?_,f ⟨oL,ae,I.free⟩ hs,by simpa using I.len⟩ ⟨_,hs,.inl rfl⟩;.exact(hs.2 b (dP (d_ (de e) I.ok.above))).trans (I.base.keep b o e n G l)
   .obtain⟨sl,g⟩:=I.base.slot b o e n G l;exact⟨sl,(hs.2 b (dP (d_ (de e) I.ok.above))).trans g⟩
   .obtain⟨o',g⟩:=I.base.there b o e l;exact⟨o',(hs.2 b (dP (d_ (de e) I.ok.above))).trans g⟩
   . by_cases J:j=i;.subst J;rw[hi]at g;cases g;rw[cp C]at B;cases B;exact⟨u,r,.inl ⟨hk,by simp⟩⟩
     . rw[fj J]at B;obtain⟨u',r',q⟩:=hl j y v' g B e3;refine⟨u',r',?_⟩;rcases q with⟨k,e⟩|⟨k,c,e,z⟩;.refine .inl ⟨k,?_⟩;have:y≠x:=λe=>J (xT hN g (e▸hi));simp[this,e]
       .exact .inr ⟨k,c,e,z.sameBut hs (U5 y c e)⟩
   .obtain⟨Z,z⟩:=I.cell y c e;exact⟨Z,z.sameBut hs (U5 y c e)⟩
   .obtain⟨e,n,ne,nf,d⟩:=I.pin p hp;exact⟨(hs.2 p.1 ne).trans e,n,ne,nf,d⟩
 . have L:X.fn x=bx:=by
    rcases hf with z|z;.exact z
    .rw[z]at hk;cases hk
   obtain⟨c,hc⟩:=I.ok.has x (.inl hk);obtain⟨Z,z⟩:=I.cell x c hc;refine wpAny_storeName_cell I.ok.kind hk hc z (λh' U hs=>?_);obtain⟨oc,W,af⟩:=id z;refine h {s with heap:=h'} ⟨I.ok,I.os,I.bare,⟨λb o e n G l=>?_,λb o e n G l=>?_,I.base.free,λb o e l=>?_,I.base.tups,I.base.sE,I.base.wO⟩,⟨m,hn.sameBut hs (fE (U5 x c hc)),λj y v' g B e3=>?_⟩,λy c' e=>?_,I.free,I.jz,λp hp=>?_,f ⟨oc,W,I.jz x c hc⟩ hs,by simpa using I.len⟩ ⟨c,hs,.inr hc⟩;.exact(hs.2 b (dP (d_ (de e) (I.ok.cab x c L hc)))).trans (I.base.keep b o e n G l)
   .obtain⟨sl,g⟩:=I.base.slot b o e n G l;exact⟨sl,(hs.2 b (dP (d_ (de e) (I.ok.cab x c L hc)))).trans g⟩
   .obtain⟨o',g⟩:=I.base.there b o e l;exact⟨o',(hs.2 b (dP (d_ (de e) (I.ok.cab x c L hc)))).trans g⟩
   . by_cases J:j=i;.subst J;rw[hi]at g;cases g;rw[cp C]at B;cases B;exact⟨u,r,.inr ⟨.inl hk,c,hc,U⟩⟩
     . rw[fj J]at B;obtain⟨u',r',q⟩:=hl j y v' g B e3;refine⟨u',r',?_⟩;rcases q with q|⟨k,c',e,z'⟩;.exact .inl q
       .refine .inr ⟨k,c',e,z'.sameBut hs ?_⟩;rintro rfl;exact J (xT hN g (I.ok.inj _ _ _ e hc▸hi))
   . by_cases Y:c'=c;.subst Y;exact⟨_,U⟩
     .obtain⟨w2,z2⟩:=I.cell y c' e;exact⟨w2,z2.sameBut hs Y⟩
   .obtain⟨e,n,ne,nf,d⟩:=I.pin p hp;refine⟨(hs.2 p.1 ?_).trans e,n,ne,nf,d⟩;intro q;rw[q,W]at e;have q':oc=p.2:=eA e;exact d Z (by rw[<-q'];exact af)
theorem jO{E:bw->bZ->Prop}{x:Str}{v:V}{u:bw}{Q:Unit->bZ->Prop}(I:Inv X pins σ H s)(b:X.N.Nodup)(hi:X.N[i]?=al x)(c:Loc X.env.scope x)(r:RelV v u)(h:∀a,Inv X pins (σ.set i (al v)) H a->Q () a)(e:X.fn x=bx\/X.env.scope.names.lookup x=al .local:=by first|(left;rfl)|(right;rfl)|assumption):cy M A (storeName X.env x u) Q E s:=tV I b hi c r (λa f _=>h a f) e
end
noncomputable abbrev XK:=bw->Option b_->Hp->Prop
noncomputable abbrev St:=List (Option V)
noncomputable abbrev VK:=V->Hp->Prop
noncomputable abbrev TE:=St->Hp->VK->Prop
variable{te:TE}
noncomputable abbrev TT:=St->Hp->(Bool->Hp->Prop)->Prop
noncomputable abbrev TA:=St->Hp->(List V->Hp->Prop)->Prop
structure Ends where
 nx:St->Hp->Prop
 rt:VK
 bk:St->Hp->Prop:=λ_ _=>False
 ct:St->Hp->Prop:=λ_ _=>False
noncomputable abbrev TS:=Ends->St->Hp->Prop
inductive EP(X:Cx)(pins:List (b_×Obj))(σ:St)(Q:VK)(u:bw)(s':bZ):Prop where|mk(v:V)(H':Hp)(q0:Inv X pins σ H' s')(q1:RelV v u)(q2:Q v H')
noncomputable def TP(X:Cx)(pins:List (b_×Obj))(σ:St)(Q:Bool->Hp->Prop)(b:Bool)(c:bZ):Prop:=∃a,Inv X pins σ a c/\Q b a
inductive AP(X:Cx)(pins:List (b_×Obj))(σ:St)(Q:List V->Hp->Prop)(us:List bw)(s':bZ):Prop where|mk(vs:List V)(H':Hp)(q0:Inv X pins σ H' s')(q1:Vals vs us)(q2:Q vs H')
noncomputable def SP(X:Cx)(pins:List (b_×Obj))(D:Ends)(f:Flow)(c:bZ):Prop:=match f with|.next=>∃a b,Inv X pins a b c/\D.nx a b|.brk=>∃a b,Inv X pins a b c/\D.bk a b|.cont=>∃a b,Inv X pins a b c/\D.ct a b|.ret u=>∃v a b,Inv X pins a b c/\RelV v u/\D.rt v b
noncomputable def PE(X:Cx)(e:df)(t:TE):Prop:=∀(pins:List (b_×Obj))(s:bZ)(σ:St)(H:Hp)(Q:VK),Inv X pins σ H s->t σ H Q->cy (cE X.prog X.w) X.A (eu e X.env) (EP X pins σ Q) X.xe s
noncomputable def PT(X:Cx)(e:df)(t:TT):Prop:=∀(pins:List (b_×Obj))(s:bZ)(σ:St)(H:Hp)(Q:Bool->Hp->Prop),Inv X pins σ H s->t σ H Q->cy (cE X.prog X.w) X.A (isTrue e X.env (eu e X.env)) (TP X pins σ Q) X.xe s
noncomputable def PW(X:Cx)(e:df)(t:TT):Prop:=∀(a:Sem bw)(pins:List (b_×Obj))(s:bZ)(σ:St)(H:Hp)(Q:Bool->Hp->Prop),Inv X pins σ H s->t σ H Q->cy (cE X.prog X.w) X.A (isTrue e X.env a) (TP X pins σ Q) X.xe s
theorem PW.pt{e:df}{t:TT}(h:PW X e t):PT X e t:=h _
noncomputable def PA(X:Cx)(es:List df)(t:TA):Prop:=∀(pos:Pos)(pins:List (b_×Obj))(s:bZ)(σ:St)(H:Hp)(Q:List V->Hp->Prop),Inv X pins σ H s->t σ H Q->cy (cE X.prog X.w) X.A (spliced (iA pos (cw es X.env))) (AP X pins σ Q) X.xe s
noncomputable def PS(X:Cx)(st:eM)(t:TS):Prop:=∀(pins:List (b_×Obj))(s:bZ)(σ:St)(H:Hp)(D:Ends),Inv X pins σ H s->t D σ H->cy (cE X.prog X.w) X.A (exec st X.env) (SP X pins D) X.xe s
noncomputable def rG(X:Cx)(st:List eM)(t:TS):Prop:=∀(pins:List (b_×Obj))(s:bZ)(σ:St)(H:Hp)(D:Ends),Inv X pins σ H s->t D σ H->cy (cE X.prog X.w) X.A (execs st X.env) (SP X pins D) X.xe s
theorem cB{b:Type}{t:Sem b}{Q c:b->bZ->Prop}{E:bw->bZ->Prop}(h:cy M A t Q E s)(e:∀a s,Q a s->c a s):cy M A t c E s:=ei h e λ_ _ x=>x
section
variable{X:Cx}
noncomputable def nG(i:Nat):TE:=λσ H Q=>∃v,σ[i]?=al (al v)/\Q v H
noncomputable def tC(v:V):TE:=λ_ H Q=>Q v H
theorem eU{x:Str}(f:X.N[i]?=al x)(g:vC X.env.scope x)(hd:(x==("__debug__":Str))=a7:=by decide)(b:(x==("__classdict__":Str))=a7:=by decide):PE X (.Name x pos) (nG i):=by
 intro pins s σ H Q I h;obtain⟨v,e,h⟩:=h;obtain⟨m,j,k⟩:=I.loc;obtain⟨u,r,l⟩:=k i x v f e g;have fin:EP X pins σ Q u s:=⟨v,H,I,r,h⟩;rcases l with⟨hk,n⟩|⟨hk,c,hc,a⟩;.exact wpAny_Name (rj I.ok.kind hk j n fin) hd
 . rcases hk with hk|hk;.exact wpAny_Name (sd I.ok.kind hk hc a fin) hd
   .exact wpAny_Name (wpAny_loadName_free I.ok.kind hk hc a fin b) hd
theorem jM{i j pos}:PE X (.Constant (.int i) j pos) (tC (.int i)):=λ_ _ _ H _ I h=>wpAny_Constant_int ⟨.int i,H,I.tok _,⟨_,rfl⟩,h⟩
theorem Z9{b j pos}:PE X (.Constant (.bool b) j pos) (tC (.bl b)):=λ_ _ _ H _ I h=>Constant_bool ⟨.bl b,H,I,rfl,h⟩
theorem V3{j pos}:PE X (.Constant .none j pos) (tC .non):=λ_ _ _ H _ I h=>Constant_none ⟨.non,H,I,rfl,h⟩
noncomputable def Gl(X:Cx)(x:Str):Prop:=X.env.kindOf x=al .globalImplicit
theorem Pb{E:bw->bZ->Prop}{σ:St}{x:Str}{u:bw}{Q:bw->bZ->Prop}(I:Inv X pins σ H s)(a:Gl X x)(b:X.mg x=al u)(h:Q u s)(hd:(x==("__debug__":Str))=a7:=by decide):cy (cE X.prog X.w) X.A (eu (.Name x pos) X.env) Q E s:=m_ I.ok.kind a (Calls.loadGlobal_global (by rw[I.ok.glob];exact I.mod.glob.keeps I.bk) b h) hd
theorem ji{E:bw->bZ->Prop}{σ:St}{x:Str}{u:bw}{Q:bw->bZ->Prop}(I:Inv X pins σ H s)(a:Gl X x)(b:X.mg x=bdq)(c:eK x=al u)(h:Q u s)(e:x≠"__name__":=by decide)(hd:(x==("__debug__":Str))=a7:=by decide):cy (cE X.prog X.w) X.A (eu (.Name x pos) X.env) Q E s:=by obtain⟨g,h1,f⟩:=I.mod.blt;exact m_ I.ok.kind a (Calls.loadGlobal_builtin (by rw[I.ok.glob];exact I.mod.glob.keeps I.bk) b (by rw[I.ok.blt];exact h1.keeps I.bk) ((f x e).trans c) h) hd
theorem Py{x:Str}{v:V}{u:bw}(a:Gl X x)(b:X.mg x=bdq)(c:eK x=al u)(r:RelV v u)(e:x≠"__name__":=by decide)(hd:(x==("__debug__":Str))=a7:=by decide):PE X (.Name x pos) (tC v):=λ_ _ _ H _ I h=>ji I a b c ⟨v,H,I,r,h⟩ e hd
variable{a b:df}{ta tb:TE}{pos:Pos}
noncomputable def PC(X:Cx)(op:nL)(a b:df)(t:TE):Prop:=∀(pins:List (b_ × Obj))(s:bZ)(σ:St)(H:Hp)(Q:VK),Inv X pins σ H s->t σ H Q->cy (cE X.prog X.w) X.A (eu a X.env) (λv c=>cy (cE X.prog X.w) X.A (eu b X.env) (λu e=>cy (cE X.prog X.w) X.A (dO op v u) (EP X pins σ Q) X.xe e) X.xe c) X.xe s
noncomputable def tB(t:TE):TT:=λσ H Q=>t σ H λx e=>∃c,x=.bl c/\Q c e
theorem Um{t:TE}(h:PC X op a b t)(h1:ga op b=a7:=by first|(apply aba<;>decide)|rfl):PT X (.Compare a [op] [b] pos) (tB t):=by intro pins s σ H Q I e;refine rh (cB (h pins s σ H _ I e) λv s1 h1=>cB h1 λu s2 f=>cB f λc s3⟨x,H1,I1,r1,q1⟩=>?_) h1;obtain⟨d,rfl,q⟩:=q1;cases r1;exact fF ⟨H1,I1,q⟩
theorem S6{e:df}{t:TE}(h:PE X e t)(he:∀c,isTrue e X.env c=(do let v<-c;qv e.pos;iO [v] (truthy v)):=by intro _;rfl):PT X e (tB t):=by intro pins s σ H Q I f;refine isTrue_plain (cB (h pins s σ H _ I f) λv s1⟨x,H1,I1,r1,q1⟩=>?_) (he _);obtain⟨d,rfl,q⟩:=q1;cases r1;exact fF ⟨H1,I1,q⟩
variable{tA tB':TT}{rest:List df}
noncomputable def afT(t u:TT):TT:=λσ H Q=>t σ H λc e=>if c=bx then u σ e Q else Q a7 e
noncomputable def tOr(t u:TT):TT:=λσ H Q=>t σ H λc e=>if c=bx then Q bx e else u σ e Q
noncomputable def afP(t:TT):TT:=λσ H Q=>t σ H λc e=>Q (!c) e
theorem PJ(f:PT X a tA):PW X (.BoolOp .And [a] pos) tA:=by intro wh pins s σ H Q I h;refine isTrue_and (cB (f pins s σ H Q I h) λc s1 e=>?_);cases c with|true=>exact isTrue_and_nil e|false=>exact e
theorem Us(f:PT X a tA):PW X (.BoolOp .Or [a] pos) tA:=by intro wh pins s σ H Q I h;refine isTrue_or (cB (f pins s σ H Q I h) λc s1 e=>?_);cases c with|false=>exact isTrue_or_nil e|true=>exact e
theorem V9(f:PT X a tA)(g:PW X (.BoolOp .And (b::rest) pos) tB'):PW X (.BoolOp .And (a::b::rest) pos) (afT tA tB'):=by intro wh pins s σ H Q I h;refine isTrue_and (cB (f pins s σ H _ I h) λc s1⟨e,I1,q1⟩=>?_);cases c with|true=>exact g wh pins s1 σ e Q I1 q1|false=>exact⟨e,I1,q1⟩
theorem Z8(f:PT X a tA)(g:PW X (.BoolOp .Or (b::rest) pos) tB'):PW X (.BoolOp .Or (a::b::rest) pos) (tOr tA tB'):=by intro wh pins s σ H Q I h;refine isTrue_or (cB (f pins s σ H _ I h) λc s1⟨e,I1,q1⟩=>?_);cases c with|true=>exact⟨e,I1,q1⟩|false=>exact g wh pins s1 σ e Q I1 q1
theorem V4(e:PT X a tA):PT X (.UnaryOp .Not a pos) (afP tA):=by intro pins s σ H Q I h;exact isTrue_not (e pins s σ H (λc f=>Q (!c) f) I h)
noncomputable def aaJ(ta tb:TE):TE:=λσ H Q=>ta σ H λx e=>∃c,x=.bl c/\if c=bx then tb σ e Q else Q (.bl a7) e
noncomputable def adV(ta tb:TE):TE:=λσ H Q=>ta σ H λx e=>∃c,x=.bl c/\if c=bx then Q (.bl bx) e else tb σ e Q
noncomputable def ZX(ta:TE):TE:=λσ H Q=>ta σ H λx e=>∃c,x=.bl c/\Q (.bl (!c)) e
theorem Td{op}{t:TE}(h:PE X a t):PE X (.BoolOp op [a] pos) t:=λpins s σ H Q I c=>BoolOp_one (h pins s σ H Q I c)
theorem S9(f:PE X a ta)(g:PE X (.BoolOp .And (b::rest) pos) tb):PE X (.BoolOp .And (a::b::rest) pos) (aaJ ta tb):=by intro pins s σ H Q I h;refine BoolOp_and (cB (f pins s σ H _ I h) λv s1⟨x,H1,I1,r1,e⟩=>?_);obtain⟨c,rfl,e⟩:=e;cases r1;refine fF ?_;cases c with|true=>exact g pins s1 σ H1 Q I1 e|false=>exact⟨.bl a7,H1,I1,rfl,e⟩
theorem JQ(f:PE X a ta)(g:PE X (.BoolOp .Or (b::rest) pos) tb):PE X (.BoolOp .Or (a::b::rest) pos) (adV ta tb):=by intro pins s σ H Q I h;refine BoolOp_or (cB (f pins s σ H _ I h) λv s1⟨x,H1,I1,r1,e⟩=>?_);obtain⟨c,rfl,e⟩:=e;cases r1;refine fF ?_;cases c with|false=>exact g pins s1 σ H1 Q I1 e|true=>exact⟨.bl bx,H1,I1,rfl,e⟩
theorem T7(f:PE X a ta):PE X (.UnaryOp .Not a pos) (ZX ta):=by intro pins s σ H Q I h;refine UnaryOp_ (cB (f pins s σ H _ I h) λv s1⟨x,H1,I1,r1,e⟩=>?_);obtain⟨c,rfl,e⟩:=e;cases r1;exact not_of (fF ⟨.bl (!c),H1,I1,rfl,e⟩)
noncomputable def tIf(t:TT)(ta tb:TE):TE:=λσ H Q=>t σ H λc e=>if c=bx then ta σ e Q else tb σ e Q
theorem JT{c:df}(hc:PT X c tA)(f:PE X a ta)(g:PE X b tb):PE X (.IfExp c a b pos) (tIf tA ta tb):=by intro pins s σ H Q I h;refine wpAny_IfExp (cB (hc pins s σ H _ I h) λd s1⟨e,I1,q1⟩=>?_);cases d with|true=>exact f pins s1 σ e Q I1 q1|false=>exact g pins s1 σ e Q I1 q1
end
noncomputable def dF(K:PySem.W.Frag)(H:Hp)(a:b_)(xs:List V):Prop:=Rd H a (.lst xs)\/∃(o:Obj)(b:Array bw)(n:Nat),K.lookup a=al o/\o.cls=.type "list"/\o.dict=bdq/\o.data=.seq b n/\b.size<=sizeLine/\Vals xs b.toList
noncomputable def iB(K:PySem.W.Frag)(H:Hp)(a:b_)(xs:List V):Prop:=Rd H a (.tup xs)\/∃(o:Obj)(b:Array bw)(n:Nat),K.lookup a=al o/\o.cls=.type "tuple"/\o.data=.seq b n/\b.size<=sizeLine/\Vals xs b.toList
noncomputable def afp:bw->Option V|.none=>al .non|.bool b=>al (.bl b)|.int i _=>al (.int i)|.str x _=>al (.str x)|.bytes b _=>al (.byt b)|.float b _=>al (.flt b)|.ref a=>al (.ref a)|.type n=>al (.ty n)|_=>bdq
theorem RelV.abs{x:V}{u:bw}(r:RelV x u):afp u=al x:=by cases x with|non=>cases r;rfl|bl _=>cases r;rfl|int _=>obtain⟨t,rfl⟩:=r;rfl|str _=>obtain⟨t,rfl⟩:=r;rfl|byt _=>obtain⟨t,rfl⟩:=r;rfl|flt _=>obtain⟨t,rfl⟩:=r;rfl|ref _=>cases r;rfl|ty _=>cases r;rfl
theorem RelV.inj{x y:V}{u:bw}(r:RelV x u)(q:RelV y u):x=y:=eA (r.abs.symm.trans q.abs)
theorem Vals.inj:∀{xs ys:List V}{us:List bw},Vals xs us->Vals ys us->xs=ys|_,_,_,.nil,.nil=>rfl|_,_,_,.cons r t,.cons a t'=>by rw[r.inj a,Vals.inj t t']
section
variable{X:Cx}{pins:List (b_×Obj)}{σ:St}{H:Hp}{s:bZ}{a:b_}{xs ys:List V}
theorem dF.of(h:H a=al (.lst xs)):dF K H a xs:=.inl (.inl h)
theorem iB.of(h:H a=al (.tup xs)):iB K H a xs:=.inl (.inl h)
theorem Inv.list(I:Inv X pins σ H s)(h:dF X.K H a xs):∃b:List bw,Vals xs b/\PlainL s.heap a b.toArray/\xs.length<=sizeLine:=by
 rcases h with h|⟨o,b,n,c,hc,hd,hs,hz,r⟩;.obtain⟨z,b,n,r,e⟩:=h.ok I.hok;exact⟨b,r,⟨_,n,e,rfl,rfl,rfl⟩,z⟩
 .refine⟨b.toList,r,⟨o,n,I.Ue a o c,hc,hd,by simpa using hs⟩,?_⟩;have e:=r.length;simp only[ja]at e;omega
theorem Inv.tuple(I:Inv X pins σ H s)(h:iB X.K H a xs):∃b:List bw,Vals xs b/\qa s.heap a b.toArray/\xs.length<=sizeLine:=by
 rcases h with h|⟨o,b,n,c,hc,hs,hz,r⟩;.obtain⟨z,b,r,p⟩:=h.ok I.hok;exact⟨b,r,p,z⟩
 .refine⟨b.toList,r,⟨o,I.Ue a o c,hc,n,by simpa using hs⟩,?_⟩;have e:=r.length;simp only[ja]at e;omega
theorem Inv.m7(I:Inv X pins σ H s)(h:dF X.K H a xs)(h':dF X.K H a ys):xs=ys:=by
 obtain⟨b,r,⟨o,n,e,_,_,d⟩,_⟩:=I.list h;obtain⟨its',f,⟨g,j,c,_,_,d'⟩,_⟩:=I.list h';rw[e]at c;cases c;rw[d]at d';injection d' with d1 _;have:b=its':=by simpa using congrArg toList d1
 subst this;exact r.inj f
theorem Inv.kJ(I:Inv X pins σ H s)(h:iB X.K H a xs)(h':iB X.K H a ys):xs=ys:=by
 obtain⟨b,r,⟨o,e,_,n,d⟩,_⟩:=I.tuple h;obtain⟨its',f,⟨g,c,_,j,d'⟩,_⟩:=I.tuple h';rw[e]at c;cases c;rw[d]at d';injection d' with d1 _;have:b=its':=by simpa using congrArg toList d1
 subst this;exact r.inj f
end
noncomputable abbrev Cx.wish(X:Cx)(E:bw->bZ->Prop):Cx:={X with xe:=E}
noncomputable abbrev Cx.nox(X:Cx):Cx:=X.wish λ_ _=>False
theorem Cx.Ok.wish{X:Cx}(ok:X.Ok)(E:bw->bZ->Prop):(X.wish E).Ok:=⟨ok.mod,ok.kind,ok.glob,ok.blt,ok.above,ok.inj,ok.has,ok.cab,ok.hd,ok.frames,ok.stk,ok.exf,ok.bs,ok.RW,ok.Ly,ok.Qt,ok.rE,ok.YZ⟩
theorem Cx.Ok.jF{E:bw->bZ->Prop}(ok:(X.wish E).Ok):X.Ok:=⟨ok.mod,ok.kind,ok.glob,ok.blt,ok.above,ok.inj,ok.has,ok.cab,ok.hd,ok.frames,ok.stk,ok.exf,ok.bs,ok.RW,ok.Ly,ok.Qt,ok.rE,ok.YZ⟩
section
variable{X:Cx}{pins:List (b_×Obj)}{σ:St}{H:Hp}{s:bZ}{E:bw->bZ->Prop}
theorem Inv.wish(I:Inv X pins σ H s)(E:bw->bZ->Prop):Inv (X.wish E) pins σ H s:=⟨I.ok.wish E,I.os,I.bare,I.base,I.loc,I.cell,I.free,I.jz,I.pin,I.hok,I.len⟩
theorem Inv.jF(I:Inv (X.wish E) pins σ H s):Inv X pins σ H s:=⟨I.ok.jF,I.os,I.bare,I.base,I.loc,I.cell,I.free,I.jz,I.pin,I.hok,I.len⟩
theorem SP.jF{D:Ends}{f:Flow}{c:bZ}(h:SP (X.wish E) pins D f c):SP X pins D f c:=by cases f with|next=>obtain⟨a,b,I,q⟩:=h;exact⟨a,b,I.jF,q⟩|brk=>obtain⟨a,b,I,q⟩:=h;exact⟨a,b,I.jF,q⟩|cont=>obtain⟨a,b,I,q⟩:=h;exact⟨a,b,I.jF,q⟩|ret u=>obtain⟨v,a,b,I,r,q⟩:=h;exact⟨v,a,b,I.jF,r,q⟩
theorem rG.nox{st:List eM}{t:TS}(h:rG X.nox st t):rG X st t:=λpins s σ H D I a=>ei (h pins s σ H D (I.wish _) a) (λ_ _ q=>q.jF) λ_ _ z=>e_ z
end
section
variable{X:Cx}{st:eM}{rest:List eM}{t u:TS}{e:df}{te:TE}{pos:Pos}
noncomputable def aar:TS:=λD σ H=>D.nx σ H
noncomputable def aa0(t u:TS):TS:=λD σ H=>t {D with nx:=u D} σ H
theorem CW:rG X [] aar:=λ_ _ σ H _ I h=>nX ⟨σ,H,I,h⟩
theorem fU(h1:PS X st t)(b:rG X rest u):rG X (st::rest) (aa0 t u):=by intro pins s σ H D I h;refine wpAny_execs_cons (cB (h1 pins s σ H {D with nx:=u D} I h) λf s1 q=>?_);cases f with|next=>obtain⟨a,c,g,q⟩:=q;exact b pins s1 a c D g q|ret v=>exact q|brk=>exact q|cont=>exact q
theorem Inv.quiet{σ:St}(I:Inv X pins σ H s):interactive X.env=a7:=by simp[interactive,I.ok.kind]
noncomputable def Lr(te:TE):TS:=λD σ H=>te σ H λ_ a=>D.nx σ a
theorem v5(he:PE X e te)(hs:gd e bdq pos.line X.env=eS a7:=by rfl):PS X (.Expr e pos) (Lr te):=by intro pins s σ H D I h;exact wpAny_Expr_any (cB (he pins s σ H _ I h) λv s1⟨x,H1,I1,r1,q1⟩=>⟨σ,H1,I1,q1⟩) I.quiet hs
noncomputable def adR(te:TE):TS:=λD σ H=>te σ H D.rt
theorem Ka(he:PE X e te):PS X (.Return (al e) pos) (adR te):=by intro pins s σ H D I h;exact wpAny_Return_some (cB (he pins s σ H _ I h) λv s1⟨x,H1,I1,r1,q1⟩=>⟨x,σ,H1,I1,r1,q1⟩)
noncomputable def afV(c:TT)(t u:TS):TS:=λD σ H=>c σ H λb a=>if b=bx then t D σ a else u D σ a
theorem RM{c:df}{a b:List eM}{f:TT}(hc:PT X c f)(j:rG X a t)(k:rG X b u):PS X (.If c a b pos) (afV f t u):=by intro pins s σ H D I h;refine wpAny_If (cB (hc pins s σ H _ I h) λd s1⟨g,I1,q1⟩=>?_);cases d with|true=>exact j pins s1 σ g D I1 q1|false=>exact k pins s1 σ g D I1 q1
noncomputable def Vy:TS:=λ_ _ _=>False
theorem Ho:PS X st Vy:=λ_ _ _ _ _ _ h=>h.elim
end
noncomputable abbrev TG:=V->St->Hp->(St->Hp->Prop)->Prop
noncomputable abbrev Hc:=List V->St->Hp->(St->Hp->Prop)->Prop
noncomputable def PG(X:Cx)(a:df)(t:TG):Prop:=∀(pins:List (b_ × Obj))(s:bZ)(σ:St)(H:Hp)(v:V)(u:bw)(Q:St->Hp->Prop),Inv X pins σ H s->RelV v u->t v σ H Q->cy (cE X.prog X.w) X.A (ka a X.env u) (λ_ e=>∃b c,Inv X pins b c e/\Q b c) X.xe s
noncomputable def PGs(X:Cx)(c:List df)(t:Hc):Prop:=∀(pins:List (b_ × Obj))(s:bZ)(σ:St)(H:Hp)(vs:List V)(us:List bw)(Q:St->Hp->Prop),Inv X pins σ H s->Vals vs us->t vs σ H Q->cy (cE X.prog X.w) X.A (pV ((iE c X.env).map (·.2)) us) (λ_ e=>∃a b,Inv X pins a b e/\Q a b) X.xe s
noncomputable abbrev Jb:=V->V->V->Hp->(Hp->Prop)->Prop
noncomputable def V6(X:Cx)(t:Jb):Prop:=∀(pins:List (b_ × Obj))(s:bZ)(σ:St)(H:Hp)(o i v:V)(ov iv u:bw)(Q:Hp->Prop),Inv X pins σ H s->RelV o ov->RelV i iv->RelV v u->t o i v H Q->cy (cE X.prog X.w) X.A (mA ov iv u) (λ_ b=>∃a,Inv X pins σ a b/\Q a) X.xe s
noncomputable abbrev YD:=V->V->Hp->VK->Prop
noncomputable def Rj(X:Cx)(op:lp)(t:YD):Prop:=∀(pins:List (b_ × Obj))(s:bZ)(σ:St)(H:Hp)(x y:V)(v u:bw)(Q:VK),Inv X pins σ H s->RelV x v->RelV y u->t x y H Q->cy (cE X.prog X.w) X.A (inplaceOp op v u) (EP X pins σ Q) X.xe s
section
variable{X:Cx}{pos:Pos}
noncomputable def ju(i:Nat):TG:=λv σ H Q=>Q (σ.set i (al v)) H
theorem aJ{x:Str}(a:X.N.Nodup)(hi:X.N[i]?=al x)(b:Loc X.env.scope x)(c:X.fn x=bx\/X.env.scope.names.lookup x=al .local:=by first|(left;rfl)|(right;rfl)|assumption):PG X (.Name x pos) (ju i):=by intro pins s σ H v u Q I r h;exact wpAny_assign_Name (jO I a hi b r (λf e=>⟨_,H,e,h⟩) c)
noncomputable def U9:Hc:=λvs σ H Q=>vs=[]/\Q σ H
noncomputable def K9(t:TG)(u:Hc):Hc:=λvs σ H Q=>∃v r,vs=v::r/\t v σ H λa b=>u r a b Q
theorem cV:PGs X [] U9:=by intro pins s σ H vs us Q I r h;obtain⟨e,h⟩:=h;subst e;cases r;exact assignInOrder_nil ⟨σ,H,I,h⟩
theorem aM{e:df}{es:List df}{t:TG}{u:Hc}(h1:PG X e t)(b:PGs X es u)(hs:(iE (e::es) X.env).map (·.2)=ka e X.env::(iE es X.env).map (·.2):=by rfl):PGs X (e::es) (K9 t u):=by intro pins s σ H vs us Q I r h;obtain⟨v,g,c,h⟩:=h;subst c;cases r with|cons r f=>rw[hs];refine mr (cB (h1 pins s σ H _ _ _ I r h) λ_ s1⟨a,H1,I1,q1⟩=>?_);exact b pins s1 a H1 _ _ Q I1 f q1
noncomputable def Vx(K:PySem.W.Frag)(n:Nat)(t:Hc):TG:=λv σ H Q=>∃a xs,v=.ref a/\iB K H a xs/\xs.length=n/\t xs σ H Q
theorem dR{es:List df}{k:Nat}{t:Hc}{n:Nat}(hc:X.calm=bx)(h:PGs X es t)(g:(iE es X.env).length=n:=by rfl)(hst:(iE es X.env).findIdx? (·.1)=bdq:=by rfl):PG X (.Tuple es k pos) (Vx X.K n t):=by intro pins s σ H v u Q I r c;obtain⟨a,xs,j,l,m,c⟩:=c;subst j;cases r;obtain⟨p,f,ht,hz⟩:=I.tuple l;refine assign_Tuple_tuple (I.ok.hd hc) ht (by simp[g,<-m,f.length]) hst λh' q=>?_;have x:Inv X pins σ H {s with heap:=h'}:=I.kept (t':=s.toks) λb o e=>q b o (dP (de e)) e;exact h pins _ σ H xs _ Q x (by simpa using f) c
noncomputable def JZ(to a:TE)(t:Jb):TG:=λv σ H Q=>to σ H λo b=>a σ b λi c=>t o i v c λe=>Q σ e
theorem KN{o i:df}{to a:TE}{t:Jb}(ho:PE X o to)(hi:PE X i a)(hs:V6 X t)(b:∀ v,ka (.Subscript o i pos) X.env v=(do
  let ov<-iO [v] (eu o X.env)let iv<-iO [v,ov] (eu i X.env)qv pos
  iO [v,ov,iv] (mA ov iv v)qB [v,ov,iv] []):=by intro _;rfl):PG X (.Subscript o i pos) (JZ to a t):=by intro pins s σ H v u Q I r h;rw[b];refine a_ (h9 (cB (ho pins s σ H _ I h) λov s1⟨x,H1,I1,r1,q1⟩=>?_));refine a_ (h9 (cB (hi pins s1 σ H1 _ I1 q1) λiv s2⟨y,H2,I2,r2,q2⟩=>?_));refine a_ (ma (a_ (h9 (cB (hs pins s2 σ H2 x y v ov iv u _ I2 r1 r2 r q2) λ_ s3⟨c,I3,q3⟩=>?_))));exact wpAny_release ⟨σ,c,I3,q3⟩
noncomputable def yF(te:TE)(g:TG):TS:=λD σ H=>te σ H λx a=>g x σ a D.nx
theorem zW{e:df}{g:TG}(he:PE X e te)(a:PG X tg g)(hs:i8 [tg] e pos.line X.env=eS a7:=by rfl)(b:i9 [tg] e X.env=eS bdq:=by rfl)(h1:(iE [tg] X.env).map (·.2)=[ka tg X.env]:=by rfl):PS X (.Assign [tg] e pos) (yF te g):=by intro pins s σ H D I h;refine wpAny_Assign_stores (cB (he pins s σ H _ I h) λv s1⟨x,H1,I1,r1,q1⟩=>?_) hs b;rw[h1];exact cB (a pins s1 σ H1 x v _ I1 r1 q1) λ_ s2 q=>q
theorem qe{x:Str}{e:df}{a:Pos}(b:X.N.Nodup)(hi:X.N[i]?=al x)(c:Loc X.env.scope x)(he:PE X e te)(hs:gd e (al (.Name x a)) pos.line X.env=eS a7:=by rfl)(f:X.fn x=bx\/X.env.scope.names.lookup x=al .local:=by first|(left;rfl)|(right;rfl)|assumption):PS X (.Assign [.Name x a] e pos) (yF te (ju i)):=by intro pins s σ H D I h;refine wpAny_Assign_Name (cB (he pins s σ H _ I h) λv s1⟨y,H1,I1,r1,q1⟩=>?_) hs;exact jO I1 b hi c r1 (λs2 g=>⟨_,H1,g,q1⟩) f
noncomputable def agj(i j:Nat)(a:TA):TS:=λD σ H=>a σ H λvs b=>∃v w,vs=[v,w]/\D.nx ((σ.set i (al v)).set j (al w)) b
theorem Wk{j:Nat}{x y:Str}{a b:df}{r:TA}{g k pt:Pos}{kt k2 WX}(hc:X.calm=bx)(t:X.N.Nodup)(hi:X.N[i]?=al x)(C:X.N[j]?=al y)(l:i≠j)(u:X.env.scope.names.lookup x=al .local)(z:X.env.scope.names.lookup y=al .local)(E:PA X [a,b] r)(G:i9 [.Tuple [.Name x g,.Name y k] kt pt] (.Tuple [a,b] k2 WX) X.env=eS (al [x,y]))(hs:i8 [.Tuple [.Name x g,.Name y k] kt pt] (.Tuple [a,b] k2 WX) pos.line X.env=eS a7:=by rfl):PS X (.Assign [.Tuple [.Name x g,.Name y k] kt pt] (.Tuple [a,b] k2 WX) pos) (agj i j r):=by
 intro pins s σ H D I h;rw[exec_Assign_arm];refine a_ (ma ?_);rw[hs];refine a_ (cr ?_);rw[if_neg (by decide)];refine a_ (Tuple_ (cB (E _ pins s σ H _ I h) λus s1⟨vs,H1,I1,r1,m⟩=>?_));obtain⟨v,w,J,m⟩:=m;subst J;obtain⟨c,f,rfl,L,O⟩:∃c f,us=[c,f]/\RelV v c/\RelV w f:=by cases r1 with|cons p q=>cases q with|cons Q U=>cases U;exact⟨_,_,rfl,p,Q⟩
 refine ek ?_ (by show 2<=sizeLine;decide);have W:Inv X pins σ H1 {s1 with heap:=s1.heap.push {cls:=.type "tuple",data:=.seq [c,f].toArray}}:=I1.kept (t':=s1.toks) λb o e=>dB e;rw[G];refine a_ (cr ?_);show cy (cE X.prog X.w) X.A (do rule "assign.swapped-stores";let items<-unpackItems (.ref s1.heap.objs.size) 2 bdq;pV [λv=>r6 X.env y v,λv=>r6 X.env x v] items.reverse;eS Flow.next) _ _ _;refine a_ (kl (a_ (unpackItems_tuple (items:=#[c,f]) (I.ok.hd hc) (kP s1.heap _) λh' n=>?_)));have Y:=W.kept (h':=h') (t':=s1.toks) λb o e=>n b o (dP (de e)) e;show cy _ _ (pV [λv=>r6 X.env y v,λv=>r6 X.env x v] [f,c]>>=λ_=>eS Flow.next) _ _ _;refine a_ (mr (wpAny_bindName (jO Y t C (.inl z) O (λs2 Z=>?_) (.inr z))));refine mr (wpAny_bindName (jO Z t hi (.inl u) L (λs3 B=>assignInOrder_nil (cr ?_)) (.inr u)));rw[List.set_comm _ _ (fE l)]at B;exact⟨_,H1,B,m⟩
noncomputable def af6(i:Nat)(te:TE)(a:YD):TS:=λD σ H=>∃x,σ[i]?=al (al x)/\te σ H λy b=>a x y b λz c=>D.nx (σ.set i (al z)) c
theorem Vq{x:Str}{e:df}{op:lp}{o:YD}{b:Pos}(p:X.N.Nodup)(hi:X.N[i]?=al x)(j:Loc X.env.scope x)(he:PE X e te)(ho:Rj X op o)(q:X.fn x=bx\/X.env.scope.names.lookup x=al .local:=by first|(left;rfl)|(right;rfl)|assumption):PS X (.AugAssign (.Name x b) op e pos) (af6 i te o):=by
 intro pins s σ H D I h;obtain⟨v,t,h⟩:=h;obtain⟨m,B,C⟩:=I.loc;have n:vC X.env.scope x:=by rcases j with k|k;exact .inl k;exact .inr (.inl k)
 obtain⟨u,r,l⟩:=C i x v hi t n;refine wpAny_AugAssign_Name ?_;have go:cy (cE X.prog X.w) X.A (eu e X.env) (λw f=>cy (cE X.prog X.w) X.A (inplaceOp op u w) (λr g=>cy (cE X.prog X.w) X.A (storeName X.env x r) (λ_=>SP X pins D .next) X.xe g) X.xe f) X.xe s:=by refine cB (he pins s σ H _ I h) λw s1⟨y,H1,I1,r1,q1⟩=>?_;refine cB (ho pins s1 σ H1 v y u w _ I1 r r1 q1) λz s2⟨J,H2,I2,r2,q2⟩=>?_;exact jO I2 p hi j r2 (λs3 E=>⟨_,H2,E,q2⟩) q
 rcases l with⟨hk,G⟩|⟨hk,c,hc,a⟩;.exact rj I.ok.kind hk B G go
 . rcases hk with hk|hk;.exact sd I.ok.kind hk hc a go
   . rcases j with k|k;.have:X.env.scope.names.lookup x=al .free:=hk;rw[k]at this;cases this
     .have:X.env.scope.names.lookup x=al .free:=hk;rw[k]at this;cases this
noncomputable def aac(to b te:TE)(c:V->V->Hp->VK->Prop)(a:YD)(e:Jb):TS:=λD σ H=>to σ H λo f=>b σ f λi g=>c o i g λx j=>te σ j λy k=>a x y k λz l=>e o i z l λm=>D.nx σ m
noncomputable def Zc(X:Cx)(t:V->V->Hp->VK->Prop):Prop:=∀(pins:List (b_ × Obj))(s:bZ)(σ:St)(H:Hp)(o i:V)(ov iv:bw)(Q:VK),Inv X pins σ H s->RelV o ov->RelV i iv->t o i H Q->cy (cE X.prog X.w) X.A (kc ov iv) (EP X pins σ Q) X.xe s
theorem Ob{o i e:df}{to g:TE}{j:V->V->Hp->VK->Prop}{b:YD}{k:Jb}{op:lp}{c:Pos}(ho:PE X o to)(hi:PE X i g)(n:Zc X j)(he:PE X e te)(p:Rj X op b)(hs:V6 X k)(q:∀ov iv a,augStore i ov iv a=(do iO [a,ov,iv] (mA ov iv a);qB [a,ov,iv] [];eS .next):=by intros;rfl):PS X (.AugAssign (.Subscript o i c) op e pos) (aac to g te j b k):=by intro pins s σ H D I h;refine wpAny_AugAssign_SubscriptAny (cB (ho pins s σ H _ I h) λov s1⟨l,H1,I1,r1,q1⟩=>?_) q;refine cB (hi pins s1 σ H1 _ I1 q1) λiv s2⟨m,H2,I2,r2,q2⟩=>?_;refine cB (n pins s2 σ H2 l m ov iv _ I2 r1 r2 q2) λf s3⟨r,H3,I3,r3,q3⟩=>?_;refine cB (he pins s3 σ H3 _ I3 q3) λv s4⟨t,H4,I4,r4,q4⟩=>?_;refine cB (p pins s4 σ H4 r t f v _ I4 r3 r4 q4) λa s5⟨u,H5,I5,r5,q5⟩=>?_;exact cB (hs pins s5 σ H5 l m u ov iv a _ I5 r1 r2 r5 q5) λ_ s6⟨x,I6,q6⟩=>⟨σ,x,I6,q6⟩
noncomputable def YM(f:Int->Int->Int):YD:=λx y H Q=>∃i j,x=.int i/\y=.int j/\Q (.int (f i j)) H
theorem VH:Rj X .Add (YM λi j=>i+j):=by intro pins s σ H x y v u Q I r1 a h;obtain⟨i,j,b,c,q⟩:=h;subst b;subst c;obtain⟨t,rfl⟩:=r1;obtain⟨t',rfl⟩:=a;exact iadd_int ⟨.int _,H,I.tok _,⟨_,rfl⟩,q⟩
theorem WK:Rj X .Sub (YM λi j=>i-j):=by intro pins s σ H x y v u Q I r1 a h;obtain⟨i,j,b,c,q⟩:=h;subst b;subst c;obtain⟨t,rfl⟩:=r1;obtain⟨t',rfl⟩:=a;exact isub_int ⟨.int _,H,I.tok _,⟨_,rfl⟩,q⟩
end
section
variable{X:Cx}{pos:Pos}
noncomputable def Vc(c:TT)(j:TS):TS:=λD σ H=>∃W:Nat->St->Hp->Prop,(∃m,W m σ H)/\∀m σ H,W m σ H->c σ H λb e=>if b=bx then ∃N:St->Hp->Prop,(∀a f,N a f->∃g,g<m/\W g a f)/\j {D with nx:=N,ct:=N,bk:=D.nx} σ e else D.nx σ e
theorem Kv{c:df}{body:List eM}{u:TT}{x:TS}(y:lS (cE X.prog X.w) X.A X.env X.xe)(hc:PT X c u)(G:rG X body x):PS X (.While c body [] pos) (Vc u x):=by intro pins s σ H D I h;obtain⟨W,⟨m0,J⟩,g⟩:=h;refine wpAny_While (codeAny_whileLoop (λn L=>∃j z,Inv X pins j z L/\W n j z) ?_ m0 ⟨σ,H,I,J⟩);rintro n s1⟨e,B,O,Q⟩;refine hX y (cB (hc pins s1 e B _ O (g n e B Q)) λb s2⟨C,I2,l⟩=>?_);cases b with
 |true=>obtain⟨N,E,l⟩:=l;rw[if_pos rfl];refine hX y (cB (G pins s2 e C _ I2 l) λf s3 m=>?_);cases f with|next=>obtain⟨a,k,o,p⟩:=m;obtain⟨q,r,t⟩:=E a k p;exact⟨q,r,a,k,o,t⟩|cont=>obtain⟨a,k,o,p⟩:=m;obtain⟨q,r,t⟩:=E a k p;exact⟨q,r,a,k,o,t⟩|brk=>exact m|ret v=>exact m
 |false=>rw[if_neg c_];exact nX ⟨e,C,I2,l⟩
end
structure It where
 go:Nat->Hp->Prop
 LC:Nat->Hp->V->Hp->Prop
 stop:Nat->Hp->Prop
noncomputable def nR(X:Cx)(pins:List (b_×Obj))(H:Hp)(b:b_):Prop:=H b=bdq/\b≠X.env.locals/\b∉X.fs/\(b∈X.ex\/X.s₀.heap.objs.size<=b)/\(∀x c,X.env.cells.lookup x=al c->c≠b)/\∀p∈X.pn++pins,p.1≠b
theorem Inv.Ah{σ:St}{f:Hp}{b:b_}(I:Inv X pins σ H s)(a:s.heap.objs.size<=b)(g:f b=bdq):nR X pins f b:=by
 refine⟨g,rL (d_ I.lt a),I.aeV a,.inr (g_ I.sz a),λx c e z=>?_,λp j z=>?_⟩;.obtain⟨v,q⟩:=I.cell x c e;exact absurd (d_ q.lt (by rw[z];exact a)) (ia _)
 .exact absurd (d_ (de (I.pin p j).1) (by rw[z];exact a)) (ia _)
structure Turn(P:da)(w:eg)(K:PySem.W.Frag)(tg:df)(J:It)(fp:List b_)(it:b_)(tn:Nat->ew->Prop):Prop where
 mem:it∈fp
 obj:∀i h,tn i h->∀b∈fp,∃o,h.get? b=al o/\∀v,o.data≠.cell v
 keep:∀i h h',tn i h->(∀b∈fp,∀o,h.get? b=al o->h'.get? b=al o)->tn i h'
 item:∀(X:Cx),X.prog=P->X.w=w->X.K=K->X.calm=bx->∀(i:Nat)(pins:List (b_×Obj))(s:bZ)(σ:St)(H:Hp)(E:bw->bZ->Prop),Inv X pins σ H s->(∀b∈fp,nR X pins H b)->tn i s.heap->J.go i H->cy (cE P w) X.A (oe (.ref it)) (λr s1=>∃u,r=al u/\cy (cE P w) X.A (k3 tg (.ref it) u) (λ_ s2=>∃x H',Inv X pins σ H' s2/\RelV x u/\J.LC i H x H'/\tn (i+1) s2.heap/\∀b∈fp,H' b=bdq) E s1) E s
 done:∀(X:Cx),X.prog=P->X.w=w->X.K=K->X.calm=bx->∀(i:Nat)(pins:List (b_×Obj))(s:bZ)(σ:St)(H:Hp)(E:bw->bZ->Prop),Inv X pins σ H s->(∀b∈fp,nR X pins H b)->tn i s.heap->J.stop i H->cy (cE P w) X.A (oe (.ref it)) (λr s1=>r=bdq/\Inv X pins σ H s1) E s
 self:∀(A:ej)(i:Nat)(s:bZ)(Q:bw->bZ->Prop)(E:bw->bZ->Prop),tn i s.heap->Q (.ref it) s->cy (cE P w) A (qE (.ref it)) Q E s
noncomputable abbrev TI:=St->Hp->(It->Hp->Prop)->Prop
noncomputable def PIE(X:Cx)(pins:List (b_×Obj))(σ:St)(tg:df)(R:It->Hp->Prop)(a:bw)(s2:bZ):Prop:=∃(it:b_)(e:List b_)(f:Nat->ew->Prop)(J:It)(c:Hp),a=.ref it/\Inv X pins σ c s2/\Turn X.prog X.w X.K tg J e it f/\f 0 s2.heap/\(∀b∈e,nR X pins c b)/\R J c
noncomputable def PI(X:Cx)(tg iter:df)(wi:TI):Prop:=∀(pins:List (b_ × Obj))(s:bZ)(σ:St)(H:Hp)(R:It->Hp->Prop),Inv X pins σ H s->wi σ H R->cy (cE X.prog X.w) X.A (eu iter X.env) (λv s1=>cy (cE X.prog X.w) X.A (qE v) (PIE X pins σ tg R) X.xe s1) X.xe s
theorem Cq{E:bw->bZ->Prop}{it:b_}{u:bw}{o:Obj}{n:String}{vs:Array bw}{Q:Unit->bZ->Prop}(ho:s.heap.get? it=al o)(hc:o.cls=.type n)(hd:o.data=.fields vs)(b:["enumerate","zip","dict_itemiterator","dict_reverseitemiterator","odict_iterator","itertools.zip_longest","itertools.pairwise"].contains n=a7)(a:Q () s):cy M A (k3 tg (.ref it) u) Q E s:=by unfold k3;cases tg<;>first|exact cr a|(cases u<;>first|exact cr a|(refine a_ (wpAny_load ho ?_);rw[hc,hd];show cy M A (if(["enumerate","zip","dict_itemiterator","dict_reverseitemiterator","odict_iterator","itertools.zip_longest","itertools.pairwise"].contains n&&vs[0]?==al (ml _))=bx then _ else _) Q E s;rw[if_neg (by intro h;rw[b,nk]at h;cases h)];exact cr a))
noncomputable def U6(K:PySem.W.Frag)(a:b_):It:=⟨λi H=>∃xs x,dF K H a xs/\xs[i]?=al x,λi H x b=>b=H/\∀xs,dF K H a xs->xs[i]?=al x,λi H=>∃xs,dF K H a xs/\xs.length<=i⟩
noncomputable def YT(K:PySem.W.Frag)(a:b_):It:=⟨λi H=>∃xs x,iB K H a xs/\xs[i]?=al x,λi H x b=>b=H/\∀xs,iB K H a xs->xs[i]?=al x,λi H=>∃xs,iB K H a xs/\xs.length<=i⟩
noncomputable def Xx(lo:Int)(n:Nat):It:=⟨λi _=>i<n,λi H x a=>a=H/\x=.int (lo+i),λi _=>n<=i⟩
theorem FP{P:da}(a it:b_):Turn P w K tg (U6 K a) [it] it (λi h=>h.IsListIter it a i)where
 mem:=by simp
 obj:=λi h st b f=>by
  have e:b=it:=by simpa using f
  subst e;obtain⟨o,e,c,d⟩:=st;exact⟨o,e,λv z=>by rw[d]at z;cases z⟩
 keep:=λi h h' st k=>st.at λo e=>k it (by simp) o e;item:=by intro X m n q hc i pins s σ H E I j st r;subst m n q;obtain⟨xs,x,l,t⟩:=r;obtain⟨y,B,p,hz⟩:=I.list l;obtain⟨u,C,G⟩:=B.get t;obtain⟨f0,f1,f2,f3,f4,f5⟩:=j it (by simp);refine wpAny_pyNext_list_item st p.isList (x:=u) (by simpa using C) λh' g J=>?_;have L:Inv X pins σ H {s with heap:=h'}:=I.turned (t':=s.toks) (λb o f e=>(J.2 b f).trans e) f0 f1 f3 f4 f5;obtain⟨o,e,c,d⟩:=id g;exact⟨u,rfl,Cq (s:={s with heap:=h'}) e c d (by decide) ⟨x,H,L,G,⟨rfl,λys N=>by rw[I.m7 N l];exact t⟩,g,λb f=>(j b f).1⟩⟩
 done:=by intro X m n q hc i pins s σ H E I j st r;subst m n q;obtain⟨xs,l,t⟩:=r;obtain⟨y,B,p,hz⟩:=I.list l;obtain⟨f0,f1,f2,f3,f4,f5⟩:=j it (by simp);have Q:=B.length;exact wpAny_pyNext_list_end (I.ok.hd hc) st p.isList (by simp;omega) λh' O=>⟨rfl,I.turned (t':=s.toks) (λb o f e=>O b o f e) f0 f1 f3 f4 f5⟩
 self:=λ_ _ _ _ _ st h=>wpAny_pyIter_listiter st h
theorem Aa{P:da}(a it:b_):Turn P w K tg (YT K a) [it] it (λi h=>h.IsTupleIter it a i)where
 mem:=by simp
 obj:=λi h st b f=>by
  have e:b=it:=by simpa using f
  subst e;obtain⟨o,e,c,d⟩:=st;exact⟨o,e,λv z=>by rw[d]at z;cases z⟩
 keep:=λi h h' st k=>st.at λo e=>k it (by simp) o e;item:=by intro X n q r hc i pins s σ H E I l st t;subst n q r;obtain⟨xs,x,m,y⟩:=t;obtain⟨g,B,p,hz⟩:=I.tuple m;obtain⟨u,C,G⟩:=B.get y;obtain⟨f0,f1,f2,f3,f4,f5⟩:=l it (by simp);refine wpAny_pyNext_tuple_item st (show s.heap.IsTuple a g.toArray from p) (x:=u) (by simpa using C) λh' j J=>?_;have L:Inv X pins σ H {s with heap:=h'}:=I.turned (t':=s.toks) (λb o f e=>(J.2 b f).trans e) f0 f1 f3 f4 f5;obtain⟨o,e,c,d⟩:=id j;exact⟨u,rfl,Cq (s:={s with heap:=h'}) e c d (by decide) ⟨x,H,L,G,⟨rfl,λys N=>by rw[I.kJ N m];exact y⟩,j,λb f=>(l b f).1⟩⟩
 done:=by intro X n q r hc i pins s σ H E I l st t;subst n q r;obtain⟨xs,m,y⟩:=t;obtain⟨g,B,p,hz⟩:=I.tuple m;obtain⟨f0,f1,f2,f3,f4,f5⟩:=l it (by simp);have Q:=B.length;exact wpAny_pyNext_tuple_end (I.ok.hd hc) st (show s.heap.IsTuple a g.toArray from p) (by simp;omega) λh' O=>⟨rfl,I.turned (t':=s.toks) (λb o f e=>O b o f e) f0 f1 f3 f4 f5⟩
 self:=λ_ _ _ _ _ st h=>wpAny_pyIter_tupleiter st h
theorem zV{P:da}(it:b_)(lo:Int)(n:Nat):Turn P w K tg (Xx lo n) [it] it (λi h=>IsRangeIter h it (lo+(i:Nat)*1) ((n:Int)-(i:Nat)) 1)where
 mem:=by simp
 obj:=λi h st b a=>by
  have e:b=it:=by simpa using a
  subst e;exact⟨_,st,λv z=>by have p:Data.fields _=Data.cell v:=z;cases p⟩
 keep:=λi h h' st k=>k it (by simp) _ st;item:=by intro X g j l hc i pins s σ H E I f st m;subst g j l;obtain⟨f0,f1,f2,f3,f4,f5⟩:=f it (by simp);have W:=Walks.range (prog:=X.prog) (w:=X.w) (I.ok.hd hc) it lo 1 n;refine W.item i s _ _ m st λv h' tk q c r=>?_;obtain⟨t,rfl⟩:=q;have u:Inv X pins σ H {s with heap:=h',toks:=tk}:=I.turned (λb o a e=>r b o (by simpa using a) e) f0 f1 f3 f4 f5;refine⟨_,rfl,Cq (s:={s with heap:=h',toks:=tk}) (n:="range_iterator") c rfl rfl (by decide) ⟨.int (lo+i),H,u,⟨t,?_⟩,⟨rfl,rfl⟩,c,λb a=>(f b a).1⟩⟩;rw[mul_one]
 done:=by intro X g j l hc i pins s σ H E I f st m;subst g j l;obtain⟨f0,f1,f2,f3,f4,f5⟩:=f it (by simp);exact wpAny_pyNext_range_end (I.ok.hd hc) st (by have:n<=i:=m;omega) λh' x=>⟨rfl,I.turned (t':=s.toks) (λb o a e=>x b o a e) f0 f1 f3 f4 f5⟩
 self:=λ_ _ _ _ _ st h=>wpAny_pyIter_rangeiter st h
section
variable{X:Cx}{tg:df}
theorem yQ{σ:St}{R:It->Hp->Prop}{E:bw->bZ->Prop}{lo hi:Int}{t u v:Tok}{tk:Nat}(I:Inv X pins σ H s)(h1:-(2^62)<=lo)(c:lo<2^62)(f:-(2^62)<=hi)(g:hi<2^62)(q:R (Xx lo (hi-lo).toNat) H):cy (cE X.prog X.w) X.A (qE (.ref s.heap.objs.size)) (PIE X pins σ tg R) E {s with heap:=s.heap.push {cls:=.type "range",data:=.fields #[.int lo t,.int hi u,.int 1 v]},toks:=tk}:=by
 refine wpAny_pyIter_range (IsRange.new ..) (small_one h1 c f g) ?_;have a:Inv X pins σ H {s with heap:=s.heap.push {cls:=.type "range",data:=.fields #[.int lo t,.int hi u,.int 1 v]},toks:=tk}:=I.kept λb o e=>dB e;refine⟨(s.heap.push {cls:=.type "range",data:=.fields #[.int lo t,.int hi u,.int 1 v]}).objs.size,[(s.heap.push {cls:=.type "range",data:=.fields #[.int lo t,.int hi u,.int 1 v]}).objs.size],_,_,H,rfl,a.kept (t':=tk) λb o e=>dB e,zV _ lo (hi-lo).toNat,?_,λb j=>?_,q⟩
 . have k:lo+((0:Nat):Int)*1=lo:=by simp
   have l:(((hi-lo).toNat:Nat):Int)-((0:Nat):Int)=Builtin.Range.rangeSize lo hi 1:=by rw[rangeSize_one];split<;>omega
   show IsRangeIter _ _ (lo+((0:Nat):Int)*1) ((((hi-lo).toNat:Nat):Int)-((0:Nat):Int)) 1;rw[k,l];exact cv _ rfl
 . have e:b=(s.heap.push {cls:=.type "range",data:=.fields #[.int lo t,.int hi u,.int 1 v]}).objs.size:=by simpa using j
   subst e;exact a.Ah (dq) (a.hok.fresh (dq))
noncomputable def aaT(a:TA):TI:=λσ H R=>a σ H λvs b=>∃j:Int,vs=[.int j]/\-(2^62)<=j/\j<2^62/\R (Xx 0 j.toNat) b
noncomputable def aap(a:TA):TI:=λσ H R=>a σ H λvs b=>∃i j:Int,vs=[.int i,.int j]/\(-(2^62)<=i/\i<2^62/\-(2^62)<=j/\j<2^62)/\R (Xx i (j-i).toNat) b
theorem uM{a:df}{c:TA}{p:Pos}(f:Gl X "range")(g:X.mg "range"=bdq)(k:PA X [a] c)(hs:cw [a] X.env=[(a7,eu a X.env)]:=by rfl):PI X tg (.Call (.Name "range" p) [a] [] pos) (aaT c):=by intro pins s σ H R I h;refine Call_ (ji I f g boot_range (eF (cB (k pos pins s σ H _ I h) λus s1⟨vs,H1,I1,r1,b⟩=>?_) hs rfl));obtain⟨j,e,b,l,q⟩:=b;subst e;cases r1 with|cons r m=>cases m;obtain⟨t,rfl⟩:=r;exact call_range_1 (yQ I1 (by omega) (by omega) b l (by simpa using q))
theorem GD{a b:df}{k:TA}{p:Pos}(l:Gl X "range")(m:X.mg "range"=bdq)(n:PA X [a,b] k)(hs:cw [a,b] X.env=[(a7,eu a X.env),(a7,eu b X.env)]:=by rfl)(c:cw [b] X.env=[(a7,eu b X.env)]:=by rfl):PI X tg (.Call (.Name "range" p) [a,b] [] pos) (aap k):=by intro pins s σ H R I h;refine Call_ (ji I l m boot_range (eF (cB (n pos pins s σ H _ I h) λus s1⟨vs,H1,I1,r1,f⟩=>?_) (by rw[hs,c]) (by rw[c];rfl)));obtain⟨i,j,e,⟨f,o,u,v⟩,q⟩:=f;subst e;cases r1 with|cons r g=>cases g with|cons x g=>cases g;obtain⟨t,rfl⟩:=r;obtain⟨t',rfl⟩:=x;exact call_range_2 (yQ I1 f o u v q)
noncomputable def af7(wi:TI)(g:TG)(f:TS):TS:=λD σ H=>wi σ H λJ j=>∃W:Nat->Nat->St->Hp->Prop,(∃m,W 0 m σ j)/\∀i m σ H,W i m σ H->(J.stop i H/\D.nx σ H)\/(J.go i H/\∃N:St->Hp->Prop,(∀a b,N a b->∃e,e<m/\W (i+1) e a b)/\∀x b,J.LC i H x b->g x σ b λc k=>f {D with nx:=N,ct:=N,bk:=D.nx} c k)
noncomputable def rF(a:List b_)(h:ew):List (b_×Obj):=a.filterMap λb=>(h.get? b).map λo=>(b,o)
theorem jg{a:List b_}{b:b_}{o:Obj}(c:b∈a)(e:h.get? b=al o):(b,o)∈rF a h:=List.mem_filterMap.mpr ⟨b,c,by rw[e];rfl⟩
theorem Gw{a:List b_}{p:b_×Obj}(c:p∈rF a h):p.1∈a/\h.get? p.1=al p.2:=by obtain⟨b,f,e⟩:=List.mem_filterMap.mp c;cases q:h.get? b with|none=>rw[q]at e;cases e|some o=>rw[q]at e;have g:(b,o)=p:=eA e;subst g;exact⟨f,q⟩
theorem Inv.pinned{σ:St}{a:List b_}(I:Inv X pins σ H s)(g:∀b∈a,nR X pins H b)(ho:∀b∈a,∃o,s.heap.get? b=al o/\∀v,o.data≠.cell v):Inv X (pins++rF a s.heap) σ H s:=I.Cy λp j=>(eJ.mp j).elim (λz=>I.pin p (fi _ z)) λz=>by obtain⟨c,e⟩:=Gw z;obtain⟨f0,f1,f2,_⟩:=g p.1 c;obtain⟨o,f,d⟩:=ho p.1 c;rw[e]at f;cases f;exact⟨e,f0,f1,f2,d⟩
theorem Inv.mq{a:List (b_×Obj)}{σ:St}(I:Inv X (pins++a) σ H s):Inv X pins σ H s:=I.Cy λp b=>I.pin p (fi _ (o_ _ b))
theorem KD{iter:df}{body:List eM}{wi:TI}{g:TG}{Z:TS}(z:lS (cE X.prog X.w) X.A X.env X.xe)(hc:X.calm=bx)(hi:PI X tg iter wi)(hg:PG X tg g)(c:rG X body Z)(hs:∀x,fm iter X.env x=eS x:=by intro _;rfl):PS X (.For tg iter body [] pos) (af7 wi g Z):=by
 intro pins s σ H D I h;refine wpAny_For (cB (hi pins s σ H _ I h) λv s1 h1=>cB h1 λac s2 h2=>?_) hs;obtain⟨it,B,tn,J,H2,e,I2,T,Q,f2,W,⟨m0,w0⟩,C⟩:=h2;subst e--what stays bx of the iterator's objects through the loop
 have j:∀{t:Hp},(∀b∈B,t b=bdq)->∀b∈B,nR X pins t b:=λhn b c=>⟨hn b c,(f2 b c).2⟩;refine codeAny_forLoop_any (λn s'=>∃i k t,Inv X pins k t s'/\tn i s'.heap/\(∀b∈B,t b=bdq)/\W i n k t) ?_ m0 ⟨0,σ,H2,I2,Q,λb c=>(f2 b c).1,w0⟩;rintro n s3⟨i,l,O,I3,E,G,w3⟩;rcases C i n l O w3 with⟨stop,qn⟩|⟨go,N,hN,step⟩;.refine hX z (cB (T.done X rfl rfl rfl hc i pins s3 l O X.xe I3 (j G) E stop) λr s4⟨hr,I4⟩=>?_);subst hr;exact nX ⟨l,O,I4,qn⟩
 . refine hX z (cB (T.item X rfl rfl rfl hc i pins s3 l O X.xe I3 (j G) E go) λr s4⟨u,hr,h4⟩=>?_);subst hr;refine hX z (cB h4 λ_ s5⟨x,H5,I5,r5,y5,st5,fr5⟩=>?_);have U:=I5.pinned (j fr5) (T.obj _ _ st5);refine hX z (cB (hg _ s5 l H5 x u _ U r5 (step x H5 y5)) λ_ s6⟨Y,H6,I6,q6⟩=>?_);refine hX z (cB (c _ s6 Y H6 _ I6 q6) λf s7 y=>?_);have again:∀{a:St}{p:Hp},Inv X (pins++rF B s5.heap) a p s7->N a p->∃m,m<n/\∃i k t,Inv X pins k t s7/\tn i s7.heap/\(∀b∈B,t b=bdq)/\W i m k t:=λ{a p}q L=>by obtain⟨m',hm,w7⟩:=hN a p L;refine⟨m',hm,i+1,a,p,q.mq,T.keep _ _ _ st5 λb c o e=>(q.pin (b,o) (fi _ (fi _ (jg c e)))).1,λb c=>?_,w7⟩;obtain⟨o,e,d⟩:=T.obj _ _ st5 b c;exact(q.pin (b,o) (fi _ (fi _ (jg c e)))).2.1
   cases f with|next=>obtain⟨a,p,q,L⟩:=y;exact again q L|cont=>obtain⟨a,p,q,L⟩:=y;exact again q L|brk=>obtain⟨a,p,q,y⟩:=y;exact⟨a,p,q.mq,y⟩|ret v=>obtain⟨x7,a,p,q,r7,y⟩:=y;exact⟨x7,a,p,q.mq,r7,y⟩
end
noncomputable abbrev R2:=V->V->Hp->VK->Prop
noncomputable def fX(X:Cx)(f:bw->bw->Sem bw)(r:R2):Prop:=∀(pins:List (b_ × Obj))(s:bZ)(σ:St)(H:Hp)(x y:V)(v u:bw)(Q:VK),Inv X pins σ H s->RelV x v->RelV y u->r x y H Q->cy (cE X.prog X.w) X.A (f v u) (EP X pins σ Q) X.xe s
noncomputable def UnR(X:Cx)(f:bw->Sem bw)(r:V->Hp->VK->Prop):Prop:=∀(pins:List (b_ × Obj))(s:bZ)(σ:St)(H:Hp)(x:V)(v:bw)(Q:VK),Inv X pins σ H s->RelV x v->r x H Q->cy (cE X.prog X.w) X.A (f v) (EP X pins σ Q) X.xe s
noncomputable def eY(X:Cx)(f:bw)(r:List V->Hp->VK->Prop):Prop:=∀(pins:List (b_ × Obj))(s:bZ)(σ:St)(H:Hp)(xs:List V)(us:List bw)(Q:VK),Inv X pins σ H s->Vals xs us->r xs H Q->cy (cE X.prog X.w) X.A (call f us) (EP X pins σ Q) X.xe s
noncomputable def Uz(r:R2)(a b:TE):TE:=λσ H Q=>a σ H λx c=>b σ c λy e=>r x y e Q
noncomputable def tUn(r:V->Hp->VK->Prop)(a:TE):TE:=λσ H Q=>a σ H λx b=>r x b Q
noncomputable def rI(C:Int->Int->Prop)(g:Int->Int->V):R2:=λx y H Q=>∃i j,x=.int i/\y=.int j/\C i j/\Q (g i j) H
noncomputable def Mr(g:Int->Int->V):R2:=λx y H Q=>∃i j,x=.int i/\y=.int j/\Q (g i j) H
noncomputable def rU(g:Int->V):V->Hp->VK->Prop:=λx H Q=>∃i,x=.int i/\Q (g i) H
section
variable{X:Cx}{a b c:df}{ta tb tc:TE}{pos:Pos}
theorem Wa(l:PE X a ta)(m:PE X b tb){σ:St}{R:V->V->Hp->Prop}(I:Inv X pins σ H s)(h:ta σ H λx k=>tb σ k λy e=>R x y e){Q:bw->bZ->Prop}{f:bw->bw->Sem bw}(n:∀v u s2 x y e,Inv X pins σ e s2->RelV x v->RelV y u->R x y e->cy (cE X.prog X.w) X.A (f v u) Q X.xe s2):cy (cE X.prog X.w) X.A (eu a X.env) (λv g=>cy (cE X.prog X.w) X.A (eu b X.env) (λu j=>cy (cE X.prog X.w) X.A (f v u) Q X.xe j) X.xe g) X.xe s:=by refine cB (l pins s σ H _ I h) λv s1⟨x,k,I1,r1,q1⟩=>?_;refine cB (m pins s1 σ k _ I1 q1) λu s2⟨y,e,I2,r2,q2⟩=>?_;exact n v u s2 x y e I2 r1 r2 q2
theorem aaf{op:lp}{r:R2}(ho:fX X (fx op) r)(e:PE X a ta)(f:PE X b tb):PE X (.BinOp a op b pos) (Uz r ta tb):=by intro pins s σ H Q I h;exact wpAny_BinOp (Wa e f I h λv u s2 x y g j k l q=>ho pins s2 σ g x y v u Q j k l q)
theorem aaG{op:UnaryOp}{r:V->Hp->VK->Prop}(ho:UnR X (unaryOp op) r)(e:PE X a ta):PE X (.UnaryOp op a pos) (tUn r ta):=by intro pins s σ H Q I h;exact UnaryOp_ (cB (e pins s σ H _ I h) λv s1⟨x,H1,I1,r1,q1⟩=>ho pins s1 σ H1 x v Q I1 r1 q1)
theorem opI{f:bw->bw->Sem bw}{C:Int->Int->Prop}{g:Int->Int->Int}(rule:∀(i j:Int)(t u:Tok)(s:bZ)(Q:bw->bZ->Prop)(E:bw->bZ->Prop),C i j->Q (.int (g i j) s.toks) {s with toks:=s.toks+1}->cy (cE X.prog X.w) X.A (f (.int i t) (.int j u)) Q E s):fX X f (rI C λi j=>.int (g i j)):=by intro pins s σ H x y v u Q I e k h;obtain⟨i,j,rfl,rfl,hc,q⟩:=h;obtain⟨t,rfl⟩:=e;obtain⟨t',rfl⟩:=k;exact rule i j t t' s _ _ hc ⟨.int (g i j),H,I.tok _,⟨_,rfl⟩,q⟩
theorem Zq{f:bw->bw->Sem bw}{g:Int->Int->Int}(rule:∀(i j:Int)(t u:Tok)(s:bZ)(Q:bw->bZ->Prop)(E:bw->bZ->Prop),Q (.int (g i j) s.toks) {s with toks:=s.toks+1}->cy (cE X.prog X.w) X.A (f (.int i t) (.int j u)) Q E s):fX X f (Mr λi j=>.int (g i j)):=by intro pins s σ H x y v u Q I e k h;obtain⟨i,j,rfl,rfl,q⟩:=h;obtain⟨t,rfl⟩:=e;obtain⟨t',rfl⟩:=k;exact rule i j t t' s _ _ ⟨.int (g i j),H,I.tok _,⟨_,rfl⟩,q⟩
theorem Pj{f:bw->bw->Sem bw}{g:Int->Int->Bool}(rule:∀(i j:Int)(t u:Tok)(s:bZ)(Q:bw->bZ->Prop)(E:bw->bZ->Prop),Q (.bool (g i j)) s->cy (cE X.prog X.w) X.A (f (.int i t) (.int j u)) Q E s):fX X f (Mr λi j=>.bl (g i j)):=by intro pins s σ H x y v u Q I e k h;obtain⟨i,j,rfl,rfl,q⟩:=h;obtain⟨t,rfl⟩:=e;obtain⟨t',rfl⟩:=k;exact rule i j t t' s _ _ ⟨.bl (g i j),H,I,rfl,q⟩
noncomputable def afq(i j:Int):Prop:=0<=j/\j<=1000000/\i.natAbs<2^64
noncomputable def Wc(i j:Int):Prop:=(-(2^64)<i/\i<2^64)\/(-(2^64)<j/\j<2^64)
theorem Wc.ok{i j:Int}(h:Wc i j):IntMulOk i j:=by
 rcases h with⟨h1,e⟩|⟨h1,e⟩;.exact .of_left (intBits_le_64 h1 e)
 .exact .of_right (intBits_le_64 h1 e)
theorem VJ:fX X (fx .Add) (Mr λi j=>.int (i+j)):=Zq λ_ _ _ _ _ _ _ q=>add_int q
theorem Tt:fX X (fx .Sub) (Mr λi j=>.int (i-j)):=Zq λ_ _ _ _ _ _ _ q=>sub_int q
theorem Vm:fX X (fx .Mult) (rI Wc λi j=>.int (i*j)):=opI λ_ _ _ _ _ _ _ hc q=>mul_int q hc.ok
theorem T9:fX X (fx .Mod) (rI (λ_ j=>0<j) λi j=>.int (i%j)):=opI λi j _ _ _ _ _ hc q=>by have h1:(0:Int)<j:=hc;exact mod_int' (by omega) (by rw[Int.fmod_eq_emod_of_nonneg i (by omega)];exact q)
theorem Tc:fX X (fx .Pow) (rI afq λi j=>.int (i^j.toNat)):=opI λ_ _ _ _ _ _ _ hc q=>pow_int_small hc.1 hc.2.1 hc.2.2 q
theorem unI{f:bw->Sem bw}{g:Int->Int}(rule:∀(i:Int)(t:Tok)(s:bZ)(Q:bw->bZ->Prop)(E:bw->bZ->Prop),Q (.int (g i) s.toks) {s with toks:=s.toks+1}->cy (cE X.prog X.w) X.A (f (.int i t)) Q E s):UnR X f (rU λi=>.int (g i)):=by intro pins s σ H x v Q I e h;obtain⟨i,rfl,q⟩:=h;obtain⟨t,rfl⟩:=e;exact rule i t s _ _ ⟨.int (g i),H,I.tok _,⟨_,rfl⟩,q⟩
theorem Th:UnR X (unaryOp .USub) (rU λi=>.int (-i)):=unI λ_ _ _ _ _ q=>neg_int q
end
section
variable{X:Cx}{a b c:df}{ta tb tc:TE}{pos:Pos}
theorem Uc{σ:St}{Q:VK}{k f:Bool}(I:Inv X pins σ H s)(q:Q (.bl k) H)(e:k=f):EP X pins σ Q (.bool f) s:=by subst e;exact⟨.bl k,H,I,rfl,q⟩
theorem Zh:fX X (dO .Lt) (Mr λi j=>.bl (decide (i<j))):=Pj λ_ _ _ _ _ _ _ q=>lt_int q
theorem aad:fX X (dO .LtE) (Mr λi j=>.bl (decide (i<=j))):=Pj λ_ _ _ _ _ _ _ q=>le_int q
theorem Zf:fX X (dO .Gt) (Mr λi j=>.bl (decide (j<i))):=Pj λ_ _ _ _ _ _ _ q=>gt_int q
theorem Zz:fX X (dO .GtE) (Mr λi j=>.bl (decide (j<=i))):=Pj λ_ _ _ _ _ _ _ q=>ge_int q
theorem PX:fX X (dO .IsNot) (λx y H Q=>y=.non/\Q (.bl (!decide (x=.non))) H):=by intro pins s σ H x y v u Q I e f h;obtain⟨rfl,q⟩:=h;cases f;refine isnot_none_gen (Uc I q ?_);cases x<;>first|(cases e;rfl)|(obtain⟨t,rfl⟩:=e;rfl)
theorem aeL{op:nL}{es:List df}{k:Nat}{p:Pos}(e:(op==CmpOp.In)=a7)(f:(op==oP)=a7):ga op (.Set es k p)=a7:=by show(k==0&&(op==CmpOp.In||op==oP)&&_)=a7;rw[e,f];cases(k==0)<;>rfl
theorem aW(b:df)(h:op≠.In:=by decide)(e:op≠.NotIn:=by decide):ga op b=a7:=by
 have f:(op==CmpOp.In)=a7:=by cases op<;>first|rfl|exact absurd rfl h
 have g:(op==oP)=a7:=by cases op<;>first|rfl|exact absurd rfl e
 cases b<;>first|rfl|exact aeL f g
theorem Nq{r:R2}(ho:fX X (dO op) r)(e:PE X a ta)(f:PE X b tb)(g:ga op b=a7):PE X (.Compare a [op] [b] pos) (Uz r ta tb):=by intro pins s σ H Q I h;exact wpAny_Compare1 (Wa e f I h λv u s2 x y j k l m q=>ho pins s2 σ j x y v u Q k l m q) g
noncomputable def aa6(t:TE):TT:=λσ H Q=>t σ H λx e=>∃k,x=.bl k/\Q k e
theorem Cz{r:R2}(ho:fX X (dO op) r)(f:PE X a ta)(g:PE X b tb)(j:ga op b=a7):PT X (.Compare a [op] [b] pos) (aa6 (Uz r ta tb)):=by intro pins s σ H Q I h;refine rh (cB (f pins s σ H _ I h) λv s1⟨x,H1,I1,r1,q1⟩=>cB (g pins s1 σ H1 _ I1 q1) λu s2⟨y,H2,I2,r2,q2⟩=>cB (ho pins s2 σ H2 x y v u _ I2 r1 r2 q2) λc s3⟨z,H3,I3,r3,k,e,q3⟩=>?_) j;subst e;cases r3;exact fF ⟨H3,I3,q3⟩
noncomputable def Tp(r f:R2)(ta tb tc:TE):TE:=λσ H Q=>ta σ H λx g=>tb σ g λy j=>r x y j λz e=>∃k,z=.bl k/\(if k=bx then tc σ e λl m=>f y l m Q else Q (.bl a7) e)
theorem Jy{f:nL}{r j:R2}(ho:fX X (dO op) r)(g:fX X (dO f) j)(l:PE X a ta)(m:PE X b tb)(hc:PE X c tc)(n:lastMarks [op,f] [b,c]=a7:=by with_unfolding_all rfl):PE X (.Compare a [op,f] [b,c] pos) (Tp r j ta tb tc):=by intro pins s σ H Q I h;refine Compare_chain (cB (l pins s σ H _ I h) λv s1⟨x,H1,I1,r1,q1⟩=>chain_link (cB (m pins s1 σ H1 _ I1 q1) λu s2⟨y,H2,I2,r2,q2⟩=>cB (ho pins s2 σ H2 x y v u _ I2 r1 r2 q2) λd s3⟨z,H3,I3,r3,k,e,q3⟩=>?_)) n;subst e;cases r3;refine fF ?_;cases k with|false=>exact ite_ff ⟨.bl a7,H3,I3,rfl,q3⟩|true=>exact ite_tt (chain_last (cB (hc pins s3 σ H3 _ I3 q3) λo s4⟨p,H4,I4,r4,q4⟩=>g pins s4 σ H4 y p u o Q I4 r2 r4 q4))
theorem qG:(sizeLine:Nat)<2^63:=by rw[eW];decide
theorem zH:fX X (fx .Add) (λx y H Q=>∃i j,x=.str i/\y=.str j/\i.length+j.length<=sizeLine/\Q (.str (i++j)) H):=by intro pins s σ H x y v u Q I e f h;obtain⟨i,j,rfl,rfl,hz,q⟩:=h;obtain⟨t,rfl⟩:=e;obtain⟨t',rfl⟩:=f;exact add_str (λt' tk=>⟨.str (i++j),H,I.tok _,⟨_,rfl⟩,q⟩) hz
theorem vals1{x:V}(r:Vals [x] us):∃u,us=[u]/\RelV x u:=by cases r with|cons r1 e=>cases e;exact⟨_,rfl,r1⟩
theorem vals2{x y:V}(r:Vals [x,y] us):∃u e,us=[u,e]/\RelV x u/\RelV y e:=by cases r with|cons r1 f=>cases f with|cons g j=>cases j;exact⟨_,_,rfl,r1,g⟩
theorem Ft(hc:X.calm=bx):eY X (.builtin "max") (λxs H Q=>∃i j,xs=[.int i,.int j]/\Q (.int (if j>i then j else i)) H):=by
 intro pins s σ H xs us Q I r h;obtain⟨i,j,rfl,q⟩:=h;obtain⟨u,f,rfl,⟨t,rfl⟩,⟨t',rfl⟩⟩:=vals2 r;refine max_two_ints (I.ok.hd hc) λh' tk k=>⟨_,H,I.kept k,?_,q⟩;by_cases e:j>i;.rw[if_pos e,if_pos e];exact⟨_,rfl⟩
 .rw[if_neg e,if_neg e];exact⟨_,rfl⟩
theorem Ez(hc:X.calm=bx):eY X (.builtin "min") (λxs H Q=>∃i j,xs=[.int i,.int j]/\Q (.int (if j<i then j else i)) H):=by
 intro pins s σ H xs us Q I r h;obtain⟨i,j,rfl,q⟩:=h;obtain⟨u,f,rfl,⟨t,rfl⟩,⟨t',rfl⟩⟩:=vals2 r;refine min_two_ints (I.ok.hd hc) λh' tk k=>⟨_,H,I.kept k,?_,q⟩;by_cases e:j<i;.rw[if_pos e,if_pos e];exact⟨_,rfl⟩
 .rw[if_neg e,if_neg e];exact⟨_,rfl⟩
end
theorem o9.some_of{v:V}{o:Option bw}(r:o9 (al v) o):∃u,o=al u/\RelV v u:=by cases o with|none=>exact(show False from r).elim|some u=>exact⟨u,rfl,r⟩
structure jX(k:Nat)(A:ej):Prop where
 hd:A.handled=bdq
 dp:A.depth+3*k+5<recursionLimit
 un:A.units+16*k+200<fT
theorem jX.deeper{k:Nat}{A:ej}(r:jX (k+1) A)(env:Env):jX k (A.deeper env):=⟨r.hd,by have:=r.dp;show A.depth+1+3*k+5<_;omega,by have:=r.un;show A.units+3+16*k+200<_;omega⟩
theorem jX.depth{k:Nat}{A:ej}(r:jX k A):A.depth<recursionLimit:=by have:=r.dp;omega
noncomputable def Gb:TA:=λ_ H Q=>Q [] H
noncomputable def rP(a:TE)(b:TA):TA:=λσ H Q=>a σ H λx c=>b σ c λxs e=>Q (x::xs) e
section
variable{X:Cx}{e:df}{es:List df}{te:TE}{t:TA}{pos:Pos}
theorem di:PA X [] Gb:=λ_ _ _ _ H Q I h=>ly ⟨[],H,I,.nil,h⟩
theorem bu(a:PE X e te)(hr:PA X es t)(hs:cw (e::es) X.env=(a7,eu e X.env)::cw es X.env:=by rfl):PA X (e::es) (rP te t):=by intro pos pins s σ H Q I h;rw[hs];show cy _ _ (spliced ((a7,eu e X.env)::iA pos (cw es X.env))) _ _ s;refine jx (cB (a pins s σ H _ I h) λu s1⟨x,H1,I1,r1,q1⟩=>?_);exact cB (hr pos pins s1 σ H1 _ I1 q1) λus s2⟨xs,H2,I2,r2,q2⟩=>⟨x::xs,H2,I2,.cons r1 r2,q2⟩
noncomputable def aaH(t:TA):TE:=λσ H Q=>t σ H λxs a=>xs.length<=sizeLine/\∀p,a p=bdq->Q (.ref p) (upd a p (.tup xs))
noncomputable def aez(t:TA):TE:=λσ H Q=>t σ H λxs a=>xs.length<=sizeLine/\∀p,a p=bdq->Q (.ref p) (upd a p (.lst xs))
theorem Ig{x1}(h:PA X es t):PE X (.Tuple es x1 pos) (aaH t):=by intro pins s σ H Q I a;refine wpAny_Tuple_spliced (cB (h pos pins s σ H _ I a) λus s1⟨xs,H1,I1,r,z,q⟩=>⟨by rw[<-r.length];exact z,?_⟩);have c:H1 s1.heap.objs.size=bdq:=I1.hok.fresh (dq);refine⟨.ref s1.heap.objs.size,upd H1 s1.heap.objs.size (.tup xs),I1.laid (t':=s1.toks) (λb u e=>dB e) (dq) ?_,rfl,q _ c⟩;exact⟨z,us,r,⟨_,cv _ rfl,rfl,_,rfl⟩⟩
theorem Ww(h:PA X es t):PE X (.List es pos) (aez t):=by intro pins s σ H Q I a;refine wpAny_List_spliced (cB (h pos pins s σ H _ I a) λus s1⟨xs,H1,I1,r,z,q⟩=>⟨by rw[<-r.length];exact z,?_⟩);have c:H1 s1.heap.objs.size=bdq:=I1.hok.fresh (dq);refine⟨.ref s1.heap.objs.size,upd H1 s1.heap.objs.size (.lst xs),I1.laid (t':=s1.toks) (λb u e=>dB e) (dq) ?_,rfl,q _ c⟩;exact⟨z,us,0,r,cv _ rfl⟩
end
noncomputable abbrev Sp:=List V->Hp->VK->XK->Prop
noncomputable abbrev Ks:=List Env->Hp->bZ->XK->bw->bZ->Prop
structure Pa(P:da)(w:eg)(K:PySem.W.Frag)(mg:Str->Option bw)(base:ew)(A:ej)(outer:List Env)(s:bZ)(H:Hp):Prop where
 frames:A.frames=al outer
 mod:Mod K mg base
 bs:∀b o,base.get? b=al o->s.heap.get? b=al o/\H b=bdq
 RW:base.objs.size<=s.heap.objs.size
 rE:s.heap.FunFrames base outer
 YZ:∀b∈frs outer,H b=bdq
 hok:nF P w H s.heap
 bare:lW s.gens
noncomputable def CE(outer:List Env)(P:da)(w:eg)(H:Hp)(s:bZ)(Q:VK)(u:bw)(a:bZ):Prop:=∃v b,a.os=s.os/\lW a.gens/\Un (frs outer) [] H b s.heap a.heap/\nF P w b a.heap/\RelV v u/\Q v b
noncomputable def CR(CX:Ks)(outer:List Env)(P:da)(w:eg)(H:Hp)(s:bZ)(Q:VK)(E:XK)(r:Result)(a:bZ):Prop:=match r with|.ok (.ret u)=>CE outer P w H s Q u a|.ok _=>False|.error e=>CX outer H s E e a
structure oA(P:da)(w:eg)(K:PySem.W.Frag)(mg:Str->Option bw)(base:ew)(CX:Ks)(k:Nat)(f:b_)(fd:h8)(ps:List Str)(sp:Sp):Prop where
 len:∀vs H Q E,sp vs H Q E->vs.length=ps.length
 run:∀(A:ej)(outer:List Env)(s:bZ)(H:Hp)(args:Args)(us:List bw)(vs:List V)(Q:VK)(E:XK),jX k A->Pa P w K mg base A outer s H->n8 s fd args (ps.zip us)->Vals vs us->sp vs H Q E->kX (cE P w) A (.call (.ref f) args) (CR CX outer P w H s Q E) s
section
variable{X:Cx}{pins:List (b_×Obj)}{σ:St}{H:Hp}{s s':bZ}
theorem Inv.env0(I:Inv X pins σ H s):Pa X.prog X.w X.K X.mg X.base X.A X.stack s H:=⟨I.ok.frames,I.ok.mod,I.bs,g_ I.ok.RW I.sz,I.stack,I.Du,I.hok,I.bare⟩
theorem Inv.after{Q:VK}{u:bw}(I:Inv X pins σ H s)(h:CE X.stack X.prog X.w H s Q u s'):EP X pins σ Q u s':=by obtain⟨v,c,os,bare,un,hok,r,q⟩:=h;obtain⟨e,g,d,t,a⟩:=s';obtain rfl:a=s.os:=os;exact⟨v,c,I.call (h':=e) (g':=g) (d':=d) (t':=t) (ch:=[]) un hok bare (λb z=>absurd z (by simp)),r,q⟩
end
noncomputable def aah(sp:Sp)(a:List V)(E:XK)(t:TA):TE:=λσ H Q=>t σ H λvs b=>sp (vs++a) b Q E
noncomputable def Binds(K:PySem.W.Frag)(fd:h8)(ps:List Str)(a:List bw):Prop:=∀(s:bZ)(us:List bw),K.In s.heap->(us++a).length=ps.length->n8 s fd ⟨us,[]⟩ (ps.zip (us++a))
theorem Binds.all{fd:h8}{ps:List Str}(h:∀us:List bw,us.length=ps.length->r8 fd ⟨us,[]⟩=eS (ps.zip us)):Binds K fd ps []:=λs us _ a=>by rw[fo]at a ⊢;exact .of_eq (h us a)
noncomputable def Passes(CX:Ks)(X:Cx)(E:XK):Prop:=∀(pins:List (b_×Obj))(σ:St)(H:Hp)(s:bZ)(e:bw)(a:bZ),Inv X pins σ H s->CX X.stack H s E e a->X.xe e a
section
variable{X:Cx}{CX:Ks}{k:Nat}{f C:b_}{fd:h8}{ps:List Str}{sp:Sp}{RZ:List V}{ds:List bw}{E:XK}{x m:Str}{p pos apos:Pos}{e o:df}{es:List df}{ta:TE}{t:TA}
theorem U8{σ:St}{Q:VK}{vs:List V}(F:oA X.prog X.w X.K X.mg X.base CX k f fd ps sp)(hr:jX k X.A)(c:Binds X.K fd ps ds)(hd:Vals RZ ds)(g:Passes CX X E)(I:Inv X pins σ H s)(r:Vals vs us)(h:sp (vs++RZ) H Q E):cy (cE X.prog X.w) X.A (call (.ref f) us) (EP X pins σ Q) X.xe s:=by
 have b:Vals (vs++RZ) (us++ds):=r.append hd;have j:(us++ds).length=ps.length:=by rw[<-b.length];exact F.len _ _ _ _ h
 refine wpAny_call (rc (F.run X.A X.stack s H ⟨us,[]⟩ (us++ds) (vs++RZ) Q E hr I.env0 (c s us I.Ue j) b h) λr l a=>?_);cases r with|error e=>exact g pins σ H s e l I a|ok fl=>cases fl with|ret u=>exact I.after a|next=>exact e_ a|brk=>exact e_ a|cont=>exact e_ a
theorem PK(F:oA X.prog X.w X.K X.mg X.base CX k f fd ps sp)(hr:jX k X.A)(b:Gl X x)(c:X.mg x=al (.ref f))(g:keepIn X.K (.ref f)=bx)(j:Binds X.K fd ps ds)(hd:Vals RZ ds)(l:Passes CX X E)(n:PA X (e::es) t)(a:(x==("__debug__":Str))=a7:=by decide)(he:cw (e::es) X.env=(a7,eu e X.env)::cw es X.env:=by rfl)(hpl:(iA pos (cw es X.env)).any (·.1)=a7:=by rfl):PE X (.Call (.Name x p) (e::es) [] pos) (aah sp RZ E t):=by intro pins s σ H Q I h;refine mh (Pb I b c ?_ a);refine PySem.W.callWith_K (h₀:=X.base) I.ok.mod.pF g (cB (n pos pins s σ H _ I h) λus s1⟨vs,H1,I1,r,q⟩=>⟨I1.Ue,?_⟩) he hpl;exact U8 F hr j hd l I1 r q
end
structure aK(N P:List Str)(sc:jt):Prop where
 kind:sc.kind=.function:=by rfl
 co:sc.isCoroutine=a7:=by rfl
 gen:sc.isGenerator=a7:=by rfl
 nd:N.Nodup:=by decide+kernel
 pre:N.take P.length=P:=by rfl
 par:∀x∈P,sc.names.lookup x=al .local\/sc.names.lookup x=al .cell:=by decide+kernel
 WY:∀y∈sc.names,y.2≠.free:=by decide+kernel
theorem uR{kindOf:Str->Option ku}{x:Str}:∀{binds:List (Str×bw)}{m:Str->Option bw},(∀v,(x,v)∉binds)->p9 kindOf binds m x=m x
 |[],_,_=>rfl|(n,v)::r,m,h=>by
   unfold p9;rw[uR λw a=>h w (dA _ a)];split
   . have:x≠n:=by rintro rfl;exact h v h_
     simp[this]
   .rfl
theorem uq{kindOf:Str->Option ku}{x:Str}:∀{binds:List (Str×bw)}{m:Str->Option bw},(∀v,(x,v)∉binds)->p_ kindOf binds m x=m x
 |[],_,_=>rfl|(n,v)::r,m,h=>by
   unfold p_;rw[uq λw a=>h w (dA _ a)];split;.rfl
   . have:x≠n:=by rintro rfl;exact h v h_
     simp[this]
theorem uI{kindOf:Str->Option ku}{x:Str}{v:bw}:∀{P:List Str}{vs:List bw}{i:Nat}{m:Str->Option bw},P.Nodup->P[i]?=al x->vs[i]?=al v->kindOf x=al .local->p9 kindOf (P.zip vs) m x=al v|[],_,_,_,_,h,_,_=>by simp at h|_::_,[],_,_,_,_,h,_=>by simp at h|p::P,w::vs,0,m,nd,h1,a,b=>by simp at h1 a;subst h1;subst a;show p9 kindOf ((p,w)::P.zip vs) m p=_;unfold p9;rw[uR λv c=>(eI.mp nd).1 (ko c).1,if_pos b];simp|p::P,w::vs,i+1,m,nd,h1,a,b=>by show p9 kindOf ((p,w)::P.zip vs) m x=_;unfold p9;exact uI (i:=i) (eI.mp nd).2 (by simpa using h1) (by simpa using a) b
theorem uE{kindOf:Str->Option ku}{x:Str}{v:bw}:∀{P:List Str}{vs:List bw}{i:Nat}{m:Str->Option bw},P.Nodup->P[i]?=al x->vs[i]?=al v->kindOf x≠al .local->p_ kindOf (P.zip vs) m x=al v|[],_,_,_,_,h,_,_=>by simp at h|_::_,[],_,_,_,_,h,_=>by simp at h|p::P,w::vs,0,m,nd,h1,a,b=>by simp at h1 a;subst h1;subst a;show p_ kindOf ((p,w)::P.zip vs) m p=_;unfold p_;rw[uq λv c=>(eI.mp nd).1 (ko c).1,if_neg b];simp|p::P,w::vs,i+1,m,nd,h1,a,b=>by show p_ kindOf ((p,w)::P.zip vs) m x=_;unfold p_;exact uE (i:=i) (eI.mp nd).2 (by simpa using h1) (by simpa using a) b
noncomputable def start(N:List Str)(vs:List V):St:=vs.map al++cq (N.length-vs.length) bdq
noncomputable def Bh(CX:Ks)(P:da)(w:eg)(K:PySem.W.Frag)(mg:Str->Option bw)(base:ew)(N:List Str)(qual:Str)(scope:jt)(f:b_)(b:bw)(A:ej)(outer:List Env)(s:bZ)(H:Hp)(E:XK):Cx where prog:=P;w:=w;K:=K;mg:=mg;base:=base;A:=A.deeper (ll qual scope s.heap.objs.size f b);N:=N;s₀:=s;H₀:=H;env:=ll qual scope s.heap.objs.size f b;outer:=outer;stack:=ll qual scope s.heap.objs.size f b::outer;ex:=[];calm:=bx;fn:=λ_=>bx;pn:=[];xe:=λe c=>cy (cE P w) (A.deeper (ll qual scope s.heap.objs.size f b)) (leaving (ll qual scope s.heap.objs.size f b) e) (λ_ a=>CX outer H s E e a) (λg a=>CX outer H s E g a) c
theorem yX{a:jt}{n:Nat}{x:Str}(h:a.names.lookup x=al .cell):∃c,(kg n a.names []).lookup x=al c:=by have q:=PySem.W.cellsFrom_some a.names n [] (.inl h);exact nh.mp q
theorem Gh{CX:Ks}{P:da}{mg:Str->Option bw}{base:ew}{N ps:List Str}{qual:Str}{scope:jt}{f:b_}{t:bw}{outer:List Env}{s1:bZ}{E:XK}{vs:List V}(S:aK N ps scope)(hd:A.handled=bdq)(j:Pa P w K mg base A outer s H)(J:vs.length=ps.length)(r:Vals vs us)(x:InCallC s s.heap.objs.size (p9 (ll qual scope s.heap.objs.size f t).kindOf (ps.zip us) λ_=>bdq) (kg (s.heap.objs.size+1) scope.names []) (p_ (ll qual scope s.heap.objs.size f t).kindOf (ps.zip us) λ_=>bdq) s1):Inv (Bh CX P w K mg base N qual scope f t A outer s H E) [] (start N vs) H s1:=by
 have hpl:ps.length<=N.length:=by have:=congrArg kN S.pre;rw[kB]at this;omega
 obtain⟨h1,tk,rfl,B⟩:=x.done;have l:∀b:b_,b∉(Bh CX P w K mg base N qual scope f t A outer s H E).ex:=λb z=>absurd (show b∈([]:List b_)from z) (by simp);refine⟨⟨j.mod,S.kind,rfl,rfl,dq,λy z c h1 g=>?_,λy hy=>?_,λy c _ h=>?_,λ_=>hd,Around.frames_deeper j.frames,.inr ⟨rfl,rfl⟩,λb z=>absurd z (l b),j.bs,j.RW,λb _ _=>l b,λb z=>absurd z (l b),j.rE,j.YZ⟩,rfl,j.bare,Un.kept B,⟨_,x.toInCall.ns,λi y v h1 g L=>?_⟩,λy c h=>⟨_,x.cell y c h⟩,j.hok.fresh (dq),λy c h=>?_,λp m=>absurd (show p∈([]:List (b_×Obj))from m) (by simp),j.hok.kept B,?_⟩;.exact name_of_addr x.apart (PySem.mem_of_lookup h1) (PySem.mem_of_lookup g)
 . have hy:scope.names.lookup y=al .cell\/scope.names.lookup y=al .free:=hy;rcases hy with hy|hy;.exact yX hy
   .exact absurd rfl (S.WY _ (PySem.mem_of_lookup hy))
 .exact li (x.above y c (PySem.mem_of_lookup h))
 . have hi:i<vs.length:=by
    unfold start at g;by_cases hi:i<vs.length;.exact hi
    .rw[gx (by simpa using hi)]at g;rw[ix]at g;split at g<;>cases g
   have G:vs[i]?=al v:=by unfold start at g;rw[dr (by simpa using hi),er]at g;cases e:vs[i]?with|none=>rw[e]at g;cases g|some a=>rw[e]at g;cases g;rfl
   obtain⟨u,C,I⟩:=r.get G;have m:ps[i]?=al y:=by rw[<-S.pre,ki (by omega)];exact h1
   have o:ps.Nodup:=by rw[<-S.pre];exact S.nd.sublist (List.take_sublist _ _)
   refine⟨u,I,?_⟩;rcases S.par y (du m)with k|k;.exact .inl ⟨k,uI o m C k⟩
   .obtain⟨c,e⟩:=yX (n:=s.heap.objs.size+1) k;refine .inr ⟨.inl k,c,e,?_⟩;have q:=x.cell y c e;rw[uE o m C (by show scope.names.lookup y≠_;rw[k];decide)]at q;exact q
 .exact j.hok.fresh (li (x.above y c (PySem.mem_of_lookup h)))
 .unfold start;show _=N.length;rw[eB,dQ,oz];omega
theorem aa3{CX:Ks}{P:da}{w:eg}{K:PySem.W.Frag}{mg:Str->Option bw}{base:ew}{k:Nat}{f:b_}{name qual:Str}{a:Arguments}{body:List eM}{scope:jt}{L kV m O cdv ct oc:bw}{U Z:Option b_}{z:Array (Option bw)}{N ps:List Str}{sp:Sp}(lk:K.lookup f=al ⟨oc,Z,.func (PySem.W.fnOf name qual a body scope L kV m O U cdv ct),z⟩)(B:PySem.W.codeIn K cdv qual=bx)(S:aK N ps scope)(len:∀vs H Q E,sp vs H Q E->vs.length=ps.length)(j:∀(A:ej)(outer:List Env)(s:bZ)(H:Hp)(vs:List V)(Q:VK)(E:XK),jX k (A.deeper (ll qual scope s.heap.objs.size f cdv))->sp vs H Q E->∃t,rG (Bh CX P w K mg base N qual scope f cdv A outer s H E) body t/\t {nx:=λ_ g=>Q .non g,rt:=Q} (start N vs) H):oA P w K mg base CX (k+1) f (PySem.W.fnOf name qual a body scope L kV m O U cdv ct) ps sp:=by
 refine⟨len,λA outer s H args us vs Q E hr p hb r hsp=>?_⟩;have hl:=len _ _ _ _ hsp;have Y:K.In s.heap:=p.mod.pF.keeps λb o e=>(p.bs b o e).1;have lim:s.heap.NoLimit:=p.mod.nolimit.keeps λb o e=>(p.bs b o e).1;have l:∀y∈ps.zip us,scope.names.lookup y.1=al .local\/(scope.names.lookup y.1=al .cell/\((kg (s.heap.objs.size+1) scope.names []).lookup y.1).isSome=bx):=λ⟨n,v⟩hy=>by
  rcases S.par n (ko hy).1 with q|q;.exact .inl q
  .exact .inr ⟨q,PySem.W.cellsFrom_some _ _ _ (.inl q)⟩
 refine codeAny_call_function hr.depth (Y _ _ lk) rfl S.co S.gen rfl (PySem.W.codeRec_of Y B) (hb _ _ _ _ ?_);refine wpAny_newFunctionEnv_cells S.kind l λenv he s1 x=>?_;subst he;refine⟨lim.keeps x.toInCall.keep,codeAny_func ?_⟩;obtain⟨t,ht,hq⟩:=j A outer s H vs Q E (hr.deeper _) hsp;have I:Inv (Bh CX P w K mg base N qual scope f cdv A outer s H E) [] (start N vs) H s1:=Gh S hr.hd p hl r x;refine ei (ht [] s1 (start N vs) H _ I hq) (λfl C hs=>?_) λe C hs=>hs;have fin:∀{c:St}{g:Hp}{v:V}{u:bw},Inv (Bh CX P w K mg base N qual scope f cdv A outer s H E) [] c g C->RelV v u->Q v g->CE outer P w H s Q u C:=λ{c g v u}J G q=>⟨v,g,J.os,J.bare,J.base,J.hok,G,q⟩;cases fl with|ret u=>obtain⟨v,c,g,J,G,q⟩:=hs;exact fin J G q|next=>obtain⟨c,g,J,q⟩:=hs;exact fin (v:=V.non) (u:=eL) J rfl q|brk=>obtain⟨_,_,_,q⟩:=hs;exact e_ q|cont=>obtain⟨_,_,_,q⟩:=hs;exact e_ q
section
variable{X:Cx}{x:Str}{p pos:Pos}{e:df}{es:List df}{t:TA}{id T:String}{r:List V->Hp->VK->Prop}
noncomputable def Ym(r:List V->Hp->VK->Prop)(t:TA):TE:=λσ H Q=>t σ H λvs a=>r vs a Q
theorem fW(hc:eY X (.builtin id) r)(b:Gl X x)(c:X.mg x=bdq)(f:eK x=al (.builtin id))(g:PA X (e::es) t)(j:x≠"__name__":=by decide)(a:(x==("__debug__":Str))=a7:=by decide)(he:cw (e::es) X.env=(a7,eu e X.env)::cw es X.env:=by rfl)(hpl:(iA pos (cw es X.env)).any (·.1)=a7:=by rfl):PE X (.Call (.Name x p) (e::es) [] pos) (Ym r t):=by intro pins s σ H Q I h;refine mh (ji I b c f ?_ j a);exact PyProof.Rows.callWith_builtin1 (cB (g pos pins s σ H _ I h) λus s1⟨vs,H1,I1,r1,q1⟩=>hc pins s1 σ H1 vs us Q I1 r1 q1) he hpl
theorem iQ(hc:eY X (.type T) r)(b:Gl X x)(c:X.mg x=bdq)(f:eK x=al (.type T))(g:PA X (e::es) t)(j:x≠"__name__":=by decide)(a:(x==("__debug__":Str))=a7:=by decide)(he:cw (e::es) X.env=(a7,eu e X.env)::cw es X.env:=by rfl)(hpl:(iA pos (cw es X.env)).any (·.1)=a7:=by rfl):PE X (.Call (.Name x p) (e::es) [] pos) (Ym r t):=by intro pins s σ H Q I h;refine mh (ji I b c f ?_ j a);exact eF (cB (g pos pins s σ H _ I h) λus s1⟨vs,H1,I1,r1,q1⟩=>hc pins s1 σ H1 vs us Q I1 r1 q1) he hpl
end
end _L
namespace _U
open PySem PyProof.Rows
section
variable{prog:da}{w:eg}{A:ej}{E:bw->bZ->Prop}{s:bZ}
theorem PQ{t b:b_}{vs ws:List bw}{Q:bw->bZ->Prop}(ht:qa s.heap t vs.toArray)(o:qa s.heap b ws.toArray)(j:vs≠[])(h1:ws=[]->Q (.ref t) s)(p:ws≠[]->Q (.ref s.heap.objs.size) {s with heap:=s.heap.push {cls:=.type "tuple",data:=.seq (vs++ws).toArray}})(hsz:vs.length+ws.length<=sizeLine):cy (cE prog w) A (fx .Add (.ref t) (.ref b)) Q E s:=by
 obtain⟨⟨cls,k,data,sl⟩,ho,hc,n,hd⟩:=id ht;obtain⟨⟨l,c,data2,f⟩,a,g,m,h⟩:=id o;simp only at hc hd g h;subst hc hd g h;have e:vs.toArray++ws.toArray=(vs++ws).toArray:=by simp
 by_cases i:ws=[];.exact mT ⟨_,ho,rfl⟩ ⟨_,a,rfl⟩ nv pE slot_tuple_add entry_tuple_add (args_tuple_add_2 _ _) (tuple_addW1 t b vs.toArray ws.toArray n m k c sl f (by simpa using j) (by simp[i])) ⟨ho,a,h1 i⟩
 .refine mT ⟨_,ho,rfl⟩ ⟨_,a,rfl⟩ nv pE slot_tuple_add entry_tuple_add (args_tuple_add_2 _ _) (tuple_addW2 t b vs.toArray ws.toArray n m k c sl f (by simpa using j) (by simpa using i) (by rw[cx,cx];exact hsz)) ⟨ho,a,?_⟩;rw[e];exact p i
noncomputable def dD(n d:Nat):Option Int->Nat|none=>d|some v=>if v<0 then(v+(n:Int)).toNat else min v.toNat n
theorem Uv(n d:Nat)(hd:d<=n)(o:Option Int):dD n d o<=n:=by cases o with|none=>exact hd|some v=>
   show(if v<0 then(v+(n:Int)).toNat else min v.toNat n)<=n;by_cases a:v<0;.rw[if_pos a];omega
   .rw[if_neg a];exact Nat.min_le_right _ _
theorem CZ(v:Int)(n d:Nat):(if v<0 then max (v+(n:Int)) 0 else min v (n:Int))=((dD n d (al v):Nat):Int):=by
 show(if v<0 then max (v+(n:Int)) 0 else min v (n:Int))=(((if v<0 then(v+(n:Int)).toNat else min v.toNat n):Nat):Int);by_cases a:v<0;.simp only[if_pos a];omega
 .simp only[if_neg a];omega
theorem zQ(lo hi:Option Int)(n:Nat):ro lo hi 1 (n:Int)=(((dD n 0 lo:Nat):Int),((dD n n hi:Nat):Int)):=by
 have h1:¬((1:Int)<0):=by omega
 unfold ro;simp only[h1,if_false];refine Prod.ext ?_ ?_;.cases lo with|none=>rfl|some v=>exact CZ v n 0
 .cases hi with|none=>rfl|some v=>exact CZ v n n
theorem Aq(i j:Nat):nE (i:Int) (j:Int) 1=j-i:=by
 unfold nE;have h1:(1:Int)>0:=by omega
 simp only[h1,if_true,Int.ediv_one];split<;>omega
theorem rO{v:bw}{o:Option Int}{Q:Option Int->bZ->Prop}(p:lw v o)(h:Q o s):cy (cE prog w) A (Builtin.Slice.slicePartIndex v) Q E s:=by cases p with|none=>exact slicePart_none h|int i t=>exact slicePart_int h
theorem iV{sl:b_}{c e:bw}{lo hi:Option Int}{n:Nat}{Q:Int×Int×Nat->bZ->Prop}(hs:s.heap.IsSliceOf sl c e .none)(f:lw c lo)(g:lw e hi)(h:Q (((dD n 0 lo:Nat):Int),1,dD n n hi-dD n 0 lo) s):cy (cE prog w) A (sliceApplied (.ref sl) (eS (n:Int))) Q E s:=by obtain⟨os,a,i,b⟩:=id hs;unfold sliceApplied Builtin.Slice.sliceFields;refine a_ (a_ (fh a b (x:=c) rfl (a_ (fh a b (x:=e) rfl (a_ (fh a b (x:=.none) rfl (cr ?_)))))));refine a_ (slicePart_none ?_);show cy _ _ (if((1:Int)==0)=bx then _ else _) _ _ s;rw[if_neg (by decide)];refine a_ (rO f (a_ (rO g (a_ (cr ?_)))));show cy _ _ (match ro lo hi 1 (n:Int)with|(lo,hi)=>eS (lo,(1:Int),nE lo hi 1)) _ _ s;rw[zQ lo hi n];show cy _ _ (eS (((dD n 0 lo:Nat):Int),(1:Int),nE ((dD n 0 lo:Nat):Int) ((dD n n hi:Nat):Int) 1)) _ _ s;rw[Aq];exact cr h
theorem Ik(xs:Array bw)(i k:Nat):((dy k).filterMap λ(m:Nat)=>xs[((i:Int)+(m:Int)*1).toNat]?).toArray=((xs.toList.drop i).take k).toArray:=by
 have e:(λ(m:Nat)=>xs[((i:Int)+(m:Int)*1).toNat]?)=λm=>xs[i+m]?:=by
  funext m;have:((i:Int)+(m:Int)*1).toNat=i+m:=by omega
  rw[this]
 rw[e];have:=pick_run xs i k;rw[List.filterMap_map]at this;have a:((λx=>xs[x]?)∘ λx=>i+x)=λm=>xs[i+m]?:=rfl;rw[a]at this;rw[this]
theorem lY{t sl:b_}{items:Array bw}{g i:bw}{lo hi:Option Int}{Q:bw->bZ->Prop}(ht:qa s.heap t items)(hs:s.heap.IsSliceOf sl g i .none)(j:lw g lo)(k:lw i hi)(l:¬(dD items.size 0 lo=0/\dD items.size items.size hi=items.size))(h:Q (.ref s.heap.objs.size) {s with heap:=s.heap.push {cls:=.type "tuple",data:=.seq ((items.toList.drop (dD items.size 0 lo)).take (dD items.size items.size hi-dD items.size 0 lo)).toArray}})(hsz:items.size<=sizeLine):cy (cE prog w) A (kc (.ref t) (.ref sl)) Q E s:=by
 have a:sizeOk (.seq ((items.toList.drop (dD items.size 0 lo)).take (dD items.size items.size hi-dD items.size 0 lo)).toArray):=by show((items.toList.drop (dD items.size 0 lo)).take (dD items.size items.size hi-dD items.size 0 lo)).toArray.size<=sizeLine;rw[cx,kB,mf,ja];omega
 have o:dD items.size items.size hi<=items.size:=Uv _ _ (dq) hi;obtain⟨os,b,c,n⟩:=id hs;have e:s.TypeIs (.ref sl) "slice":=⟨os,b,c⟩;unfold kc;try with_reducible refine h9 ?_
 first|refine a_ (cr ?_)|skip
 refine a_ (wpAny_sequenceKey ht.typeIs (by decide) ?_);refine a_ (fI (name:=iF "__getitem__") ht.typeIs im (gX im ht.typeIs entry_tuple_getitem ?_ (args_tuple_getitem _ _)));show cy _ _ (tupleItemsOf (.ref t)>>=_) _ _ s;refine a_ (tupleItemsOf_ ht ?_);refine a_ (kR e ?_);rw[if_pos (by decide)];refine a_ (iV hs j k ?_);have f:¬((((dD items.size 0 lo:Nat):Int)==0&&(1:Int)==1&&(dD items.size items.size hi-dD items.size 0 lo)==items.size)=bx):=by intro q;rw[ey,ey]at q;have p:((dD items.size 0 lo:Nat):Int)=0:=eq_of_beq q.1.1;have r:dD items.size items.size hi-dD items.size 0 lo=items.size:=eq_of_beq q.2;exact l ⟨by omega,by omega⟩
 show cy _ _ (if(((dD items.size 0 lo:Nat):Int)==0&&(1:Int)==1&&(dD items.size items.size hi-dD items.size 0 lo)==items.size)=bx then _ else _) _ _ s;rw[if_neg f,Ik];first|exact a_ (m:=i7 _) (ek (cr ⟨_,rfl,cr h⟩) a)|exact a_ (m:=i7 _) (ek (a_ (cr (cr ⟨_,rfl,cr h⟩))) a)|exact a_ (a_ (m:=i7 _) (ek (cr (cr ⟨_,rfl,cr h⟩)) a))|exact a_ (a_ (m:=i7 _) (ek (cr ⟨_,rfl,cr h⟩) a))
end
end _U
namespace _L
open PySem Spec PyProof.Rows
variable{n:Nat}{s:bZ}{x:V}
noncomputable abbrev TO:=St->Hp->(Option Int->Hp->Prop)->Prop
noncomputable def PO(X:Cx)(e:Option df)(t:TO):Prop:=∀(a:List (b_ × Obj))(s:bZ)(σ:St)(H:Hp)(Q:Option Int->Hp->Prop),Inv X a σ H s->t σ H Q->cy (cE X.prog X.w) X.A (evalPart e X.env) (λu c=>∃o b,Inv X a σ b c/\lw u o/\Q o b) X.xe s
noncomputable def Od:TO:=λ_ H Q=>Q bdq H
noncomputable def Zx(t:TE):TO:=λσ H Q=>t σ H λx a=>∃i,x=.int i/\Q (al i) a
section
variable{X:Cx}{e:df}{te:TE}{lo hi:Option df}{tl th:TO}{pos p2:Pos}
theorem Oo:PO X bdq Od:=by intro a s σ H Q I h;rw[evalPart_none];exact cr ⟨bdq,H,I,.none,h⟩
theorem NZ(h:PE X e te):PO X (al e) (Zx te):=by intro a s σ H Q I b;rw[evalPart_some];refine cB (h a s σ H _ I b) λu s1⟨x,H1,I1,r1,q1⟩=>?_;obtain⟨i,rfl,q⟩:=q1;obtain⟨t,rfl⟩:=r1;exact⟨al i,H1,I1,.int i t,q⟩
noncomputable def SlR(X:Cx)(r:V->Option Int->Option Int->Hp->VK->Prop):Prop:=∀(a:List (b_ × Obj))(s:bZ)(σ:St)(H:Hp)(x:V)(v b c:bw)(lo hi:Option Int)(sl:b_)(Q:VK),Inv X a σ H s->RelV x v->s.heap.IsSliceOf sl b c .none->lw b lo->lw c hi->r x lo hi H Q->∃T id,n_ (.type T) "__getitem__"=eS (al (.builtin id))/\s.TypeIs v T/\cy (cE X.prog X.w) X.A (kc v (.ref sl)) (EP X a σ Q) X.xe s
noncomputable def tSl(r:V->Option Int->Option Int->Hp->VK->Prop)(te:TE)(tl th:TO):TE:=λσ H Q=>te σ H λx a=>tl σ a λl b=>th σ b λu c=>r x l u c Q
theorem xY{r:V->Option Int->Option Int->Hp->VK->Prop}(hr:SlR X r)(he:PE X e te)(g:PO X lo tl)(i:PO X hi th):PE X (.Subscript e (.Slice lo hi bdq p2) pos) (tSl r te tl th):=by intro a s σ H Q I h;refine Subscript_ (cB (he a s σ H _ I h) λv s1⟨x,H1,I1,r1,q1⟩=>?_);refine wpAny_Slice (cB (g a s1 σ H1 _ I1 q1) λc s2⟨l,H2,I2,pl,q2⟩=>cB (i a s2 σ H2 _ I2 q2) λf s3⟨u,H3,I3,pu,q3⟩=>?_);rw[evalPart_none];refine cr ?_;have j:Inv X a σ H3 {s3 with heap:=s3.heap.push {cls:=.type "slice",data:=.fields #[c,f,.none]}}:=I3.kept (t':=s3.toks) λb o q=>dB q;obtain⟨T,id,k,ht,m⟩:=hr a {s3 with heap:=s3.heap.push {cls:=.type "slice",data:=.fields #[c,f,.none]}} σ H3 x v c f l u s3.heap.objs.size Q j r1 (Heap.IsSliceOf.new ..) pl pu q3;show cy (cE X.prog X.w) X.A (pz e (.Slice lo hi bdq p2) v (.ref s3.heap.objs.size)) (EP X a σ Q) X.xe {s3 with heap:=s3.heap.push {cls:=.type "slice",data:=.fields #[c,f,.none]}};exact tail_any (ops:=[.ref s3.heap.objs.size,v]) ht k m (by with_unfolding_all rfl)
noncomputable def yR(xs:List V)(lo hi:Option Int):List V:=(xs.drop (_U.dD xs.length 0 lo)).take (_U.dD xs.length xs.length hi-_U.dD xs.length 0 lo)
theorem oG(xs:List V)(lo hi:Option Int):(yR xs lo hi).length<=xs.length:=by unfold yR;rw[kB,mf];omega
noncomputable def afn(K:PySem.W.Frag):V->Option Int->Option Int->Hp->VK->Prop:=λx lo hi H Q=>∃a xs,x=.ref a/\iB K H a xs/\¬(_U.dD xs.length 0 lo=0/\_U.dD xs.length xs.length hi=xs.length)/\∀p,H p=bdq->Q (.ref p) (upd H p (.tup (yR xs lo hi)))
theorem WT:SlR X (afn X.K):=by
 intro g s σ H x v p t lo hi sl Q I i hs j k h;obtain⟨a,xs,rfl,l,m,q⟩:=h;cases i;obtain⟨f,r,ht,hz⟩:=I.tuple l;have c:f.toArray.size=xs.length:=by rw[cx];exact r.length.symm
 refine⟨"tuple",_,im.lookup,ht.typeIs,?_⟩;refine _U.lY ht hs j k (by rw[c];exact m) ?_ (by rw[c];exact hz);rw[c];refine⟨.ref s.heap.objs.size,_,I.laid (t':=s.toks) (o:=.tup (yR xs lo hi)) (λb u q=>dB q) (dq) ?_,rfl,q _ (I.hok.fresh (dq))⟩;exact⟨g_ (oG xs lo hi) hz,_,(r.drop (_U.dD xs.length 0 lo)).take (_U.dD xs.length xs.length hi-_U.dD xs.length 0 lo),kP _ _⟩
noncomputable def aan(K:PySem.W.Frag):R2:=λx y H Q=>∃a b xs ys,x=.ref a/\y=.ref b/\iB K H a xs/\iB K H b ys/\xs≠[]/\xs.length+ys.length<=sizeLine/\(ys=[]->Q (.ref a) H)/\(ys≠[]->∀p,H p=bdq->Q (.ref p) (upd H p (.tup (xs++ys))))
theorem Vals.pO{xs:List V}{a:List bw}(r:Vals xs a):a=[]↔xs=[]:=by cases r with|nil=>simp|cons _ _=>simp
theorem Nh:fX X (fx .Add) (aan X.K):=by intro f s σ H x y v u Q I i j h;obtain⟨a,b,xs,ys,rfl,rfl,k,l,m,hz,p,r⟩:=h;cases i;cases j;obtain⟨t,r1,p1,_⟩:=I.tuple k;obtain⟨g,c,p2,_⟩:=I.tuple l;refine _U.PQ p1 p2 (λz=>m (r1.pO.mp z)) (λz=>⟨.ref a,H,I,rfl,p (c.pO.mp z)⟩) (λz=>?_) (by rw[<-r1.length,<-c.length];exact hz);refine⟨.ref s.heap.objs.size,_,I.laid (t':=s.toks) (o:=.tup (xs++ys)) (λb A q=>dB q) (dq) ?_,rfl,r (λw=>z (c.pO.mpr w)) _ (I.hok.fresh (dq))⟩;exact⟨by rw[eB];exact hz,_,r1.append c,kP _ _⟩
end
noncomputable def iI(n:Nat)(i:Int):Option Nat:=if 0<=i then(if i<n then al i.toNat else bdq)else if-(n:Int)<=i then al (i+n).toNat else bdq
noncomputable def K4{a:Type}(xs:List a)(i:Int):Option a:=(iI xs.length i).bind λj=>xs[j]?
theorem Eg{i:Int}{j:Nat}(h:iI n i=al j):seqIndex? i n=al j/\j<n/\-(n:Int)<=i/\i<n:=by
 unfold iI at h;by_cases h0:0<=i
 . rw[if_pos h0]at h;by_cases h1:i<n;.rw[if_pos h1]at h;have e:i.toNat=j:=eA h;exact⟨by rw[nI h0 h1,e],by omega,by omega,h1⟩
   .rw[if_neg h1]at h;cases h
 . rw[if_neg h0]at h;by_cases h1:-(n:Int)<=i;.rw[if_pos h1]at h;have e:(i+n).toNat=j:=eA h;exact⟨by rw[mB (by omega) h1,e],by omega,h1,by omega⟩
   .rw[if_neg h1]at h;cases h
theorem wK{a:Type}{xs:List a}{i:Int}{v:a}(h:K4 xs i=al v):∃j,seqIndex? i xs.length=al j/\xs[j]?=al v/\j<xs.length/\-(xs.length:Int)<=i/\i<xs.length:=by unfold K4 at h;cases e:iI xs.length i with|none=>rw[e]at h;cases h|some j=>rw[e]at h;obtain⟨h1,b,c,f⟩:=Eg e;exact⟨j,h1,h,b,c,f⟩
noncomputable def vN(b:df):Prop:=∀o i,nB b a7 o i=operate [o,i] (kc o i)
noncomputable def IxR(X:Cx)(r:R2):Prop:=∀(b slice:df)(a:List (b_ × Obj))(s:bZ)(σ:St)(H:Hp)(x y:V)(v u:bw)(Q:VK),Inv X a σ H s->RelV x v->RelV y u->r x y H Q->nB slice a7 v u=operate [v,u] (kc v u)->cy (cE X.prog X.w) X.A (pz b slice v u) (EP X a σ Q) X.xe s
noncomputable def MtR(X:Cx)(id:String)(r:V->List V->Hp->VK->Prop):Prop:=∀(a:List (b_ × Obj))(s:bZ)(σ:St)(H:Hp)(x:V)(xs:List V)(v:bw)(b:List bw)(Q:VK),Inv X a σ H s->RelV x v->Vals xs b->r x xs H Q->cy (cE X.prog X.w) X.A (call (.builtin id) (v::b)) (EP X a σ Q) X.xe s
section
variable{X:Cx}{a b:df}{ta tb:TE}{pos:Pos}
theorem QS{r:R2}(hr:IxR X r)(e:PE X a ta)(f:PE X b tb)(hs:vN b):PE X (.Subscript a b pos) (Uz r ta tb):=by intro c s σ H Q I h;exact Subscript_ (Wa e f I h λv u s2 x y g i j k q=>hr a b c s2 σ g x y v u Q i j k q (hs _ _))
noncomputable def aaV(K:PySem.W.Frag):R2:=λx y H Q=>∃p xs i v,x=.ref p/\y=.int i/\dF K H p xs/\K4 xs i=al v/\Q v H
noncomputable def afx(K:PySem.W.Frag):R2:=λx y H Q=>∃p xs i v,x=.ref p/\y=.int i/\iB K H p xs/\K4 xs i=al v/\Q v H
theorem Dh:IxR X (aaV X.K):=by
 intro e slice c s σ H x y v u Q I m o h hs;obtain⟨p,xs,i,z,rfl,rfl,A,he,q⟩:=h;cases m;obtain⟨t,rfl⟩:=o;obtain⟨f,r,g,hz⟩:=I.list A;obtain⟨j,h1,B,M,C,E⟩:=wK he;obtain⟨w,l,G⟩:=r.get B;have J:=r.length;have N:=qG;have fin:EP X c σ Q w s:=⟨z,H,I,G,q⟩;by_cases h0:0<=i
 . have k:i.toNat=j:=by rw[nI h0 E]at h1;exact eA h1
   exact item_listR g.isList h0 (by omega) (by rw[k];simpa using l) fin hs
 . have k:(i+(f.toArray.size:Int)).toNat=j:=by rw[mB (by omega) C]at h1;rw[cx,<-J];exact eA h1
   exact qr (x:=w) g.isList.typeIs slot_list_getitem.lookup (qo (Q:=λr L=>r=w/\EP X c σ Q r L) g.isList (by omega) (by rw[cx]<;>omega) (by omega) (by rw[k];simpa using l) ⟨rfl,fin⟩) hs
theorem Wr:IxR X (afx X.K):=by intro e slice c s σ H x y v u Q I g k h hs;obtain⟨p,xs,i,z,rfl,rfl,l,he,q⟩:=h;cases g;obtain⟨t,rfl⟩:=k;obtain⟨m,r,f,hz⟩:=I.tuple l;obtain⟨j,h1,o,G,J,L⟩:=wK he;obtain⟨w,A,B⟩:=r.get o;have C:=r.length;have M:=qG;have fin:EP X c σ Q w s:=⟨z,H,I,B,q⟩;exact qr (x:=w) f.typeIs slot_tuple_getitem.lookup (getItem_tuple (j:=j) (Q:=λr E=>r=w/\EP X c σ Q r E) f (by omega) (by omega) (by rw[cx,<-C];exact h1) (by simpa using A) ⟨rfl,fin⟩) hs
theorem Bt(c:List bw)(n j:Nat)(u:bw):f_ (·.setIfInBounds j u) {cls:=.type "list",data:=.seq c.toArray n}={cls:=.type "list",data:=.seq (c.set j u).toArray n}:=by simp[f_]
theorem Inv.lst{f:List (b_×Obj)}{σ:St}{H:Hp}{s:bZ}{p:b_}{xs:List V}(I:Inv X f σ H s)(h:H p=al (.lst xs)):∃(c:List bw)(n:Nat),Vals xs c/\s.heap.get? p=al {cls:=.type "list",data:=.seq c.toArray n}/\xs.length<=sizeLine:=by obtain⟨z,c,n,r,e⟩:=I.hok p _ h;exact⟨c,n,r,e,z⟩
theorem Inv.V5{c:List (b_×Obj)}{σ:St}{H:Hp}{s:bZ}{p:b_}{xs ys:List V}{g its':List bw}{n i:Nat}{f:Obj->Obj}(I:Inv X c σ H s)(h:H p=al (.lst xs))(ho:s.heap.get? p=al {cls:=.type "list",data:=.seq g.toArray n})(j:f {cls:=.type "list",data:=.seq g.toArray n}={cls:=.type "list",data:=.seq its'.toArray i})(r:Vals ys its')(hz:ys.length<=sizeLine)(t:Nat):Inv X c σ (upd H p (.lst ys)) {s with heap:=s.heap.update p f,toks:=t}:=by
 have e:(s.heap.update p f).get? p=al {cls:=.type "list",data:=.seq its'.toArray i}:=by rw[iL f ho (by rw[j]<;>rfl),j]
 refine I.write (x:=p) (e:=p) (by rw[h];trivial) (.inl rfl) (λb u k q=>(ic _ _ (fE k)).trans q) ⟨_,e⟩ ?_;exact⟨hz,its',i,r,e⟩
noncomputable def yN:V->V->V->Hp->(Hp->Prop)->Prop:=λo i v H Q=>∃p xs k j,o=.ref p/\i=.int k/\H p=al (.lst xs)/\iI xs.length k=al j/\Q (upd H p (.lst (xs.set j v)))
theorem set_list:V6 X yN:=by
 intro c s σ H o i v ov iv u Q I z A B h;obtain⟨p,xs,k,j,rfl,rfl,l,C,q⟩:=h;cases z;obtain⟨t,rfl⟩:=A;obtain⟨e,n,r,ho,hz⟩:=I.lst l;obtain⟨h1,E,m,w⟩:=Eg C;have f:=r.length;have G:=qG;have y:Inv X c σ (upd H p (.lst (xs.set j v))) {s with heap:=s.heap.update p (f_ (·.setIfInBounds j u))}:=I.V5 l ho (Bt e n j u) (r.set B j) (by rw[length_set];exact hz) s.toks;by_cases h0:0<=k
 . have g:k.toNat=j:=by rw[nI h0 w]at h1;exact eA h1
   exact PySem.W.ki_setAt ho h0 (by omega) (by rw[cx,<-f];exact w) (by rw[g];exact⟨_,y,q⟩)
 . have g:(k+(e.toArray.size:Int)).toNat=j:=by rw[mB (by omega) m]at h1;rw[cx,<-f];exact eA h1
   exact PySem.W.ki_setBack ho (by omega) (by rw[cx,<-f];exact m) (by omega) (by rw[g];exact⟨_,y,q⟩)
theorem wB(lo hi:Option Int)(n:Nat):(jn lo hi bdq n).1=((_U.dD n 0 lo:Nat):Int)/\(jn lo hi bdq n).2.1=((_U.dD n n hi:Nat):Int)/\(jn lo hi bdq n).2.2=1:=by
 refine⟨?_,?_,rfl⟩;.cases lo with|none=>simp[jn,_U.dD]|some i=>
     simp only[jn,_U.dD,getD_none,show(1:Int)>0 by decide,if_true];by_cases h:i<0;.simp only[h,if_true]<;>omega
     .simp only[h,if_false]<;>omega
 .cases hi with|none=>simp[jn,_U.dD]|some i=>
     simp only[jn,_U.dD,getD_none,show(1:Int)>0 by decide,if_true];by_cases h:i<0;.simp only[h,if_true]<;>omega
     .simp only[h,if_false]<;>omega
theorem tG(c:List bw)(lo hi:Option Int):slicePick c.toArray lo hi bdq=((c.drop (_U.dD c.length 0 lo)).take (_U.dD c.length c.length hi-_U.dD c.length 0 lo)).toArray:=by obtain⟨h1,e,f⟩:=wB lo hi c.toArray.size;unfold slicePick;rw[h1,e,f];simp only[sliceRange_one,pick_run,cx]<;>rfl
noncomputable def aet(K:PySem.W.Frag):V->Option Int->Option Int->Hp->VK->Prop:=λx lo hi H Q=>∃a xs,x=.ref a/\dF K H a xs/\∀p,H p=bdq->Q (.ref p) (upd H p (.lst (yR xs lo hi)))
theorem Oj:SlR X (aet X.K):=by intro e s σ H x v l m lo hi sl Q I f hs g i h;obtain⟨a,xs,rfl,j,q⟩:=h;cases f;obtain⟨k,r,ht,hz⟩:=I.list j;have c:=r.length;refine⟨"list",_,slot_list_getitem.lookup,ht.isList.typeIs,?_⟩;refine wpAny_getItem_list_slice ht.isList hs g i .none (by simp) ?_ (by rw[cx]<;>omega);rw[tG,<-c];refine⟨.ref s.heap.objs.size,_,I.laid (t':=s.toks) (o:=.lst (yR xs lo hi)) (λb p q=>dB q) (dq) ?_,rfl,q _ (I.hok.fresh (dq))⟩;exact⟨g_ (oG xs lo hi) hz,_,0,(r.drop (_U.dD xs.length 0 lo)).take (_U.dD xs.length xs.length hi-_U.dD xs.length 0 lo),cv _ rfl⟩
noncomputable def lE:V->Bool|.non=>bx|.bl _=>bx|.int _=>bx|.str _=>bx|_=>a7
noncomputable def M7:V->V->Bool|.non,.non=>bx|.bl a,.bl b=>a==b|.bl a,.int b=>(if a then 1 else 0)==b|.int a,.bl b=>a==(if b then 1 else 0)|.int a,.int b=>a==b|.str a,.str b=>a==b|_,_=>a7
theorem Wu{A:ej}{y:V}{u v:bw}(e:RelV y u)(c:RelV x v)(g:lE y=bx)(f:lE x=bx):gL A s u v (M7 y x):=by cases y with
 |non=>cases e;cases x with|non=>cases c;exact k7 _|bl b=>cases c;exact none_bool b|int b=>obtain⟨t,rfl⟩:=c;exact none_int b t|str b=>obtain⟨t,rfl⟩:=c;exact none_str b t|_=>exact absurd (show a7=bx from f) c_
 |bl a=>cases e;cases x with|non=>cases c;exact bool_none a|bl b=>cases c;exact bool_bool a b|int b=>obtain⟨t,rfl⟩:=c;exact bool_int a b t|str b=>obtain⟨t,rfl⟩:=c;exact bool_str a b t|_=>exact absurd (show a7=bx from f) c_
 |int a=>obtain⟨t',rfl⟩:=e;cases x with|non=>cases c;exact int_none a t'|bl b=>cases c;exact int_bool a t' b|int b=>obtain⟨t,rfl⟩:=c;exact int_int a t' b t|str b=>obtain⟨t,rfl⟩:=c;exact int_str a t' b t|_=>exact absurd (show a7=bx from f) c_
 |str a=>obtain⟨t',rfl⟩:=e;cases x with|non=>cases c;exact str_none a t'|bl b=>cases c;exact str_bool a t' b|int b=>obtain⟨t,rfl⟩:=c;exact str_int a t' b t|str b=>obtain⟨t,rfl⟩:=c;exact str_str a t' b t|_=>exact absurd (show a7=bx from f) c_
 |_=>exact absurd (show a7=bx from g) c_
noncomputable def Ar(x:V)(u:bw):Bool:=match u with|.none=>M7 .non x|.bool b=>M7 (.bl b) x|.int i _=>M7 (.int i) x|.str z _=>M7 (.str z) x|_=>a7
theorem Im{y:V}{u:bw}(r:RelV y u)(f:lE y=bx):Ar x u=M7 y x:=by cases y with|non=>cases r;rfl|bl b=>cases r;rfl|int i=>obtain⟨t,rfl⟩:=r;rfl|str z=>obtain⟨t,rfl⟩:=r;rfl|_=>exact absurd (show a7=bx from f) c_
theorem my{x:V}:∀{xs:List V}{c:List bw},Vals xs c->xs.all lE=bx->c.any (Ar x)=xs.any λy=>M7 y x|_,_,.nil,_=>rfl|y::xs,u::c,.cons r t,f=>by rw[kq,ey]at f;rw[jp,jp,Im r f.1,my t f.2]
theorem jT{A:ej}{s:bZ}{x:V}{v:bw}(e:RelV x v)(g:lE x=bx):∀{xs:List V}{c:List bw},Vals xs c->xs.all lE=bx->∀u∈c,gL A s u v (Ar x u)
 |_,_,.nil,_=>λu hu=>by cases hu|y::xs,u::c,.cons r t,f=>λh hu=>by
   rw[kq,ey]at f;rcases cS.mp hu with rfl|hu;.rw[Im r f.1];exact Wu r e f.1 g
   .exact jT e g t f.2 h hu
noncomputable def inV(x:V)(xs:List V):Bool:=xs.any λy=>M7 y x
noncomputable def rIn(K:PySem.W.Frag)(neg:Bool):R2:=λx y H Q=>∃p xs,y=.ref p/\(dF K H p xs\/iB K H p xs)/\lE x=bx/\xs.all lE=bx/\Q (.bl (if neg then !inV x xs else inV x xs)) H
theorem Gv:fX X (dO .In) (rIn X.K a7):=by
 intro g s σ H x y v u Q I i k h;obtain⟨p,xs,rfl,hq,j,fs,q⟩:=h;cases k;rcases hq with hq|hq;.obtain⟨c,r,e,hz⟩:=I.list hq;refine SeqAt.in_listAt (Ar x) e.isList (λw f=>jT i j r fs w (by simpa using f)) ⟨.bl _,H,I,rfl,?_⟩;rw[show c.toArray.any (Ar x)=c.any (Ar x)by simp,my r fs];exact q
 .obtain⟨c,r,e,hz⟩:=I.tuple hq;refine SeqAt.in_tupleAt (Ar x) e (λw f=>jT i j r fs w (by simpa using f)) ⟨.bl _,H,I,rfl,?_⟩;rw[show c.toArray.any (Ar x)=c.any (Ar x)by simp,my r fs];exact q
theorem v8:fX X (dO .NotIn) (rIn X.K bx):=by
 intro g s σ H x y v u Q I i k h;obtain⟨p,xs,rfl,hq,j,fs,q⟩:=h;cases k;rcases hq with hq|hq;.obtain⟨c,r,e,hz⟩:=I.list hq;refine SeqAt.notIn_listAt (Ar x) e.isList (λw f=>jT i j r fs w (by simpa using f)) ⟨.bl _,H,I,rfl,?_⟩;rw[show c.toArray.any (Ar x)=c.any (Ar x)by simp,my r fs];exact q
 .obtain⟨c,r,e,hz⟩:=I.tuple hq;refine SeqAt.notIn_tupleAt (Ar x) e (λw f=>jT i j r fs w (by simpa using f)) ⟨.bl _,H,I,rfl,?_⟩;rw[show c.toArray.any (Ar x)=c.any (Ar x)by simp,my r fs];exact q
theorem wM:eY X (.builtin "len") (λxs H Q=>∃p ys,xs=[.ref p]/\(dF X.K H p ys\/iB X.K H p ys)/\Q (.int ys.length) H):=by
 intro i s σ H xs k Q I r h;obtain⟨p,ys,rfl,hq,q⟩:=h;obtain⟨u,rfl,j⟩:=vals1 r;cases j;have l:=qG;rcases hq with hq|hq;.obtain⟨e,f,g,hz⟩:=I.list hq;have c:=f.length;exact Calls.call_len_list g.isList (by simp only[cx]<;>omega) ⟨.int ys.length,H,I.tok _,⟨s.toks+1,by rw[cx,c]⟩,q⟩
 .obtain⟨e,f,g,hz⟩:=I.tuple hq;have c:=f.length;exact len_tuple g (by simp only[cx]<;>omega) ⟨.int ys.length,H,I.tok _,⟨s.toks+1,by rw[cx,c]⟩,q⟩
theorem je:eY X (.type "list") (λxs H Q=>∃p ys,xs=[.ref p]/\(dF X.K H p ys\/iB X.K H p ys)/\∀l,H l=bdq->Q (.ref l) (upd H l (.lst ys))):=by
 intro i s σ H xs v Q I r h;obtain⟨p,ys,rfl,hq,q⟩:=h;obtain⟨u,rfl,t⟩:=vals1 r;cases t;have fin:∀(c:List bw),Vals ys c->ys.length<=sizeLine->∀(h':ew)(f:Nat),(∀b m,s.heap.get? b=al m->h'.get? b=al m)->h'.get? s.heap.objs.size=al {cls:=.type "list",dict:=bdq,data:=.seq c.toArray f,slots:=#[]}->EP X i σ Q (.ref s.heap.objs.size) {s with heap:=h'}:=λc g hz h' f kp e=>⟨.ref s.heap.objs.size,_,I.laid (t':=s.toks) kp (dq) (show bI X.prog X.w _ h' _ (.lst ys)from⟨hz,c,f,g,e⟩),rfl,q _ (I.hok.fresh (dq))⟩;rcases hq with hq|hq;.obtain⟨c,g,k,hz⟩:=I.list hq;have j:=g.length;obtain⟨o,ho,hc,n,hd⟩:=k.isList;exact call_list_seq p (.inl rfl) ho hc hd (λh' f kp e=>fin c g hz h' f kp e) (by simp only[cx]<;>omega)
 .obtain⟨c,g,k,hz⟩:=I.tuple hq;have j:=g.length;obtain⟨o,ho,hc,n,hd⟩:=k;exact call_list_seq p (.inr rfl) ho hc hd (λh' f kp e=>fin c g hz h' f kp e) (by simp only[cx]<;>omega)
theorem lD:eY X (.type "tuple") (λxs H Q=>∃p ys,xs=[.ref p]/\((dF X.K H p ys/\∀l,H l=bdq->Q (.ref l) (upd H l (.tup ys)))\/(iB X.K H p ys/\Q (.ref p) H))):=by
 intro c s σ H xs y Q I r h;obtain⟨p,ys,rfl,h⟩:=h;obtain⟨u,rfl,t⟩:=vals1 r;cases t;rcases h with⟨g,q⟩|⟨g,q⟩;.obtain⟨f,i,j,hz⟩:=I.list g;have k:=i.length;refine call_tuple_list j.isList (λh' kp=>?_) (by simp only[cx]<;>omega);have m:Inv X c σ H {s with heap:=h'}:=I.kept (t':=s.toks) kp;have v:Inv X c σ (upd H h'.objs.size (.tup ys)) {s with heap:=h'.push {cls:=.type "tuple",data:=.seq f.toArray}}:=m.laid (t':=s.toks) (λb o e=>dB e) (dq) (show bI X.prog X.w _ _ _ (.tup ys)from⟨hz,f,i,kP _ _⟩);exact⟨.ref h'.objs.size,_,v,rfl,q _ (m.hok.fresh (dq))⟩
 .obtain⟨f,i,j,hz⟩:=I.tuple g;exact call_tuple_same j ⟨.ref p,H,I,rfl,q⟩
noncomputable def tyV(K:PySem.W.Frag)(T:String)(x:V)(H:Hp):Prop:=match x with|.str _=>T="str"|.int _=>T="int"|.ref p=>(T="list"/\∃xs,dF K H p xs)\/(T="tuple"/\∃o,K.lookup p=al o/\o.cls=.type "tuple"/\o.dict=bdq)\/(T="dict"/\((∃kvs,H p=al (.dK kvs))\/∃kvs,H p=al (.dT kvs)))\/(T="set"/\∃S n,H p=al (.set S n))|_=>False
theorem Wg{g:List (b_×Obj)}{σ:St}{H:Hp}{T:String}{v:bw}(I:Inv X g σ H s)(r:RelV x v)(ty:tyV X.K T x H):
 s.TypeIs v T/\∀a,v=.ref a->∃j,s.heap.get? a=al j/\j.dict=bdq:=by cases x with|str z=>obtain⟨t,rfl⟩:=r;cases(show T="str"from ty);exact⟨typeIs_str s z t,λ_ e=>nomatch e⟩|int i=>obtain⟨t,rfl⟩:=r;cases(show T="int"from ty);exact⟨mi s i t,λ_ e=>nomatch e⟩|ref p=>
   cases r;rcases ty with⟨rfl,xs,l⟩|⟨rfl,o,f,hc,hd⟩|⟨rfl,f⟩|⟨rfl,S,n,f⟩;.obtain⟨m,_,k,_⟩:=I.list l;refine⟨k.isList.typeIs,λa e=>?_⟩;cases e;obtain⟨o,n,e,c,hd,_⟩:=k;exact⟨o,e,hd⟩
   .refine⟨⟨o,I.Ue p o f,hc⟩,λa e=>?_⟩;cases e;exact⟨o,I.Ue _ o f,hd⟩
   . have z:∃o,s.heap.get? p=al o/\o.ExactDict:=by
      rcases f with⟨kvs,f⟩|⟨kvs,f⟩;.obtain⟨_,_,_,_,o,_,_,e,ex,_⟩:=I.hok p _ f;exact⟨o,e,ex⟩
      .obtain⟨_,_,_,_,o,_,_,e,ex,_⟩:=I.hok p _ f;exact⟨o,e,ex⟩
     obtain⟨o,e,ex⟩:=z;refine⟨⟨o,e,ex.1⟩,λa h=>?_⟩;cases h;exact⟨o,e,ex.2.1⟩
   .obtain⟨o,_,_,_,e,ex,_⟩:=I.hok p _ f;refine⟨⟨o,e,ex.1⟩,λa h=>?_⟩;cases h;exact⟨o,e,ex.2.1⟩|_=>exact e_ ty
noncomputable def tBM(K:PySem.W.Frag)(T:String)(r:V->List V->Hp->VK->Prop)(to:TE)(t:TA):TE:=λσ H Q=>to σ H λx c=>tyV K T x c/\t σ c λxs e=>r x xs e Q
variable{o e:df}{es:List df}{to:TE}{t:TA}{name:Str}{apos cpos:Pos}{T id:String}{r:V->List V->Hp->VK->Prop}
theorem Kh(m:PlainAttrs T)(slot:Slot T name id)(k:typeOf (.builtin id)=eS (.type "method_descriptor"))(p:MtR X id r)(ho:PE X o to)(q:PA X (e::es) t)(g:iq o name X.env (eu o X.env)=eu o X.env:=by rfl)(j:((iA cpos (cw (e::es) X.env)).all (λx=>!x.1)&&(ol cpos (lj [] X.env)).all (λx=>x.1.isSome)&&decide ((e::es).length+([]:List kG).length+(if([]:List kG).isEmpty then 0 else 1)<30))=bx:=by rfl)(i:(apos.endLine==cpos.line)=bx:=by rfl)(hs:cw (e::es) X.env=(a7,eu e X.env)::cw es X.env:=by rfl)(f:(iA cpos (cw es X.env)).any (·.1)=a7:=by rfl):PE X (.Call (.Attribute o name apos) (e::es) [] cpos) (tBM X.K T r to t):=by intro c s σ H Q I h;refine wpAny_Call_method_late g j i rfl (cB (ho c s σ H _ I h) λv s1⟨x,H1,I1,r1,ty,q1⟩=>?_);obtain⟨h1,u⟩:=Wg I1 r1 ty;refine⟨T,id,m,slot,k,h1,u,?_⟩;have l:=q cpos c s1 σ H1 _ I1 q1;rw[hs]at l ⊢;refine kA (by show(a7||(iA cpos (cw es X.env)).any (·.1))=a7;rw[f]<;>rfl) (oQ ?_);exact cB l λw s2⟨vs,H2,I2,r2,q2⟩=>p c s2 σ H2 x vs v w Q I2 r1 r2 q2
end
noncomputable def MtM(X:Cx)(id:String)(r:V->List V->Hp->VK->Prop):Prop:=∀(a:List (b_ × Obj))(s:bZ)(σ:St)(H:Hp)(x:V)(xs:List V)(v:bw)(b:List bw)(Q:VK),Inv X a σ H s->RelV x v->Vals xs b->r x xs H Q->cy (cE X.prog X.w) X.A (call (.builtin id) (v::b)) (EP X a σ Q) X.xe s
theorem Vals.one:∀{x:V}{a:List bw},Vals [x] a->∃u,a=[u]/\RelV x u|x,a,h=>by cases h with|cons r t=>cases t;exact⟨_,rfl,r⟩
theorem Vals.two:∀{x y:V}{a:List bw},Vals [x,y] a->∃u v,a=[u,v]/\RelV x u/\RelV y v|x,y,a,h=>by cases h with|cons r t=>cases t with|cons q z=>cases z;exact⟨_,_,rfl,r,q⟩
theorem Vals.zero:∀{a:List bw},Vals [] a->a=[]|_,.nil=>rfl
theorem Vals.reverse{xs:List V}{a:List bw}(h:Vals xs a):Vals xs.reverse a.reverse:=by induction h with|nil=>exact .nil|cons r t b=>rw[mE,mE];exact Vals.append b (.cons r .nil)
theorem Vals.rep{xs:List V}{a:List bw}(h:Vals xs a):∀k:Nat,Vals (cq k xs).flatten (cq k a).flatten|0=>.nil|k+1=>by rw[g9,g9,mS,mS];exact Vals.append h (Vals.rep h k)
theorem foldl_rep(a:List bw):∀(k:Nat)(b:List bw),rV (λc f=>c++f) b.toArray (cq k a.toArray)=(b++(cq k a).flatten).toArray
 |0,b=>by simp|k+1,b=>by
   have e:b.toArray++a.toArray=(b++a).toArray:=by simp
   have g:(b++a)++(cq k a).flatten=b++(cq (k+1) a).flatten:=by rw[g9,mS,eP]
   rw[<-g,<-foldl_rep a k (b++a),<-e,g9,oj]
section
variable{X:Cx}{pins:List (b_×Obj)}{σ:St}{H:Hp}{s:bZ}{l b:b_}{xs ys zs:List V}
theorem Inv.agf{a its':List bw}{f:Array bw->Array bw}{t':Nat}(I:Inv X pins σ H s)(c:H l=al (.lst xs))(e:s.heap.get? l=al {cls:=.type "list",data:=.seq a.toArray n})(g:f a.toArray=its'.toArray)(h:Vals ys its')(hz:ys.length<=sizeLine):Inv X pins σ (upd H l (.lst ys)) {s with heap:=s.heap.update l (f_ f),toks:=t'}:=by have q:=PySem.IsL.update e f;rw[g]at q;refine I.write (x:=l) (e:=l) (by rw[c];exact trivial) (.inl rfl) (λk u i j=>(ic s.heap (f_ f) (fE i)).trans j) ⟨_,q⟩ ?_;exact⟨hz,its',_,h,q⟩
theorem Inv.V7{a:List bw}{t':Nat}(I:Inv X pins σ H s)(c:Vals ys a)(hz:ys.length<=sizeLine):Inv X pins σ (upd H s.heap.objs.size (.lst ys)) {s with heap:=s.heap.push {cls:=.type "list",data:=.seq a.toArray},toks:=t'}:=I.laid (λ_ _ q=>dB q) (dq) ⟨hz,a,0,c,cv _ rfl⟩
theorem Inv.fresh(I:Inv X pins σ H s):H s.heap.objs.size=bdq:=I.hok.fresh (dq)
theorem Inv.aei(I:Inv X pins σ H s)(c:H l=al (.lst xs)):xs.length<=sizeLine/\∃(a:List bw)(n:Nat),Vals xs a/\xs.length=a.length/\s.heap.get? l=al {cls:=.type "list",data:=.seq a.toArray n}:=by obtain⟨z,a,n,r,e⟩:=I.hok l _ c;exact⟨z,a,n,r,r.length,e⟩
theorem Lb(h:n<=sizeLine):rS n=a7:=by unfold rS;exact decide_eq_false (by omega)
end
section
variable{X:Cx}
noncomputable def uX:V->List V->Hp->VK->Prop:=λx vs H Q=>∃l xs y,x=.ref l/\vs=[y]/\H l=al (.lst xs)/\xs.length<sizeLine/\Q .non (upd H l (.lst (xs++[y])))
theorem kY:MtM X "list.append" uX:=by intro b s σ H x vs v j Q I f g h;obtain⟨l,xs,y,rfl,rfl,c,hz,q⟩:=h;cases f;obtain⟨u,rfl,i⟩:=g.one;obtain⟨z,a,n,r,k,e⟩:=I.aei c;refine mo F.slot_list_append ⟨_,e,rfl⟩ F.entry_list_append (F.args_list_append_2 _ _) (PySem.list_append l a.toArray n u (by rw[cx];omega)) ⟨e,?_⟩;refine⟨.non,_,I.agf (its':=a++[u]) c e (by simp) (r.append (.cons i .nil)) ?_,rfl,q⟩;rw[eB,oy];omega
theorem len_rep{a:Type}(xs:List a)(k:Nat):(cq k xs).flatten.length=k*xs.length:=by induction k with|zero=>simp|succ k b=>rw[g9,mS,eB,b,Nat.succ_mul,Nat.add_comm]
end
end _L
namespace _A
open PySem W Calls PyProof.Rows
theorem o7{P:Params}{h:ew}:∀(ns:List Int)(vs:List bw),WellAll P h vs (ns.map WData.int)->gS vs ns:=by intro ns;induction ns with|nil=>intro vs w;rw[mN]at w;cases w;exact .nil|cons n ns c=>intro vs w;rw[dc]at w;cases w with|cons a b=>cases a;exact .cons _ _ (c _ b)
theorem Gq{l:OpenLaw}{n:Nat}(m:l.most=al n){P:Params}{h:ew}{args:List WData}{b:List bw}(c:l.row.toRowW.claim.pre args=bx)(j:WellAll P h b args):∃a vs ns,b=[dS a]/\args=[WData.list (ns.map WData.int)]/\h.get? a=al {cls:=.type "list",data:=.seq vs.toArray}/\gS vs ns/\ns.length<=n:=by
 have k:WShape.hasAll [] args [.list .int]=bx:=(pre_splitW c).1;have hc:l.pre.holds [] {args:=args}=bx:=(pre_splitW c).2;obtain⟨d,r,rfl,h1,o⟩:=hasAllW_cons k;obtain rfl:=hasAllW_nil o;obtain⟨xs,rfl,p⟩:=hasW_list h1;obtain⟨ns,rfl⟩:=items_int p;have e:ns.length<=n:=by
  unfold OpenLaw.pre at hc;have g:(WTm.not (.lt (.lit (.int (n:Int))) (.len (.arg 0)))).holds [] {args:=[.list (ns.map .int)]}=bx:=by have g:=(holds_andW hc).1;rw[m]at g;exact g
  have i:=condW_of g (w_not (w_lt w_lit (w_len_list (w_arg rfl))));rw[dQ]at i;refine ms λq=>?_;have s:(n:Int)<((ns.length:Nat):Int):=by omega
  first|(rw[decide_eq_true s]at i;exact absurd i (by decide))|(simp at i;omega)
 cases j with|cons t u=>cases u;cases t with|list ho f=>exact⟨_,_,ns,rfl,rfl,ho,o7 ns _ f,e⟩
theorem Fx(l:OpenLaw)(args:List WData):l.row.toRowW.claim.post args (.bool bx) args=bx:=postW_of (r:=l.row.toRowW) (X:=(bx==bx)) (show WShape.has [] (.bool bx) .bool=bx by first|rfl|decide|simp[WShape.has,WShape.arms,WShape.armsAll]) (show(WTm.eq .res (.lit (.bool bx))).value [] {args:=args,res:=al (.bool bx),after:=args}=al (.bool (bx==bx))from w_eq_bool (w_res rfl) w_lit) rfl
theorem yq{l:OpenLaw}{n:Nat}{q:da}{c:List Str}{z:(Str->Option bw)->ew->Prop}{A:eg->ew->Prop}{d:DefRec}(H:l.most=al n)(s:d.params.defaults=[])(call:∀(w:eg)(s₀ b:bZ)(mg t:Str->Option bw)(h:b_)(o:Obj)(u m e:bw)(a:b_)(vs:List bw)(ns:List Int),Ground q c [] z w s₀ mg t b.heap->A w b.heap->b.heap.get? h=al o->o.data=.func (docDef d.name d.params d.body d.scope u m e)->b.heap.CodeRec m d.name->mg d.name=al (.ref h)->b.heap.get? a=al {cls:=.type "list",data:=.seq vs.toArray}->gS vs ns->ns.length<=n->b.gens=#[]->kX (cE l.prog w) lP (.call (.ref h) ⟨[.ref a],[]⟩) (λr p=>r=.ok (.ret (.bool bx))/\OldK b.heap p.heap/\p.os=b.os/\lW p.gens) b):WalkO q c z A l.row.toRowW d [] (λf vs=>PySem.call f vs):=by intro w s₀ b mg t G Y h o u m e I kV ho hd v B x J args C as i E L y M;obtain rfl:I=.none:=Dflts.none B s;obtain rfl:kV=.none:=Dflts.noKw B;obtain⟨a,vs,ns,rfl,rfl,j,g,k⟩:=Gq H i y;refine enter_call (rc (call w s₀ b mg t h o u m e a vs ns G Y ho (fd_plain hd) v x j g k J) λr p N=>?_);obtain⟨rfl,O,Q,U⟩:=N;exact⟨.inl ⟨.bool bx,.bool bx,[],rfl,λ_=>rfl,.bool bx,Fx l _,λ_=>⟨List.Pairwise.nil,λ_ W=>(nomatch W)⟩⟩,O,Q,U⟩
end _A
namespace _L
open PySem Spec PyProof.Rows
theorem uD:∀{vs:List bw}{ns:List Int},gS vs ns->Vals (ns.map V.int) vs|_,_,.nil=>.nil|_,_,.cons n t h=>.cons ⟨t,rfl⟩ (uD h)
noncomputable def Only(H:Hp):Prop:=∀b,H b=bdq\/∃o xs,H b=al (.cQ o (.lst xs))
theorem J5{P:da}{w:eg}{K:PySem.W.Frag}{mg G:Str->Option bw}{CX:Ks}{k:Nat}{I a:b_}{fd:h8}{x:Str}{sp:Sp}{c:bZ}{vs:List bw}{ns:List Int}(O:K.In c.heap)(p:c.heap.Ns dE mg)(f:c.heap.Ns builtinsNs G)(J:∀x:Str,x≠"__name__"->G x=eK x)(t:c.heap.NoLimit)(hg:c.gens=#[])(E:c.heap.get? a=al {cls:=.type "list",data:=.seq vs.toArray})(hi:gS vs ns)(Q:ns.length<=sizeLine)(hr:jX k lP)(F:∀base:ew,K.In base->base.Ns dE mg->oA P w K mg base CX k I fd [x] sp)(l:∀(s:bZ)(u:bw),n8 s fd ⟨[u],[]⟩ [(x,u)])(hsp:∀H:Hp,Only H->dF K H a (ns.map V.int)->sp [.ref a] H (λv _=>v=.bl bx) λ_ _ _=>False)(L:∀H e g,CX [] H c (λ_ _ _=>False) e g->False):kX (cE P w) lP (.call (.ref I) ⟨[.ref a],[]⟩) (λr g=>r=.ok (.ret (.bool bx))/\OldK c.heap g.heap/\g.os=c.os/\lW g.gens) c:=by
 have U:=uD hi;have y:=hi.length--from an abstract heap in which nothing but the script may be tracked
 have j:∀H:Hp,Only H->dF K H a (ns.map V.int)->nF P w H c.heap->(∀b,H b≠bdq->b=a)->(H a≠bdq->K.lookup a=bdq)->kX (cE P w) lP (.call (.ref I) ⟨[.ref a],[]⟩) (λr g=>r=.ok (.ret (.bool bx))/\OldK c.heap g.heap/\g.os=c.os/\lW g.gens) c:=by
  intro H X hS hok Y hK;have Z:∀{b:b_}{o:Obj},c.heap.get? b=al o->H b=bdq->(vP c.heap H).get? b=al o:=λe n=>Je e n;have M:∀{b:b_}{o:Obj}{es:Array DictEntry}{ep:Nat},c.heap.get? b=al o->o.data=.dict es ep->H b=bdq:=λ{b o es ep}e d=>by cases q:H b with|none=>rfl|some u=>have N:b=a:=Y b (by rw[q];simp);subst N;rw[E]at e;cases e;have d':Data.seq vs.toArray _=Data.dict es ep:=d;cases d'
  have i:∀{b:b_}{m:Str->Option bw},c.heap.Ns b m->(vP c.heap H).Ns b m:=λ{b m}⟨o,es,ep,e,d,r⟩=>⟨o,es,ep,Z e (M e d),d,r⟩;have A:K.In (vP c.heap H):=λb o e=>Z (O b o e) (by cases q:H b with|none=>rfl|some u=>have N:b=a:=Y b (by rw[q];simp);subst N;rw[hK (by rw[q];simp)]at e;cases e);have hM:Mod K mg (vP c.heap H):=⟨A,i p,⟨G,i f,J⟩,let⟨mc,h1,h2⟩:=t;⟨mc,i h1,h2⟩⟩;have e0:Pa P w K mg (vP c.heap H) lP [] c H:=⟨rfl,hM,λb o e=>Qn e,Nat.le_of_eq (Gk _ _),trivial,λb f=>absurd (show b∈([]:List b_)from f) (by simp),hok,.of_eq hg⟩;refine rc ((F _ A (i p)).run lP [] c H ⟨[.ref a],[]⟩ [.ref a] [.ref a] _ _ hr e0 (l c (.ref a)) (.cons rfl .nil) (hsp H X hS)) λr g h=>?_;cases r with|error e=>exact(L H e g h).elim|ok fl=>cases fl with|next=>exact e_ h|brk=>exact e_ h|cont=>exact e_ h|ret u=>obtain⟨v,H',os,bare,un,B,r',q⟩:=h;have q':v=.bl bx:=q;subst q';obtain rfl:u=jr bx:=r';refine⟨rfl,OldK.of_keep λb o e=>?_,os,bare⟩;cases q:H b with|none=>exact un.keep b o e q (by intro z;exact absurd (show b∈([]:List b_)from z) (by simp)) (by simp)|some u=>
        rcases X b with z|⟨ob,xs,z⟩;.rw[q]at z;cases z
        .have z2:=un.sE b ob _ z;obtain⟨e1,_⟩:=hok b _ z;obtain⟨e2,_⟩:=B b _ z2;rw[e]at e1;cases e1;exact e2
 cases hk:K.lookup a with|some o=>--the script is one of the module's own objects
   have e:=O a o hk;rw[E]at e;cases e;refine j (λ_=>bdq) (λ_=>.inl rfl) (.inr ⟨_,vs.toArray,_,hk,rfl,rfl,rfl,by rw[cx,y];exact Q,by simpa using U⟩) (λb u z=>by have C:(bdq:Option HO)=al u:=z;cases C) (λb z=>absurd rfl z) λz=>absurd rfl z|none=>
   refine j (λb=>if b=a then al (.cQ {cls:=.type "list",data:=.seq vs.toArray} (.lst (ns.map V.int)))else bdq) (λb=>?_) (.inl (.inr ⟨{cls:=.type "list",data:=.seq vs.toArray},if_pos rfl⟩)) (λb u z=>?_) (λb z=>?_) λ_=>hk
   . by_cases f:b=a;.exact .inr ⟨_,_,if_pos f⟩
     .exact .inl (if_neg f)
   . by_cases f:b=a;.have C:=(if_pos f).symm.trans z;cases C;subst f;exact⟨E,by rw[dQ];exact Q,vs,_,U,E⟩
     .have C:=(if_neg f).symm.trans z;cases C
   . by_cases f:b=a;.exact f
     .exact absurd (if_neg f) z
theorem Oa{l:PySem.W.OpenLaw}{n k:Nat}{q:da}{i:List Str}{I:(Str->Option bw)->ew->Prop}{C:eg->ew->Prop}{d:DefRec}{K:Params->PySem.W.Frag}{CX:eg->Ks}{sp:eg->Sp}{x:Str}(J:l.most=al n)(t:n<=sizeLine)(y:d.params.defaults=[])(hr:jX k lP)(L:∀(w:eg)(h:ew),C w h->(K w.params).In h)(F:∀(w:eg)(mg:Str->Option bw)(r:b_)(h:ew),(K w.params).In h->h.Ns dE mg->mg d.name=al (.ref r)->∃ fd:h8,(∀(s:bZ)(u:bw),n8 s fd ⟨[u],[]⟩ [(x,u)])/\∀base:ew,(K w.params).In base->base.Ns dE mg->oA l.prog w (K w.params) mg base (CX w) k r fd [x] (sp w))(hsp:∀(w:eg)(H:Hp)(a:b_)(ns:List Int),ns.length<=n->Only H->dF (K w.params) H a (ns.map V.int)->sp w [.ref a] H (λv _=>v=.bl bx) λ_ _ _=>False)(z:∀(w:eg)(H:Hp)(s:bZ)(e:bw)(A:bZ),CX w [] H s (λ_ _ _=>False) e A->False):PySem.W.WalkO q i I C l.row.toRowW d [] (λf vs=>PySem.call f vs):=by refine _A.yq J y λw s₀ m mg mb r o pm cd M a vs ns G Y ho hd N B p j c O=>?_;have E:=L w _ Y;obtain⟨fd,Q,U⟩:=F w mg r _ E G.T.g B;exact J5 E G.T.g G.T.b G.T.builtins G.T.nolimit O p j (g_ c t) hr U Q (λH X Z=>hsp w H a ns c X Z) λH e A=>z w H m e A
theorem JB{l:PySem.W.OpenLaw}{n k:Nat}{q:da}{b:List Str}{p:(Str->Option bw)->ew->Prop}{m:eg->ew->Prop}{d:DefRec}{K:Params->PySem.W.Frag}{CX:Ks}{sp:PySem.W.Frag->Sp}{x:Str}(r:l.most=al n)(c:n<=sizeLine)(g:d.params.defaults=[])(hr:jX k lP)(t:∀(w:eg)(h:ew),m w h->(K w.params).In h)(F:∀(w:eg)(mg:Str->Option bw)(o:b_)(h:ew),(K w.params).In h->h.Ns dE mg->mg d.name=al (.ref o)->∃ fd:h8,(∀(s:bZ)(u:bw),n8 s fd ⟨[u],[]⟩ [(x,u)])/\∀base:ew,(K w.params).In base->base.Ns dE mg->oA l.prog w (K w.params) mg base CX k o fd [x] (sp (K w.params)))(hsp:∀(K:PySem.W.Frag)(H:Hp)(a:b_)(ns:List Int),ns.length<=n->Only H->dF K H a (ns.map V.int)->sp K [.ref a] H (λv _=>v=.bl bx) λ_ _ _=>False)(i:∀(H:Hp)(s:bZ)(e:bw)(j:bZ),CX [] H s (λ_ _ _=>False) e j->False):PySem.W.WalkO q b p m l.row.toRowW d [] (λf vs=>PySem.call f vs):=Oa (K:=K) (CX:=λ_=>CX) (sp:=λw=>sp (K w.params)) r c g hr t F (λw H a ns h1 y z=>hsp (K w.params) H a ns h1 y z) λ_ H s e j=>i H s e j
end _L
namespace _L
open PySem Spec PyProof.Rows
noncomputable def jm(s:eM):Arguments:=match s with|.FunctionDef _ a _ _ _ _ _ _ _ _=>a|_=>{posonlyargs:=[],args:=[],vararg:=bdq,kwonlyargs:=[],kw_defaults:=[],kwarg:=bdq,defaults:=[]}
noncomputable def gq(s:eM):List eM:=match s with|.FunctionDef _ _ b _ _ _ _ _ _ _=>b|_=>[]
noncomputable def aA(s:eM):jt:=match s with|.FunctionDef _ _ _ _ _ _ a _ _ _=>a|_=>{kind:=.function,names:=[],isGenerator:=a7,isCoroutine:=a7}
noncomputable abbrev Jf:Ks:=λ_ _ _ _ _ _=>False
noncomputable abbrev E0:XK:=λ_ _ _=>False
theorem aav{X:Cx}:Passes Jf X E0:=λ_ _ _ _ _ _ _ h=>h.elim
structure gZ(K:PySem.W.Frag)(x qual:Str)(st:eM)(f:b_)(fd:h8):Prop where
 ex:∃(oc:bw)(od:Option b_)(kV doc pm:bw)(an:Option b_)(cdv ct:bw)(osl:Array (Option bw)),fd=PySem.W.fnOf x qual (jm st) (gq st) (aA st) .none kV doc pm an cdv ct/\K.lookup f=al ⟨oc,od,.func fd,osl⟩/\PySem.W.codeIn K cdv qual=bx
 kp:keepIn K (.ref f)=bx
section
variable{P:da}{w:eg}{K:PySem.W.Frag}{mg:Str->Option bw}{base:ew}
theorem gZ.ok{x qual:Str}{st:eM}{f:b_}{fd:h8}{N ps:List Str}{k:Nat}{sp:Sp}(F:gZ K x qual st f fd)(S:aK N ps (aA st))(len:∀vs H Q E,sp vs H Q E->vs.length=ps.length)(a:∀(cdv:bw)(A:ej)(outer:List Env)(s:bZ)(H:Hp)(vs:List V)(Q:VK)(E:XK),jX k (A.deeper (ll qual (aA st) s.heap.objs.size f cdv))->sp vs H Q E->∃t,rG (Bh Jf P w K mg base N qual (aA st) f cdv A outer s H E).nox (gq st) t/\t {nx:=λ_ c=>Q .non c,rt:=Q} (start N vs) H):oA P w K mg base Jf (k+1) f fd ps sp:=by obtain⟨oc,i,kV,e,j,l,cdv,ct,g,rfl,lk,b⟩:=F.ex;refine aa3 lk b S len λA outer s H vs Q E hr hsp=>?_;obtain⟨t,h,q⟩:=a cdv A outer s H vs Q E hr hsp;exact⟨t,h.nox,q⟩
theorem gZ.binds{x qual:Str}{st:eM}{f:b_}{fd:h8}{ps:List Str}(F:gZ K x qual st f fd)(h:∀(kV a b:bw)(c:Option b_)(cdv ct:bw)(e:List bw),e.length=ps.length->r8 (PySem.W.fnOf x qual (jm st) (gq st) (aA st) .none kV a b c cdv ct) ⟨e,[]⟩=eS (ps.zip e)):Binds K fd ps []:=by obtain⟨oc,j,kV,a,b,c,cdv,ct,g,rfl,lk,i⟩:=F.ex;exact .all (h kV a b c cdv ct)
theorem Ug{x qual:Str}{st:eM}{f:b_}{oc:bw}{h e:Option b_}{b:Array (Option bw)}{kV a g cdv ct:bw}(l:K.lookup f=al ⟨oc,h,.func (PySem.W.fnOf x qual (jm st) (gq st) (aA st) .none kV a g e cdv ct),b⟩)(c:PySem.W.codeIn K cdv qual=bx)(k:keepIn K (.ref f)=bx):gZ K x qual st f (PySem.W.fnOf x qual (jm st) (gq st) (aA st) .none kV a g e cdv ct):=⟨⟨oc,h,kV,a,g,e,cdv,ct,b,rfl,l,c⟩,k⟩
end
noncomputable def aB(H a:Hp):Prop:=∀b o,H b=al o->a b=al o
theorem aB.refl(H:Hp):aB H H:=λ_ _ h=>h
theorem aB.trans{H e f:Hp}(a:aB H e)(b:aB e f):aB H f:=λc o h=>b c o (a c o h)
theorem aB.seq{K:PySem.W.Frag}{H b:Hp}{a:b_}{xs:List V}(e:aB H b)(h:dF K H a xs):dF K b a xs:=by
 rcases h with(h|⟨o,h⟩)|h;.exact .inl (.inl (e _ _ h))
 .exact .inl (.inr ⟨o,e _ _ h⟩)
 .exact .inr h
end _L
namespace _H
open PySem
set_option genInjectivity true in inductive Dc where|k(kvs:List (Int×Int))|t(kvs:List (List Int×Int))deriving DecidableEq
set_option genInjectivity true in inductive D where|non|bl(b:Bool)|int(i:Int)|str(s:Str)|tup(ds:List D)|lst(ds:List D)|dz(m:Dc)|dv(ks:List Int)(ds:List D)deriving Inhabited
mutual
noncomputable def jP:D->D->Bool|.non,.non=>bx|.bl a,.bl b=>a==b|.bl a,.int i=>(if a then(1:Int)else 0)==i|.int i,.bl a=>i==(if a then(1:Int)else 0)|.int i,.int j=>i==j|.str a,.str b=>a==b|.tup xs,.tup ys=>iM xs ys|.lst xs,.lst ys=>iM xs ys|.dz a,.dz b=>decide (a=b)|.dv a xs,.dv b ys=>decide (a=b)&&iM xs ys|_,_=>a7
noncomputable def iM:List D->List D->Bool|[],[]=>bx|x::xs,y::ys=>jP x y&&iM xs ys|_,_=>a7
end
theorem lK:iM [] []=bx:=rfl
theorem jb{x y:D}{xs ys:List D}:iM (x::xs) (y::ys)=(jP x y&&iM xs ys):=rfl
theorem rT{y:D}{ys:List D}:iM [] (y::ys)=a7:=rfl
theorem qx{x:D}{xs:List D}:iM (x::xs) []=a7:=rfl
theorem pqi{i j}:jP (.int i) (.int j)=(i==j):=(rfl)
theorem pqt{x y}:jP (.tup x) (.tup y)=iM x y:=(rfl)
theorem pql{x y}:jP (.lst x) (.lst y)=iM x y:=(rfl)
noncomputable def iK:Nat->D->Bool|_,.non=>bx|_,.bl _=>bx|_,.int _=>bx|_,.str _=>bx|0,.tup _=>a7|0,.lst _=>a7|_,.dz _=>a7|_,.dv _ _=>a7|n+1,.tup a=>a.all (iK n)|n+1,.lst a=>a.all (iK n)
theorem bM{n:Nat}{a:List D}:iK (n+1) (.tup a)=a.all (iK n):=rfl
theorem bH{n:Nat}{a:List D}:iK (n+1) (.lst a)=a.all (iK n):=rfl
theorem bN{n:Nat}{m:Dc}:iK n (.dz m)=a7:=by cases n<;>rfl
theorem bK{n:Nat}{k:List Int}{a:List D}:iK n (.dv k a)=a7:=by cases n<;>rfl
theorem bL{a:List D}:iK 0 (.tup a)=a7:=rfl
theorem bJ{a:List D}:iK 0 (.lst a)=a7:=rfl
set_option genInjectivity true in inductive Sl where|aN|val(b:Bool)(d:D)|own(b:Bool)(ds:List D)|lent(ds:List D)|gY(m:Dc)|hold(rows:List (List D))|cM(kvs:List (Int×D))deriving Inhabited
set_option genInjectivity true in inductive R where|val(d:D)|own(ds:List D)deriving Inhabited
noncomputable def R.d:R->D|.val d=>d|.own a=>.lst a
set_option genInjectivity true in inductive Res(α:Type)where|ok(a:α)(ρ:List Sl)|exc(k:Nat)(ρ:List Sl)|stuck deriving Inhabited
noncomputable def Res.bind{b c:Type}(f:b->List Sl->Res c):Res b->Res c|.ok a ρ=>f a ρ|.exc _ _=>.stuck|.stuck=>.stuck
noncomputable def lift{b:Type}(o:Option b)(ρ:List Sl):Res b:=match o with|some a=>.ok a ρ|none=>.stuck
inductive Op where|add|sub|mul|fdiv|mod|pow|shl|shr|band|Bx|din|ago
inductive Cm where|eq|ne|lt|le|gt|ge|isN|Qw|inn|Ew|isT|Qx|leT
inductive Ty where|int|bool|str|tuple|list|none
inductive ZD where|len|list|tuple|min2|max2|G6|sum|all|int|keys|Y0|rvT|LK
inductive P where|var(i:Nat)|con(d:D)|bin(o:Op)(a b:P)|neg(a:P)|not(a:P)|and(a b:P)|or(a b:P)|cmp(o:Cm)(a b:P)|chain(o o':Cm)(a b c:P)|R0(c a b:P)|tup(as:List P)|lst(as:List P)|idx(a i:P)|slice(a lo hi:P)|call(f:Nat)(as:List P)|blt(b:ZD)(as:List P)|inst(ts:List Ty)(a:P)|comp(src:P)(n:Nat)(is:List Nat)(one:Bool)(test:Option P)(elt:P)|wX(a b:P)|Y4(a:P)|zip(a b:P)|Y5(x:Nat)(k d:P)|vw(x:Nat)|R1(x:Nat)(k:P)|R3(x:Nat)(k:P)(neg:Bool)|By(k e:Int)|sG(i:Nat)(a:P)(n:Nat)(is:List Nat)(one:Bool)(test:Option P)(elt:P)deriving Inhabited
noncomputable abbrev lim:Nat:=16777216
noncomputable def qg:D->D->Option R|.int i,.int j=>al (.val (.int (i+j)))|.lst xs,.lst ys=>if xs.length+ys.length<=lim then al (.own (xs++ys))else bdq|.tup xs,.tup ys=>if xs.length+ys.length<=lim then al (.val (.tup (xs++ys)))else bdq|.str x,.str y=>if x.length+y.length<=lim then al (.val (.str (x++y)))else bdq|_,_=>bdq
noncomputable def lC:D->D->Option R|.int i,.int j=>if((-18446744073709551616<i/\i<18446744073709551616)\/(-18446744073709551616<j/\j<18446744073709551616))then al (.val (.int (i*j)))else bdq|.lst xs,.int k=>if 0<=k/\0<xs.length/\xs.length*k.toNat<=lim then al (.own (cq k.toNat xs).flatten)else bdq|.tup xs,.int k=>if 0<=k/\0<xs.length/\xs.length*k.toNat<=lim then al (.val (.tup (cq k.toNat xs).flatten))else bdq|_,_=>bdq
noncomputable def xx:D->D->Option R|.int i,.int j=>al (.val (.int (i-j)))|_,_=>bdq
noncomputable def rK:D->D->Option R|.int i,.int j=>if 0<j/\j<1606938044258990275541962092341162602522202993782792835301376 then al (.val (.int (i/j)))else bdq|_,_=>bdq
noncomputable def xK:D->D->Option R|.int i,.int j=>if 0<j then al (.val (.int (i%j)))else bdq|_,_=>bdq
noncomputable def yr:D->D->Option R|.int i,.int j=>if 0<=j/\j<=1000/\i.natAbs<18446744073709551616 then al (.val (.int (i^j.toNat)))else bdq|_,_=>bdq
noncomputable def JG:D->D->Option R|.int i,.int j=>if 0<=j/\j<=1000/\i.natAbs<18446744073709551616 then al (.val (.int (i*2^j.toNat)))else bdq|_,_=>bdq
noncomputable def KH:D->D->Option R|.int i,.int j=>if 0<=j then al (.val (.int (i/2^j.toNat)))else bdq|_,_=>bdq
noncomputable def Ae:D->D->Option R|.int i,.int j=>al (.val (.int (Builtin.bitAnd i j)))|_,_=>bdq
noncomputable def flat:D->Bool|.tup _=>a7|.lst _=>a7|.dz _=>a7|.dv _ _=>a7|_=>bx
noncomputable def items:D->Option (List D)|.lst a=>al a|.tup a=>al a|_=>bdq
noncomputable def Vh:D->Option (List D)|.tup a=>al a|_=>bdq
noncomputable def zx(x y:D):Option Bool:=if iK 8 x&&iK 8 y then al (jP x y)else bdq
noncomputable def Ij(x y:D):Option Bool:=if iK 8 x&&iK 8 y then al (!jP x y)else bdq
noncomputable def Mx(f:Int->Int->Bool):D->D->Option Bool|.int i,.int j=>al (f i j)|_,_=>bdq
noncomputable def jG:D->Bool|.non=>bx|_=>a7
noncomputable def cmN(neg:Bool)(x:D):D->Option Bool|.non=>al (if neg then !jG x else jG x)|_=>bdq
noncomputable def yh(neg:Bool)(x y:D):Option Bool:=(items y).bind λys=>if(flat x&&ys.all flat)=bx then al (if neg then !(ys.any λy=>jP y x)else ys.any λy=>jP y x)else bdq
noncomputable def cmT(neg:Bool):D->D->Option Bool|.bl b,.bl bx=>al (if neg then !b else b)|_,_=>bdq
noncomputable def bA:List Int->List Int->Bool|[],_::_=>bx|i::is,j::js=>decide (i<j)||(decide (i=j)&&bA is js)|_,[]=>a7
noncomputable def tE:D->Int|.int i=>i|_=>0
noncomputable def cZ:D->List Int|.int i=>[i]|.tup a=>a.map tE|_=>[]
noncomputable def eZ:D->Bool|.int _=>bx|_=>a7
noncomputable def Dc.get:Dc->D->Option (Option Int)|.k kvs,.int i=>al ((kvs.find? λa=>decide (a.1=i)).map (·.2))|_,_=>bdq
noncomputable def putD{κ:Type}[DecidableEq κ](kvs:List (κ×Int))(k:κ)(v:Int):List (κ×Int):=if(kvs.any λa=>decide (a.1=k))=bx then kvs.map (λa=>if a.1=k then(a.1,v)else a)else kvs++[(k,v)]
noncomputable def Dc.put:Dc->D->Int->Option Dc|.k kvs,.int i,v=>if kvs.length<lim then al (.k (putD kvs i v))else bdq|_,_,_=>bdq
noncomputable def lJ(kvs:List (Int×D))(k:Int):Option D:=(kvs.find? λp=>decide (p.1=k)).map (·.2)
noncomputable def gn(kvs:List (Int×D))(k:Int)(d:D):List (Int×D):=if(kvs.any λp=>decide (p.1=k))=bx then kvs.map (λp=>if p.1=k then(p.1,d)else p)else kvs++[(k,d)]
noncomputable def xV(neg:Bool):D->D->Option R|.int k,.dv ks _=>al (.val (.bl (if neg then !ks.contains k else ks.contains k)))|_,_=>bdq
noncomputable def Dr:D->D->Option R|.dz m,k=>(m.get k).bind λo=>o.map λv=>.val (.int v)|.dv ks a,.int k=>(lJ (ks.zip a) k).map .val|_,_=>bdq
noncomputable def tu:Op->D->D->Option R|.add=>qg|.mul=>lC|.sub=>xx|.fdiv=>rK|.mod=>xK|.pow=>yr|.shl=>JG|.shr=>KH|.band=>Ae|.Bx=>Dr|.din=>xV a7|.ago=>xV bx
noncomputable def Zy:D->D->Option Bool|.int i,.int j=>al (decide (i<j))|.tup xs,.tup ys=>if(xs.all eZ&&ys.all eZ)=bx then al (bA (xs.map tE) (ys.map tE))else bdq|_,_=>bdq
noncomputable def aey:D->D->Option Bool|.int i,.int j=>al (decide (i<=j))|.tup xs,.tup ys=>if(xs.all eZ&&ys.all eZ)=bx then al (!bA (ys.map tE) (xs.map tE))else bdq|_,_=>bdq
noncomputable def cm:Cm->D->D->Option Bool|.eq=>zx|.ne=>Ij|.lt=>Zy|.le=>Mx λi j=>decide (i<=j)|.leT=>aey|.gt=>Mx λi j=>decide (j<i)|.ge=>Mx λi j=>decide (j<=i)|.isN=>cmN a7|.Qw=>cmN bx|.inn=>yh a7|.Ew=>yh bx|.isT=>cmT a7|.Qx=>cmT bx
noncomputable def pG(o:Cm)(x y:D):Option R:=(cm o x y).map λk=>.val (.bl k)
noncomputable def stD(ks:List Int)(k:Int):List Int:=if ks.contains k=bx then ks else ks++[k]
noncomputable def iI(n:Nat)(i:Int):Option Nat:=if 0<=i then(if i<n then al i.toNat else bdq)else if-(n:Int)<=i then al (i+n).toNat else bdq
noncomputable def at'{a:Type}(xs:List a)(i:Int):Option a:=(iI xs.length i).bind λj=>xs[j]?
noncomputable def dD(n d:Nat):Option Int->Nat|none=>d|some i=>if 0<=i then min i.toNat n else(i+n).toNat
noncomputable def cut{a:Type}(xs:List a)(lo hi:Option Int):List a:=(xs.drop (dD xs.length 0 lo)).take (dD xs.length xs.length hi-dD xs.length 0 lo)
noncomputable def iJ:D->Option Int|.int i=>al i|_=>bdq
noncomputable def zP:D->Option Bool|.bl b=>al b|_=>bdq
noncomputable def dl2(k e:Int)(x y:D):Option R:=(iJ x).bind λi=>(iJ y).bind λj=>if i=k then bdq else al (.val (.dv [k,i] [.int e,.int j]))
noncomputable def lixR:D->D->Option R|.lst a,.int i=>(a.mapM iJ).bind λns=>if i∈ns/\ns.length<=1000 then al (.val (.int (ns.idxOf i)))else bdq|_,_=>bdq
noncomputable def Gj(x y:D):Option R:=(items x).bind λa=>(iJ y).bind λi=>(at' a i).map .val
noncomputable def HB(x:D):Option R:=(iJ x).map λi=>.val (.int (-i))
noncomputable def Z7:P->Bool|.con .non=>bx|_=>a7
noncomputable def part(p:P)(d:D):Option (Option Int):=if Z7 p then al bdq else(iJ d).map al
noncomputable def Nr:D->Option (Option Int)->Option (Option Int)->Option R|.lst xs,al lo,al hi=>al (.own (cut xs lo hi))|.tup xs,al lo,al hi=>al (.val (.tup (cut xs lo hi)))|_,_,_=>bdq
noncomputable def cR:Ty->D->Bool|.int,.int _=>bx|.int,.bl _=>bx|.bool,.bl _=>bx|.str,.str _=>bx|.tuple,.tup _=>bx|.list,.lst _=>bx|.none,.non=>bx|_,_=>a7
noncomputable def yx:D->Bool|.tup (x::xs)=>(x::xs).all eZ|_=>a7
noncomputable def sortable(ds:List D):Bool:=decide (ds.length<=16777216)&&(ds.all eZ||ds.all yx)
noncomputable def Q4(c:List D):List D:=c.mergeSort λa b=>!bA (cZ b) (cZ a)
noncomputable def ordP:D->Bool|.tup [.int _,.tup ws]=>ws.all eZ|_=>a7
noncomputable def flP:D->D|.tup [.int h,.tup ws]=>.tup (.int h::ws)|d=>d
noncomputable def ufP:D->D|.tup (.int h::ws)=>.tup [.int h,.tup ws]|d=>d
noncomputable def zG:D->Option (List D)|.lst a=>al a|_=>bdq
noncomputable def mJ(p:Int×Int):D:=.tup [.int p.1,.int p.2]
noncomputable def blt:ZD->List D->Option R|.len,[x]=>(items x).map λc=>.val (.int c.length)|.list,[x]=>(items x).map λc=>.own c|.tuple,[x]=>(items x).map λc=>.val (.tup c)|.min2,[.int i,.int j]=>al (.val (.int (if j<i then j else i)))|.max2,[.int i,.int j]=>al (.val (.int (if i<j then j else i)))|.G6,[x]=>((items x).bind λc=>c.mapM iJ).bind λns=>ns.min?.map λi=>.val (.int i)|.sum,[x]=>((items x).bind λc=>c.mapM iJ).map λns=>.val (.int ns.sum)|.all,[x]=>((zG x).bind λc=>c.mapM zP).map λbs=>.val (.bl (bs.all id))|.int,[.int i]=>al (.val (.int i))|.int,[.bl b]=>al (.val (.int (if b then 1 else 0)))|.keys,[.dz (.k kvs)]=>al (.val (.tup (kvs.map λp=>.int p.1)))|.keys,[.dv ks _]=>al (.val (.tup (ks.map D.int)))|.Y0,[.dv ks _]=>if ks.length<=16777216 then al (.own (ks.map D.int))else bdq|.rvT,[.lst c]=>al (.val (.tup c.reverse))|.LK,[.dz (.k kvs)]=>if kvs.length<=16777216/\kvs.Pairwise (λa b=>a.1<b.1)then al (.own (kvs.map mJ))else bdq|_,_=>bdq
noncomputable def pk(ρ:List Sl)(i:Nat):Option D:=match ρ[i]?with|some (.val _ d)=>al d|some (.own _ a)=>al (.lst a)|some (.lent a)=>al (.lst a)|_=>bdq
noncomputable def Hh(ρ:List Sl)(i:Nat):Option (List D):=match pk ρ i with|some (.lst a)=>al a|_=>bdq
noncomputable abbrev Ev:=List Sl->Res R
noncomputable def isVar:P->Option Nat|.var i=>al i|_=>bdq
noncomputable def cN(i:Option Nat)(e:Ev)(ρ:List Sl):Res D:=match i with|some i=>lift (pk ρ i) ρ|none=>(e ρ).bind λr ρ=>.ok r.d ρ
noncomputable def iR(i:Option Nat)(e:Ev)(j:Option Nat)(f:Ev)(ρ:List Sl):Res (D×D):=match i with|some i=>(lift (pk ρ i) ρ).bind λ_ ρ=>(cN j f ρ).bind λy ρ=>(lift (pk ρ i) ρ).bind λx ρ=>.ok (x,y) ρ|none=>(cN bdq e ρ).bind λx ρ=>(cN j f ρ).bind λy ρ=>.ok (x,y) ρ
noncomputable def iY(e:Ev)(ρ:List Sl):Res Bool:=(e ρ).bind λr ρ=>lift (zP r.d) ρ
set_option genInjectivity true in inductive Arg where|dat(d:D)|tmp(ds:List D)|fM(i:Nat)
noncomputable def ur:R->Arg|.val d=>.dat d|.own a=>.tmp a
noncomputable def cz(ρ:List Sl):List Arg->List Nat->Option (List Sl)|[],_=>al []|.dat d::r,a=>(cz ρ r a).map λs=>.val a7 d::s|.tmp b::r,a=>(cz ρ r a).map λs=>.own a7 b::s|.fM i::r,a=>match ρ[i]?with|some (.val _ d)=>(cz ρ r a).map λs=>.val a7 d::s|some (.own _ b)=>if a.contains i then bdq else(cz ρ r (i::a)).map λs=>.own bx b::s|some (.lent b)=>if a.contains i then bdq else(cz ρ r (i::a)).map λs=>.lent b::s|_=>bdq
theorem Av{ρ:List Sl}{u:List Nat}:cz ρ [] u=al []:=rfl
theorem Bp{ρ:List Sl}{d:D}{r:List Arg}{u:List Nat}:cz ρ (.dat d::r) u=(cz ρ r u).map λs=>.val a7 d::s:=rfl
theorem Bj{ρ:List Sl}{d:List D}{r:List Arg}{u:List Nat}:cz ρ (.tmp d::r) u=(cz ρ r u).map λs=>.own a7 d::s:=rfl
theorem qp{ρ:List Sl}{i:Nat}{r:List Arg}{u:List Nat}:cz ρ (.fM i::r) u=match ρ[i]?with|some (.val _ d)=>(cz ρ r u).map λs=>.val a7 d::s|some (.own _ a)=>if u.contains i then bdq else(cz ρ r (i::u)).map λs=>.own bx a::s|some (.lent a)=>if u.contains i then bdq else(cz ρ r (i::u)).map λs=>.lent a::s|_=>bdq:=rfl
noncomputable def aY(i:Nat):List Arg->List Sl->Option Sl|.fM k::as,s::ss=>if k=i then al s else aY i as ss|.dat _::as,_::ss=>aY i as ss|.tmp _::as,_::ss=>aY i as ss|_,_=>bdq
noncomputable def dU:Sl->Option Sl->Sl|.own b _,al (.own _ a)=>.own b a|.own b _,al (.val _ d)=>.val b d|s,_=>s
noncomputable def eV(as:List Arg)(ss:List Sl):Nat->List Sl->List Sl|_,[]=>[]|i,s::ρ=>dU s (aY i as ss)::eV as ss (i+1) ρ
theorem rB{as:List Arg}{ss:List Sl}{i:Nat}:eV as ss i []=[]:=rfl
theorem lU{as:List Arg}{ss:List Sl}{i:Nat}{s:Sl}{ρ:List Sl}:eV as ss i (s::ρ)=dU s (aY i as ss)::eV as ss (i+1) ρ:=rfl
noncomputable abbrev Call:=Nat->List Sl->Res R
noncomputable def p8(c:Call)(f:Nat)(as:List Arg)(ρ:List Sl):Res R:=match cz ρ as []with|none=>.stuck|some args=>match c f args with|.ok r a=>.ok r (eV as a 0 ρ)|.exc _ _=>.stuck|.stuck=>.stuck
noncomputable def put(ρ:List Sl)(i:Nat)(s:Sl):Option (List Sl):=match ρ[i]?with|some .aN=>al (ρ.set i s)|some (.val a7 _)=>al (ρ.set i s)|some (.own a7 _)=>al (ρ.set i s)|_=>bdq
noncomputable def putAll(ρ:List Sl):List Nat->List D->Option (List Sl)|[],[]=>al ρ|i::is,d::a=>(put ρ i (.val a7 d)).bind λρ=>putAll ρ is a|_,_=>bdq
theorem j9{ρ:List Sl}:putAll ρ [] []=al ρ:=rfl
theorem jk{ρ:List Sl}{i:Nat}{is:List Nat}{d:D}{a:List D}:putAll ρ (i::is) (d::a)=(put ρ i (.val a7 d)).bind λρ=>putAll ρ is a:=rfl
theorem nP{ρ:List Sl}{i:Nat}{is:List Nat}:putAll ρ (i::is) []=bdq:=rfl
theorem nJ{ρ:List Sl}{d:D}{a:List D}:putAll ρ [] (d::a)=bdq:=rfl
noncomputable def cJ(ρ:List Sl)(is:List Nat)(one:Bool)(d:D):Option (List Sl):=match one,is,d with|true,[i],d=>put ρ i (.val a7 d)|false,is,.tup a=>putAll ρ is a|_,_,_=>bdq
noncomputable def srcOf(i:Option Nat)(e:Ev)(ρ:List Sl):Res (List D):=match i with
 |some i=>match ρ[i]?with|some (.val _ d)=>lift (items d) ρ|some (.own _ a)=>.ok a (ρ.set i (.lent a))|some (.lent a)=>.ok a ρ|_=>.stuck
 |none=>(e ρ).bind λr ρ=>lift (items r.d) ρ
noncomputable def aU(a:List Sl)(i:Option Nat)(ρ:List Sl):List Sl:=match i with
 |some i=>match a[i]?with|some (.own b c)=>ρ.set i (.own b c)|_=>ρ
 |none=>ρ
noncomputable def Lq(i:Nat)(f:Ev)(ρ:List Sl):Res (List D×List Sl):=(f ρ).bind λr a=>(lift (items r.d) a).bind λes a=>match a[i]?with|some (.val _ d)=>(lift (items d) a).bind λb a=>.ok ((es.zip b).map λp=>D.tup [p.1,p.2],a) a|some (.own _ b)=>.ok ((es.zip b).map λp=>D.tup [p.1,p.2],a) (a.set i (.lent b))|some (.lent b)=>.ok ((es.zip b).map λp=>D.tup [p.1,p.2],a) a|_=>.stuck
noncomputable def turns(is:List Nat)(one:Bool)(a:List Sl->Res Bool)(e:Ev):List D->List D->List Sl->Res (List D)|[],c,ρ=>.ok c ρ|d::r,c,ρ=>match cJ ρ is one d with|none=>.stuck|some ρ=>(a ρ).bind λb ρ=>if b then(e ρ).bind λx ρ=>turns is one a e r (c++[x.d]) ρ else turns is one a e r c ρ
theorem Ib{is:List Nat}{o:Bool}{f:List Sl->Res Bool}{e:Ev}{a:List D}{ρ:List Sl}:turns is o f e [] a ρ=.ok a ρ:=rfl
theorem Kr{is:List Nat}{o:Bool}{f:List Sl->Res Bool}{e:Ev}{d:D}{r a:List D}{ρ:List Sl}:turns is o f e (d::r) a ρ=match cJ ρ is o d with|none=>.stuck|some ρ=>(f ρ).bind λb ρ=>if b then(e ρ).bind λx ρ=>turns is o f e r (a++[x.d]) ρ else turns is o f e r a ρ:=rfl
mutual
noncomputable def ev(c:Call):P->List Sl->Res R
 |.var i,ρ=>match ρ[i]?with|some (.val _ d)=>.ok (.val d) ρ|some (.own b q)=>.ok (.val (.lst q)) (ρ.set i (.val b (.lst q)))|some (.gY (.k kvs))=>.ok (.val (.dz (.k kvs))) (ρ.set i (.val a7 (.dz (.k kvs))))|some (.cM kvs)=>.ok (.val (.dv (kvs.map (·.1)) (kvs.map (·.2)))) (ρ.set i (.val a7 (.dv (kvs.map (·.1)) (kvs.map (·.2)))))|_=>.stuck
 |.con d,ρ=>.ok (.val d) ρ|.bin o a b,ρ=>(iR (isVar a) (ev c a) (isVar b) (ev c b) ρ).bind λs ρ=>lift (tu o s.1 s.2) ρ|.neg a,ρ=>(cN (isVar a) (ev c a) ρ).bind λx ρ=>lift (HB x) ρ|.not a,ρ=>(iY (ev c a) ρ).bind λb ρ=>.ok (.val (.bl (!b))) ρ|.and a b,ρ=>(iY (ev c a) ρ).bind λx ρ=>if x then(iY (ev c b) ρ).bind λy ρ=>.ok (.val (.bl y)) ρ else .ok (.val (.bl a7)) ρ|.or a b,ρ=>(iY (ev c a) ρ).bind λx ρ=>if x then .ok (.val (.bl bx)) ρ else(iY (ev c b) ρ).bind λy ρ=>.ok (.val (.bl y)) ρ|.cmp o a b,ρ=>(iR (isVar a) (ev c a) (isVar b) (ev c b) ρ).bind λs ρ=>lift (pG o s.1 s.2) ρ|.chain o E a b d,ρ=>(iR (isVar a) (ev c a) (isVar b) (ev c b) ρ).bind λs ρ=>(lift (if flat s.2=bx then cm o s.1 s.2 else bdq) ρ).bind λk ρ=>if k then(cN (isVar d) (ev c d) ρ).bind λz ρ=>lift (pG E s.2 z) ρ else .ok (.val (.bl a7)) ρ|.R0 t a b,ρ=>(iY (ev c t) ρ).bind λk ρ=>if k then(ev c a ρ).bind λr ρ=>.ok (.val r.d) ρ else(ev c b ρ).bind λr ρ=>.ok (.val r.d) ρ|.tup as,ρ=>(evs c as ρ).bind λq ρ=>.ok (.val (.tup q)) ρ|.lst as,ρ=>(evs c as ρ).bind λq ρ=>.ok (.own q) ρ|.idx a i,ρ=>(iR (isVar a) (ev c a) (isVar i) (ev c i) ρ).bind λs ρ=>lift (Gj s.1 s.2) ρ|.slice a l h,ρ=>match isVar a with|some i=>(lift (pk ρ i) ρ).bind λ_ ρ=>(cN (isVar l) (ev c l) ρ).bind λy ρ=>(cN (isVar h) (ev c h) ρ).bind λz ρ=>(lift (pk ρ i) ρ).bind λx ρ=>lift (Nr x (part l y) (part h z)) ρ|none=>(cN bdq (ev c a) ρ).bind λx ρ=>(cN (isVar l) (ev c l) ρ).bind λy ρ=>(cN (isVar h) (ev c h) ρ).bind λz ρ=>lift (Nr x (part l y) (part h z)) ρ
 |.call f as,ρ=>(Aj c as ρ).bind λxs ρ=>p8 c f xs ρ|.blt b [a],ρ=>(cN (isVar a) (ev c a) ρ).bind λx ρ=>lift (blt b [x]) ρ|.blt b as,ρ=>(evs c as ρ).bind λq ρ=>lift (blt b q) ρ|.inst G a,ρ=>(cN (isVar a) (ev c a) ρ).bind λx ρ=>.ok (.val (.bl (G.any λt=>cR t x))) ρ|.comp src n is one w A,ρ=>(srcOf (isVar src) (ev c src) ρ).bind λq g=>if q.length<=lim then(turns is one (tL c w) (ev c A) q [] (g++cq n .aN)).bind λxs u=>.ok (.own xs) (aU ρ (isVar src) (u.take g.length))else .stuck|.wX a b,ρ=>(iR (isVar a) (ev c a) (isVar b) (ev c b) ρ).bind λs ρ=>lift ((iJ s.1).bind λi=>(iJ s.2).bind λj=>if-1000000<=i/\i<=1000000000/\j<=1000000000/\-1000000000<=j then al (.val (.lst ((dy (j-i).toNat).map λ(k:Nat)=>D.int (i+(k:Int)))))else bdq) ρ|.Y4 a,ρ=>(ev c a ρ).bind λr ρ=>lift ((items r.d).map λq=>.val (.lst (q.mapIdx λi d=>D.tup [.int (i:Int),d]))) ρ|.zip a b,ρ=>(ev c a ρ).bind λx ρ=>(ev c b ρ).bind λy ρ=>lift ((items x.d).bind λq=>(items y.d).map λes=>.val (.lst ((q.zip es).map λp=>D.tup [p.1,p.2]))) ρ|.Y5 x k d,ρ=>match ρ[x]?with
   |some (.gY _)=>(cN (isVar k) (ev c k) ρ).bind λB ρ=>(cN (isVar d) (ev c d) ρ).bind λH ρ=>match ρ[x]?with|some (.gY m)=>lift ((m.get B).bind λo=>(iJ H).map λv=>.val (.int (o.getD v))) ρ|_=>.stuck
   |_=>.stuck
 |.vw x,ρ=>match ρ[x]?with|some (.gY m)=>.ok (.val (.dz m)) (ρ.set x (.val a7 (.dz m)))|some (.cM kvs)=>.ok (.val (.dv (kvs.map (·.1)) (kvs.map (·.2)))) (ρ.set x (.val a7 (.dv (kvs.map (·.1)) (kvs.map (·.2)))))|some (.own b q)=>.ok (.val (.lst q)) (ρ.set x (.val b (.lst q)))|some (.val _ d)=>.ok (.val d) ρ|_=>.stuck
 |.R1 x k,ρ=>match ρ[x]?with
   |some (.cM _)=>(cN (isVar k) (ev c k) ρ).bind λB ρ=>match ρ[x]?with|some (.cM kvs)=>lift ((iJ B).bind λk=>(lJ kvs k).map .val) ρ|_=>.stuck
   |_=>.stuck
 |.R3 x k neg,ρ=>(cN (isVar k) (ev c k) ρ).bind λB ρ=>match ρ[x]?with|some (.cM kvs)=>lift ((iJ B).map λk=>.val (.bl (if neg then !(kvs.map (·.1)).contains k else(kvs.map (·.1)).contains k))) ρ|_=>.stuck
 |.By k e,ρ=>.ok (.val (.dv [k] [.int e])) ρ|.sG i a n is one w A,ρ=>(Lq i (ev c a) ρ).bind λC g=>if C.1.length<=lim then(turns is one (tL c w) (ev c A) C.1 [] (g++cq n .aN)).bind λxs u=>.ok (.own xs) (aU C.2 (al i) (u.take g.length))else .stuck
noncomputable def evs(c:Call):List P->List Sl->Res (List D)|[],ρ=>.ok [] ρ|a::r,ρ=>(ev c a ρ).bind λx ρ=>(evs c r ρ).bind λxs ρ=>.ok (x.d::xs) ρ
noncomputable def Aj(c:Call):List P->List Sl->Res (List Arg)|[],ρ=>.ok [] ρ|a::r,ρ=>match isVar a with|some i=>(lift (pk ρ i) ρ).bind λ_ ρ=>(Aj c r ρ).bind λxs ρ=>.ok (.fM i::xs) ρ|none=>(ev c a ρ).bind λx ρ=>(Aj c r ρ).bind λxs ρ=>.ok (ur x::xs) ρ
noncomputable def tL(c:Call):Option P->List Sl->Res Bool|none,ρ=>.ok bx ρ|some t,ρ=>iY (ev c t) ρ
end
theorem Lh{c:Call}{ρ:List Sl}:evs c [] ρ=.ok [] ρ:=rfl
theorem wN{c:Call}{a:P}{r:List P}{ρ:List Sl}:evs c (a::r) ρ=(_H.ev c a ρ).bind λx ρ=>(evs c r ρ).bind λxs ρ=>.ok (x.d::xs) ρ:=rfl
theorem K1{c:Call}{ρ:List Sl}:Aj c [] ρ=.ok [] ρ:=rfl
theorem Al{c:Call}{a:P}{r:List P}{ρ:List Sl}:Aj c (a::r) ρ=match isVar a with|some i=>(lift (pk ρ i) ρ).bind λ_ ρ=>(Aj c r ρ).bind λxs ρ=>.ok (.fM i::xs) ρ|none=>(_H.ev c a ρ).bind λx ρ=>(Aj c r ρ).bind λxs ρ=>.ok (ur x::xs) ρ:=rfl
theorem E1{c i ρ}:ev c (.var i) ρ=match ρ[i]?with|some (.val _ d)=>.ok (.val d) ρ|some (.own b a)=>.ok (.val (.lst a)) (ρ.set i (.val b (.lst a)))|some (.gY (.k kvs))=>.ok (.val (.dz (.k kvs))) (ρ.set i (.val a7 (.dz (.k kvs))))|some (.cM kvs)=>.ok (.val (.dv (kvs.map (·.1)) (kvs.map (·.2)))) (ρ.set i (.val a7 (.dv (kvs.map (·.1)) (kvs.map (·.2)))))|_=>.stuck:=(rfl)
theorem E2{c d ρ}:ev c (.con d) ρ=.ok (.val d) ρ:=(rfl)
theorem E3{c o a b ρ}:ev c (.bin o a b) ρ=(iR (isVar a) (ev c a) (isVar b) (ev c b) ρ).bind λe ρ=>lift (tu o e.1 e.2) ρ:=(rfl)
theorem E4{c a ρ}:ev c (.neg a) ρ=(cN (isVar a) (ev c a) ρ).bind λx ρ=>lift (HB x) ρ:=(rfl)
theorem E5{c a ρ}:ev c (.not a) ρ=(iY (ev c a) ρ).bind λb ρ=>.ok (.val (.bl (!b))) ρ:=(rfl)
theorem E6{c a b ρ}:ev c (.and a b) ρ=(iY (ev c a) ρ).bind λx ρ=>if x then(iY (ev c b) ρ).bind λy ρ=>.ok (.val (.bl y)) ρ else .ok (.val (.bl a7)) ρ:=(rfl)
theorem E7{c a b ρ}:ev c (.or a b) ρ=(iY (ev c a) ρ).bind λx ρ=>if x then .ok (.val (.bl bx)) ρ else(iY (ev c b) ρ).bind λy ρ=>.ok (.val (.bl y)) ρ:=(rfl)
theorem E8{c o a b ρ}:ev c (.cmp o a b) ρ=(iR (isVar a) (ev c a) (isVar b) (ev c b) ρ).bind λe ρ=>lift (pG o e.1 e.2) ρ:=(rfl)
theorem E9{c o o' a b d ρ}:ev c (.chain o o' a b d) ρ=(iR (isVar a) (ev c a) (isVar b) (ev c b) ρ).bind λe ρ=>(lift (if flat e.2=bx then cm o e.1 e.2 else bdq) ρ).bind λk ρ=>if k then(cN (isVar d) (ev c d) ρ).bind λz ρ=>lift (pG o' e.2 z) ρ else .ok (.val (.bl a7)) ρ:=(rfl)
theorem E10{c t a b ρ}:ev c (.R0 t a b) ρ=(iY (ev c t) ρ).bind λk ρ=>if k then(ev c a ρ).bind λr ρ=>.ok (.val r.d) ρ else(ev c b ρ).bind λr ρ=>.ok (.val r.d) ρ:=(rfl)
theorem E11{c as ρ}:ev c (.tup as) ρ=(evs c as ρ).bind λa ρ=>.ok (.val (.tup a)) ρ:=(rfl)
theorem E12{c as ρ}:ev c (.lst as) ρ=(evs c as ρ).bind λa ρ=>.ok (.own a) ρ:=(rfl)
theorem E13{c a i ρ}:ev c (.idx a i) ρ=(iR (isVar a) (ev c a) (isVar i) (ev c i) ρ).bind λb ρ=>lift (Gj b.1 b.2) ρ:=(rfl)
theorem E14{c a l h ρ}:ev c (.slice a l h) ρ=match isVar a with|some i=>(lift (pk ρ i) ρ).bind λ_ ρ=>(cN (isVar l) (ev c l) ρ).bind λy ρ=>(cN (isVar h) (ev c h) ρ).bind λz ρ=>(lift (pk ρ i) ρ).bind λx ρ=>lift (Nr x (part l y) (part h z)) ρ|none=>(cN bdq (ev c a) ρ).bind λx ρ=>(cN (isVar l) (ev c l) ρ).bind λy ρ=>(cN (isVar h) (ev c h) ρ).bind λz ρ=>lift (Nr x (part l y) (part h z)) ρ:=(rfl)
theorem E15{c f as ρ}:ev c (.call f as) ρ=(Aj c as ρ).bind λxs ρ=>p8 c f xs ρ:=(rfl)
theorem E16{c b a ρ}:ev c (.blt b [a]) ρ=(cN (isVar a) (ev c a) ρ).bind λx ρ=>lift (blt b [x]) ρ:=(rfl)
theorem E17{c b x y r ρ}:ev c (.blt b (x::y::r)) ρ=(evs c (x::y::r) ρ).bind λa ρ=>lift (blt b a) ρ:=(rfl)
theorem ZG{c b ρ}:ev c (.blt b []) ρ=(evs c [] ρ).bind λa ρ=>lift (blt b a) ρ:=(rfl)
theorem E18{c ts a ρ}:ev c (.inst ts a) ρ=(cN (isVar a) (ev c a) ρ).bind λx ρ=>.ok (.val (.bl (ts.any λt=>cR t x))) ρ:=(rfl)
theorem E19{c src n is one test elt ρ}:ev c (.comp src n is one test elt) ρ=(srcOf (isVar src) (ev c src) ρ).bind λe a=>if e.length<=lim then(turns is one (tL c test) (ev c elt) e [] (a++cq n .aN)).bind λxs b=>.ok (.own xs) (aU ρ (isVar src) (b.take a.length))else .stuck:=(rfl)
theorem E20{c a b ρ}:ev c (.wX a b) ρ=(iR (isVar a) (ev c a) (isVar b) (ev c b) ρ).bind λe ρ=>lift ((iJ e.1).bind λi=>(iJ e.2).bind λj=>if-1000000<=i/\i<=1000000000/\j<=1000000000/\-1000000000<=j then al (.val (.lst ((dy (j-i).toNat).map λ(k:Nat)=>D.int (i+(k:Int)))))else bdq) ρ:=(rfl)
theorem E21{c a ρ}:ev c (.Y4 a) ρ=(ev c a ρ).bind λr ρ=>lift ((items r.d).map λb=>.val (.lst (b.mapIdx λi d=>D.tup [.int (i:Int),d]))) ρ:=(rfl)
theorem E22{c a b ρ}:ev c (.zip a b) ρ=(ev c a ρ).bind λx ρ=>(ev c b ρ).bind λy ρ=>lift ((items x.d).bind λe=>(items y.d).map λes=>.val (.lst ((e.zip es).map λp=>D.tup [p.1,p.2]))) ρ:=(rfl)
theorem E23{c x k d ρ}:ev c (.Y5 x k d) ρ=match ρ[x]?with
 |some (.gY _)=>(cN (isVar k) (ev c k) ρ).bind λa ρ=>(cN (isVar d) (ev c d) ρ).bind λb ρ=>match ρ[x]?with|some (.gY m)=>lift ((m.get a).bind λo=>(iJ b).map λv=>.val (.int (o.getD v))) ρ|_=>.stuck
 |_=>.stuck:=(rfl)
theorem E24{c x ρ}:ev c (.vw x) ρ=match ρ[x]?with|some (.gY m)=>.ok (.val (.dz m)) (ρ.set x (.val a7 (.dz m)))|some (.cM kvs)=>.ok (.val (.dv (kvs.map (·.1)) (kvs.map (·.2)))) (ρ.set x (.val a7 (.dv (kvs.map (·.1)) (kvs.map (·.2)))))|some (.own b a)=>.ok (.val (.lst a)) (ρ.set x (.val b (.lst a)))|some (.val _ d)=>.ok (.val d) ρ|_=>.stuck:=(rfl)
theorem E25{c x k ρ}:ev c (.R1 x k) ρ=match ρ[x]?with
 |some (.cM _)=>(cN (isVar k) (ev c k) ρ).bind λa ρ=>match ρ[x]?with|some (.cM kvs)=>lift ((iJ a).bind λk=>(lJ kvs k).map .val) ρ|_=>.stuck
 |_=>.stuck:=(rfl)
theorem E26{c x k neg ρ}:ev c (.R3 x k neg) ρ=(cN (isVar k) (ev c k) ρ).bind λa ρ=>match ρ[x]?with|some (.cM kvs)=>lift ((iJ a).map λk=>.val (.bl (if neg then !(kvs.map (·.1)).contains k else(kvs.map (·.1)).contains k))) ρ|_=>.stuck:=(rfl)
theorem E27{c k e ρ}:ev c (.By k e) ρ=.ok (.val (.dv [k] [.int e])) ρ:=(rfl)
theorem E28{c i a n is one test elt ρ}:ev c (.sG i a n is one test elt) ρ=(Lq i (ev c a) ρ).bind λf b=>if f.1.length<=lim then(turns is one (tL c test) (ev c elt) f.1 [] (b++cq n .aN)).bind λxs e=>.ok (.own xs) (aU f.2 (al i) (e.take b.length))else .stuck:=(rfl)
noncomputable def pckA(c:Call)(f p x t:Nat)(ρ:List Sl):Res R:=match pk ρ x with|some (.lst (_::_))=>ev c (.call f [.var p,.var x,.var t]) ρ|some (.lst [])=>ev c (.call f [.var p,.lst [.con (.int 0)],.var t]) ρ|_=>.stuck
inductive S where|pass|brk|cont|bad|expr(e:P)|asg(i:Nat)(e:P)|par(i j:Nat)(a b:P)|unp(i:List Nat)(e:P)|za(x:Nat)(i e:P)|app(x:Nat)(e:P)|ret(e:P)|abf|ifs(c:P)(a b:List S)|iD(src:P)(i:List Nat)(one:Bool)(body:List S)|whl(c:P)(body:List S)|aug(x:Nat)(sub:Bool)(e:P)|LQ(x:Nat)(i:P)(sub:Bool)(e:P)|LR(x:Nat)(t:Bool)|dput(x:Nat)(k e:P)|Ma(x:Nat)(src:P)(k:Nat)(is:List Nat)(one:Bool)(elt:P)|Mf(x:Nat)(i e:P)|G7(src:P)(is:List Nat)(one:Bool)(body:List S)|cQ(x:Nat)|G8(x:Nat)|Mg(x:Nat)(k e:Int)|gn(x:Nat)(k e:P)|fsh(B:List S)(y a b:Nat)deriving Inhabited
inductive Fl where|next|brk|cont|ret(r:R)deriving Inhabited
noncomputable def Fy:Nat->D->Bool|_,.non=>bx|_,.bl _=>bx|_,.int _=>bx|_,.str _=>bx|k+1,.tup a=>a.all (Fy k)|_,_=>a7
noncomputable def tldF(c:Call)(x y f g a:Nat)(ρ:List Sl):Res Fl:=match ρ[a]?with|some (.val _ d)=>if Fy 3 d=bx/\a≠x then(lift (put ρ x .aN) ρ).bind λb _=>match c f [.val a7 d]with|.ok (.val (.tup [.int z,.lst e,.tup es])) _=>if e.all eZ=bx/\es.all eZ=bx/\e.length<1000 then match c g [.val a7 d,.val a7 (.tup [.int z,.lst e,.tup es])]with|.ok (.val (.bl bx)) _=>(lift (put b y (.val a7 (.tup [.int z,.lst e,.tup es]))) b).bind λh _=>.ok .next h|.ok (.val (.bl a7)) _=>.ok (.ret (.val (.bl a7))) b|_=>.stuck else .stuck|_=>.stuck else .stuck|_=>.stuck
noncomputable def JN:Sl->Bool|.aN=>bx|.val _ d=>Fy 9 d|_=>a7
noncomputable def scl:D->Bool|.bl _=>bx|.int _=>bx|.non=>bx|_=>a7
noncomputable def gJ:Sl->Sl|.val b d=>if Fy 9 d=bx then .val b d else .aN|_=>.aN
noncomputable def pq(y a b:Nat)(fl:Fl)(ρ:List Sl):Res Fl:=match fl with
 |.ret (.val d)=>if scl d=bx then .ok (.ret (.val d)) (ρ.map gJ)else .stuck|.next=>match ρ[a]?,ρ[b]?with|some (.val a7 (.lst c)),al (.val a7 (.lst es))=>if c.all eZ=bx/\es.all eZ=bx/\c.length<1000/\0<es.length/\a≠y/\b≠y then(lift (put (ρ.map gJ) y (.val a7 (.tup [.lst c,.lst es]))) ρ).bind λρ2 _=>.ok .next ρ2 else .stuck|_,_=>.stuck
 |_=>.stuck
noncomputable def Bv:R->Sl|.val d=>.val a7 d|.own a=>.own a7 a
noncomputable def jf(is:List Nat)(one:Bool)(body:List Sl->Res Fl):List D->List Sl->Res Fl|[],ρ=>.ok .next ρ|d::r,ρ=>match cJ ρ is one d with|none=>.stuck|some ρ=>(body ρ).bind λfl ρ=>match fl with|.next=>jf is one body r ρ|.cont=>jf is one body r ρ|.brk=>.ok .next ρ|.ret r=>.ok (.ret r) ρ
theorem JW{is:List Nat}{o:Bool}{b:List Sl->Res Fl}{ρ:List Sl}:jf is o b [] ρ=.ok .next ρ:=rfl
theorem zX{is:List Nat}{o:Bool}{b:List Sl->Res Fl}{d:D}{r:List D}{ρ:List Sl}:jf is o b (d::r) ρ=match cJ ρ is o d with|none=>.stuck|some ρ=>(b ρ).bind λfl ρ=>match fl with|.next=>jf is o b r ρ|.cont=>jf is o b r ρ|.brk=>.ok .next ρ|.ret r=>.ok (.ret r) ρ:=rfl
noncomputable def qZ(a:List Sl->Res Bool)(body:List Sl->Res Fl):Nat->List Sl->Res Fl|0,_=>.stuck|n+1,ρ=>(a ρ).bind λb ρ=>if b then(body ρ).bind λfl ρ=>match fl with|.next=>qZ a body n ρ|.cont=>qZ a body n ρ|.brk=>.ok .next ρ|.ret r=>.ok (.ret r) ρ else .ok .next ρ
theorem Vi{f:List Sl->Res Bool}{b:List Sl->Res Fl}{ρ:List Sl}:qZ f b 0 ρ=.stuck:=rfl
theorem Jr{f:List Sl->Res Bool}{b:List Sl->Res Fl}{n:Nat}{ρ:List Sl}:qZ f b (n+1) ρ=(f ρ).bind λx ρ=>if x then(b ρ).bind λfl ρ=>match fl with|.next=>qZ f b n ρ|.cont=>qZ f b n ρ|.brk=>.ok .next ρ|.ret r=>.ok (.ret r) ρ else .ok .next ρ:=rfl
noncomputable def gK(is:List Nat)(one:Bool)(b:Ev):List D->List (List D)->List Sl->Res (List (List D))|[],a,ρ=>.ok a ρ|d::r,a,ρ=>match cJ ρ is one d with|none=>.stuck|some ρ=>(b ρ).bind λx ρ=>match x with|.own c=>gK is one b r (a++[c]) ρ|.val _=>.stuck
theorem Jo{is:List Nat}{o:Bool}{e:Ev}{a:List (List D)}{ρ:List Sl}:gK is o e [] a ρ=.ok a ρ:=rfl
theorem Jt{is:List Nat}{o:Bool}{e:Ev}{d:D}{r:List D}{a:List (List D)}{ρ:List Sl}:gK is o e (d::r) a ρ=match cJ ρ is o d with|none=>.stuck|some ρ=>(e ρ).bind λx ρ=>match x with|.own b=>gK is o e r (a++[b]) ρ|.val _=>.stuck:=rfl
noncomputable def rowAt(a:List (List D))(k:Int):Option (List D):=(iI a.length k).bind λr=>a[r]?
noncomputable def jW(a:List (List D))(k:Int)(f:List D->Option (List D)):Option (List (List D)):=(iI a.length k).bind λr=>(a[r]?).bind λrow=>(f row).map λb=>a.set r b
noncomputable def setAt(l:Int)(d:D)(row:List D):Option (List D):=(iI row.length l).map λm=>row.set m d
noncomputable def jw(ρ:List Sl)(x:Nat):Option (List (List D)):=match ρ[x]?with|some (.hold a)=>al a|_=>bdq
noncomputable def vZ(ρ:List Sl)(x:Nat)(k:D):Option (List D):=(jw ρ x).bind λa=>(iJ k).bind λk=>rowAt a k
noncomputable def GX(ρ:List Sl)(x:Nat)(o:Option (List (List D))):Res Fl:=match o with|some a=>.ok .next (ρ.set x (.hold a))|none=>.stuck
noncomputable def rowOne(x r:Nat)(b c e:List Sl->Res D)(ρ:List Sl):Res Fl:=(c ρ).bind λk ρ=>(lift ((jw ρ x).bind λa=>(a[r]?).bind λrow=>(iJ k).bind λk=>(at' row k).bind iJ) ρ).bind λu ρ=>(e ρ).bind λl ρ=>(lift ((jw ρ x).bind λa=>(a[r]?).bind λrow=>(iJ l).bind λl=>(at' row l).bind iJ) ρ).bind λv ρ=>(b ρ).bind λj ρ=>GX ρ x ((jw ρ x).bind λa=>(a[r]?).bind λrow=>(iJ j).bind λj=>(setAt j (.int (u+v)) row).map λf=>a.set r f)
noncomputable def UW(x y:Nat)(a b c:List Sl->Res D):Nat->Nat->List Sl->Res Fl|0,_,ρ=>.ok .next ρ|m+1,r,ρ=>(lift (put ρ y .aN) ρ).bind λρ _=>(rowOne x r a b c ρ).bind λ_ ρ=>UW x y a b c m (r+1) ρ
noncomputable def Wb(is:List Nat)(one:Bool)(body:List Sl->Res Fl)(b:List Sl->Option (Nat×List Sl)):List D->List Sl->Option (Nat×List Sl)|[],_=>bdq|d::r,ρ=>match cJ ρ is one d with|none=>bdq|some ρ=>match b ρ with|some x=>al x|none=>match body ρ with|.ok .next a=>Wb is one body b r a|.ok .cont a=>Wb is one body b r a|_=>bdq
noncomputable def Vl(a:List Sl->Res Bool)(body:List Sl->Res Fl)(c:List Sl->Option (Nat×List Sl)):Nat->List Sl->Option (Nat×List Sl)|0,_=>bdq|n+1,ρ=>match a ρ with
   |.ok bx b=>match c b with|some x=>al x|none=>match body b with|.ok .next ρ2=>Vl a body c n ρ2|.ok .cont ρ2=>Vl a body c n ρ2|_=>bdq
   |_=>bdq
noncomputable def TY:P->P|.idx a _=>a|.blt .sum [.comp s _ _ _ _ _]=>s|e=>e
noncomputable def arg0:P->P|.call _ (a::_)=>a|e=>e
noncomputable def Ck(c:Call)(e:P)(ρ:List Sl):Option (Nat×List Sl):=match TY e with
 |.call f as=>match Aj c as ρ with
   |.ok xs b=>match cz b xs []with
     |some args=>match c f args with|.exc k a=>al (k,eV xs a 0 b)|_=>bdq
     |none=>bdq
   |_=>bdq
 |_=>bdq
mutual
noncomputable def ex(c:Call)(n:Nat):S->List Sl->Res Fl
 |.pass,ρ=>.ok .next ρ|.brk,ρ=>.ok .brk ρ|.cont,ρ=>.ok .cont ρ|.bad,_=>.stuck|.expr e,ρ=>(ev c e ρ).bind λ_ ρ=>.ok .next ρ|.asg i e,ρ=>(ev c e ρ).bind λr ρ=>(lift (put ρ i (Bv r)) ρ).bind λg _=>.ok .next g|.par i j a b,ρ=>(ev c a ρ).bind λx ρ=>(ev c b ρ).bind λy ρ=>(lift ((put ρ i (.val a7 x.d)).bind λρ=>put ρ j (.val a7 y.d)) ρ).bind λg _=>.ok .next g|.unp is e,ρ=>(ev c e ρ).bind λr ρ=>match r.d with|.tup h=>(lift (putAll ρ is h) ρ).bind λg _=>.ok .next g|_=>.stuck
 |.za x i e,ρ=>(ev c e ρ).bind λr ρ=>(lift (pk ρ x) ρ).bind λ_ ρ=>(cN (isVar i) (ev c i) ρ).bind λk ρ=>match ρ[x]?,k with
   |some (.own b h),.int k=>match iI h.length k with|some j=>.ok .next (ρ.set x (.own b (h.set j r.d)))|none=>.stuck
   |_,_=>.stuck
 |.app x e,ρ=>(lift (Hh ρ x) ρ).bind λ_ ρ=>(ev c e ρ).bind λr ρ=>match ρ[x]?with|some (.own b h)=>if h.length<lim then .ok .next (ρ.set x (.own b (h++[r.d])))else .stuck|_=>.stuck
 |.ret e,ρ=>match isVar e with
   |some i=>match ρ[i]?with|some (.own a7 h)=>.ok (.ret (.own h)) (ρ.set i .aN)|_=>(ev c e ρ).bind λr ρ=>.ok (.ret r) ρ
   |none=>(ev c e ρ).bind λr ρ=>.ok (.ret r) ρ
 |.abf,ρ=>.ok (.ret (.val .non)) ρ|.ifs t a b,ρ=>(iY (ev c t) ρ).bind λk ρ=>if k then gj c n a ρ else gj c n b ρ|.iD src is one body,ρ=>(srcOf (isVar src) (ev c src) ρ).bind λh f=>(jf is one (gj c n body) h f).bind λfl p=>.ok fl (aU ρ (isVar src) p)|.whl t body,ρ=>qZ (iY (ev c t)) (gj c n body) n ρ|.aug x sub e,ρ=>(lift (pk ρ x) ρ).bind λa ρ=>(cN (isVar e) (ev c e) ρ).bind λb ρ=>match a,b with|.int i,.int j=>(lift (put ρ x (.val a7 (.int (if sub then i-j else i+j)))) ρ).bind λg _=>.ok .next g|_,_=>.stuck
 |.LQ x i sub e,ρ=>(lift (Hh ρ x) ρ).bind λ_ ρ=>(cN (isVar i) (ev c i) ρ).bind λk ρ=>(lift (Hh ρ x) ρ).bind λl ρ=>(lift ((iJ k).bind λi=>at' l i) ρ).bind λa ρ=>(cN (isVar e) (ev c e) ρ).bind λb ρ=>match a,b,ρ[x]?,k with
   |.int u,.int v,al (.own w h),.int k=>match iI h.length k with|some j=>.ok .next (ρ.set x (.own w (h.set j (.int (if sub then u-v else u+v)))))|none=>.stuck
   |_,_,_,_=>.stuck
 |.LR x t,ρ=>match ρ[x]?with|some .aN=>.ok .next (ρ.set x (.gY (if t then .t []else .k [])))|_=>.stuck
 |.dput x k e,ρ=>(ev c e ρ).bind λr ρ=>match ρ[x]?with
   |some (.gY _)=>(cN (isVar k) (ev c k) ρ).bind λq ρ=>match ρ[x]?,r with
     |some (.gY m),.val (.int v)=>match m.put q v with|some z=>.ok .next (ρ.set x (.gY z))|none=>.stuck
     |_,_=>.stuck
   |_=>.stuck
 |.Ma x src k is one s,ρ=>(srcOf (isVar src) (ev c src) ρ).bind λh f=>if h.length<=lim then(gK is one (ev c s) h [] (f++cq k .aN)).bind λo p=>(lift (put (aU ρ (isVar src) (p.take f.length)) x (.hold o)) ρ).bind λg _=>.ok .next g else .stuck|.Mf x i e,ρ=>(cN (isVar i) (ev c i) ρ).bind λk ρ=>(lift (vZ ρ x k) ρ).bind λ_ ρ=>(ev c e ρ).bind λr ρ=>GX ρ x ((jw ρ x).bind λo=>(iJ k).bind λk=>jW o k λrow=>if row.length<lim then al (row++[r.d])else bdq)|.G7 src is one body,ρ=>(ev c src ρ).bind λr f=>(lift (items r.d) f).bind λh f=>jf is one (gj c n body) h f|.cQ x,ρ=>match ρ[x]?with|some (.hold o)=>.ok .next (ρ.set x (.val a7 (.lst (o.map D.lst))))|_=>.stuck
 |.G8 x,ρ=>match ρ[x]?with|some .aN=>.ok .next (ρ.set x (.cM []))|some (.cM _)=>.ok .next (ρ.set x (.cM []))|some (.val a7 _)=>.ok .next (ρ.set x (.cM []))|_=>.stuck
 |.Mg x k e,ρ=>match ρ[x]?with|some .aN=>.ok .next (ρ.set x (.cM [(k,.int e)]))|some (.cM _)=>.ok .next (ρ.set x (.cM [(k,.int e)]))|some (.val a7 _)=>.ok .next (ρ.set x (.cM [(k,.int e)]))|_=>.stuck
 |.gn x k e,ρ=>(ev c e ρ).bind λr ρ=>match ρ[x]?with
   |some (.cM _)=>(cN (isVar k) (ev c k) ρ).bind λq ρ=>match ρ[x]?,q with|some (.cM kvs),.int k=>if kvs.length<lim then .ok .next (ρ.set x (.cM (gn kvs k r.d)))else .stuck|_,_=>.stuck
   |_=>.stuck
 |.fsh B y a b,ρ=>if ρ.all JN=bx then(gj c n B ρ).bind (pq y a b)else .stuck
noncomputable def gj(c:Call)(n:Nat):List S->List Sl->Res Fl|[],ρ=>.ok .next ρ|s::r,ρ=>(ex c n s ρ).bind λfl ρ=>match fl with|.next=>gj c n r ρ|fl=>.ok fl ρ
noncomputable def exX(c:Call)(n:Nat):S->List Sl->Option (Nat×List Sl)
 |.ifs t a b,ρ=>match iY (ev c t) ρ with|.ok x f=>if x then FJ c n a f else FJ c n b f|_=>bdq
 |.iD src is one body,ρ=>match Ck c src ρ with|some x=>al x|none=>match srcOf (isVar src) (ev c src) ρ with|.ok g f=>(Wb is one (gj c n body) (FJ c n body) g f).map λx=>(x.1,aU ρ (isVar src) x.2)|_=>bdq
 |.ret e,ρ=>Ck c e ρ|.asg _ e,ρ=>Ck c e ρ|.expr e,ρ=>Ck c e ρ|.whl t body,ρ=>Vl (iY (ev c t)) (gj c n body) (FJ c n body) n ρ|_,_=>bdq
noncomputable def FJ(c:Call)(n:Nat):List S->List Sl->Option (Nat×List Sl)|[],_=>bdq|s::r,ρ=>match exX c n s ρ with|some x=>al x|none=>match ex c n s ρ with|.ok .next a=>FJ c n r a|_=>bdq
end
theorem X1{c n ρ}:ex c n (.pass) ρ=.ok .next ρ:=(rfl)
theorem X2{c n ρ}:ex c n (.brk) ρ=.ok .brk ρ:=(rfl)
theorem X3{c n ρ}:ex c n (.cont) ρ=.ok .cont ρ:=(rfl)
theorem X4{c n ρ}:ex c n (.bad) ρ=.stuck:=(rfl)
theorem X5{c n e ρ}:ex c n (.expr e) ρ=(ev c e ρ).bind λ_ ρ=>.ok .next ρ:=(rfl)
theorem X6{c n i e ρ}:ex c n (.asg i e) ρ=(ev c e ρ).bind λr ρ=>(lift (put ρ i (Bv r)) ρ).bind λa _=>.ok .next a:=(rfl)
theorem X7{c n i j a b ρ}:ex c n (.par i j a b) ρ=(ev c a ρ).bind λx ρ=>(ev c b ρ).bind λy ρ=>(lift ((put ρ i (.val a7 x.d)).bind λρ=>put ρ j (.val a7 y.d)) ρ).bind λe _=>.ok .next e:=(rfl)
theorem X8{c n is e ρ}:ex c n (.unp is e) ρ=(ev c e ρ).bind λr ρ=>match r.d with|.tup b=>(lift (putAll ρ is b) ρ).bind λa _=>.ok .next a|_=>.stuck:=(rfl)
theorem X9{c n x i e ρ}:ex c n (.za x i e) ρ=(ev c e ρ).bind λr ρ=>(lift (pk ρ x) ρ).bind λ_ ρ=>(cN (isVar i) (ev c i) ρ).bind λk ρ=>match ρ[x]?,k with
 |some (.own b a),.int k=>match iI a.length k with|some j=>.ok .next (ρ.set x (.own b (a.set j r.d)))|none=>.stuck
 |_,_=>.stuck:=(rfl)
theorem X10{c n x e ρ}:ex c n (.app x e) ρ=(lift (Hh ρ x) ρ).bind λ_ ρ=>(ev c e ρ).bind λr ρ=>match ρ[x]?with|some (.own b a)=>if a.length<lim then .ok .next (ρ.set x (.own b (a++[r.d])))else .stuck|_=>.stuck:=(rfl)
theorem X11{c n e ρ}:ex c n (.ret e) ρ=match isVar e with
 |some i=>match ρ[i]?with|some (.own a7 a)=>.ok (.ret (.own a)) (ρ.set i .aN)|_=>(ev c e ρ).bind λr ρ=>.ok (.ret r) ρ
 |none=>(ev c e ρ).bind λr ρ=>.ok (.ret r) ρ:=(rfl)
theorem X12{c n ρ}:ex c n (.abf) ρ=.ok (.ret (.val .non)) ρ:=(rfl)
theorem X13{c n t a b ρ}:ex c n (.ifs t a b) ρ=(iY (ev c t) ρ).bind λk ρ=>if k then gj c n a ρ else gj c n b ρ:=(rfl)
theorem X14{c n src is one body ρ}:ex c n (.iD src is one body) ρ=(srcOf (isVar src) (ev c src) ρ).bind λe a=>(jf is one (gj c n body) e a).bind λfl b=>.ok fl (aU ρ (isVar src) b):=(rfl)
theorem X15{c n t body ρ}:ex c n (.whl t body) ρ=qZ (iY (ev c t)) (gj c n body) n ρ:=(rfl)
theorem X16{c n x sub e ρ}:ex c n (.aug x sub e) ρ=(lift (pk ρ x) ρ).bind λa ρ=>(cN (isVar e) (ev c e) ρ).bind λb ρ=>match a,b with|.int i,.int j=>(lift (put ρ x (.val a7 (.int (if sub then i-j else i+j)))) ρ).bind λf _=>.ok .next f|_,_=>.stuck:=(rfl)
theorem X17{c n x i sub e ρ}:ex c n (.LQ x i sub e) ρ=(lift (Hh ρ x) ρ).bind λ_ ρ=>(cN (isVar i) (ev c i) ρ).bind λk ρ=>(lift (Hh ρ x) ρ).bind λl ρ=>(lift ((iJ k).bind λi=>at' l i) ρ).bind λa ρ=>(cN (isVar e) (ev c e) ρ).bind λb ρ=>match a,b,ρ[x]?,k with
 |.int u,.int v,al (.own g f),.int k=>match iI f.length k with|some j=>.ok .next (ρ.set x (.own g (f.set j (.int (if sub then u-v else u+v)))))|none=>.stuck
 |_,_,_,_=>.stuck:=(rfl)
theorem X18{c n x t ρ}:ex c n (.LR x t) ρ=match ρ[x]?with|some .aN=>.ok .next (ρ.set x (.gY (if t then .t []else .k [])))|_=>.stuck:=(rfl)
theorem X19{c n x k e ρ}:ex c n (.dput x k e) ρ=(ev c e ρ).bind λr ρ=>match ρ[x]?with
 |some (.gY _)=>(cN (isVar k) (ev c k) ρ).bind λa ρ=>match ρ[x]?,r with
   |some (.gY m),.val (.int v)=>match m.put a v with|some b=>.ok .next (ρ.set x (.gY b))|none=>.stuck
   |_,_=>.stuck
 |_=>.stuck:=(rfl)
theorem X20{c n x src k is one elt ρ}:ex c n (.Ma x src k is one elt) ρ=(srcOf (isVar src) (ev c src) ρ).bind λg a=>if g.length<=lim then(gK is one (ev c elt) g [] (a++cq k .aN)).bind λe b=>(lift (put (aU ρ (isVar src) (b.take a.length)) x (.hold e)) ρ).bind λf _=>.ok .next f else .stuck:=(rfl)
theorem X21{c n x i e ρ}:ex c n (.Mf x i e) ρ=(cN (isVar i) (ev c i) ρ).bind λk ρ=>(lift (vZ ρ x k) ρ).bind λ_ ρ=>(ev c e ρ).bind λr ρ=>GX ρ x ((jw ρ x).bind λa=>(iJ k).bind λk=>jW a k λrow=>if row.length<lim then al (row++[r.d])else bdq):=(rfl)
theorem X22{c n src is one body ρ}:ex c n (.G7 src is one body) ρ=(ev c src ρ).bind λr a=>(lift (items r.d) a).bind λb a=>jf is one (gj c n body) b a:=(rfl)
theorem X23{c n x ρ}:ex c n (.cQ x) ρ=match ρ[x]?with|some (.hold a)=>.ok .next (ρ.set x (.val a7 (.lst (a.map D.lst))))|_=>.stuck:=(rfl)
theorem X24{c n x ρ}:ex c n (.G8 x) ρ=match ρ[x]?with|some .aN=>.ok .next (ρ.set x (.cM []))|some (.cM _)=>.ok .next (ρ.set x (.cM []))|some (.val a7 _)=>.ok .next (ρ.set x (.cM []))|_=>.stuck:=(rfl)
theorem X25{c n x k e ρ}:ex c n (.Mg x k e) ρ=match ρ[x]?with|some .aN=>.ok .next (ρ.set x (.cM [(k,.int e)]))|some (.cM _)=>.ok .next (ρ.set x (.cM [(k,.int e)]))|some (.val a7 _)=>.ok .next (ρ.set x (.cM [(k,.int e)]))|_=>.stuck:=(rfl)
theorem X26{c n x k e ρ}:ex c n (.gn x k e) ρ=(ev c e ρ).bind λr ρ=>match ρ[x]?with
 |some (.cM _)=>(cN (isVar k) (ev c k) ρ).bind λa ρ=>match ρ[x]?,a with|some (.cM kvs),.int k=>if kvs.length<lim then .ok .next (ρ.set x (.cM (gn kvs k r.d)))else .stuck|_,_=>.stuck
 |_=>.stuck:=(rfl)
theorem X27{c n y a b ρ}:ex c n (.fsh B y a b) ρ=if ρ.all JN=bx then(gj c n B ρ).bind (pq y a b)else .stuck:=(rfl)
structure Fd where
 np:Nat
 nn:Nat
 body:List S deriving Inhabited
noncomputable abbrev Tab:=Nat->Option Fd
noncomputable def enter(c:Call)(n:Nat)(d:Fd)(args:List Sl):Res R:=if args.length=d.np/\d.np<=d.nn then match gj c n d.body (args++cq (d.nn-d.np) .aN)with|.ok .next ρ=>.ok (.val .non) (ρ.take d.np)|.ok (.ret r) ρ=>.ok r (ρ.take d.np)|_=>match FJ c n d.body (args++cq (d.nn-d.np) .aN)with|some (k,ρ)=>.exc k (ρ.take d.np)|none=>.stuck else .stuck
noncomputable def run(Γ:Tab)(w:Nat):Nat->Call|0,_,_=>.stuck|n+1,f,args=>match Γ f with|some d=>enter (run Γ w n) w d args|none=>.stuck
end _H
section
namespace _H
open PySem _L
variable{ρ:List Sl}{σ:St}{v:V}
noncomputable def Dc.ho:Dc->HO|.k kvs=>.dK (kvs.map λp=>(dJ p.1,V.int p.2))|.t kvs=>.dT (kvs.map λp=>(p.1.map dJ,V.int p.2))
noncomputable def Es(ks:List Int)(vs:List V):HO:=.dK ((ks.zip vs).map λp=>(dJ p.1,p.2))
section
variable(K:PySem.W.Frag)
mutual
noncomputable def Rep(F:Hp):V->D->Prop|v,.non=>v=.non|v,.bl b=>v=.bl b|v,.int i=>v=.int i|v,.str x=>v=.str x|v,.tup c=>∃a xs,v=.ref a/\iB K F a xs/\aF F xs c|v,.lst c=>∃a xs,v=.ref a/\dF K F a xs/\aF F xs c|v,.dz m=>∃a o,v=.ref a/\F a=al (.cQ o m.ho)|v,.dv ks c=>∃a o vs,v=.ref a/\F a=al (.cQ o (Es ks vs))/\aF F vs c/\ks.length=c.length
noncomputable def aF(F:Hp):List V->List D->Prop|vs,[]=>vs=[]|vs,d::a=>∃v r,vs=v::r/\Rep F v d/\aF F r a
end
end
section
variable{K:PySem.W.Frag}{F F' H H':Hp}
theorem aB.gU{a:b_}{xs:List V}(e:aB H H')(h:iB K H a xs):iB K H' a xs:=by
 rcases h with(h|⟨o,h⟩)|h;.exact .inl (.inl (e _ _ h))
 .exact .inl (.inr ⟨o,e _ _ h⟩)
 .exact .inr h
mutual
theorem Rep.mono(e:aB F F'):∀{d:D}{v:V},Rep K F v d->Rep K F' v d|.non,_,h=>by rw[Rep]at h ⊢;exact h|.bl _,_,h=>by rw[Rep]at h ⊢;exact h|.int _,_,h=>by rw[Rep]at h ⊢;exact h|.str _,_,h=>by rw[Rep]at h ⊢;exact h|.tup b,_,h=>by rw[Rep]at h ⊢;obtain⟨a,xs,rfl,hs,r⟩:=h;exact⟨a,xs,rfl,aB.gU e hs,aF.mono e r⟩|.lst b,_,h=>by rw[Rep]at h ⊢;obtain⟨a,xs,rfl,hs,r⟩:=h;exact⟨a,xs,rfl,e.seq hs,aF.mono e r⟩|.dz m,_,h=>by rw[Rep]at h ⊢;obtain⟨a,o,rfl,hs⟩:=h;exact⟨a,o,rfl,e _ _ hs⟩|.dv ks b,_,h=>by rw[Rep]at h ⊢;obtain⟨a,o,vs,rfl,hs,r,c⟩:=h;exact⟨a,o,vs,rfl,e _ _ hs,aF.mono e r,c⟩theorem aF.mono(e:aB F F'):∀{a:List D}{vs:List V},aF K F vs a->aF K F' vs a|[],_,h=>by rw[aF]at h ⊢;exact h|d::a,_,h=>by rw[aF]at h ⊢;obtain⟨v,r,rfl,h1,b⟩:=h;exact⟨v,r,rfl,Rep.mono e h1,aF.mono e b⟩end
theorem aF.nil:aF K F [] []:=by rw[aF]
theorem aF.cons{v:V}{d:D}{vs:List V}{a:List D}(h:Rep K F v d)(t:aF K F vs a):aF K F (v::vs) (d::a):=by rw[aF];exact⟨v,vs,rfl,h,t⟩
theorem aF.cF{vs:List V}{d:D}{a:List D}(h:aF K F vs (d::a)):∃v r,vs=v::r/\Rep K F v d/\aF K F r a:=by rw[aF]at h;exact h
theorem aF.fu{vs:List V}(h:aF K F vs []):vs=[]:=by rw[aF]at h;exact h
theorem aF.length:∀{a:List D}{vs:List V},aF K F vs a->vs.length=a.length|[],_,h=>by rw[h.fu];rfl|d::a,_,h=>by obtain⟨v,r,rfl,_,t⟩:=h.cF;simp[aF.length t]
theorem aF.get:∀{a:List D}{vs:List V}{i:Nat}{d:D},aF K F vs a->a[i]?=al d->∃v,vs[i]?=al v/\Rep K F v d|[],_,_,_,h,e=>by simp at e|d::a,_,0,_,h,e=>by obtain⟨v,r,rfl,h1,t⟩:=h.cF;simp at e;subst e;exact⟨v,rfl,h1⟩|d::a,_,i+1,_,h,e=>by obtain⟨v,r,rfl,_,t⟩:=h.cF;simp at e;obtain⟨w,b,c⟩:=t.get e;exact⟨w,by simpa using b,c⟩
theorem aF.append:∀{a es:List D}{vs b:List V},aF K F vs a->aF K F b es->aF K F (vs++b) (a++es)|[],_,_,_,h,h'=>by rw[h.fu];exact h'|d::a,_,_,_,h,h'=>by obtain⟨v,r,rfl,h1,t⟩:=h.cF;exact .cons h1 (t.append h')
theorem aF.set{v:V}{d:D}(hr:Rep K F v d):∀{a:List D}{vs:List V}(i:Nat),aF K F vs a->aF K F (vs.set i v) (a.set i d)|[],_,_,h=>by rw[h.fu];exact .nil|_::_,_,0,h=>by obtain⟨w,r,rfl,h1,t⟩:=h.cF;exact .cons hr t|_::_,_,i+1,h=>by obtain⟨w,r,rfl,h1,t⟩:=h.cF;exact .cons h1 (aF.set hr i t)
theorem aF.take:∀{a:List D}{vs:List V}(n:Nat),aF K F vs a->aF K F (vs.take n) (a.take n)|[],_,n,h=>by rw[h.fu];simpa using aF.nil|_::_,_,0,h=>.nil|_::_,_,n+1,h=>by obtain⟨w,r,rfl,h1,t⟩:=h.cF;exact .cons h1 (t.take n)
theorem aF.drop:∀{a:List D}{vs:List V}(n:Nat),aF K F vs a->aF K F (vs.drop n) (a.drop n)|[],_,n,h=>by rw[h.fu];simpa using aF.nil|_::_,_,0,h=>h|_::_,_,n+1,h=>by obtain⟨w,r,rfl,h1,t⟩:=h.cF;exact t.drop n
theorem aF.rep{a:List D}{vs:List V}(h:aF K F vs a):∀n,aF K F (cq n vs).flatten (cq n a).flatten|0=>by simpa using aF.nil|n+1=>by simpa[g9]using h.append (aF.rep h n)
inductive Oc where|l(ds:List D)|d(m:Dc)|v(kvs:List (Int×D))
noncomputable def lst?:Sl->Option Oc|.own _ a=>al (.l a)|.lent a=>al (.l a)|.gY m=>al (.d m)|.cM kvs=>al (.v kvs)|_=>bdq
noncomputable def lF(K:PySem.W.Frag)(F:Hp)(o:HO):Oc->Prop|.l a=>∃xs,o=.lst xs/\aF K F xs a|.d m=>o=m.ho|.v kvs=>∃vs,o=Es (kvs.map (·.1)) vs/\aF K F vs (kvs.map (·.2))
theorem lF.mono{o:HO}{x:Oc}(e:aB F F')(h:lF K F o x):lF K F' o x:=by cases x with|l b=>obtain⟨xs,a,h⟩:=h;exact⟨xs,a,h.mono e⟩|d m=>exact h|v kvs=>obtain⟨xs,a,h⟩:=h;exact⟨xs,a,h.mono e⟩
noncomputable def aX(ρ:List Sl)(σ:St)(i:Nat)(a:b_):Prop:=(∃s b,ρ[i]?=al s/\lst? s=al b)/\σ[i]?=al (al (V.ref a))
noncomputable def Own(ρ:List Sl)(σ:St)(a:b_):Prop:=∃i,aX ρ σ i a
structure GS(K:PySem.W.Frag)(F:Hp)(ρ:List Sl)(σ:St)(H:Hp):Prop where
 sub:aB F H
 len:ρ.length=σ.length
 val:∀(i:Nat)(b:Bool)(d:D),ρ[i]?=al (Sl.val b d)->∃v:V,σ[i]?=al (al v)/\Rep K F v d
 own:∀(i:Nat)(s:Sl)(ds:Oc),ρ[i]?=al s->lst? s=al ds->∃(a:b_)(xs:HO),σ[i]?=al (al (V.ref a))/\H a=al xs/\F a=bdq/\lF K F xs ds
 dis:∀(i j:Nat)(a:b_),aX ρ σ i a->aX ρ σ j a->i=j
theorem GS.mW(g:GS K F ρ σ H)(i:Nat)(s:Sl)(b:List D)(e:ρ[i]?=al s)(c:lst? s=al (.l b)):∃(a:b_)(xs:List V),σ[i]?=al (al (V.ref a))/\H a=al (.lst xs)/\F a=bdq/\aF K F xs b:=by obtain⟨a,o,h1,f,h,xs,rfl,j⟩:=g.own i s (.l b) e c;exact⟨a,xs,h1,f,h,j⟩
noncomputable def uO:Sl->Bool|.val b _=>b|.own b _=>b|.lent _=>bx|.aN=>a7|.gY _=>a7|.cM _=>a7|.hold _=>bx
noncomputable def nj:Sl->Sl->Prop|.val bx d,s=>s=.val bx d|.own bx _,s=>(∃a,s=.own bx a)\/∃d,s=.val bx d|.lent a,s=>s=.lent a|.hold a,s=>s=.hold a|_,_=>True
theorem nj.refl(s:Sl):nj s s:=by unfold nj;split<;>first|rfl|exact .inl ⟨_,rfl⟩|trivial
theorem nj.uO{s a:Sl}(h:nj s a)(l:uO s=bx):_H.uO a=bx:=by cases s with
 |aN=>cases l|gY _=>cases l|cM _=>cases l|val b d=>cases b with|true=>cases h;rfl|false=>cases l
 |own b d=>cases b with|true=>rcases h with⟨_,rfl⟩|⟨_,rfl⟩<;>rfl|false=>cases l
 |lent d=>cases h;rfl|hold d=>cases h;rfl
theorem nj.trans{s c a:Sl}(l:_H.uO s=bx)(h:nj s c)(h':nj c a):nj s a:=by cases s with
 |aN=>cases l|gY _=>cases l|cM _=>cases l|val b d=>cases b with|true=>cases h;exact h'|false=>cases l
 |own b d=>cases b with
   | true => rcases h with⟨_,rfl⟩|⟨d,rfl⟩;.exact h'
             .exact .inr ⟨d,h'⟩|false=>cases l
 |lent d=>cases h;exact h'|hold d=>cases h;exact h'
noncomputable def nt:Option HO->Option HO|some (.tup _)=>bdq|o=>o
theorem gw{o:Option HO}(h:o=bdq):nt o=bdq:=by rw[h];rfl
theorem Ku{H:Hp}{b:b_}{xs:List V}(h:H b=al (.lst xs))(z:nt (H b)=bdq):False:=by rw[h]at z;cases z
theorem Kw{o:HO}{x:Oc}(h:lF K F o x)(z:nt (al o)=bdq):False:=by cases x with|l a=>obtain⟨xs,rfl,_⟩:=h;cases z|d m=>cases m<;>(cases(show o=_ from h);cases z)|v kvs=>obtain⟨xs,rfl,_⟩:=h;cases z
structure az(K:PySem.W.Frag)(F:Hp)(ρ:List Sl)(σ:St)(H:Hp)(F':Hp)(ρ':List Sl)(σ':St)(H':Hp):Prop where
 gs:GS K F' ρ' σ' H'
 bT:aB F F'
 wR:∀b,F b=bdq->F' b≠bdq->Own ρ σ b\/nt (H b)=bdq
 keep:∀b o,H b=al o->¬ Own ρ σ b->H' b=al o
 wY:∀b,Own ρ' σ' b->Own ρ σ b\/H b=bdq
 len:ρ'.length=ρ.length
 lk:∀(i:Nat)(s:Sl),ρ[i]?=al s->uO s=bx->σ'[i]?=σ[i]?/\∃s',ρ'[i]?=al s'/\nj s s'
theorem az.refl{ρ:List Sl}{σ:St}(g:GS K F ρ σ H):az K F ρ σ H F ρ σ H:=⟨g,aB.refl _,λb h h'=>absurd h h',λ_ _ h _=>h,λ_ h=>.inl h,rfl,λi s h _=>⟨rfl,s,h,.refl s⟩⟩
theorem az.trans{F1 F2 k m:Hp}{ρ f ρ2:List Sl}{σ g j:St}(a:az K F ρ σ H F1 f g k)(b:az K F1 f g k F2 ρ2 j m):az K F ρ σ H F2 ρ2 j m:=by
 have back:∀c,Own f g c\/k c=bdq->Own ρ σ c\/H c=bdq:=λc h=>by
  rcases h with h|h;.exact a.wY c h
  . by_cases ho:Own ρ σ c;.exact .inl ho
    .right;cases e:H c with|none=>rfl|some o=>rw[a.keep c o e ho]at h;cases h
 refine⟨b.gs,a.bT.trans b.bT,λc h h'=>?_,λc o h n=>?_,λc h=>back c (b.wY c h),b.len.trans a.len,λi s h l=>?_⟩
 . by_cases e:F1 c=bdq
   . by_cases ho:Own ρ σ c;.exact .inl ho
     . rcases b.wR c e h' with z|z;.exact(back c (.inl z)).imp id gw
       .right;cases q:H c with|none=>rfl|some o=>rw[a.keep c o q ho]at z;exact z
   .exact a.wR c h e
 . refine b.keep c o (a.keep c o h n) λh'=>?_;rcases a.wY c h' with h'|h';.exact n h'
   .rw[h]at h';cases h'
 .obtain⟨r,s1,h1,p⟩:=a.lk i s h l;obtain⟨t,s2,u,w⟩:=b.lk i s1 h1 (p.uO l);exact⟨t.trans r,s2,u,.trans l p w⟩
noncomputable def dw(K:PySem.W.Frag)(F H:Hp)(v:V)(d:D):Prop:=Rep K F v d\/∃a xs b,v=.ref a/\H a=al (.lst xs)/\aF K F xs b/\d=.lst b
noncomputable def cT(K:PySem.W.Frag)(F':Hp)(b:List Sl)(c:St)(H':Hp)(ρ:List Sl)(σ:St)(H:Hp)(v:V):R->Prop|.val d=>Rep K F' v d|.own e=>∃a xs,v=.ref a/\H' a=al (.lst xs)/\F' a=bdq/\aF K F' xs e/\¬ Own b c a/\(Own ρ σ a\/H a=bdq)
theorem aB.bF{F:Hp}{a:b_}{o:HO}(h:F a=bdq):aB F (upd F a o):=λb u e=>by
 have:b≠a:=by rintro rfl;rw[h]at e;cases e
 rw[ao this];exact e
theorem az.cQ{c:List Sl}{f:St}{r:R}(s:az K F ρ σ H F' c f H')(h:cT K F' c f H' ρ σ H v r):∃g,az K F ρ σ H g c f H'/\aB F' g/\Rep K g v r.d:=by cases r with|val d=>exact⟨F',s,.refl _,h⟩|own t=>
   obtain⟨a,xs,rfl,h1,u,w,x,y⟩:=h;have sm:aB F' (upd F' a (.lst xs)):=aB.bF u;refine⟨upd F' a (.lst xs),⟨⟨λb o e=>?_,s.gs.len,λi b d e=>?_,λi sl k e p=>?_,s.gs.dis⟩,s.bT.trans sm,λb n q=>?_,s.keep,s.wY,s.len,s.lk⟩,sm,?_⟩
   . by_cases j:b=a;.subst j;rw[aC]at e;cases e;exact h1
     .rw[ao j]at e;exact s.gs.sub b o e
   .obtain⟨v,l,m⟩:=s.gs.val i b d e;exact⟨v,l,m.mono sm⟩
   . obtain⟨b,ys,l,m,z,A⟩:=s.gs.own i sl k e p;have j:b≠a:=by rintro rfl;exact x ⟨i,⟨sl,k,e,p⟩,l⟩
     exact⟨b,ys,l,m,by rw[ao j];exact z,A.mono sm⟩
   . by_cases j:b=a;.subst j;exact y.imp id gw
     .rw[ao j]at q;exact s.wR b n q
   .show Rep K _ _ (.lst t);rw[Rep];exact⟨a,xs,rfl,dF.of aC,w.mono sm⟩
theorem GS.pk{ρ:List Sl}{σ:St}{i:Nat}{d:D}(g:GS K F ρ σ H)(e:_H.pk ρ i=al d):∃v:V,σ[i]?=al (al v)/\dw K F H v d:=by
 unfold _H.pk at e;split at e;.rename_i b d' h;cases e;obtain⟨v,h1,c⟩:=g.val i b d h;exact⟨v,h1,.inl c⟩
 .rename_i b f h;cases e;obtain⟨a,xs,h1,c,k,j⟩:=g.mW i _ f h rfl;exact⟨.ref a,h1,.inr ⟨a,xs,f,rfl,c,j,rfl⟩⟩
 .rename_i f h;cases e;obtain⟨a,xs,h1,c,k,j⟩:=g.mW i _ f h rfl;exact⟨.ref a,h1,.inr ⟨a,xs,f,rfl,c,j,rfl⟩⟩
 .cases e
structure Ext(F H F' H':Hp):Prop where
 hs:aB H H'
 fs:aB F F'
 sub:aB F' H'
 gr:∀b,F b=bdq->F' b≠bdq->nt (H b)=bdq
theorem Ext.refl(h:aB F H):Ext F H F H:=⟨.refl _,.refl _,h,λ_ a b=>absurd a b⟩
theorem Ext.stp(g:GS K F ρ σ H)(e:Ext F H F' H'):az K F ρ σ H F' ρ σ H':=by
 refine⟨⟨e.sub,g.len,λi b d h=>?_,λi s j h h'=>?_,g.dis⟩,e.fs,λb n k=>.inr (e.gr b n k),λb o h _=>e.hs b o h,λ_ h=>.inl h,rfl,λi s h _=>⟨rfl,s,h,.refl s⟩⟩;.obtain⟨v,h1,c⟩:=g.val i b d h;exact⟨v,h1,c.mono e.fs⟩
 .obtain⟨a,xs,h1,c,l,f⟩:=g.own i s j h h';refine⟨a,xs,h1,e.hs _ _ c,?_,f.mono e.fs⟩;cases q:F' a with|none=>rfl|some o=>have:=e.gr a l (by rw[q];simp);rw[c]at this;exact(Kw f this).elim
noncomputable def cH(K:PySem.W.Frag)(F' H' H:Hp)(v:V):R->Prop|.val d=>Rep K F' v d|.own b=>∃a xs,v=.ref a/\H' a=al (.lst xs)/\F' a=bdq/\aF K F' xs b/\H a=bdq
theorem cH.pD{r:R}(g:GS K F ρ σ H)(h:cH K F' H' H v r):cT K F' ρ σ H' ρ σ H v r:=by cases r with|val d=>exact h|own p=>obtain⟨a,xs,rfl,h1,l,m,f⟩:=h;refine⟨a,xs,rfl,h1,l,m,?_,.inr f⟩;rintro⟨i,⟨s,c,e,n⟩,o⟩;obtain⟨b,ys,j,k,_⟩:=g.own i s c e n;rw[o]at j;cases j;rw[f]at k;cases k
theorem cT.later{F1 i F2 j:Hp}{c ρ2:List Sl}{f g:St}{r:R}(a:az K F ρ σ H F1 c f i)(h:cT K F2 ρ2 g j c f i v r):cT K F2 ρ2 g j ρ σ H v r:=by cases r with|val d=>exact h|own n=>
   obtain⟨b,xs,rfl,h1,k,l,m,h5⟩:=h;refine⟨b,xs,rfl,h1,k,l,m,?_⟩;rcases h5 with h5|h5;.exact a.wY b h5
   . by_cases ho:Own ρ σ b;.exact .inl ho
     .right;cases e:H b with|none=>rfl|some o=>rw[a.keep b o e ho]at h5;cases h5
end
end _H
end
namespace _H
open PySem _L Spec PyProof.Rows
variable{ρ' ρ ρ₀:List Sl}{es:List df}{K:PySem.W.Frag}{F H H₀:Hp}{σ:_L.St}{i n:Nat}{ds:List D}{x:Str}{v:V}{op:nL}{p':Pos}{as:List Arg}
theorem aa{c e:Type}{x:Res c}{f:c->List Sl->Res e}{b:e}(h:x.bind f=.ok b ρ'):∃a ρ,x=.ok a ρ/\f a ρ=.ok b ρ':=by cases x with|ok a ρ=>exact⟨a,ρ,rfl,h⟩|exc _ _=>cases h|stuck=>cases h
theorem aD{c:Type}{o:Option c}{a:c}(h:lift o ρ=.ok a ρ'):o=al a/\ρ=ρ':=by cases o with|none=>cases h|some b=>cases h;exact⟨rfl,rfl⟩
theorem map_some{c e:Type}{o:Option c}{f:c->e}{b:e}(h:o.map f=al b):∃a,o=al a/\f a=b:=by cases o with|none=>cases h|some a=>cases h;exact⟨a,rfl,rfl⟩
theorem cC{c e:Type}{o:Option c}{f:c->Option e}{b:e}(h:o.bind f=al b):∃a,o=al a/\f a=al b:=by cases o with|none=>cases h|some a=>exact⟨a,rfl,h⟩
theorem bf{e:Type}{c:Prop}[Decidable c]{a b:e}(h:(if c then al a else bdq)=al b):c/\a=b:=by
 split at h;.rename_i hc;cases h;exact⟨hc,rfl⟩
 .cases h
section
variable{X:Cx}{c:Call}{e a b:df}{p pa pb:P}{pos:Pos}
theorem dG{t t':TE}(h:PE X e t)(i:∀σ H Q,t' σ H Q->t σ H Q):PE X e t':=λf s σ H Q I q=>h f s σ H Q I (i σ H Q q)
theorem yd{t t':TT}(h:PT X e t)(i:∀σ H Q,t' σ H Q->t σ H Q):PT X e t':=λf s σ H Q I q=>h f s σ H Q I (i σ H Q q)
theorem Rm{t t':TT}(h:PW X e t)(i:∀σ H Q,t' σ H Q->t σ H Q):PW X e t':=λwh f s σ H Q I q=>h wh f s σ H Q I (i σ H Q q)
theorem yK{t t':TA}(h:PA X es t)(i:∀σ H Q,t' σ H Q->t σ H Q):PA X es t':=λpos f s σ H Q I q=>h pos f s σ H Q I (i σ H Q q)
inductive uW(K:PySem.W.Frag)(f:Ev)(σ:_L.St)(H:Hp)(Q:VK):Prop where|mk(F:Hp)(ρ:List Sl)(r:R)(ρ':List Sl)(g:GS K F ρ σ H)(e:f ρ=.ok r ρ')(k:∀v F' H',az K F ρ σ H F' ρ' σ H'->cT K F' ρ' σ H' ρ σ H v r->Q v H')
inductive Ld(K:PySem.W.Frag)(f:List Sl->Res Bool)(σ:_L.St)(H:Hp)(Q:Bool->Hp->Prop):Prop where|mk(F:Hp)(ρ:List Sl)(b:Bool)(ρ':List Sl)(g:GS K F ρ σ H)(e:f ρ=.ok b ρ')(k:∀F' H',az K F ρ σ H F' ρ' σ H'->Q b H')
inductive afk(K:PySem.W.Frag)(f:List Sl->Res (List D))(σ:_L.St)(H:Hp)(Q:List V->Hp->Prop):Prop where|mk(F:Hp)(ρ:List Sl)(ds:List D)(ρ':List Sl)(g:GS K F ρ σ H)(e:f ρ=.ok ds ρ')(k:∀vs F' H',az K F ρ σ H F' ρ' σ H'->aF K F' vs ds->Q vs H')
structure SX(X:Cx)(c:Call)(e:df)(p:P):Prop where ev:PE X e (uW X.K (_H.ev c p))var:∀i,isVar p=al i->PE X e (nG i)
noncomputable def SA(X:Cx)(c:Call)(es:List df)(ps:List P):Prop:=PA X es (afk X.K (evs c ps))/\ps.length=es.length
theorem SX.cN(h:SX X c e p):∃t,PE X e t/\∀{σ:_L.St}{H F:Hp}{ρ ρ':List Sl}{d:D}{Q:VK},GS X.K F ρ σ H->cN (isVar p) (_H.ev c p) ρ=.ok d ρ'->(∀v j f,az X.K F ρ σ H j ρ' σ f->dw X.K j f v d->Q v f)->t σ H Q:=by cases hv:isVar p with|none=>refine⟨_,h.ev,λ{σ H F ρ ρ' d Q}g e k=>?_⟩;obtain⟨r,q,l,m⟩:=aa e;cases m;refine⟨F,ρ,r,_,g,l,λv j f s u=>?_⟩;obtain⟨o,w,_,y⟩:=s.cQ u;exact k v o f w (.inl y)|some i=>refine⟨_,h.var i hv,λ{σ H F ρ ρ' d Q}g e k=>?_⟩;obtain⟨l,m⟩:=aD e;subst m;obtain⟨v,h1,z⟩:=g.pk l;exact⟨v,h1,k v F H (.refl g) z⟩
theorem SX.iR(I:SX X c a pa)(M:SX X c b pb):∃J h,PE X a J/\PE X b h/\∀{σ:_L.St}{H F:Hp}{ρ ρ':List Sl}{j:D×D}{R:V->V->Hp->Prop},GS X.K F ρ σ H->iR (isVar pa) (_H.ev c pa) (isVar pb) (_H.ev c pb) ρ=.ok j ρ'->(∀v u w l,az X.K F ρ σ H w ρ' σ l->dw X.K w l v j.1->dw X.K w l u j.2->R v u l)->J σ H λx z=>h σ z λy A=>R x y A:=by obtain⟨h,m,o⟩:=M.cN;cases hv:isVar pa with|none=>refine⟨_,h,I.ev,m,λ{σ H F ρ ρ' j R}g e k=>?_⟩;obtain⟨x,B,q,e⟩:=aa e;obtain⟨y,ρ2,f,e⟩:=aa e;cases e;obtain⟨r,L,q,C⟩:=aa q;cases C;refine⟨F,ρ,r,_,g,q,λv w l s N=>?_⟩;obtain⟨F1,s1,_,O⟩:=s.cQ N;refine o s1.gs f λu F2 A s2 E=>?_;exact k v u F2 A (s1.trans s2) (.inl (O.mono s2.bT)) E|some i=>refine⟨_,h,I.var i hv,m,λ{σ H F ρ ρ' j R}g e k=>?_⟩;obtain⟨x0,Q,C,e⟩:=aa e;obtain⟨G,U⟩:=aD C;subst U;obtain⟨y,B,q,e⟩:=aa e;obtain⟨x,ρ2,f,e⟩:=aa e;cases e;have W:=aD f;clear f;obtain⟨f,Y⟩:=W;subst Y;obtain⟨v,h1,_⟩:=g.pk G;refine⟨v,h1,o g q λu F1 z s1 E=>?_⟩;obtain⟨v',t,Z⟩:=s1.gs.pk f;rw[h1]at t;cases t;exact k v u F1 z s1 Z E
inductive rD(K:PySem.W.Frag)(f:D->D->Option R)(x y:V)(H:Hp)(Q:VK):Prop where|mk(F:Hp)(d e:D)(r:R)(sm:aB F H)(px:dw K F H x d)(py:dw K F H y e)(he:f d e=al r)(k:∀v F' H',Ext F H F' H'->cH K F' H' H v r->Q v H')
inductive rD1(K:PySem.W.Frag)(f:D->Option R)(x:V)(H:Hp)(Q:VK):Prop where|mk(F:Hp)(d:D)(r:R)(sm:aB F H)(px:dw K F H x d)(he:f d=al r)(k:∀v F' H',Ext F H F' H'->cH K F' H' H v r->Q v H')
theorem wG{E:df}{f:D->D->Option R}{q:P}(t:∀{m o},PE X a m->PE X b o->PE X E (Uz (rD X.K f) m o))(y:SX X c a pa)(z:SX X c b pb)(A:∀ρ,_H.ev c q ρ=(_H.iR (isVar pa) (_H.ev c pa) (isVar pb) (_H.ev c pb) ρ).bind λj ρ=>lift (f j.1 j.2) ρ)(B:isVar q=bdq):SX X c E q:=by obtain⟨m,o,h1,C,G⟩:=y.iR z;refine⟨dG (t h1 C) ?_,λi h=>by rw[B]at h;cases h⟩;rintro σ H Q⟨F,ρ,r,ρ',g,e,k⟩;rw[A]at e;obtain⟨j,I,J,l⟩:=aa e;have L:=aD l;clear l;obtain⟨l,M⟩:=L;subst M;refine G g J λv u N Z s O U=>⟨N,j.1,j.2,r,s.gs.sub,O,U,l,λw F2 W x Y=>?_⟩;exact k w F2 W (s.trans (x.stp s.gs)) (.later s (Y.pD s.gs))
theorem Vn{E:df}{f:D->Option R}{q:P}(m:∀{l},PE X a l->PE X E (tUn (rD1 X.K f) l))(o:SX X c a pa)(t:∀ρ,_H.ev c q ρ=(_H.cN (isVar pa) (_H.ev c pa) ρ).bind λx ρ=>lift (f x) ρ)(u:isVar q=bdq):SX X c E q:=by obtain⟨l,h1,y⟩:=o.cN;refine⟨dG (m h1) ?_,λi h=>by rw[u]at h;cases h⟩;rintro σ H Q⟨F,ρ,r,ρ',g,e,k⟩;rw[t]at e;obtain⟨x,z,A,j⟩:=aa e;have B:=aD j;clear j;obtain⟨j,C⟩:=B;subst C;refine y g A λv G M s I=>⟨G,x,r,s.gs.sub,I,j,λw F2 J x L=>?_⟩;exact k w F2 J (s.trans (x.stp s.gs)) (.later s (L.pD s.gs))
theorem GS.freeze{b:Bool}(g:GS K F ρ σ H)(e:ρ[i]?=al (.own b ds)):∃v z,σ[i]?=al (al v)/\az K F ρ σ H z (ρ.set i (.val b (.lst ds))) σ H/\Rep K z v (.lst ds):=by
 obtain⟨a,xs,h1,C,E,G⟩:=g.mW i _ ds e rfl;have hi:i<ρ.length:=(dX e).1;have sm:aB F (upd F a (.lst xs)):=aB.bF E;have A:Rep K (upd F a (.lst xs)) (.ref a) (.lst ds):=by rw[Rep];exact⟨a,xs,rfl,dF.of aC,G.mono sm⟩
 have I:Own ρ σ a:=⟨i,⟨_,_,e,rfl⟩,h1⟩;have r:∀j x,aX (ρ.set i (.val b (.lst ds))) σ j x->aX ρ σ j x/\j≠i:=λj x⟨⟨s,h,m,u⟩,y⟩=>by
  by_cases f:j=i;.subst f;rw[cp hi]at m;cases m;cases u
  .rw[fj f]at m;exact⟨⟨⟨s,h,m,u⟩,y⟩,f⟩
 refine⟨.ref a,upd F a (.lst xs),h1,⟨⟨λx o q=>?_,by simpa using g.len,λj J d q=>?_,λj s h q w=>?_,λj k x q w=>g.dis j k x (r j x q).1 (r k x w).1⟩,sm,λx n B=>?_,λ_ _ q _=>q,λx⟨j,q⟩=>.inl ⟨j,(r j x q).1⟩,by simp,λj s q l=>⟨rfl,?_⟩⟩,A⟩
 . by_cases t:x=a;.subst t;rw[aC]at q;cases q;exact C
   .rw[ao t]at q;exact g.sub x o q
 . by_cases f:j=i;.subst f;rw[cp hi]at q;cases q;exact⟨_,h1,A⟩
   .rw[fj f]at q;obtain⟨v,m,u⟩:=g.val j J d q;exact⟨v,m,u.mono sm⟩
 . by_cases f:j=i;.subst f;rw[cp hi]at q;cases q;cases w
   . rw[fj f]at q;obtain⟨x,ys,m,u,y,L⟩:=g.own j s h q w;have t:x≠a:=by rintro rfl;exact f (g.dis j i x ⟨⟨s,h,q,w⟩,m⟩ ⟨⟨_,_,e,rfl⟩,h1⟩)
     exact⟨x,ys,m,u,by rw[ao t];exact y,L.mono sm⟩
 . by_cases t:x=a;.subst t;exact .inl I
   .rw[ao t]at B;exact absurd n B
 . by_cases f:j=i;.subst f;rw[e]at q;cases q;refine⟨_,cp hi,?_⟩;cases b with|true=>exact .inr ⟨_,rfl⟩|false=>cases l
   .exact⟨s,by rw[fj f];exact q,.refl s⟩
theorem GS.Em{m:Dc}(g:GS K F ρ σ H)(e:ρ[i]?=al (.gY m)):∃a,σ[i]?=al (al (.ref a))/\H a=al m.ho/\∀u,az K F ρ σ H (upd F a (.cQ u m.ho)) (ρ.set i (.val a7 (.dz m))) σ (upd H a (.cQ u m.ho))/\Rep K (upd F a (.cQ u m.ho)) (.ref a) (.dz m):=by
 obtain⟨a,G,h1,I,J,L⟩:=g.own i _ _ e rfl;cases(show G=m.ho from L);have hi:i<ρ.length:=(dX e).1;refine⟨a,h1,I,λu=>?_⟩;have sm:aB F (upd F a (.cQ u m.ho)):=aB.bF J;have B:Rep K (upd F a (.cQ u m.ho)) (.ref a) (.dz m):=by rw[Rep];exact⟨a,u,rfl,aC⟩
 have C:Own ρ σ a:=⟨i,⟨_,_,e,rfl⟩,h1⟩;have w:∀j x,aX (ρ.set i (.val a7 (.dz m))) σ j x->aX ρ σ j x/\j≠i:=λj x⟨⟨s,r,t,y⟩,A⟩=>by
  by_cases f:j=i;.subst f;rw[cp hi]at t;cases t;cases y
  .rw[fj f]at t;exact⟨⟨⟨s,r,t,y⟩,A⟩,f⟩
 refine⟨⟨⟨λx o q=>?_,by simpa using g.len,λj M d q=>?_,λj s r q z=>?_,λj k x q z=>g.dis j k x (w j x q).1 (w k x z).1⟩,sm,λx n E=>?_,λx o q n=>?_,λx⟨j,q⟩=>.inl ⟨j,(w j x q).1⟩,by simp,λj s q l=>⟨rfl,?_⟩⟩,B⟩
 . by_cases h:x=a;.subst h;rw[aC]at q ⊢;exact q
   .rw[ao h]at q ⊢;exact g.sub x o q
 . by_cases f:j=i;.subst f;rw[cp hi]at q;cases q;exact⟨_,h1,B⟩
   .rw[fj f]at q;obtain⟨v,t,y⟩:=g.val j M d q;exact⟨v,t,y.mono sm⟩
 . by_cases f:j=i;.subst f;rw[cp hi]at q;cases q;cases z
   . rw[fj f]at q;obtain⟨x,ys,t,y,A,N⟩:=g.own j s r q z;have h:x≠a:=by rintro rfl;exact f (g.dis j i x ⟨⟨s,r,q,z⟩,t⟩ ⟨⟨_,_,e,rfl⟩,h1⟩)
     exact⟨x,ys,t,by rw[ao h];exact y,by rw[ao h];exact A,N.mono sm⟩
 . by_cases h:x=a;.subst h;exact .inl C
   .rw[ao h]at E;exact absurd n E
 . have h:x≠a:=by rintro rfl;exact n C
   rw[ao h];exact q
 . by_cases f:j=i;.subst f;rw[e]at q;cases q;cases l
   .exact⟨s,by rw[fj f];exact q,.refl s⟩
theorem GS.CV{kvs:List (Int×D)}(g:GS K F ρ σ H)(e:ρ[i]?=al (.cM kvs)):∃a vs,σ[i]?=al (al (.ref a))/\H a=al (Es (kvs.map (·.1)) vs)/\∀t,az K F ρ σ H (upd F a (.cQ t (Es (kvs.map (·.1)) vs))) (ρ.set i (.val a7 (.dv (kvs.map (·.1)) (kvs.map (·.2))))) σ (upd H a (.cQ t (Es (kvs.map (·.1)) vs)))/\Rep K (upd F a (.cQ t (Es (kvs.map (·.1)) vs))) (.ref a) (.dv (kvs.map (·.1)) (kvs.map (·.2))):=by
 obtain⟨a,N,h1,E,G,I⟩:=g.own i _ _ e rfl;obtain⟨vs,rfl,J⟩:=I;have hi:i<ρ.length:=(dX e).1;refine⟨a,vs,h1,E,λt=>?_⟩;have sm:aB F (upd F a (.cQ t (Es (kvs.map (·.1)) vs))):=aB.bF G;have A:Rep K (upd F a (.cQ t (Es (kvs.map (·.1)) vs))) (.ref a) (.dv (kvs.map (·.1)) (kvs.map (·.2))):=by rw[Rep];exact⟨a,t,vs,rfl,aC,J.mono sm,by simp⟩
 have B:Own ρ σ a:=⟨i,⟨_,_,e,rfl⟩,h1⟩;have u:∀j x,aX (ρ.set i (.val a7 (.dv (kvs.map (·.1)) (kvs.map (·.2))))) σ j x->aX ρ σ j x/\j≠i:=λj x⟨⟨s,m,r,w⟩,z⟩=>by
  by_cases f:j=i;.subst f;rw[cp hi]at r;cases r;cases w
  .rw[fj f]at r;exact⟨⟨⟨s,m,r,w⟩,z⟩,f⟩
 refine⟨⟨⟨λx o q=>?_,by simpa using g.len,λj L d q=>?_,λj s m q y=>?_,λj k x q y=>g.dis j k x (u j x q).1 (u k x y).1⟩,sm,λx n C=>?_,λx o q n=>?_,λx⟨j,q⟩=>.inl ⟨j,(u j x q).1⟩,by simp,λj s q l=>⟨rfl,?_⟩⟩,A⟩
 . by_cases h:x=a;.subst h;rw[aC]at q ⊢;exact q
   .rw[ao h]at q ⊢;exact g.sub x o q
 . by_cases f:j=i;.subst f;rw[cp hi]at q;cases q;exact⟨_,h1,A⟩
   .rw[fj f]at q;obtain⟨v,r,w⟩:=g.val j L d q;exact⟨v,r,w.mono sm⟩
 . by_cases f:j=i;.subst f;rw[cp hi]at q;cases q;cases y
   . rw[fj f]at q;obtain⟨x,ys,r,w,z,M⟩:=g.own j s m q y;have h:x≠a:=by rintro rfl;exact f (g.dis j i x ⟨⟨s,m,q,y⟩,r⟩ ⟨⟨_,_,e,rfl⟩,h1⟩)
     exact⟨x,ys,r,by rw[ao h];exact w,by rw[ao h];exact z,M.mono sm⟩
 . by_cases h:x=a;.subst h;exact .inl B
   .rw[ao h]at C;exact absurd n C
 . have h:x≠a:=by rintro rfl;exact n B
   rw[ao h];exact q
 . by_cases f:j=i;.subst f;rw[e]at q;cases q;cases l
   .exact⟨s,by rw[fj f];exact q,.refl s⟩
theorem Inv.Hj{X:Cx}{f:List (b_×Obj)}{s:bZ}{a:b_}{kvs:List (Key×V)}(I:_L.Inv X f σ H s)(h:H a=al (.dK kvs)):∃o,_L.Inv X f σ (upd H a (.cQ o (.dK kvs))) s:=by obtain⟨hz,j,vs,r,g⟩:=(show bI X.prog X.w H s.heap a (.dK kvs)from I.hok a _ h);obtain⟨o,ho,_⟩:=g.typeIs;exact⟨o,I.write (h':=s.heap) (t':=s.toks) (by rw[h];exact trivial) (.inl rfl) (λb u _ e=>e) ⟨o,ho⟩ ⟨ho,hz,j,vs,r,g⟩⟩
theorem U0(z:X.N[i]?=al x)(A:vC X.env.scope x)(hd:(x==("__debug__":Str))=a7:=by decide)(t:(x==("__classdict__":Str))=a7:=by decide):SX X c (.Name x pos) (.var i):=by
 have h:=eU (X:=X) (pos:=pos) z A hd t;refine⟨?_,λj B=>by cases B;exact h⟩;rintro f s σ H Q I⟨F,ρ,r,ρ',g,e,k⟩;rw[_H.E1]at e;split at e;.rename_i b d q;cases e;obtain⟨v,h1,l⟩:=g.val i b d q;exact h f s σ H Q I ⟨v,h1,k v F H (.refl g) l⟩
 .rename_i b ds q;cases e;obtain⟨v,C,h1,l,m⟩:=g.freeze q;exact h f s σ H Q I ⟨v,h1,k v C H l m⟩
 .rename_i kvs q;cases e;obtain⟨a,h1,l,m⟩:=g.Em q;refine cB (h f s σ H (λv w=>v=.ref a/\w=H) I ⟨.ref a,h1,rfl,rfl⟩) λu s1⟨v,H1,I1,r1,e1,e2⟩=>?_;subst e1 e2;obtain⟨o,y⟩:=Inv.Hj I1 l;exact⟨.ref a,_,y,r1,k _ _ _ (m o).1 (m o).2⟩
 .rename_i kvs q;cases e;obtain⟨a,vs,h1,l,m⟩:=g.CV q;refine cB (h f s σ H (λv w=>v=.ref a/\w=H) I ⟨.ref a,h1,rfl,rfl⟩) λu s1⟨v,H1,I1,r1,e1,e2⟩=>?_;subst e1 e2;obtain⟨o,y⟩:=Inv.Hj I1 l;exact⟨.ref a,_,y,r1,k _ _ _ (m o).1 (m o).2⟩
 .cases e
theorem zA{d:D}(h:PE X e (tC v))(hr:∀F,Rep X.K F v d):SX X c e (.con d):=⟨dG h λσ H Q⟨F,ρ,r,ρ',g,e,k⟩=>by rw[_H.E2]at e;cases e;exact k v F H (.refl g) (hr F),λi h=>by cases h⟩
theorem aj{i j}:SX X c (.Constant (.int i) j pos) (.con (.int i)):=zA jM λF=>by rw[Rep]
theorem gh{i j}:SX X c (.Constant (.bool i) j pos) (.con (.bl i)):=zA Z9 λF=>by rw[Rep]
theorem wC{j}:SX X c (.Constant .none j pos) (.con .non):=zA V3 λF=>by rw[Rep]
theorem dw.int{K:PySem.W.Frag}{F H:Hp}{v:V}{i:Int}(h:dw K F H v (.int i)):v=.int i:=by
 rcases h with h|⟨_,_,_,_,_,_,h⟩;.rw[Rep]at h;exact h
 .cases h
theorem dw.bl{K:PySem.W.Frag}{F H:Hp}{v:V}{i:Bool}(h:dw K F H v (.bl i)):v=.bl i:=by
 rcases h with h|⟨_,_,_,_,_,_,h⟩;.rw[Rep]at h;exact h
 .cases h
theorem dw.str{K:PySem.W.Frag}{F H:Hp}{v:V}{i:Str}(h:dw K F H v (.str i)):v=.str i:=by
 rcases h with h|⟨_,_,_,_,_,_,h⟩;.rw[Rep]at h;exact h
 .cases h
theorem dw.non{K:PySem.W.Frag}{F H:Hp}{v:V}(h:dw K F H v .non):v=.non:=by
 rcases h with h|⟨_,_,_,_,_,_,h⟩;.rw[Rep]at h;exact h
 .cases h
theorem dw.tup{K:PySem.W.Frag}{F H:Hp}{v:V}{ds:List D}(s:aB F H)(h:dw K F H v (.tup ds)):∃a xs,v=.ref a/\iB K H a xs/\aF K F xs ds/\Rep K F v (.tup ds):=by
 rcases h with h|⟨_,_,_,_,_,_,h⟩;.have h':=h;rw[Rep]at h;obtain⟨a,xs,rfl,h1,f⟩:=h;exact⟨a,xs,rfl,aB.gU s h1,f,h'⟩
 .cases h
theorem dw.lst{K:PySem.W.Frag}{F H:Hp}{v:V}{ds:List D}(s:aB F H)(h:dw K F H v (.lst ds)):∃a xs,v=.ref a/\dF K H a xs/\aF K F xs ds:=by
 rcases h with h|⟨a,xs,es,h1,f,g,h⟩;.rw[Rep]at h;obtain⟨a,xs,rfl,h1,f⟩:=h;exact⟨a,xs,rfl,s.seq h1,f⟩
 .cases h;exact⟨a,xs,h1,dF.of f,g⟩
theorem dw.dz{m:Dc}(s:aB F H)(h:dw K F H v (.dz m)):∃a o,v=.ref a/\H a=al (.cQ o m.ho):=by
 rcases h with h|⟨_,_,_,_,_,_,h⟩;.rw[Rep]at h;obtain⟨a,o,rfl,h⟩:=h;exact⟨a,o,rfl,s _ _ h⟩
 .cases h
theorem JR{X:Cx}{f:List (b_×Obj)}{s:bZ}{a:b_}{g:Obj}{m:Dc}(I:_L.Inv X f σ H s)(h:H a=al (.cQ g m.ho)):∃o,s.heap.get? a=al o/\o.cls=.type "dict":=by have z:=(show bI X.prog X.w H s.heap a (.cQ g m.ho)from I.hok a _ h).2;cases m with|k kvs=>obtain⟨_,_,vs,_,d2⟩:=(show bI X.prog X.w H s.heap a (.dK _)from z);exact d2.typeIs|t kvs=>obtain⟨_,_,xs,_,o,es,ep,h1,j,_⟩:=(show bI X.prog X.w H s.heap a (.dT _)from z);exact⟨o,h1,j.1⟩
theorem dw.dv{ks:List Int}(s:aB F H)(h:dw K F H v (.dv ks ds)):∃a o vs,v=.ref a/\H a=al (.cQ o (Es ks vs))/\aF K F vs ds/\ks.length=ds.length:=by
 rcases h with h|⟨_,_,_,_,_,_,h⟩;.rw[Rep]at h;obtain⟨a,o,vs,rfl,h,h1,f⟩:=h;exact⟨a,o,vs,rfl,s _ _ h,h1,f⟩
 .cases h
theorem HR{X:Cx}{f:List (b_×Obj)}{s:bZ}{a:b_}{g:Obj}{ks:List Int}{vs:List V}(I:_L.Inv X f σ H s)(h:H a=al (.cQ g (Es ks vs))):∃o,s.heap.get? a=al o/\o.cls=.type "dict":=by have z:=(show bI X.prog X.w H s.heap a (.cQ g (Es ks vs))from I.hok a _ h).2;obtain⟨_,_,vs,_,d2⟩:=(show bI X.prog X.w H s.heap a (.dK _)from z);exact d2.typeIs
theorem dw.items{d:D}(s:aB F H)(h:dw K F H v d)(e:items d=al ds):∃a xs,v=.ref a/\(dF K H a xs\/iB K H a xs)/\aF K F xs ds:=by cases d with|tup es=>cases e;obtain⟨a,xs,h1,f,g,_⟩:=h.tup s;exact⟨a,xs,h1,.inr f,g⟩|lst es=>cases e;obtain⟨a,xs,h1,f,g⟩:=h.lst s;exact⟨a,xs,h1,.inl f,g⟩|_=>cases e
theorem cH.cY{Q:VK}{d:D}(s:aB F H)(r:Rep K F v d)(k:∀v g f,Ext F H g f->cH K g f H v (.val d)->Q v f):Q v H:=k v F H (.refl s) r
theorem cu(i:Int):Rep K F (.int i) (.int i):=by rw[Rep]
theorem dZ(i:Bool):Rep K F (.bl i) (.bl i):=by rw[Rep]
theorem Vb(i:Str):Rep K F (.str i) (.str i):=by rw[Rep]
theorem Tn:Rep K F .non .non:=by rw[Rep]
theorem Bl{Q:VK}{xs:List V}{p:b_}(s:aB F H)(r:aF K F xs ds)(f:H p=bdq)(k:∀v h g,Ext F H h g->cH K h g H v (.own ds)->Q v g):Q (.ref p) (upd H p (.lst xs)):=by
 have j:F p=bdq:=by cases q:F p with|none=>rfl|some o=>rw[s p o q]at f;cases f
 exact k _ F _ ⟨aB.bF f,.refl _,s.trans (aB.bF f),λ_ a b=>absurd a b⟩ ⟨p,xs,rfl,aC,j,r,f⟩
theorem An{Q:VK}{xs:List V}{p:b_}(s:aB F H)(r:aF K F xs ds)(g:H p=bdq)(k:∀v j h,Ext F H j h->cH K j h H v (.val (.tup ds))->Q v h):Q (.ref p) (upd H p (.tup xs)):=by
 have m:F p=bdq:=by cases q:F p with|none=>rfl|some o=>rw[s p o q]at g;cases g
 have sm:aB F (upd F p (.tup xs)):=aB.bF m;refine k _ (upd F p (.tup xs)) _ ⟨aB.bF g,sm,λb o e=>?_,λb n l=>?_⟩ ?_
 . by_cases f:b=p;.subst f;rw[aC]at e ⊢;exact e
   .rw[ao f]at e ⊢;exact s b o e
 . by_cases f:b=p;.subst f;exact gw g
   .rw[ao f]at l;exact absurd n l
 .show Rep K _ _ (.tup ds);rw[Rep];exact⟨p,xs,rfl,iB.of aC,r.mono sm⟩
end
theorem tD(k:Int)(t:Tok)(l:b_)(a:Array bw)(n:Nat)(b:Option b_)(sl:Array (Option bw)):m2 (io.«int.__rmul__» ⟨[.int k t,.ref l],[]⟩) (λ_ R s=>s.heap.get? l=al ⟨.type "list",b,.seq a n,sl⟩/\R (.ok (.ret kL)) s):=.of_wp λprog w A R s h=>by obtain⟨c,g,d,tk,os⟩:=s;obtain⟨e,h⟩:=h;wp_walk;exact⟨_,rfl,h⟩
theorem Gp(l:b_)(a:Array bw)(n:Nat)(b:Option b_)(sl:Array (Option bw))(k:Int)(t:Tok)(h0:¬(!Builtin.List.listFitsIndex k)=bx)(h1:¬a.size*k.toNat>(2^63-1)/8)(c:¬rS (a.size*k.toNat)=bx):m2 (io.«list.__mul__» ⟨[.ref l,.int k t],[]⟩) (λ_ R s=>s.heap.get? l=al ⟨.type "list",b,.seq a n,sl⟩/\R (.ok (.ret (dS s.heap.objs.size))) {s with heap:=s.heap.push {cls:=.type "list",data:=.seq (rV (·++·) #[] (cq (if a.isEmpty=bx then 0 else k.toNat) a))}}):=.of_wp λprog w A R s h=>by obtain⟨f,g,d,tk,os⟩:=s;obtain⟨e,h⟩:=h;have hz:=AutoListH.joined_fits c;wp_walk using fN e;refine wpAny_ite_false (decide_eq_false (Nat.not_lt.mpr hz)) ?_;wp_walk;exact⟨_,rfl,h⟩
section
variable{X:Cx}{c:Call}{e a b d:df}{p pa pb pd:P}{pos:Pos}
theorem O9:fX X (fx .Add) (λx y H Q=>∃l b xs o,x=.ref l/\y=.ref b/\dF X.K H l xs/\dF X.K H b o/\xs.length+o.length<=sizeLine/\∀p,H p=bdq->Q (.ref p) (upd H p (.lst (xs++o)))):=by
 intro z s σ H x y v u Q I C E h;obtain⟨l,b,xs,o,rfl,rfl,G,J,hz,q⟩:=h;cases C;cases E;obtain⟨g,r,L,_⟩:=I.list G;obtain⟨f,A,M,_⟩:=I.list J;obtain⟨⟨cls,N,data,sl⟩,ho,hc,n,hd⟩:=id L.isList;obtain⟨⟨B,t,data2,w⟩,j,k,O,m⟩:=id M.isList;simp only at hc hd k m;subst hc hd k m;have e:g.toArray++f.toArray=(g++f).toArray:=by simp
 refine mT ⟨_,ho,rfl⟩ ⟨_,j,rfl⟩ noFill_list_add seq_list_add PySem.F.slot_list_add PySem.F.entry_list_add (PySem.F.args_list_add_2 _ _) (list_addW l b g.toArray f.toArray n O N t sl w (by simp only[cx];rw[<-r.length,<-A.length];exact hz)) ⟨ho,j,?_⟩;rw[e];exact⟨.ref _,_,I.V7 (t':=s.toks) (r.append A) (by rw[eB];exact hz),rfl,q _ I.fresh⟩
theorem KY:fX X (fx .Add) (λx y H Q=>∃a b ys,x=.ref a/\y=.ref b/\iB X.K H a []/\iB X.K H b ys/\Q (.ref b) H):=by intro r s σ H x y v u Q I w z h;obtain⟨a,b,ys,rfl,rfl,A,B,q⟩:=h;cases w;cases z;obtain⟨l,r1,p1,_⟩:=I.tuple A;obtain⟨f,J,p2,_⟩:=I.tuple B;obtain⟨⟨cls,C,data,sl⟩,ho,hc,n,hd⟩:=id p1;obtain⟨⟨t,m,data2,o⟩,g,j,E,k⟩:=id p2;simp only at hc hd j k;subst hc hd j k;have G:l=[]:=r1.pO.mpr rfl;subst G;exact mT ⟨_,ho,rfl⟩ ⟨_,g,rfl⟩ nv pE slot_tuple_add entry_tuple_add (args_tuple_add_2 _ _) (tuple_addW0 a b _ f.toArray n E C m sl o (by simp)) ⟨ho,g,⟨.ref b,H,I,rfl,q⟩⟩
theorem bR:fX X (fx .Add) (rD X.K (tu .add)):=by
 rintro f s σ H x y v u Q I g h⟨F,d,e,r,sm,o,q,he,k⟩;replace he:qg d e=al r:=he;unfold qg at he;split at he;.cases he;rw[o.int]at g;rw[q.int]at h;exact VJ f s σ H _ _ v u Q I g h ⟨_,_,rfl,rfl,cH.cY sm (cu _) k⟩
 .rename_i xs ys;obtain⟨m,he⟩:=bf he;subst he;obtain⟨a,vs,rfl,t,j⟩:=o.lst sm;obtain⟨b,w,rfl,z,l⟩:=q.lst sm;exact O9 f s σ H _ _ v u Q I g h ⟨a,b,vs,w,rfl,rfl,t,z,by rw[j.length,l.length];exact m,λp A=>Bl sm (j.append l) A k⟩
 . rename_i xs ys;obtain⟨m,he⟩:=bf he;subst he;obtain⟨a,vs,rfl,t,j,C⟩:=o.tup sm;obtain⟨b,w,rfl,z,l,E⟩:=q.tup sm;by_cases h0:vs=[]
   . subst h0;have B:xs=[]:=by have:=j.length;exact gN this.symm
     subst B;exact KY f s σ H _ _ v u Q I g h ⟨a,b,w,rfl,rfl,t,z,cH.cY sm E k⟩
   . refine Nh f s σ H _ _ v u Q I g h ⟨a,b,vs,w,rfl,rfl,t,z,h0,by rw[j.length,l.length];exact m,λe=>?_,λ_ p A=>An sm (j.append l) A k⟩;subst e;have B:ys=[]:=by have:=l.length;exact gN this.symm
     subst B;rw[fo]at k;exact cH.cY sm C k
 .rename_i G J;obtain⟨m,he⟩:=bf he;subst he;rw[o.str]at g;rw[q.str]at h;exact zH f s σ H _ _ v u Q I g h ⟨_,_,rfl,rfl,m,cH.cY sm (Vb _) k⟩
 .cases he
theorem fL:fX X (fx .Sub) (rD X.K (tu .sub)):=by
 rintro f s σ H x y v u Q I g h⟨F,d,e,r,sm,j,l,he,k⟩;replace he:xx d e=al r:=he;unfold xx at he;split at he;.cases he;rw[j.int]at g;rw[l.int]at h;exact Tt f s σ H _ _ v u Q I g h ⟨_,_,rfl,rfl,cH.cY sm (cu _) k⟩
 .cases he
theorem Ni:fX X (fx .Mult) (λx y H Q=>∃l k xs,x=.ref l/\y=.int k/\dF X.K H l xs/\-(2^63)<=k/\k<2^63/\xs.length*k.toNat<=sizeLine/\∀p,H p=bdq->Q (.ref p) (upd H p (.lst (cq k.toNat xs).flatten))):=by
 intro w s σ H x y v u Q I A B h;obtain⟨l,k,xs,rfl,rfl,C,h1,E,hz,q⟩:=h;cases A;obtain⟨t,rfl⟩:=B;obtain⟨f,r,G,_⟩:=I.list C;obtain⟨⟨cls,z,data,sl⟩,ho,hc,n,hd⟩:=id G.isList;simp only at hc hd;subst hc hd;have g:f.toArray.size*k.toNat<=sizeLine:=by rw[cx,<-r.length];exact hz
 have o:¬ f.toArray.size*k.toNat>(2^63-1)/8:=by
  have:(sizeLine:Nat)<=(2^63-1)/8:=by decide
  omega
 have j:rV (·++·) #[] (cq (if f.toArray.isEmpty=bx then 0 else k.toNat) f.toArray)=(cq k.toNat f).flatten.toArray:=by
  have f0:∀m:Nat,rV (·++·) #[] (cq m f.toArray)=(cq m f).flatten.toArray:=λm=>by have:=foldl_rep f m [];rw[mn]at this;exact this
  rw[f0];cases f with|nil=>simp|cons a L=>rw[if_neg (by simp)]
 refine oT (T:="list") (U:="int") (by decide) ⟨_,ho,rfl⟩ (λJ=>mi J k t) noFill_list_mul F.fills_int_mul F.slot_int_rmul repeat_list F.slot_int_index.lookup ?_;refine mo F.slot_int_rmul (mi s k t) F.entry_int_rmul (F.args_int_rmul_2 _ _) (tD k t l f.toArray n z sl) ⟨ho,rfl,⟨_,ho,rfl⟩,?_⟩;refine mo F.slot_list_mul ⟨_,ho,rfl⟩ F.entry_list_mul (F.args_list_mul_2 _ _) (Gp l f.toArray n z sl k t (by rw[fitsIndex_both h1 E];exact c_) o (by rw[Lb g];exact c_)) ⟨ho,?_⟩;rw[j];exact⟨.ref _,_,I.V7 (t':=s.toks) (r.rep k.toNat) (by rw[len_rep,oq];exact hz),rfl,q _ I.fresh⟩
theorem ou:fillsNumberSlot (.type "tuple") "mul"=eS a7:=PySem.fillsNumberSlot_seq (id:="tuple.__mul__") (r:=al (.builtin "tuple.__rmul__")) slot_tuple_mul.lookup (by decide+kernel) PySem.F.slot_tuple_rmul.lookup (by decide+kernel)
theorem u0:seqRepeat? (.type "tuple")=eS (al (.builtin "tuple.__mul__")):=by unfold seqRepeat?;rw[PySem.seqSlot_of (T:="tuple") (name:="__mul__") (id:="tuple.__mul__") slot_tuple_mul.lookup (by decide+kernel),PySem.seqSlot_of (T:="tuple") (name:="__rmul__") (id:="tuple.__rmul__") PySem.F.slot_tuple_rmul.lookup (by decide+kernel)];rfl
theorem qK(k:Int)(t:Tok)(l:b_)(f:Array bw)(n:Nat)(j:Option b_)(sl:Array (Option bw)):m2 (io.«int.__rmul__» ⟨[.int k t,.ref l],[]⟩) (λ_ R s=>s.heap.get? l=al ⟨.type "tuple",j,.seq f n,sl⟩/\R (.ok (.ret kL)) s):=.of_wp λprog w A R s h=>by obtain⟨m,g,d,tk,os⟩:=s;obtain⟨o,h⟩:=h;wp_walk;exact⟨_,rfl,h⟩
theorem Bf(l:b_)(f:Array bw)(n:Nat)(r:Option b_)(sl:Array (Option bw))(k:Int)(t:Tok)(h0:0<=k)(h1:k<2^63)(hz:f.size*k.toNat<=sizeLine)(u:0<f.size):m2 (io.«tuple.__mul__» ⟨[.ref l,.int k t],[]⟩) (λ_ R s=>s.heap.get? l=al ⟨.type "tuple",r,.seq f n,sl⟩/\(k=1->R (.ok (.ret (dS l))) s)/\(k≠1->R (.ok (.ret (dS s.heap.objs.size))) {s with heap:=s.heap.push {cls:=.type "tuple",data:=.seq (rV (·++·) #[] (cq k.toNat f))}})):=.of_wp λprog w A R s h=>by
  obtain⟨y,g,d,tk,os⟩:=s;obtain⟨o,z,B⟩:=h;have j:f.isEmpty=a7:=by cases e:f.isEmpty with|false=>rfl|true=>rw[Array.isEmpty_iff_size_eq_zero]at e;omega
  show cy _ _ (asIndex (.int k t)>>=_) _ _ _;wp_walk using fN o;have C:qa y l f:=⟨_,o,rfl,n,rfl⟩;rw[if_neg (by simp;omega)];refine a_ (PyProof.Rows.tupleItemsOf_ C ?_);try dsimp only
  by_cases m:k=1;.rw[if_pos (by simp[m])];wp_walk using fN o;exact⟨_,rfl,z m⟩
  . have q:=B m;rw[if_neg (by simp[j,m])];by_cases E:k=0;.subst E;rw[if_pos (by simp)];unfold i7;refine a_ (ek ?_);exact cr ⟨_,rfl,q⟩
    . have I:(f.size:Int)*k<=sizeLine:=by
       have:((f.size*k.toNat:Nat):Int)<=(sizeLine:Nat):=by exact_mod_cast hz
       rw[Int.natCast_mul,show((k.toNat:Nat):Int)=k by omega]at this;exact this
      have G:(sizeLine:Int)<=(2^63-1)/8:=by decide
      rw[if_neg (by simp[j];omega),if_neg (by omega),if_neg (by simp[Builtin.Tuple.tupleTooMany];omega)];unfold i7;refine a_ (ek ?_ ?_);.exact cr ⟨_,rfl,q⟩
      .have:=foldl_rep f.toList k.toNat [];rw[mn,show f.toList.toArray=f by simp]at this;show(rV (·++·) #[] (cq k.toNat f)).size<=sizeLine;rw[show(#[]:Array bw)=([]:List bw).toArray from rfl,this,cx,len_rep,ja,oq];exact hz
theorem Pq:fX X (fx .Mult) (λx y H Q=>∃l k xs,x=.ref l/\y=.int k/\iB X.K H l xs/\0<xs.length/\0<=k/\k<2^63/\xs.length*k.toNat<=sizeLine/\(k=1->Q (.ref l) H)/\(k≠1->∀p,H p=bdq->Q (.ref p) (upd H p (.tup (cq k.toNat xs).flatten)))):=by
 intro w s σ H x y v u Q I A B h;obtain⟨l,k,xs,rfl,rfl,C,m,h1,E,hz,G,J⟩:=h;cases A;obtain⟨t,rfl⟩:=B;obtain⟨f,r,L,_⟩:=I.tuple C;obtain⟨⟨cls,z,data,sl⟩,ho,hc,n,hd⟩:=id L;simp only at hc hd;subst hc hd;have g:f.toArray.size*k.toNat<=sizeLine:=by rw[cx,<-r.length];exact hz
 have j:rV (·++·) #[] (cq k.toNat f.toArray)=(cq k.toNat f).flatten.toArray:=by have:=foldl_rep f k.toNat [];rw[mn]at this;exact this
 refine oT (T:="tuple") (U:="int") (by decide) ⟨_,ho,rfl⟩ (λM=>mi M k t) ou F.fills_int_mul F.slot_int_rmul u0 F.slot_int_index.lookup ?_;refine mo F.slot_int_rmul (mi s k t) F.entry_int_rmul (F.args_int_rmul_2 _ _) (qK k t l f.toArray n z sl) ⟨ho,rfl,⟨_,ho,rfl⟩,?_⟩;refine mo slot_tuple_mul ⟨_,ho,rfl⟩ PySem.F.entry_tuple_mul (PySem.F.args_tuple_mul_2 _ _) (Bf l f.toArray n z sl k t h1 E g (by rw[cx,<-r.length];exact m)) ⟨ho,λe=>⟨.ref l,H,I,rfl,G e⟩,λe=>?_⟩;rw[j];refine⟨.ref s.heap.objs.size,_,I.laid (t':=s.toks) (o:=.tup (cq k.toNat xs).flatten) (λb N q=>dB q) (dq) ?_,rfl,J e _ (I.hok.fresh (dq))⟩;exact⟨by rw[len_rep,oq];exact hz,_,r.rep k.toNat,kP _ _⟩
theorem dM:fX X (fx .Mult) (rD X.K (tu .mul)):=by
 rintro f s σ H x y v u Q I l g⟨F,d,e,r,sm,o,q,he,k⟩;replace he:lC d e=al r:=he;unfold lC at he;split at he;.obtain⟨hc,he⟩:=bf he;subst he;rw[o.int]at l;rw[q.int]at g;exact Vm f s σ H _ _ v u Q I l g ⟨_,_,rfl,rfl,hc,cH.cY sm (cu _) k⟩
 . rename_i xs i;obtain⟨⟨h1,m,j⟩,he⟩:=bf he;subst he;obtain⟨a,vs,rfl,t,h⟩:=o.lst sm;rw[q.int]at g;have w:i<2^63:=by have z:=ow i.toNat m;have B:i.toNat<=16777216:=g_ z j;omega
   exact Ni f s σ H _ _ v u Q I l g ⟨a,i,vs,rfl,rfl,t,by omega,w,by rw[h.length];exact j,λp A=>Bl sm (h.rep i.toNat) A k⟩
 . rename_i xs i;obtain⟨⟨h1,m,j⟩,he⟩:=bf he;subst he;obtain⟨a,vs,rfl,t,h,C⟩:=o.tup sm;rw[q.int]at g;have w:i<2^63:=by have z:=ow i.toNat m;have B:i.toNat<=16777216:=g_ z j;omega
   refine Pq f s σ H _ _ v u Q I l g ⟨a,i,vs,rfl,rfl,t,by rw[h.length];exact m,h1,w,by rw[h.length];exact j,λe=>?_,λe p A=>An sm (h.rep i.toNat) A k⟩;subst e;refine cH.cY sm ?_ k;have E:(cq (1:Int).toNat xs).flatten=xs:=by simp
   rw[E];exact C
 .cases he
theorem xJ:fX X (fx .FloorDiv) (rD X.K (tu .fdiv)):=by
 rintro f s σ H x y v u Q I g h⟨F,d,e,r,sm,l,m,he,k⟩;replace he:rK d e=al r:=he;unfold rK at he;split at he
 . rename_i i j;obtain⟨⟨h1,q⟩,he⟩:=bf he;subst he;rw[l.int]at g;rw[m.int]at h;obtain⟨t,rfl⟩:=g;obtain⟨t',rfl⟩:=h;have o:j.natAbs.log2<9000:=by
    have:j.natAbs<2^200:=by
     have:(2:Nat)^200=1606938044258990275541962092341162602522202993782792835301376:=by decide
     omega
    have w:=(Nat.log2_lt (by omega)).mpr this;omega
   exact floordiv_int (by omega) (by rw[Int.fdiv_eq_ediv_of_nonneg i (by omega)];exact⟨.int _,H,I.tok _,⟨_,rfl⟩,cH.cY sm (cu _) k⟩) (.inl (PyProof.noPylong_of_log2 o))
 .cases he
theorem fK:fX X (fx .Mod) (rD X.K (tu .mod)):=by
 rintro f s σ H x y v u Q I g h⟨F,d,e,r,sm,j,l,he,k⟩;replace he:xK d e=al r:=he;unfold xK at he;split at he;.obtain⟨h1,he⟩:=bf he;subst he;rw[j.int]at g;rw[l.int]at h;exact T9 f s σ H _ _ v u Q I g h ⟨_,_,rfl,rfl,h1,cH.cY sm (cu _) k⟩
 .cases he
theorem pM:fX X (fx .Pow) (rD X.K (tu .pow)):=by
 rintro f s σ H x y v u Q I g h⟨F,d,e,r,sm,j,l,he,k⟩;replace he:yr d e=al r:=he;unfold yr at he;split at he;.obtain⟨⟨h1,o,m⟩,he⟩:=bf he;subst he;rw[j.int]at g;rw[l.int]at h;exact Tc f s σ H _ _ v u Q I g h ⟨_,_,rfl,rfl,⟨h1,by omega,m⟩,cH.cY sm (cu _) k⟩
 .cases he
theorem aG{o:Op}{op:lp}(ho:fX X (fx op) (rD X.K (tu o)))(f:SX X c a pa)(g:SX X c b pb):SX X c (.BinOp a op b pos) (.bin o pa pb):=wG (λh1 h=>aaf ho h1 h) f g (λρ=>rfl) rfl
theorem vh(j:SX X c a pa):SX X c (.UnaryOp .USub a pos) (.neg pa):=by refine Vn (f:=HB) (λh1=>aaG ?_ h1) j (λρ=>rfl) rfl;rintro g s σ H x v Q I h⟨F,d,r,sm,l,he,k⟩;unfold HB at he;obtain⟨i,m,o⟩:=map_some he;subst o;cases d<;>cases m;rw[l.int]at h;exact Th g s σ H _ v Q I h ⟨_,rfl,cH.cY sm (cu _) k⟩
theorem Dl{f:Int->Int->Bool}(ho:fX X (dO op) (Mr λi j=>.bl (f i j))):fX X (dO op) (rD X.K λx y=>(Mx f x y).map λk=>.val (.bl k)):=by
 rintro g s σ H x y v u Q I l m⟨F,d,e,r,sm,o,q,he,k⟩;obtain⟨t,h,w⟩:=map_some (show(Mx f d e).map _=al r from he);subst w;unfold Mx at h;split at h;.cases h;rw[o.int]at l;rw[q.int]at m;exact ho g s σ H _ _ v u Q I l m ⟨_,_,rfl,rfl,cH.cY sm (dZ _) k⟩
 .cases h
theorem zE{f:Int->Int->Bool}(ho:fX X (dO op) (Mr λi j=>.bl (f i j))){o:Cm}(hc:cm o=Mx f):fX X (dO op) (rD X.K (pG o)):=by
 have e:pG o=λx y=>(Mx f x y).map λk=>.val (.bl k):=by funext x y;unfold pG;rw[hc]
 rw[e];exact Dl ho
theorem Vj:fX X (dO .Lt) (rD X.K λx y=>(Mx (λi j=>decide (i<j)) x y).map λk=>.val (.bl k)):=Dl Zh
theorem vX:fX X (dO .LtE) (rD X.K (pG .le)):=zE aad rfl
theorem jN:fX X (dO .Gt) (rD X.K (pG .gt)):=zE Zf rfl
theorem Ia:fX X (dO .GtE) (rD X.K (pG .ge)):=zE Zz rfl
theorem Gf{d:D}(h:dw K F H v d):decide (v=.non)=jG d:=by cases d with
 |non=>rw[h.non];rfl|bl _=>rw[h.bl];rfl|int _=>rw[h.int];rfl|str _=>rw[h.str];rfl|tup _=>
   rcases h with h|⟨a,_,_,rfl,_⟩;.rw[Rep]at h;obtain⟨a,_,rfl,_⟩:=h;rfl
   .rfl|lst _=>
   rcases h with h|⟨a,_,_,rfl,_⟩;.rw[Rep]at h;obtain⟨a,_,rfl,_⟩:=h;rfl
   .rfl|dz _=>
   rcases h with h|⟨a,_,_,rfl,_⟩;.rw[Rep]at h;obtain⟨a,_,rfl,_⟩:=h;rfl
   .rfl|dv _ _=>
   rcases h with h|⟨a,_,_,rfl,_⟩;.rw[Rep]at h;obtain⟨a,_,_,rfl,_⟩:=h;rfl
   .rfl
theorem Nm:fX X (dO .IsNot) (rD X.K (pG .Qw)):=by
 rintro f s σ H x y v u Q I h j⟨F,d,e,r,sm,l,m,he,k⟩;obtain⟨t,g,o⟩:=map_some (show(cmN bx d e).map _=al r from he);subst o;unfold cmN at g;split at g;.cases g;exact PX f s σ H x y v u Q I h j ⟨m.non,by rw[Gf l];exact cH.cY sm (dZ _) k⟩
 .cases g
theorem lN{o:Cm}(ho:fX X (dO op) (rD X.K (pG o)))(f:SX X c a pa)(g:SX X c b pb)(h:ga op b=a7):SX X c (.Compare a [op] [b] pos) (.cmp o pa pb):=wG (λh1 j=>Nq ho h1 j h) f g (λρ=>rfl) rfl
theorem JP{o C:Cm}{l:nL}(ho:fX X (dO op) (rD X.K (pG o)))(A:fX X (dO l) (rD X.K (pG C)))(E:SX X c a pa)(G:SX X c b pb)(hd:SX X c d pd)(I:lastMarks [op,l] [b,d]=a7:=by with_unfolding_all rfl):SX X c (.Compare a [op,l] [b,d] pos) (.chain o C pa pb pd):=by
 obtain⟨ta,tb,h1,J,L⟩:=E.iR G;obtain⟨td,M,N⟩:=hd.cN;refine⟨dG (Jy ho A h1 J M I) ?_,λi h=>by cases h⟩;rintro σ H Q⟨F,ρ,r,ρ',g,e,k⟩;rw[_H.E9]at e;obtain⟨m,O,U,e⟩:=aa e;obtain⟨t,ρ2,j,e⟩:=aa e;have W:=aD j;clear j;obtain⟨j,B⟩:=W;subst B;have f:flat m.2=bx/\cm o m.1 m.2=al t:=by
  split at j;.rename_i Y;exact⟨Y,j⟩
  .cases j
 obtain⟨f,j⟩:=f;refine L g U λv u Z H' s pv y=>⟨Z,m.1,m.2,.val (.bl t),s.gs.sub,pv,y,by unfold pG;rw[j];rfl,λw F2 H2 x q=>?_⟩;have s2:=s.trans (x.stp s.gs);have q:Rep X.K F2 w (.bl t):=q;rw[Rep]at q;subst q;refine⟨t,rfl,?_⟩;cases t with|false=>rw[if_neg c_]at e ⊢;cases e;exact k _ F2 H2 s2 (show Rep X.K F2 _ _ from dZ _)|true=>
   rw[if_pos rfl]at e ⊢;obtain⟨z,ac,B,e⟩:=aa e;obtain⟨e4,e5⟩:=aD e;subst e5;refine N s2.gs B λw F3 H3 s3 pw=>⟨F3,m.2,z,r,s3.gs.sub,?_,pw,e4,λw' F4 H4 x4 q=>?_⟩
   . have x1:=x.fs;have x2:=s3.bT;rcases y with y|⟨_,_,_,_,_,_,h⟩;.exact .inl ((y.mono x1).mono x2)
     .rw[h]at f;cases f
   .have s4:=s2.trans s3;exact k w' F4 H4 (s4.trans (x4.stp s4.gs)) (.later s4 (q.pD s4.gs))
end
section
variable{X:Cx}{c:Call}{e a b d:df}{p pa pb pd:P}{pos:Pos}{rest:List df}
theorem m9{x:D}{k:Bool}(h:zP x=al k):x=.bl k:=by cases x<;>cases h;rfl
theorem dg{x:D}{k:Int}(h:iJ x=al k):x=.int k:=by cases x<;>cases h;rfl
theorem cT.bool{g j:Hp}{f:_L.St}{r:R}{k:Bool}(h:cT K g ρ' f j ρ σ H v r)(e:r.d=.bl k):v=.bl k:=by cases r with|val d=>cases(show d=.bl k from e);have h:Rep K g v (.bl k):=h;rw[Rep]at h;exact h|own ds=>cases e
noncomputable def ST(X:Cx)(c:Call)(e:df)(p:P):Prop:=PT X e (Ld X.K (iY (_H.ev c p)))
noncomputable def SW(X:Cx)(c:Call)(e:df)(p:P):Prop:=PW X e (Ld X.K (iY (_H.ev c p)))
theorem SW.st(h:SW X c e p):ST X c e p:=PW.pt h
theorem lG{t:TE}{Q:Bool->Hp->Prop}(hi:∀Q,uW X.K (_H.ev c p) σ H Q->t σ H Q)(h:Ld X.K (iY (_H.ev c p)) σ H Q):t σ H λx l=>∃k,x=.bl k/\Q k l:=by obtain⟨F,ρ,k,ρ',g,e,q⟩:=h;obtain⟨r,j,m,f⟩:=aa e;have o:=aD f;clear f;obtain⟨f,u⟩:=o;subst u;exact hi _ ⟨F,ρ,r,j,g,m,λv w y s z=>⟨k,z.bool (m9 f),q w y s⟩⟩
theorem fZ(h:SX X c e p)(he:∀f,isTrue e X.env f=(do let v<-f;qv e.pos;iO [v] (truthy v)):=by intro _;rfl):ST X c e p:=yd (S6 h.ev he) λσ H Q q=>lG (λ_ z=>z) q
theorem bh{o:Cm}(ho:fX X (dO op) (rD X.K (pG o)))(j:SX X c a pa)(l:SX X c b pb)(m:ga op b=a7):ST X c (.Compare a [op] [b] pos) (.cmp o pa pb):=by obtain⟨y,A,h1,B,C⟩:=j.iR l;refine yd (Cz ho h1 B m) λσ H Q q=>lG (t:=Uz (rD X.K (pG o)) y A) (λQ z=>?_) q;obtain⟨F,ρ,r,ρ',g,e,k⟩:=z;rw[_H.E8]at e;obtain⟨h,E,G,f⟩:=aa e;have I:=aD f;clear f;obtain⟨f,J⟩:=I;subst J;refine C g G λv u L W s M N=>⟨L,h.1,h.2,r,s.gs.sub,M,N,f,λw F2 O x U=>?_⟩;exact k w F2 O (s.trans (x.stp s.gs)) (.later s (U.pD s.gs))
theorem j8(l:ST X c a pa):ST X c (.UnaryOp .Not a pos) (.not pa):=by
 refine yd (V4 l) ?_;rintro σ H Q⟨F,ρ,k,ρ',g,e,q⟩;unfold iY at e;rw[_H.E5]at e;obtain⟨r,m,o,f⟩:=aa e;obtain⟨h,ρ2,t,u⟩:=aa o;cases u;have w:=aD f;clear f;obtain⟨f,y⟩:=w;subst y;have f:(!h)=k:=by cases f;rfl
 exact⟨F,ρ,h,_,g,t,λz j s=>by show Q (!h) j;rw[f];exact q z j s⟩
theorem O6(ρ:List Sl):iY (_H.ev c (.and pa pb)) ρ=(iY (_H.ev c pa) ρ).bind λx ρ=>if x then iY (_H.ev c pb) ρ else .ok a7 ρ:=by unfold iY;rw[_H.E6];unfold iY;cases _H.ev c pa ρ with|exc _ _=>rfl|stuck=>rfl|ok r f=>simp only[Res.bind];cases h:zP r.d with|none=>rfl|some k=>cases k with|false=>rfl|true=>simp only[lift,if_true];cases _H.ev c pb f with|exc _ _=>rfl|stuck=>rfl|ok g ρ2=>simp only[Res.bind];cases h2:zP g.d with|none=>rfl|some j=>rfl
theorem Vg(ρ:List Sl):iY (_H.ev c (.or pa pb)) ρ=(iY (_H.ev c pa) ρ).bind λx ρ=>if x then .ok bx ρ else iY (_H.ev c pb) ρ:=by unfold iY;rw[_H.E7];unfold iY;cases _H.ev c pa ρ with|exc _ _=>rfl|stuck=>rfl|ok r f=>simp only[Res.bind];cases h:zP r.d with|none=>rfl|some k=>cases k with|true=>rfl|false=>simp only[lift,ip,if_false];cases _H.ev c pb f with|exc _ _=>rfl|stuck=>rfl|ok g ρ2=>simp only[Res.bind];cases h2:zP g.d with|none=>rfl|some j=>rfl
theorem u6(f:ST X c a pa):SW X c (.BoolOp .And [a] pos) pa:=PJ f
theorem gR(f:ST X c a pa):SW X c (.BoolOp .Or [a] pos) pa:=Us f
theorem Bw(h:ST X c a pa)(j:SW X c (.BoolOp .And (b::rest) pos) pb):SW X c (.BoolOp .And (a::b::rest) pos) (.and pa pb):=by refine Rm (V9 h j) ?_;rintro σ H Q⟨F,ρ,k,ρ',g,e,q⟩;rw[O6]at e;obtain⟨x,f,l,e⟩:=aa e;refine⟨F,ρ,x,f,g,l,λF1 m s1=>?_⟩;cases x with|true=>rw[if_pos rfl]at e ⊢;exact⟨F1,f,k,ρ',s1.gs,e,λF2 o s2=>q F2 o (s1.trans s2)⟩|false=>rw[if_neg c_]at e ⊢;cases e;exact q F1 m s1
theorem il(h:ST X c a pa)(j:SW X c (.BoolOp .Or (b::rest) pos) pb):SW X c (.BoolOp .Or (a::b::rest) pos) (.or pa pb):=by refine Rm (Z8 h j) ?_;rintro σ H Q⟨F,ρ,k,ρ',g,e,q⟩;rw[Vg]at e;obtain⟨x,f,l,e⟩:=aa e;refine⟨F,ρ,x,f,g,l,λF1 m s1=>?_⟩;cases x with|true=>rw[if_pos rfl]at e ⊢;cases e;exact q F1 m s1|false=>rw[if_neg c_]at e ⊢;exact⟨F1,f,k,ρ',s1.gs,e,λF2 o s2=>q F2 o (s1.trans s2)⟩
theorem Vp(j:SX X c a pa):SX X c (.UnaryOp .Not a pos) (.not pa):=by refine⟨dG (T7 j.ev) ?_,λi h=>by cases h⟩;rintro σ H Q⟨F,ρ,r,ρ',g,e,k⟩;rw[_H.E5]at e;obtain⟨x,l,m,o⟩:=aa e;cases o;exact lG (c:=c) (λ_ z=>z) ⟨F,ρ,x,_,g,m,λf q s=>k _ f q s (show Rep X.K f _ _ from dZ _)⟩
theorem mZ{op}(f:SX X c a pa):PE X (.BoolOp op [a] pos) (uW X.K (_H.ev c pa)):=Td f.ev
theorem vD(m:SX X c a pa)(o:PE X (.BoolOp .And (b::rest) pos) (uW X.K (_H.ev c pb))):SX X c (.BoolOp .And (a::b::rest) pos) (.and pa pb):=by refine⟨dG (S9 m.ev o) ?_,λi h=>by cases h⟩;rintro σ H Q⟨F,ρ,r,ρ',g,e,k⟩;rw[_H.E6]at e;obtain⟨x,f,q,e⟩:=aa e;refine lG (c:=c) (λ_ z=>z) (Q:=λx j=>if x=bx then uW X.K (_H.ev c pb) σ j Q else Q (.bl a7) j) ⟨F,ρ,x,f,g,q,λF1 j s1=>?_⟩;cases x with|true=>rw[if_pos rfl]at e ⊢;obtain⟨y,ρ2,s,t⟩:=aa e;cases t;obtain⟨u,w,A,l⟩:=aa s;have B:=aD l;clear l;obtain⟨l,C⟩:=B;subst C;refine⟨F1,f,u,_,s1.gs,A,λv F2 E s2 G=>?_⟩;rw[G.bool (m9 l)];exact k _ F2 E (s1.trans s2) (show Rep X.K F2 _ _ from dZ _)|false=>rw[if_neg c_]at e ⊢;cases e;exact k _ F1 j s1 (show Rep X.K F1 _ _ from dZ _)
theorem Rc(m:SX X c a pa)(o:PE X (.BoolOp .Or (b::rest) pos) (uW X.K (_H.ev c pb))):SX X c (.BoolOp .Or (a::b::rest) pos) (.or pa pb):=by refine⟨dG (JQ m.ev o) ?_,λi h=>by cases h⟩;rintro σ H Q⟨F,ρ,r,ρ',g,e,k⟩;rw[_H.E7]at e;obtain⟨x,f,q,e⟩:=aa e;refine lG (c:=c) (λ_ z=>z) (Q:=λx j=>if x=bx then Q (.bl bx) j else uW X.K (_H.ev c pb) σ j Q) ⟨F,ρ,x,f,g,q,λF1 j s1=>?_⟩;cases x with|true=>rw[if_pos rfl]at e ⊢;cases e;exact k _ F1 j s1 (show Rep X.K F1 _ _ from dZ _)|false=>rw[if_neg c_]at e ⊢;obtain⟨y,ρ2,s,t⟩:=aa e;cases t;obtain⟨u,w,A,l⟩:=aa s;have B:=aD l;clear l;obtain⟨l,C⟩:=B;subst C;refine⟨F1,f,u,_,s1.gs,A,λv F2 E s2 G=>?_⟩;rw[G.bool (m9 l)];exact k _ F2 E (s1.trans s2) (show Rep X.K F2 _ _ from dZ _)
theorem vV(hc:ST X c e p)(u:SX X c a pa)(w:SX X c b pb):SX X c (.IfExp e a b pos) (.R0 p pa pb):=by refine⟨dG (JT hc u.ev w.ev) ?_,λi h=>by cases h⟩;rintro σ H Q⟨F,ρ,r,ρ',g,e,k⟩;rw[_H.E10]at e;obtain⟨x,f,y,e⟩:=aa e;refine⟨F,ρ,x,f,g,y,λF1 z s1=>?_⟩;cases x with|true=>rw[if_pos rfl]at e ⊢;obtain⟨j,ρ2,l,m⟩:=aa e;cases m;refine⟨F1,f,j,_,s1.gs,l,λv F2 o s2 q=>?_⟩;obtain⟨s,s3,_,t⟩:=s2.cQ q;exact k v s o (s1.trans s3) t|false=>rw[if_neg c_]at e ⊢;obtain⟨j,ρ2,l,m⟩:=aa e;cases m;refine⟨F1,f,j,_,s1.gs,l,λv F2 o s2 q=>?_⟩;obtain⟨s,s3,_,t⟩:=s2.cQ q;exact k v s o (s1.trans s3) t
theorem vQ:∀{ps:List P}{ρ ρ':List Sl}{ds:List D},evs c ps ρ=.ok ds ρ'->ds.length=ps.length|[],_,_,_,h=>by rw[Lh]at h;cases h;rfl|p::ps,_,_,_,h=>by rw[wN]at h;obtain⟨r,f,_,h⟩:=aa h;obtain⟨xs,ρ2,g,h⟩:=aa h;cases h;simp[vQ g]
theorem aR:SA X c [] []:=⟨yK di λσ H Q⟨F,ρ,ds,ρ',g,e,k⟩=>by rw[Lh]at e;cases e;exact k [] F H (.refl g) .nil,rfl⟩
theorem pY{ps:List P}(h:SX X c a pa)(hr:SA X c es ps)(hs:cw (a::es) X.env=(a7,eu a X.env)::cw es X.env:=by rfl):SA X c (a::es) (pa::ps):=by refine⟨yK (bu h.ev hr.1 hs) ?_,by simp[hr.2]⟩;rintro σ H Q⟨F,ρ,ds,ρ',g,e,k⟩;rw[wN]at e;obtain⟨r,f,j,e⟩:=aa e;obtain⟨xs,ρ2,l,e⟩:=aa e;cases e;refine⟨F,ρ,r,f,g,j,λv u w s m=>?_⟩;obtain⟨F1,s1,_,o⟩:=s.cQ m;refine⟨F1,f,xs,_,s1.gs,l,λvs F2 q s2 t=>?_⟩;exact k _ F2 q (s1.trans s2) (.cons (o.mono s2.bT) t)
theorem Ext.M3{h j:Hp}{Q:VK}{xs:List V}(s:az K j ρ σ h F ρ' σ H)(r:aF K F xs ds)(k:∀v g f,az K j ρ σ h g ρ' σ f->cT K g ρ' σ f ρ σ h v (.val (.tup ds))->Q v f)(p:b_)(l:H p=bdq):Q (.ref p) (upd H p (.tup xs)):=An s.gs.sub r l λv g f x m=>k v g f (s.trans (x.stp s.gs)) m
theorem fC{ps:List P}{x1}(h:SA X c es ps)(hz:ps.length<=sizeLine:=by decide):SX X c (.Tuple es x1 pos) (.tup ps):=by refine⟨dG (Ig h.1) ?_,λi h=>by cases h⟩;rintro σ H Q⟨F,ρ,r,ρ',g,e,k⟩;rw[_H.E11]at e;obtain⟨ds,l,f,e⟩:=aa e;cases e;exact⟨F,ρ,ds,_,g,f,λvs o q s j=>⟨by rw[j.length,vQ f];exact hz,λp m=>Ext.M3 s j k p m⟩⟩
theorem cU{ps:List P}(h:SA X c es ps)(hz:ps.length<=sizeLine:=by decide):SX X c (.List es pos) (.lst ps):=by refine⟨dG (Ww h.1) ?_,λi h=>by cases h⟩;rintro σ H Q⟨F,ρ,r,ρ',g,e,k⟩;rw[_H.E12]at e;obtain⟨ds,l,f,e⟩:=aa e;cases e;exact⟨F,ρ,ds,_,g,f,λvs t u s j=>⟨by rw[j.length,vQ f];exact hz,λp m=>Bl s.gs.sub j m λv F2 o x q=>k v F2 o (s.trans (x.stp s.gs)) (.later s (q.pD s.gs))⟩⟩
theorem Jp{i:Int}{d:D}(h:at' ds i=al d):∃j,_L.iI ds.length i=al j/\ds[j]?=al d:=cC h
theorem afS:IxR X (rD X.K Gj):=by
 rintro f slice g s σ H x y v u Q I m l⟨F,d,e,r,sm,t,A,he,k⟩hs;unfold Gj at he;obtain⟨ds,B,he⟩:=cC he;obtain⟨i,C,he⟩:=cC he;obtain⟨z,E,he⟩:=map_some he;subst he;cases dg C;rw[A.int]at l;obtain⟨p,xs,rfl,hq,o⟩:=t.items sm B;obtain⟨j,h1,G⟩:=Jp E;obtain⟨w,J,q⟩:=o.get G;have h:K4 xs i=al w:=by unfold K4;rw[o.length,h1];exact J
 rcases hq with hq|hq;.exact Dh f slice g s σ H _ _ v u Q I m l ⟨p,xs,i,w,rfl,rfl,hq,h,cH.cY sm q k⟩ hs
 .exact Wr f slice g s σ H _ _ v u Q I m l ⟨p,xs,i,w,rfl,rfl,hq,h,cH.cY sm q k⟩ hs
theorem aq(g:SX X c a pa)(h:SX X c b pb)(hs:vN b:=by intro _ _;rfl):SX X c (.Subscript a b pos) (.idx pa pb):=wG (f:=Gj) (λh1 j=>QS afS h1 j hs) g h (λρ=>rfl) rfl
noncomputable def Rh(K:PySem.W.Frag)(f:D->Option R):List V->Hp->VK->Prop:=λxs H Q=>∃x,xs=[x]/\rD1 K f x H Q
theorem rY{E:df}{f:D->Option R}{q:P}(l:∀{t},PA X [a] t->PE X E (Ym (Rh X.K f) t))(m:SX X c a pa)(o:∀ρ,_H.ev c q ρ=(_H.cN (isVar pa) (_H.ev c pa) ρ).bind λx ρ=>lift (f x) ρ)(u:isVar q=bdq)(hs:cw [a] X.env=(a7,eu a X.env)::cw [] X.env:=by rfl):SX X c E q:=by obtain⟨M,h1,y⟩:=m.cN;refine⟨dG (l (bu h1 di hs)) ?_,λi h=>by rw[u]at h;cases h⟩;rintro σ H Q⟨F,ρ,r,ρ',g,e,k⟩;rw[o]at e;obtain⟨x,z,A,j⟩:=aa e;have B:=aD j;clear j;obtain⟨j,C⟩:=B;subst C;refine y g A λv G N s I=>⟨v,rfl,G,x,r,s.gs.sub,I,j,λw F2 J x L=>?_⟩;exact k w F2 J (s.trans (x.stp s.gs)) (.later s (L.pD s.gs))
theorem aae:eY X (.builtin "len") (Rh X.K λx=>blt .len [x]):=by rintro f s σ H xs g Q I r⟨x,h,F,d,j,sm,l,he,k⟩;obtain⟨ds,m,he⟩:=map_some (show(items d).map _=al j from he);subst he;obtain⟨p,ys,rfl,o,q⟩:=l.items sm m;exact wM f s σ H xs g Q I r ⟨p,ys,h,o,by rw[q.length];exact cH.cY sm (cu _) k⟩
theorem Tv:eY X (.type "list") (Rh X.K λx=>blt .list [x]):=by rintro f s σ H xs g Q I r⟨x,h,F,d,j,sm,m,he,k⟩;obtain⟨ds,o,he⟩:=map_some (show(items d).map _=al j from he);subst he;obtain⟨p,ys,rfl,q,t⟩:=m.items sm o;exact je f s σ H xs g Q I r ⟨p,ys,h,q,λl u=>Bl sm t u k⟩
theorem Qf:eY X (.type "tuple") (Rh X.K λx=>blt .tuple [x]):=by rintro f s σ H xs j Q I r⟨x,m,F,d,t,sm,o,he,k⟩;obtain⟨ds,g,he⟩:=map_some (show(items d).map _=al t from he);subst he;cases d with|tup es=>cases g;obtain⟨a,ys,rfl,h,q,rt⟩:=o.tup sm;exact lD f s σ H xs j Q I r ⟨a,ys,m,.inr ⟨h,cH.cY sm rt k⟩⟩|lst es=>cases g;obtain⟨a,ys,rfl,h,q⟩:=o.lst sm;exact lD f s σ H xs j Q I r ⟨a,ys,m,.inl ⟨h,λl u=>An sm q u k⟩⟩|_=>cases g
theorem fH(f:x="len")(g:Gl X x)(j:X.mg x=bdq)(k:SX X c a pa)(hs:cw [a] X.env=(a7,eu a X.env)::cw [] X.env:=by rfl):SX X c (.Call (.Name x p') [a] [] pos) (.blt .len [pa]):=by subst f;exact rY (λh=>fW aae g j PySem.boot_len h (he:=hs)) k (λρ=>rfl) rfl hs
theorem Ot(f:x="list")(g:Gl X x)(j:X.mg x=bdq)(k:SX X c a pa)(hs:cw [a] X.env=(a7,eu a X.env)::cw [] X.env:=by rfl):SX X c (.Call (.Name x p') [a] [] pos) (.blt .list [pa]):=by subst f;exact rY (λh=>iQ Tv g j (by decide+kernel) h (he:=hs)) k (λρ=>rfl) rfl hs
theorem Ir(f:x="tuple")(g:Gl X x)(j:X.mg x=bdq)(k:SX X c a pa)(hs:cw [a] X.env=(a7,eu a X.env)::cw [] X.env:=by rfl):SX X c (.Call (.Name x p') [a] [] pos) (.blt .tuple [pa]):=by subst f;exact rY (λh=>iQ Qf g j (by decide+kernel) h (he:=hs)) k (λρ=>rfl) rfl hs
end
noncomputable def Qs(K:PySem.W.Frag)(np:Nat)(f:List Sl->Res R):Sp:=λvs H Q _=>vs.length=np/\∃F args r a,GS K F args (vs.map al) H/\f args=.ok r a/\∀v e b c,az K F args (vs.map al) H e a b c->cT K e a b c args (vs.map al) H v r->Q v c
section
variable{K:PySem.W.Frag}
noncomputable def Aw(K:PySem.W.Frag)(F:Hp)(ρ:List Sl)(σ:_L.St)(H:Hp)(ρ₀:List Sl)(H₀:Hp)(v:V):Arg->Prop|.dat d=>Rep K F v d|.tmp ds=>∃x xs,v=.ref x/\H x=al (.lst xs)/\F x=bdq/\aF K F xs ds/\¬ Own ρ σ x/\(Own ρ₀ σ x\/H₀ x=bdq)|.fM i=>σ[i]?=al (al v)
structure yw(K:PySem.W.Frag)(F:Hp)(ρ:List Sl)(σ:_L.St)(H:Hp)(ρ₀:List Sl)(H₀:Hp)(as:List Arg)(vs:List V):Prop where
 len:as.length=vs.length
 one:∀(j:Nat)(a:Arg)(v:V),as[j]?=al a->vs[j]?=al v->Aw K F ρ σ H ρ₀ H₀ v a
 dis:∀(j k:Nat)(ds es:List D)(x:b_),as[j]?=al (.tmp ds)->as[k]?=al (.tmp es)->vs[j]?=al (.ref x)->vs[k]?=al (.ref x)->j=k
theorem Aw.later{b f:Hp}{a:Arg}(s:az K F ρ σ H b ρ' σ f)(h:Aw K F ρ σ H ρ₀ H₀ v a):Aw K b ρ' σ f ρ₀ H₀ v a:=by cases a with|dat d=>exact Rep.mono s.bT h|fM i=>exact h|tmp ds=>
   obtain⟨x,xs,h1,c,g,j,e,k⟩:=h;refine⟨x,xs,h1,s.keep x _ c e,?_,j.mono s.bT,λo=>?_,k⟩;.cases q:b x with|none=>rfl|some o=>
       rcases s.wR x g (by rw[q];simp)with z|z;.exact absurd z e
       .exact(Ku c z).elim
   . rcases s.wY x o with z|z;.exact e z
     .rw[c]at z;cases z
theorem yw.nil:yw K F ρ σ H ρ₀ H₀ [] []:=⟨rfl,λj a v h=>by simp at h,λj k ds es x h=>by simp at h⟩
theorem yw.cons{F H H₀:Hp}{ρ ρ₀:List Sl}{σ:_L.St}{a:Arg}{v:V}{as:List Arg}{vs:List V}(h:Aw K F ρ σ H ρ₀ H₀ v a)(t:yw K F ρ σ H ρ₀ H₀ as vs)(hd:∀ds x,a=.tmp ds->v=.ref x->∀(k:Nat)es,as[k]?=al (.tmp es)->vs[k]?≠al (.ref x)):yw K F ρ σ H ρ₀ H₀ (a::as) (v::vs):=by
 refine⟨by simp[t.len],λj b u h1 c=>?_,λj k ds es x h1 c e f=>?_⟩;.cases j with|zero=>simp at h1 c;subst h1;subst c;exact h|succ j=>exact t.one j b u (by simpa using h1) (by simpa using c)
 .cases j with
   |zero=>cases k with|zero=>rfl|succ k=>simp at h1 e;exact absurd (by simpa using f) (hd ds x h1 e k es (by simpa using c))
   |succ j=>cases k with|zero=>simp at c f;exact absurd (by simpa using e) (hd es x c f j ds (by simpa using h1))|succ k=>rw[t.dis j k ds es x (by simpa using h1) (by simpa using c) (by simpa using e) (by simpa using f)]
noncomputable def Kc(ρ:List Sl):Arg->Sl->Prop|.dat d,s=>s=.val a7 d|.tmp ds,s=>s=.own a7 ds|.fM i,s=>(∃b d,ρ[i]?=al (.val b d)/\s=.val a7 d)\/(∃b ds,ρ[i]?=al (.own b ds)/\s=.own bx ds)\/∃ds,ρ[i]?=al (.lent ds)/\s=.lent ds
theorem qQ{ρ:List Sl}:∀{as:List Arg}{c:List Nat}{args:List Sl},cz ρ as c=al args->args.length=as.length/\(∀(j:Nat)(a:Arg)(s:Sl),as[j]?=al a->args[j]?=al s->Kc ρ a s)/\(∀(j:Nat)(i:Nat)(s:Sl)ds,as[j]?=al (.fM i)->args[j]?=al s->lst? s=al ds->i∉c)/\(∀(j k:Nat)(i:Nat)(s t:Sl)ds es,as[j]?=al (.fM i)->as[k]?=al (.fM i)->args[j]?=al s->args[k]?=al t->lst? s=al ds->lst? t=al es->j=k)
 |[],c,args,h=>by rw[Av]at h;cases h;exact⟨rfl,λj a s h=>by simp at h,λj i s ds h=>by simp at h,λj k i s t ds es h=>by simp at h⟩|a::as,c,args,h=>by--the agr slot,the ags
   have key:∃s0 r u,args=s0::r/\cz ρ as u=al r/\Kc ρ a s0/\((∃i ds,a=.fM i/\lst? s0=al ds/\u=i::c/\i∉c)\/((∀i ds,a=.fM i->lst? s0≠al ds)/\u=c)):=by cases a with|dat d=>rw[Bp]at h;obtain⟨r,g,l⟩:=map_some h;exact⟨_,r,c,l.symm,g,rfl,.inr ⟨λi ds z=>(by cases z),rfl⟩⟩|tmp d=>rw[Bj]at h;obtain⟨r,g,l⟩:=map_some h;exact⟨_,r,c,l.symm,g,rfl,.inr ⟨λi ds z=>(by cases z),rfl⟩⟩|fM i=>
      rw[qp]at h;split at h;.rename_i b d q;obtain⟨r,g,l⟩:=map_some h;exact⟨_,r,c,l.symm,g,.inl ⟨b,d,q,rfl⟩,.inr ⟨λ_ _ _ z=>(by cases z),rfl⟩⟩
      . rename_i b ds q;split at h;.cases h
        .rename_i o;obtain⟨r,g,l⟩:=map_some h;exact⟨_,r,_,l.symm,g,.inr (.inl ⟨b,ds,q,rfl⟩),.inl ⟨i,_,rfl,rfl,rfl,by simpa using o⟩⟩
      . rename_i ds q;split at h;.cases h
        .rename_i o;obtain⟨r,g,l⟩:=map_some h;exact⟨_,r,_,l.symm,g,.inr (.inr ⟨ds,q,rfl⟩),.inl ⟨i,_,rfl,rfl,rfl,by simpa using o⟩⟩
      .cases h
   obtain⟨s0,r,u,rfl,hr,A,o⟩:=key;obtain⟨M,l2,B,N⟩:=qQ hr;have sub:∀i,i∉u->i∉c:=λi hi J=>by
    rcases o with⟨_,_,_,_,rfl,_⟩|⟨_,rfl⟩;.exact hi (dA _ J)
    .exact hi J
   refine⟨by simp[M],λj b s h1 f=>?_,λj i s ds h1 f p=>?_,λj k i s t ds es h1 f p y C E=>?_⟩;.cases j with|zero=>simp at h1 f;subst h1;subst f;exact A|succ j=>exact l2 j b s (by simpa using h1) (by simpa using f)
   .cases j with|zero=>
       simp at h1 f;subst h1;subst f;rcases o with⟨L,_,e,_,_,m⟩|⟨m,_⟩;.cases e;exact m
       .exact absurd p (m i ds rfl)|succ j=>exact sub i (B j i s ds (by simpa using h1) (by simpa using f) p)
   . have O:∀(k:Nat)(t:Sl)es,a=.fM i->lst? s0=al ds->(as[k]?=al (.fM i))->r[k]?=al t->lst? t=al es->False:=λk t es w G I ht he=>by
      rcases o with⟨L,_,e,_,rfl,m⟩|⟨m,_⟩;.rw[w]at e;cases e;exact B k i t es I ht he h_
      .exact m i ds w G
     have Q:∀(k:Nat)(t:Sl)es,a=.fM i->lst? s0=al es->(as[k]?=al (.fM i))->r[k]?=al t->lst? t=al ds->False:=λk t es w G I ht he=>by
      rcases o with⟨L,_,e,_,rfl,m⟩|⟨m,_⟩;.rw[w]at e;cases e;exact B k i t ds I ht he h_
      .exact m i es w G
     cases j with
     |zero=>cases k with|zero=>rfl|succ k=>simp at h1 p;subst p;exact(O k t es h1 C (by simpa using f) (by simpa using y) E).elim
     |succ j=>cases k with|zero=>simp at f y;subst y;exact(Q j s es f E (by simpa using h1) (by simpa using p) C).elim|succ k=>rw[N j k i s t ds es (by simpa using h1) (by simpa using f) (by simpa using p) (by simpa using y) C E]
theorem yw.get{vs:List V}(A:yw K F ρ σ H ρ₀ H₀ as vs){args:List Sl}{j:Nat}{s:Sl}(c:args.length=as.length)(h:args[j]?=al s):∃a v,as[j]?=al a/\vs[j]?=al v/\Aw K F ρ σ H ρ₀ H₀ v a:=by
 have e:j<args.length:=(dX h).1;have h1:j<as.length:=by omega
 have b:j<vs.length:=by rw[<-A.len];exact h1
 exact⟨as[j],vs[j],by simp[h1],by simp[b],A.one j _ _ (by simp[h1]) (by simp[b])⟩
theorem args_gs{vs:List V}{args:List Sl}(g:GS K F ρ σ H)(A:yw K F ρ σ H ρ₀ H₀ as vs)(h:cz ρ as []=al args):GS K F args (vs.map al) H:=by
 obtain⟨I,l2,l3,Z⟩:=qQ h;have M:∀{j:Nat}{v:V},vs[j]?=al v->(vs.map al)[j]?=al (al v):=λe=>by rw[er,e];rfl
 have dn:∀{j:Nat}{v:V},(vs.map al)[j]?=al (al v)->vs[j]?=al v:=λ{j v}e=>by rw[er]at e;cases q:vs[j]?with|none=>rw[q]at e;cases e|some w=>rw[q]at e;cases e;rfl
 refine⟨g.sub,by rw[I,A.len,dQ],λj b d e=>?_,λj s ds e J=>?_,λj k x⟨⟨s,ds,e1,e2⟩,N⟩⟨⟨t,es,f1,f2⟩,f3⟩=>?_⟩;.obtain⟨a,v,h1,u,m⟩:=A.get I e;have B:=l2 j a _ h1 e;refine⟨v,M u,?_⟩;cases a with|dat d'=>cases B;exact m|tmp ds=>cases B|fM i=>
     rcases B with⟨O,d',r,c⟩|⟨_,_,_,c⟩|⟨_,_,c⟩;.cases c;obtain⟨w,f,p⟩:=g.val i O d r;have m:σ[i]?=al (al v):=m;rw[m]at f;cases f;exact p
     .cases c
     .cases c
 .obtain⟨a,v,h1,u,m⟩:=A.get I e;have B:=l2 j a _ h1 e;cases a with|dat d'=>cases B;cases J|tmp es=>cases B;cases J;obtain⟨x,xs,rfl,c,f,p,_⟩:=m;exact⟨x,_,M u,c,f,xs,rfl,p⟩|fM i=>
     have m:σ[i]?=al (al v):=m;rcases B with⟨O,d',r,c⟩|⟨O,es,r,c⟩|⟨es,r,c⟩;.cases c;cases J
     .cases c;cases J;obtain⟨x,xs,f,p⟩:=g.own i _ _ r rfl;rw[m]at f;cases f;exact⟨x,xs,M u,p⟩
     .cases c;cases J;obtain⟨x,xs,f,p⟩:=g.own i _ _ r rfl;rw[m]at f;cases f;exact⟨x,xs,M u,p⟩
 . obtain⟨a,v,h1,u,m⟩:=A.get I e1;obtain⟨Q,v',C,L,E⟩:=A.get I f1;have N:=dn N;have f3:=dn f3;rw[u]at N;cases N;rw[L]at f3;cases f3;have s1:=l2 j a _ h1 e1;have s2:=l2 k Q _ C f1;have U:∀{i:Nat}{s:Sl}{ds:Oc},lst? s=al ds->Kc ρ (.fM i) s->∃G o,ρ[i]?=al G/\lst? G=al o:=λ{i s ds}l z=>by
    rcases z with⟨_,_,_,z⟩|⟨b,es,q,_⟩|⟨es,q,_⟩;.subst z;cases l
    .exact⟨_,_,q,rfl⟩
    .exact⟨_,_,q,rfl⟩
   cases a with
   |dat d=>cases s1;cases e2|tmp W0=>cases Q with|dat d=>cases s2;cases f2|tmp Y=>exact A.dis j k W0 Y x h1 C u L|fM i=>obtain⟨y,_,r,_,_,_,c,_⟩:=m;cases r;obtain⟨G,o,f,p⟩:=U f2 s2;exact absurd ⟨i,⟨G,o,f,p⟩,E⟩ c
   |fM i=>obtain⟨G,o,f,p⟩:=U e2 s1;cases Q with|dat d=>cases s2;cases f2|tmp Y=>obtain⟨y,_,r,_,_,_,c,_⟩:=E;cases r;exact absurd ⟨i,⟨G,o,f,p⟩,m⟩ c|fM i'=>obtain⟨W,X,q5,q6⟩:=U f2 s2;have:=g.dis i i' x ⟨⟨G,o,f,p⟩,m⟩ ⟨⟨W,X,q5,q6⟩,E⟩;subst this;exact Z j k i s t ds es h1 C e1 f1 e2 f2
theorem nY{as:List Arg}{ss:List Sl}:∀(ρ:List Sl)(n i:Nat),(eV as ss n ρ)[i]?=(ρ[i]?).map λs=>dU s (aY (n+i) as ss)
 |[],n,i=>by simp[rB,lU]|s::ρ,n,0=>by simp[rB,lU]|s::ρ,n,i+1=>by
   rw[lU];simp only[kw];rw[nY ρ (n+1) i];have:n+1+i=n+(i+1):=by omega
   rw[this]
theorem nT{as:List Arg}{ss:List Sl}:∀(ρ:List Sl)(n:Nat),(eV as ss n ρ).length=ρ.length|[],n=>rfl|s::ρ,n=>by rw[lU];simp[nT ρ]
theorem jl{i:Nat}:∀{as:List Arg}{ss:List Sl}{t:Sl},aY i as ss=al t->∃j:Nat,as[j]?=al (.fM i)/\ss[j]?=al t
 |[],_,_,h=>by simp[aY]at h|a::as,[],_,h=>by cases a<;>simp[aY]at h|a::as,s::ss,t,h=>by
   have b:aY i as ss=al t->∃j:Nat,(a::as)[j]?=al (.fM i)/\(s::ss)[j]?=al t:=λh=>by obtain⟨j,h1,c⟩:=jl h;exact⟨j+1,by simpa using h1,by simpa using c⟩
   cases a with|dat d=>exact b (by simpa[aY]using h)|tmp d=>exact b (by simpa[aY]using h)|fM k=>
     rw[aY]at h;split at h;.rename_i e;cases h;subst e;exact⟨0,rfl,rfl⟩
     .exact b h
theorem lQ{i:Nat}:∀{as:List Arg}{ss:List Sl},as.length=ss.length->aY i as ss=bdq->∀j:Nat,as[j]?≠al (.fM i)
 |[],_,_,_=>λj h=>by simp at h|a::as,[],b,_=>by simp at b|a::as,s::ss,b,h=>λj c=>by
   have f:as.length=ss.length:=by simpa using b
   have g:aY i as ss=bdq/\a≠.fM i:=by cases a with|dat d=>exact⟨by simpa[aY]using h,by simp⟩|tmp d=>exact⟨by simpa[aY]using h,by simp⟩|fM k=>
      rw[aY]at h;split at h;.cases h
      .rename_i l;exact⟨h,λe=>l (by cases e;rfl)⟩
   cases j with|zero=>simp at c;exact g.2 c|succ j=>exact lQ f g.1 j (by simpa using c)
theorem Ip{Q X H':Hp}{args c:List Sl}{Y:_L.St}{vs:List V}(s0:az K Q ρ₀ σ H₀ F ρ σ H)(A:yw K F ρ σ H ρ₀ H₀ as vs)(hb:cz ρ as []=al args)(s:az K F args (vs.map al) H X c Y H'):az K Q ρ₀ σ H₀ X (eV as c 0 ρ) σ H'/\∀v r,cT K X c Y H' args (vs.map al) H v r->cT K X (eV as c 0 ρ) σ H' ρ₀ σ H₀ v r:=by
 have g:=s0.gs;obtain⟨M,l2,l3,l4⟩:=qQ hb;have up:∀{j:Nat}{v:V},vs[j]?=al v->(vs.map al)[j]?=al (al v):=λe=>by rw[er,e];rfl
 have dn:∀{j:Nat}{v:V},(vs.map al)[j]?=al (al v)->vs[j]?=al v:=λ{j v}e=>by rw[er]at e;cases q:vs[j]?with|none=>rw[q]at e;cases e|some w=>rw[q]at e;cases e;rfl
 have la:as.length=c.length:=by rw[s.len,M]--whose are the lists that the callee holds
 have own:∀b,Own args (vs.map al) b->(∃(j:Nat)(ds:List D),as[j]?=al (Arg.tmp ds)/\vs[j]?=al (V.ref b)/\¬ Own ρ σ b/\(Own ρ₀ σ b\/H₀ b=bdq))\/Own ρ σ b:=λb⟨j,⟨sl,ds,E,U⟩,e3⟩=>by obtain⟨a,v,h1,C,J⟩:=A.get M E;have s1:=l2 j a _ h1 E;have e3:=dn e3;rw[C]at e3;cases e3;cases a with|dat d=>cases s1;cases U|tmp es=>obtain⟨x,_,k,_,_,_,f,N⟩:=J;cases k;exact .inl ⟨j,es,h1,C,f,N⟩|fM i=>
    right;rcases s1 with⟨_,_,_,z⟩|⟨b',es,q,_⟩|⟨es,q,_⟩;.subst z;cases U
    .exact⟨i,⟨_,_,q,rfl⟩,J⟩
    .exact⟨i,⟨_,_,q,rfl⟩,J⟩
 have back:∀b,Own ρ σ b\/H b=bdq->Own ρ₀ σ b\/H₀ b=bdq:=λb h=>by
  rcases h with h|h;.exact s0.wY b h
  . by_cases ho:Own ρ₀ σ b;.exact .inl ho
    .right;cases e:H₀ b with|none=>rfl|some o=>rw[s0.keep b o e ho]at h;cases h
 have L:∀b,Own args (vs.map al) b->Own ρ₀ σ b\/H₀ b=bdq:=λb h=>by
  rcases own b h with⟨_,_,_,_,_,z⟩|z;.exact z
  .exact back b (.inl z)--a name's slot behind the call
 have slot:∀{i:Nat}{t:Sl},(eV as c 0 ρ)[i]?=al t->∃s1,ρ[i]?=al s1/\t=dU s1 (aY i as c):=λ{i t}h=>by rw[nY]at h;obtain⟨s1,E,U⟩:=map_some h;exact⟨s1,E,by rw[<-U,oo]⟩
 have ae:∀{i:Nat}{s1:Sl},ρ[i]?=al s1->(eV as c 0 ρ)[i]?=al (dU s1 (aY i as c)):=λ{i s1}h=>by rw[nY,h,oo];rfl--what the callee left of a list that was lent to it
 have lent:∀{i j:Nat}{s1 t:Sl}{ds:List D},ρ[i]?=al s1->lst? s1=al (.l ds)->as[j]?=al (.fM i)->c[j]?=al t->∃v s2,σ[i]?=al (al v)/\Y[j]?=al (al v)/\args[j]?=al s2/\nj s2 t/\((∃b,s1=.own b ds/\s2=.own bx ds)\/(s1=.lent ds/\s2=.lent ds)):=λ{i j s1 t ds}h1 C J h4=>by
  have Z:j<args.length:=by rw[M];exact(dX J).1
  have E:args[j]?=al args[j]:=by simp[Z]
  obtain⟨a,v,k,f,N⟩:=A.get M E;rw[J]at k;cases k;have q4:=l2 j _ _ J E;have kind:(∃b,s1=.own b ds/\args[j]=.own bx ds)\/(s1=.lent ds/\args[j]=.lent ds):=by
   rcases q4 with⟨_,_,z,_⟩|⟨b,es,z,z'⟩|⟨es,z,z'⟩;.rw[h1]at z;cases z;cases C
   .rw[h1]at z;cases z;cases C;exact .inl ⟨b,rfl,z'⟩
   .rw[h1]at z;cases z;cases C;exact .inr ⟨rfl,z'⟩
  have lk:uO args[j]=bx:=by rcases kind with⟨_,_,z⟩|⟨_,z⟩<;>rw[z]<;>rfl
  obtain⟨u,s',y,z3⟩:=s.lk j _ E lk;rw[h4]at y;cases y;exact⟨v,_,N,by rw[u];exact up f,E,z3,kind⟩
 have Qz:∀{i:Nat}{x:b_},aX (eV as c 0 ρ) σ i x->aX ρ σ i x:=λ{i x}⟨⟨t,ds,E,U⟩,e3⟩=>by obtain⟨s1,k,f⟩:=slot E;refine⟨?_,e3⟩;cases s1 with|aN=>subst f;cases U|val b d=>subst f;cases U|own b es=>exact⟨_,_,k,rfl⟩|lent es=>exact⟨_,_,k,rfl⟩|gY m=>exact⟨_,_,k,rfl⟩|cM m=>exact⟨_,_,k,rfl⟩|hold _=>subst f;cases U
 refine⟨?_,λv r h=>?_⟩;rotate_left;.cases r with|val d=>exact h|own ds=>
     obtain⟨x,xs,h1,C,J,h4,h5,h6⟩:=h;refine⟨x,xs,h1,C,J,h4,λ⟨i,h⟩=>?_,?_⟩
     . have hO:=Qz h;obtain⟨⟨s1,W0,k,f⟩,N⟩:=hO;obtain⟨x',ai,w1,w2,_⟩:=g.own i s1 W0 k f;rw[N]at w1;cases w1;rcases h6 with h6|h6
       . rcases own x h6 with⟨_,_,_,_,z,_⟩|_;.exact z ⟨i,⟨s1,W0,k,f⟩,N⟩
         .--a name was lent
           obtain⟨j,⟨sl,es,w3,w4⟩,w5⟩:=h6;obtain⟨a',v',G,O,y3⟩:=A.get M w3;have sa:=l2 j a' _ G w3;have w5:=dn w5;rw[O]at w5;cases w5;cases a' with|dat d=>cases sa;cases w4|tmp am=>obtain⟨_,_,u1,_,_,_,u2,_⟩:=y3;cases u1;exact u2 ⟨i,⟨s1,W0,k,f⟩,N⟩|fM i'=>
             have ex:∃s' ac,ρ[i']?=al s'/\lst? s'=al ac:=by
              rcases sa with⟨_,_,_,z⟩|⟨b,es,q,_⟩|⟨es,q,_⟩;.subst z;cases w4
              .exact⟨_,_,q,rfl⟩
              .exact⟨_,_,q,rfl⟩
             have:=g.dis i i' x ⟨⟨s1,W0,k,f⟩,N⟩ ⟨ex,y3⟩;subst this;have hk:∃Qy,W0=.l Qy:=by
              rcases sa with⟨_,_,_,z⟩|⟨b,es,q,_⟩|⟨es,q,_⟩;.subst z;cases w4
              .rw[k]at q;cases q;cases f;exact⟨_,rfl⟩
              .rw[k]at q;cases q;cases f;exact⟨_,rfl⟩
             obtain⟨Qy,rfl⟩:=hk;have Z:j<c.length:=by rw[<-la];exact(dX G).1
             have B:c[j]?=al c[j]:=by simp[Z]
             obtain⟨v2,s2,u1,u2,u3,u4,u5⟩:=lent k f G B;rw[N]at u1;cases u1--the slot behind the call is a list's
             obtain⟨⟨t,dt,t1,t2⟩,_⟩:=h;obtain⟨s3,t3,t4⟩:=slot t1;rw[k]at t3;cases t3;have lo:∃t5,aY i as c=al t5:=by cases I:aY i as c with|none=>exact absurd G (lQ la I j)|some t5=>exact⟨t5,rfl⟩
             obtain⟨t5,I⟩:=lo;obtain⟨j2,t6,t7⟩:=jl I;have ap:j2<args.length:=by rw[M];exact(dX t6).1
             obtain⟨_,s6,_,ar,af,av,ag⟩:=lent k f t6 t7;have ah:j2=j:=by
              have a1:lst? s6=al (.l Qy):=by rcases ag with⟨_,_,z⟩|⟨_,z⟩<;>rw[z]<;>rfl
              have a2:lst? s2=al (.l Qy):=by rcases u5 with⟨_,_,z⟩|⟨_,z⟩<;>rw[z]<;>rfl
              exact l4 j2 j i s6 s2 _ _ t6 G af u3 a1 a2
             subst ah;rw[B]at t7;cases t7;rw[I]at t4;refine h5 ⟨j2,?_,u2⟩;rcases u5 with⟨b,u,y⟩|⟨u,y⟩
             . subst u;subst y;rcases u4 with⟨d2,z⟩|⟨d2,z⟩;.exact⟨_,.l d2,B,by rw[z];rfl⟩
               .rw[z]at t4;subst t4;cases t2
             .subst u;subst y;exact⟨_,.l Qy,B,by rw[show c[j2]=.lent Qy from u4];rfl⟩
       .rw[w2]at h6;cases h6
     . rcases h6 with h6|h6;.exact L x h6
       .exact back x (.inr h6)
 refine⟨⟨s.gs.sub,by rw[nT];exact g.len,λi b d e=>?_,λi t ds e B=>?_,λi j x h1 C=>g.dis i j x (Qz h1) (Qz C)⟩,s0.bT.trans s.bT,λb n n'=>?_,λb o h n=>?_,λb⟨i,h⟩=>back b (.inl ⟨i,Qz h⟩),by rw[nT];exact s0.len,λi s1 h l=>?_⟩;.--data
   obtain⟨s1,k,f⟩:=slot e;cases s1 with|aN=>cases f|lent es=>cases f|gY _=>cases f|cM _=>cases f|hold _=>cases f|val b' d'=>cases f;obtain⟨v,u,y⟩:=g.val i b d k;exact⟨v,u,y.mono s.bT⟩|own b' es=>cases I:aY i as c with|none=>rw[I]at f;cases f|some t=>rw[I]at f;obtain⟨j,u,y⟩:=jl I;obtain⟨v,s2,G,O,y3,y4,p⟩:=lent k rfl u y;cases t with|aN=>cases f|own _ _=>cases f|lent _=>cases f|gY _=>cases f|cM _=>cases f|hold _=>cases f|val b2 d2=>cases f;obtain⟨w,W,x2⟩:=s.gs.val j b2 d y;rw[O]at W;cases W;exact⟨v,G,x2⟩
 .--lists
   obtain⟨s1,k,f⟩:=slot e--a list that was not lent
   have stay:∀es,lst? s1=al es->(∀j:Nat,as[j]?≠al (.fM i))->t=s1->∃(a:b_)(xs:HO),σ[i]?=al (al (V.ref a))/\H' a=al xs/\X a=bdq/\lF K X xs ds:=λes he hn ht=>by
    subst ht;rw[he]at B;cases B;obtain⟨a,xs,u,y,z3,z4⟩:=g.own i _ ds k he;have no:¬ Own args (vs.map al) a:=λh=>by obtain⟨j,⟨sl,es,w1,w2⟩,w3⟩:=h;obtain⟨a',v,h1,C,J⟩:=A.get M w1;have sa:=l2 j a' _ h1 w1;have w3:=dn w3;rw[C]at w3;cases w3;cases a' with|dat d=>cases sa;cases w2|tmp es=>obtain⟨x,_,G,_,_,_,O,_⟩:=J;cases G;exact O ⟨i,⟨_,ds,k,he⟩,u⟩|fM i'=>
       have:∃s' ac,ρ[i']?=al s'/\lst? s'=al ac:=by
        rcases sa with⟨_,_,_,z⟩|⟨b,es,q,_⟩|⟨es,q,_⟩;.subst z;cases w2
        .exact⟨_,_,q,rfl⟩
        .exact⟨_,_,q,rfl⟩
       have:=g.dis i i' a ⟨⟨_,ds,k,he⟩,u⟩ ⟨this,J⟩;subst this;exact hn j h1
    refine⟨a,xs,u,s.keep a _ y no,?_,z4.mono s.bT⟩;cases q:X a with|none=>rfl|some o=>
      rcases s.wR a z3 (by rw[q];simp)with z|z;.exact absurd z no
      .rw[y]at z;exact(Kw z4 z).elim
   cases I:aY i as c with
   |none=>have hn:=lQ la I;rw[I]at f;cases s1 with|aN=>subst f;cases B|val b' d'=>subst f;cases B|own b' es=>exact stay _ rfl hn f|lent es=>exact stay _ rfl hn f|gY m=>exact stay _ rfl hn f|cM m=>exact stay _ rfl hn f|hold _=>subst f;cases B
   |some t2=>rw[I]at f;obtain⟨j,u,y⟩:=jl I;cases s1 with
     |aN=>subst f;cases B|val b' d'=>subst f;cases B|hold _=>subst f;cases B|gY m=>
       have Z:j<args.length:=by rw[M];exact(dX u).1
       rcases l2 j _ _ u (show args[j]?=al args[j]by simp[Z])with⟨_,_,z,_⟩|⟨_,_,z,_⟩|⟨_,z,_⟩<;>(rw[k]at z;cases z)|cM m=>
       have Z:j<args.length:=by rw[M];exact(dX u).1
       rcases l2 j _ _ u (show args[j]?=al args[j]by simp[Z])with⟨_,_,z,_⟩|⟨_,_,z,_⟩|⟨_,z,_⟩<;>(rw[k]at z;cases z)|own b' es=>
       obtain⟨v,s2,G,O,y3,y4,p⟩:=lent k rfl u y;have:t2≠.aN/\∀x,t2≠.lent x:=by
        rcases p with⟨_,_,p⟩|⟨p,_⟩;.subst p;rcases y4 with⟨_,rfl⟩|⟨_,rfl⟩<;>simp
        .cases p
       cases t2 with
       |aN=>exact absurd rfl this.1|hold x=>
         rcases p with⟨_,_,p⟩|⟨p,_⟩;.subst p;rcases y4 with⟨_,h⟩|⟨_,h⟩<;>cases h
         .cases p|gY x=>
         rcases p with⟨_,_,p⟩|⟨p,_⟩;.subst p;rcases y4 with⟨_,h⟩|⟨_,h⟩<;>cases h
         .cases p|cM x=>
         rcases p with⟨_,_,p⟩|⟨p,_⟩;.subst p;rcases y4 with⟨_,h⟩|⟨_,h⟩<;>cases h
         .cases p|lent x=>exact absurd rfl (this.2 x)|val b2 d2=>subst f;cases B|own b2 aw=>subst f;cases B;obtain⟨a,xs,W,x2⟩:=s.gs.own j _ _ y rfl;rw[O]at W;cases W;exact⟨a,xs,G,x2⟩
     |lent es=>
       obtain⟨v,s2,G,O,y3,y4,p⟩:=lent k rfl u y;have ht:t=.lent es:=by rw[f];cases t2<;>rfl
       subst ht;cases B;rcases p with⟨_,p,_⟩|⟨_,p⟩;.cases p
       .subst p;cases(show t2=.lent es from y4);obtain⟨a,xs,W,x2⟩:=s.gs.own j _ _ y rfl;rw[O]at W;cases W;exact⟨a,xs,G,x2⟩
 . by_cases q:F b=bdq
   . rcases s.wR b q n' with z|z;.exact(L b z).imp id gw
     . by_cases ho:Own ρ₀ σ b;.exact .inl ho
       .right;cases f:H₀ b with|none=>rfl|some o=>rw[s0.keep b o f ho]at z;exact z
   .exact s0.wR b n q
 . refine s.keep b o (s0.keep b o h n) λz=>?_;rcases L b z with z|z;.exact n z
   .rw[h]at z;cases z
 .obtain⟨E,s2,C,k2⟩:=s0.lk i s1 h l;refine⟨E,_,ae C,?_⟩;have Y6:=k2.uO l;refine nj.trans l k2 ?_;cases s2 with
   |aN=>cases Y6|gY _=>cases Y6|cM _=>cases Y6|hold _=>exact nj.refl _|val b d=>exact nj.refl _|lent es=>cases aY i as c with|none=>rfl|some t=>cases t<;>rfl
   |own b es=>cases b with|false=>cases Y6|true=>cases aY i as c with|none=>exact .inl ⟨_,rfl⟩|some t=>cases t with|aN=>exact .inl ⟨_,rfl⟩|lent _=>exact .inl ⟨_,rfl⟩|gY _=>exact .inl ⟨_,rfl⟩|cM _=>exact .inl ⟨_,rfl⟩|hold _=>exact .inl ⟨_,rfl⟩|own _ ds=>exact .inl ⟨_,rfl⟩|val _ d=>exact .inr ⟨_,rfl⟩
theorem yw.rebase{F1 f F2 g:Hp}{c ρ2:List Sl}{vs:List V}(a:az K F ρ σ H F1 c σ f)(A:yw K F2 ρ2 σ g c f as vs):yw K F2 ρ2 σ g ρ H as vs:=by refine⟨A.len,λj b v h1 k=>?_,A.dis⟩;have h:=A.one j b v h1 k;cases b with|dat d=>exact h|fM i=>exact h|tmp ds=>
   obtain⟨x,xs,l,m,p,q,r,q6⟩:=h;refine⟨x,xs,l,m,p,q,r,?_⟩;rcases q6 with q6|q6;.exact a.wY x q6
   . by_cases ho:Own ρ σ x;.exact .inl ho
     .right;cases e:H x with|none=>rfl|some o=>rw[a.keep x o e ho]at q6;cases q6
theorem yw.aaE{F1 b F2 c:Hp}{a ρ2:List Sl}{vs:List V}{r:R}(s1:az K F ρ σ H F1 a σ b)(e:cT K F1 a σ b ρ σ H v r)(s2:az K F1 a σ b F2 ρ2 σ c)(A:yw K F2 ρ2 σ c a b as vs):yw K F2 ρ2 σ c ρ H (ur r::as) (v::vs):=by
 have h1:Aw K F1 a σ b ρ H v (ur r):=by cases r with|val d=>exact e|own ds=>exact e
 refine .cons (h1.later s2) (A.rebase s1) λds x j ev k es l f=>?_;cases r with|val d=>cases j|own m=>
   obtain⟨y,xs,g,o,s,t,p,u⟩:=e;rw[ev]at g;cases g;have h:=A.one k _ _ l f;obtain⟨z,w,q,_,_,_,_,w6⟩:=h;cases q;rcases w6 with w6|w6;.exact p w6
   .rw[o]at w6;cases w6
end
section
variable{K:PySem.W.Frag}{F F1 H H1:Hp}{ρ ρ1 ρ2:List Sl}{σ σ1:_L.St}
theorem vW{s:Sl}(h:put ρ i s=al ρ1):∃s0,ρ[i]?=al s0/\uO s0=a7/\ρ1=ρ.set i s:=by
 unfold put at h;split at h;.rename_i q;cases h;exact⟨_,q,rfl,rfl⟩
 .rename_i q;cases h;exact⟨_,q,rfl,rfl⟩
 .rename_i q;cases h;exact⟨_,q,rfl,rfl⟩
 .cases h
theorem az.put{r:R}(s:az K F ρ σ H F1 ρ1 σ1 H1)(y:cT K F1 ρ1 σ1 H1 ρ σ H v r)(h:_H.put ρ1 i (Bv r)=al ρ2):az K F ρ σ H F1 ρ2 (σ1.set i (al v)) H1:=by
 obtain⟨s0,h0,B,rfl⟩:=vW h;have hi:i<ρ1.length:=(dX h0).1;have m:i<σ1.length:=by rw[<-s.gs.len];exact hi
 have f:∀{j:Nat}{a:b_},j≠i->aX (ρ1.set i (Bv r)) (σ1.set i (al v)) j a->aX ρ1 σ1 j a:=λ{j a}c⟨⟨t,ds,o,p⟩,g⟩=>by rw[fj c]at o g;exact⟨⟨t,ds,o,p⟩,g⟩
 have q:∀{a:b_},aX (ρ1.set i (Bv r)) (σ1.set i (al v)) i a->¬ Own ρ1 σ1 a/\(Own ρ σ a\/H a=bdq):=λ{a}⟨⟨t,ds,o,p⟩,g⟩=>by rw[cp hi]at o;rw[cp m]at g;cases o;cases g;cases r with|val d=>cases p|own es=>obtain⟨x,xs,I,C,E,G,J,L⟩:=y;cases I;exact⟨J,L⟩
 refine⟨⟨s.gs.sub,by simp[s.gs.len],λj b d e=>?_,λj t ds e z=>?_,λj k a h1 A=>?_⟩,s.bT,s.wR,s.keep,λa⟨j,c⟩=>?_,by simp[s.len],λj t e l=>?_⟩
 . by_cases c:j=i;.subst c;rw[cp hi]at e;cases r with|own es=>cases e|val d'=>cases e;exact⟨v,cp m,y⟩
   .rw[fj c]at e ⊢;exact s.gs.val j b d e
 . by_cases c:j=i;.subst c;rw[cp hi]at e;cases r with|val d'=>cases e;cases z|own es=>cases e;cases z;obtain⟨x,xs,rfl,C,E,G,_⟩:=y;exact⟨x,_,cp m,C,E,xs,rfl,G⟩
   .rw[fj c]at e ⊢;exact s.gs.own j t ds e z
 . by_cases c:j=i
   . by_cases u:k=i;.rw[c,u]
     .subst c;exact absurd ⟨k,f u A⟩ (q h1).1
   . by_cases u:k=i;.subst u;exact absurd ⟨j,f c h1⟩ (q A).1
     .exact s.gs.dis j k a (f c h1) (f u A)
 . by_cases w:j=i;.subst w;exact(q c).2
   .exact s.wY a ⟨j,f w c⟩
 . obtain⟨o,t1,p,g⟩:=s.lk j t e l;have c:j≠i:=by rintro rfl;rw[h0]at p;cases p;rw[g.uO l]at B;cases B
   exact⟨by rw[fj c];exact o,t1,by rw[fj c];exact p,g⟩
theorem GS.mut{x:Nat}{b:Bool}{es:List D}{a:b_}{ys:List V}(g:GS K F ρ σ H)(e:ρ[x]?=al (.own b ds))(p:σ[x]?=al (al (.ref a)))(r:aF K F ys es):az K F ρ σ H F (ρ.set x (.own b es)) σ (upd H a (.lst ys)):=by
 have hi:x<ρ.length:=(dX e).1;have w:aX ρ σ x a:=⟨⟨_,_,e,rfl⟩,p⟩;obtain⟨J,xs,h1,L,y,M⟩:=g.mW x _ ds e rfl;rw[p]at h1;cases h1;have h:∀{j:Nat}{c:b_},aX (ρ.set x (.own b es)) σ j c->aX ρ σ j c:=λ{j c}⟨⟨t,dt,m,s⟩,q3⟩=>by
  by_cases f:j=x;.subst f;exact⟨⟨_,_,e,rfl⟩,q3⟩
  .rw[fj f]at m;exact⟨⟨t,dt,m,s⟩,q3⟩
 refine⟨⟨λc o q=>?_,by simp[g.len],λj A d q=>?_,λj t dt q u=>?_,λj k c m s=>g.dis j k c (h m) (h s)⟩,.refl _,λc n B=>absurd n B,λc o q n=>?_,λc⟨j,q⟩=>.inl ⟨j,h q⟩,by simp,λj t q l=>⟨rfl,?_⟩⟩
 . have:c≠a:=by rintro rfl;rw[y]at q;cases q
   rw[ao this];exact g.sub c o q
 . by_cases f:j=x;.subst f;rw[cp hi]at q;cases q
   .rw[fj f]at q;exact g.val j A d q
 . by_cases f:j=x;.subst f;rw[cp hi]at q;cases q;cases u;exact⟨a,_,p,aC,y,ys,rfl,r⟩
   . rw[fj f]at q;obtain⟨c,C,z,E,G,I⟩:=g.own j t dt q u;have:c≠a:=by rintro rfl;exact f (g.dis j x c ⟨⟨t,dt,q,u⟩,z⟩ w)
     exact⟨c,C,z,by rw[ao this];exact E,G,I⟩
 . have:c≠a:=by rintro rfl;exact n ⟨x,w⟩
   rw[ao this];exact q
 . by_cases f:j=x;.subst f;rw[e]at q;cases q;refine⟨_,cp hi,?_⟩;cases b with|true=>exact .inl ⟨_,rfl⟩|false=>cases l
   .exact⟨t,by rw[fj f];exact q,.refl t⟩
theorem GS.lend{b:Bool}(g:GS K F ρ σ H)(e:ρ[i]?=al (.own b ds)):GS K F (ρ.set i (.lent ds)) σ H:=by
 have hi:i<ρ.length:=(dX e).1;have f:∀{j:Nat}{c:b_},aX (ρ.set i (.lent ds)) σ j c->aX ρ σ j c:=λ{j c}⟨⟨t,dt,h,l⟩,q3⟩=>by
  by_cases a:j=i;.subst a;exact⟨⟨_,_,e,rfl⟩,q3⟩
  .rw[fj a]at h;exact⟨⟨t,dt,h,l⟩,q3⟩
 refine⟨g.sub,by simp[g.len],λj o d q=>?_,λj t dt q m=>?_,λj k c h l=>g.dis j k c (f h) (f l)⟩
 . by_cases a:j=i;.subst a;rw[cp hi]at q;cases q
   .rw[fj a]at q;exact g.val j o d q
 . by_cases a:j=i;.subst a;rw[cp hi]at q;cases q;cases m;exact g.own j _ _ e rfl
   .rw[fj a]at q;exact g.own j t dt q m
theorem az.aU{b:Bool}(g:GS K F ρ σ H)(e:ρ[i]?=al (.own b ds))(s:az K F (ρ.set i (.lent ds)) σ H F1 ρ1 σ1 H1):az K F ρ σ H F1 (ρ1.set i (.own b ds)) σ1 H1/\∀v r,cT K F1 ρ1 σ1 H1 (ρ.set i (.lent ds)) σ H v r->cT K F1 (ρ1.set i (.own b ds)) σ1 H1 ρ σ H v r:=by
 have hi:i<ρ.length:=(dX e).1;have h1:(ρ.set i (.lent ds))[i]?=al (.lent ds):=cp hi;obtain⟨C,E,z,G⟩:=s.lk i _ h1 rfl;cases(show E=.lent ds from G);have u:i<ρ1.length:=(dX z).1;have A:∀{j:Nat}{c:b_},aX (ρ.set i (.lent ds)) σ j c->aX ρ σ j c:=λ{j c}⟨⟨t,dt,f,p⟩,m⟩=>by
  by_cases a:j=i;.subst a;exact⟨⟨_,_,e,rfl⟩,m⟩
  .rw[fj a]at f;exact⟨⟨t,dt,f,p⟩,m⟩
 have I:∀{c:b_},Own ρ σ c->Own (ρ.set i (.lent ds)) σ c:=λ{c}⟨j,⟨t,dt,f,p⟩,m⟩=>by
  by_cases a:j=i;.subst a;exact⟨j,⟨_,_,h1,rfl⟩,m⟩
  .exact⟨j,⟨t,dt,by rw[fj a];exact f,p⟩,m⟩
 have y:∀{j:Nat}{c:b_},aX (ρ1.set i (.own b ds)) σ1 j c->aX ρ1 σ1 j c:=λ{j c}⟨⟨t,dt,f,p⟩,m⟩=>by
  by_cases a:j=i;.subst a;exact⟨⟨_,_,z,rfl⟩,m⟩
  .rw[fj a]at f;exact⟨⟨t,dt,f,p⟩,m⟩
 have w:∀{c:b_}{h:Hp},Own (ρ.set i (.lent ds)) σ c\/h c=bdq->Own ρ σ c\/h c=bdq:=λ{c h}q=>q.imp (λ⟨j,q⟩=>⟨j,A q⟩) id;have J:∀{c:b_}{h:Hp},Own (ρ.set i (.lent ds)) σ c\/nt (h c)=bdq->Own ρ σ c\/nt (h c)=bdq:=λ{c h}q=>q.imp (λ⟨j,q⟩=>⟨j,A q⟩) id;refine⟨⟨⟨s.gs.sub,by simp[s.gs.len],λj L d q=>?_,λj t dt q B=>?_,λj k c f p=>s.gs.dis j k c (y f) (y p)⟩,s.bT,λc n M=>J (s.wR c n M),λc o q n=>s.keep c o q λ⟨j,x⟩=>n ⟨j,A x⟩,λc⟨j,q⟩=>w (s.wY c ⟨j,y q⟩),by simpa using s.len,λj t q l=>?_⟩,λv r h=>?_⟩
 . by_cases a:j=i;.subst a;rw[cp u]at q;cases q
   .rw[fj a]at q;exact s.gs.val j L d q
 . by_cases a:j=i;.subst a;rw[cp u]at q;cases q;cases B;exact s.gs.own j _ _ z rfl
   .rw[fj a]at q;exact s.gs.own j t dt q B
 . by_cases a:j=i;.subst a;rw[e]at q;cases q;refine⟨C,_,cp u,?_⟩;cases b with|true=>exact .inl ⟨_,rfl⟩|false=>cases l
   .obtain⟨N,t',O,Q⟩:=s.lk j t (by rw[fj a];exact q) l;exact⟨N,t',by rw[fj a];exact O,Q⟩
 .cases r with|val d=>exact h|own es=>obtain⟨x,xs,f,p,m,U,W,X⟩:=h;exact⟨x,xs,f,p,m,U,λ⟨j,q⟩=>W ⟨j,y q⟩,w X⟩
theorem GS.give(g:GS K F ρ σ H)(e:ρ[i]?=al (.own a7 ds)):∃v,σ[i]?=al (al v)/\az K F ρ σ H F (ρ.set i .aN) σ H/\cT K F (ρ.set i .aN) σ H ρ σ H v (.own ds):=by
 have hi:i<ρ.length:=(dX e).1;obtain⟨a,xs,h1,r,s,u⟩:=g.mW i _ ds e rfl;have f:∀{j:Nat}{c:b_},aX (ρ.set i .aN) σ j c->aX ρ σ j c/\j≠i:=λ{j c}⟨⟨t,dt,h,m⟩,q3⟩=>by
  by_cases b:j=i;.subst b;rw[cp hi]at h;cases h;cases m
  .rw[fj b]at h;exact⟨⟨⟨t,dt,h,m⟩,q3⟩,b⟩
 have o:aX ρ σ i a:=⟨⟨_,_,e,rfl⟩,h1⟩;refine⟨.ref a,h1,⟨⟨g.sub,by simp[g.len],λj w d q=>?_,λj t dt q p=>?_,λj k c h m=>g.dis j k c (f h).1 (f m).1⟩,.refl _,λc n y=>absurd n y,λ_ _ q _=>q,λc⟨j,q⟩=>.inl ⟨j,(f q).1⟩,by simp,λj t q l=>⟨rfl,?_⟩⟩,a,xs,rfl,r,s,u,λ⟨j,q⟩=>?_,.inl ⟨i,o⟩⟩
 . by_cases b:j=i;.subst b;rw[cp hi]at q;cases q
   .rw[fj b]at q;exact g.val j w d q
 . by_cases b:j=i;.subst b;rw[cp hi]at q;cases q;cases p
   .rw[fj b]at q;exact g.own j t dt q p
 . by_cases b:j=i;.subst b;rw[e]at q;cases q;cases l
   .exact⟨t,by rw[fj b];exact q,.refl t⟩
 .exact(f q).2 (g.dis j i a (f q).1 o)
theorem GS.more{τ:List (Option V)}(g:GS K F ρ σ H)(u:τ.length=n):GS K F (ρ++cq n .aN) (σ++τ) H:=by
 have get:∀{j:Nat}{t:Sl},(ρ++cq n Sl.aN)[j]?=al t->t≠.aN->ρ[j]?=al t/\j<ρ.length:=λ{j t}q ne=>by
  by_cases h:j<ρ.length;.rw[dr h]at q;exact⟨q,h⟩
  . rw[gx (by omega),ix]at q;split at q;.cases q;exact absurd rfl ne
    .cases q
 have m:∀{j:Nat}{v:Option V},j<ρ.length->(σ[j]?=al v↔(σ++τ)[j]?=al v):=λ{j v}h=>by rw[dr (by rw[<-g.len];exact h)]
 have e:∀{j:Nat}{c:b_},aX (ρ++cq n .aN) (σ++τ) j c->aX ρ σ j c:=λ{j c}⟨⟨t,dt,o,l⟩,q3⟩=>by obtain⟨h1,f⟩:=get o (by rintro rfl;cases l);exact⟨⟨t,dt,h1,l⟩,(m f).mpr q3⟩
 refine⟨g.sub,by simp[g.len,u],λj b d q=>?_,λj t dt q s=>?_,λj k c o l=>g.dis j k c (e o) (e l)⟩;.obtain⟨h1,f⟩:=get q (by simp);obtain⟨v,p,r⟩:=g.val j b d h1;exact⟨v,(m f).mp p,r⟩
 .obtain⟨h1,f⟩:=get q (by rintro rfl;cases s);obtain⟨a,xs,p,r⟩:=g.own j t dt h1 s;exact⟨a,xs,(m f).mp p,r⟩
theorem az.less{τ:List (Option V)}{m:Nat}(J:m=ρ.length)(g:GS K F ρ σ H)(Z:τ.length=n)(s:az K F (ρ++cq n .aN) (σ++τ) H F1 ρ1 σ1 H1):az K F ρ σ H F1 (ρ1.take m) (σ1.take m) H1/\∀v r,cT K F1 ρ1 σ1 H1 (ρ++cq n .aN) (σ++τ) H v r->cT K F1 (ρ1.take m) (σ1.take m) H1 ρ σ H v r:=by
 subst J;have L:ρ.length<=ρ1.length:=by rw[s.len];simp
 have l2:ρ.length<=σ1.length:=by rw[<-s.gs.len];exact L
 have tk:∀{y:Type}{l:List y}{j:Nat}{x:y},(l.take ρ.length)[j]?=al x->l[j]?=al x/\j<ρ.length:=λ{y l j x}q=>by
  rw[k8]at q;split at q;.exact⟨q,by assumption⟩
  .cases q
 have A:∀{y:Type}{l:List y}{j:Nat}{x:y},j<ρ.length->l[j]?=al x->(l.take ρ.length)[j]?=al x:=λ{y l j x}f q=>by rw[k8,if_pos f];exact q
 have B:∀{c:b_},Own (ρ++cq n .aN) (σ++τ) c->Own ρ σ c:=λ{c}⟨j,⟨t,dt,e,p⟩,u⟩=>by
  by_cases f:j<ρ.length;.rw[dr f]at e;rw[dr (by rw[<-g.len];exact f)]at u;exact⟨j,⟨t,dt,e,p⟩,u⟩
  . rw[gx (by omega),ix]at e;split at e;.cases e;cases p
    .cases e
 have M:∀{c:b_},Own ρ σ c->Own (ρ++cq n .aN) (σ++τ) c:=λ{c}⟨j,⟨t,dt,e,p⟩,u⟩=>by have f:j<ρ.length:=(dX e).1;exact⟨j,⟨t,dt,by rw[dr f];exact e,p⟩,by rw[dr (by rw[<-g.len];exact f)];exact u⟩
 have z:∀{j:Nat}{c:b_},aX (ρ1.take ρ.length) (σ1.take ρ.length) j c->aX ρ1 σ1 j c:=λ{j c}⟨⟨t,dt,e,p⟩,u⟩=>⟨⟨t,dt,(tk e).1,p⟩,(tk u).1⟩;have w:∀{c:b_}{h:Hp},Own (ρ++cq n .aN) (σ++τ) c\/h c=bdq->Own ρ σ c\/h c=bdq:=λ{c h}q=>q.imp B id;have N:∀{c:b_}{h:Hp},Own (ρ++cq n .aN) (σ++τ) c\/nt (h c)=bdq->Own ρ σ c\/nt (h c)=bdq:=λ{c h}q=>q.imp B id;refine⟨⟨⟨s.gs.sub,by simp only[kB];omega,λj b d q=>?_,λj t dt q O=>?_,λj k c e p=>s.gs.dis j k c (z e) (z p)⟩,s.bT,λc a b=>N (s.wR c a b),λc o q n=>s.keep c o q λx=>n (B x),λc⟨j,q⟩=>w (s.wY c ⟨j,z q⟩),by simp only[kB];omega,λj t q l=>?_⟩,λv r h=>?_⟩;.obtain⟨h1,C⟩:=tk q;obtain⟨v,E,G⟩:=s.gs.val j b d h1;exact⟨v,A C E,G⟩
 .obtain⟨h1,C⟩:=tk q;obtain⟨a,xs,E,G⟩:=s.gs.own j t dt h1 O;exact⟨a,xs,A C E,G⟩
 .have f:j<ρ.length:=(dX q).1;obtain⟨I,t',Q,U⟩:=s.lk j t (by rw[dr f];exact q) l;rw[dr (by rw[<-g.len];exact f)]at I;refine⟨?_,t',A f Q,U⟩;rw[k8,if_pos f];exact I
 .cases r with|val d=>exact h|own es=>obtain⟨x,xs,e,p,u,W,X,Y⟩:=h;exact⟨x,xs,e,p,u,W,λ⟨j,q⟩=>X ⟨j,z q⟩,w Y⟩
end
section
variable{X:Cx}{c:Call}{n:Nat}{e a b d:df}{p pa pb pd:P}{pos:Pos}{es:List df}{ps:List P}
inductive afd(K:PySem.W.Frag)(f:List Sl->Res (List Arg))(σ:_L.St)(H:Hp)(Q:List V->Hp->Prop):Prop where|mk(F:Hp)(ρ:List Sl)(as:List Arg)(ρ':List Sl)(g:GS K F ρ σ H)(e:f ρ=.ok as ρ')(k:∀vs F' H',az K F ρ σ H F' ρ' σ H'->yw K F' ρ' σ H' ρ H as vs->Q vs H')
noncomputable def SG(X:Cx)(c:Call)(es:List df)(ps:List P):Prop:=PA X es (afd X.K (Aj c ps))
theorem aH:SG X c [] []:=yK di λσ H Q⟨F,ρ,as,ρ',g,e,k⟩=>by rw[K1]at e;cases e;exact k [] F H (.refl g) .nil
theorem Qh(m:SX X c a pa)(hr:SG X c es ps)(hs:cw (a::es) X.env=(a7,eu a X.env)::cw es X.env:=by rfl):SG X c (a::es) (pa::ps):=by cases hv:isVar pa with|none=>refine yK (bu m.ev hr hs) ?_;rintro σ H Q⟨F,ρ,as,ρ',g,e,k⟩;rw[Al,hv]at e;obtain⟨r,f,o,e⟩:=aa e;obtain⟨xs,ρ2,h,e⟩:=aa e;cases e;refine⟨F,ρ,r,f,g,o,λv F1 w s1 q=>⟨F1,f,xs,_,s1.gs,h,λvs F2 j s2 A=>k _ F2 j (s1.trans s2) (yw.aaE s1 q s2 A)⟩⟩|some i=>refine yK (bu (m.var i hv) hr hs) ?_;rintro σ H Q⟨F,ρ,as,ρ',g,e,k⟩;rw[Al,hv]at e;obtain⟨x0,s,t,e⟩:=aa e;obtain⟨l,u⟩:=aD t;subst u;obtain⟨xs,ρ2,h,e⟩:=aa e;cases e;obtain⟨v,h1,_⟩:=g.pk l;exact⟨v,h1,F,ρ,xs,_,g,h,λvs F2 j s2 A=>k _ F2 j s2 (.cons h1 A λds x z=>by cases z)⟩
theorem Qe{k f:Nat}{t:b_}{fd:h8}{j:List Str}(I:oA X.prog X.w X.K X.mg X.base Jf k t fd j (Qs X.K j.length (c f)))(hr:jX k X.A)(J:Gl X x)(L:X.mg x=al (.ref t))(M:keepIn X.K (.ref t)=bx)(N:Binds X.K fd j [])(O:SG X c (e::es) ps)(U:(e::es).length=j.length)(u:(x==("__debug__":Str))=a7:=by decide)(he:cw (e::es) X.env=(a7,eu e X.env)::cw es X.env:=by rfl)(hpl:(iA pos (cw es X.env)).any (·.1)=a7:=by rfl)(y:ps.length=(e::es).length:=by rfl):SX X c (.Call (.Name x p') (e::es) [] pos) (.call f ps):=by
 refine⟨dG (PK (E:=E0) I hr J L M N .nil aav O u he hpl) ?_,λi h=>by cases h⟩;rintro σ H Q⟨F,ρ,r,ρ',g,e,k⟩;rw[_H.E15]at e;obtain⟨as,z,C,e⟩:=aa e;unfold p8 at e;split at e;.cases e
 . rename_i args m;split at e
   . rename_i r' l hc;cases e;refine⟨F,ρ,as,z,g,C,λvs F1 W s1 A=>?_⟩;have o:vs.length=j.length:=by
      have:∀{ps:List P}{ρ ρ':List Sl}{as:List Arg},Aj c ps ρ=.ok as ρ'->as.length=ps.length:=by intro ps;induction ps with|nil=>intro ρ ρ' as h;rw[K1]at h;cases h;rfl|cons q j G=>
         intro ρ ρ' as h;rw[Al]at h;split at h;.obtain⟨_,_,_,h⟩:=aa h;obtain⟨xs,ρ2,B,h⟩:=aa h;cases h;simp[G B]
         .obtain⟨_,_,_,h⟩:=aa h;obtain⟨xs,ρ2,B,h⟩:=aa h;cases h;simp[G B]
      rw[<-A.len,this C,y,U]
     show Qs X.K j.length (c f) (vs++[]) W Q E0;rw[fo];refine⟨o,F1,args,r,l,args_gs s1.gs A m,hc,λv Y Z H' s rr=>?_⟩;obtain⟨z1,z2⟩:=Ip s1 A m s;exact k v Y H' z1 (z2 v r rr)
   .cases e
   .cases e
noncomputable def Jx(K:PySem.W.Frag)(D:Ends)(h:Hp)(ρ':List Sl)(f:_L.St)(g:Hp)(ρ:List Sl)(σ:_L.St)(H:Hp)(fl:Fl):Prop:=match fl with|.next=>D.nx f g|.brk=>D.bk f g|.cont=>D.ct f g|.ret r=>∀v,cT K h ρ' f g ρ σ H v r->D.rt v g
inductive XQ(K:PySem.W.Frag)(f:List Sl->Res Fl)(D:Ends)(σ:_L.St)(H:Hp):Prop where|mk(F:Hp)(ρ:List Sl)(fl:Fl)(ρ':List Sl)(g:GS K F ρ σ H)(e:f ρ=.ok fl ρ')(k:∀F' σ' H',az K F ρ σ H F' ρ' σ' H'->Jx K D F' ρ' σ' H' ρ σ H fl)
noncomputable def SS(X:Cx)(c:Call)(n:Nat)(st:eM)(s:S):Prop:=PS X st (XQ X.K (ex c n s))
noncomputable def SB(X:Cx)(c:Call)(n:Nat)(st:List eM)(s:List S):Prop:=rG X st (XQ X.K (gj c n s))
theorem dH{st:eM}{t t':TS}(h:PS X st t)(i:∀D σ H,t' D σ H->t D σ H):PS X st t':=λf s σ H D I q=>h f s σ H D I (i D σ H q)
theorem lO{st:List eM}{t t':TS}(h:rG X st t)(i:∀D σ H,t' D σ H->t D σ H):rG X st t':=λf s σ H D I q=>h f s σ H D I (i D σ H q)
theorem xs0{c:Call}:gj c n [] ρ=.ok .next ρ:=rfl
theorem M6{c:Call}{s:S}{r:List S}:gj c n (s::r) ρ=(ex c n s ρ).bind λfl ρ=>match fl with|.next=>gj c n r ρ|fl=>.ok fl ρ:=rfl
theorem au:SB X c n [] []:=lO CW λD σ H⟨F,ρ,fl,ρ',g,e,k⟩=>by rw[xs0]at e;cases e;exact k F σ H (.refl g)
theorem aO{st:eM}{s:S}{f:List eM}{ss:List S}(h1:SS X c n st s)(m:SB X c n f ss):SB X c n (st::f) (s::ss):=by refine lO (fU h1 m) ?_;rintro D σ H⟨F,ρ,fl,ρ',g,e,k⟩;rw[M6]at e;obtain⟨f1,h,j,e⟩:=aa e;cases f1 with
 |next=>refine⟨F,ρ,.next,h,g,j,λF1 o w s1=>⟨F1,h,fl,ρ',s1.gs,e,λF2 l t s2=>?_⟩⟩;have q:=k F2 l t (s1.trans s2);cases fl with|next=>exact q|brk=>exact q|cont=>exact q|ret r=>exact λv u=>q v (u.later s1)
 |brk=>cases e;exact⟨F,ρ,.brk,_,g,j,k⟩|cont=>cases e;exact⟨F,ρ,.cont,_,g,j,k⟩|ret r=>cases e;exact⟨F,ρ,.ret r,_,g,j,k⟩
theorem Wn{st:eM}:SS X c n st .bad:=dH Ho λD σ H⟨F,ρ,fl,ρ',g,e,k⟩=>by rw[_H.X4]at e;cases e
theorem JQ{t1 t2:TE}(h1:PE X e t1)(g:PE X e t2):PE X e (λσ H Q=>t1 σ H Q\/t2 σ H Q):=λf s σ H Q I h=>h.elim (h1 f s σ H Q I) (g f s σ H Q I)
theorem Ws(he:SX X c e p):SS X c n (.Return (al e) pos) (.ret p):=by
 have plain:∀(D:Ends)(σ:_L.St)(H:Hp),(∃F ρ fl ρ',GS X.K F ρ σ H/\((_H.ev c p ρ).bind λr ρ=>.ok (Fl.ret r) ρ)=.ok fl ρ'/\∀j f h,az X.K F ρ σ H j ρ' f h->(match fl with|.next=>D.nx f h|.brk=>D.bk f h|.cont=>D.ct f h|.ret r=>∀v,cT X.K j ρ' f h ρ σ H v r->D.rt v h))->uW X.K (_H.ev c p) σ H D.rt:=λD σ H⟨F,ρ,fl,ρ',g,e,k⟩=>by obtain⟨r,l,m,e⟩:=aa e;cases e;exact⟨F,ρ,r,_,g,m,λv F1 o s1 s=>k F1 σ o s1 v s⟩
 cases hv:isVar p with|none=>refine dH (Ka he.ev) λD σ H⟨F,ρ,fl,ρ',g,e,k⟩=>plain D σ H ⟨F,ρ,fl,ρ',g,?_,k⟩;rw[_H.X11,hv]at e;exact e|some i=>--by the name itself:its own list is handed back,else its data
   have t:p=.var i:=by cases p<;>cases hv;rfl
   subst t;refine dH (Ka (JQ (he.var i hv) he.ev)) ?_;rintro D σ H⟨F,ρ,fl,ρ',g,e,k⟩;rw[_H.X11,hv]at e;dsimp only at e;split at e;.rename_i ds q;cases e;obtain⟨v,h1,u,w⟩:=g.give q;exact .inl ⟨v,h1,k F σ H u v w⟩
   .exact .inr (plain D σ H ⟨F,ρ,fl,ρ',g,e,k⟩)
theorem gk{m o:List eM}{s t:List S}(hc:ST X c e p)(u:SB X c n m s)(w:SB X c n o t):SS X c n (.If e m o pos) (.ifs p s t):=by refine dH (RM hc u w) ?_;rintro D σ H⟨F,ρ,fl,ρ',g,e,k⟩;rw[_H.X13]at e;obtain⟨x,j,y,e⟩:=aa e;refine⟨F,ρ,x,j,g,y,λF1 z s1=>?_⟩;have go:∀{f:List Sl->Res Fl},f j=.ok fl ρ'->XQ X.K f D σ z:=λ{f}h=>⟨F1,j,fl,ρ',s1.gs,h,λF2 l A s2=>by have q:=k F2 l A (s1.trans s2);cases fl with|next=>exact q|brk=>exact q|cont=>exact q|ret r=>exact λv B=>q v (B.later s1)⟩;cases x with|true=>rw[if_pos rfl]at e;exact go e|false=>rw[if_neg c_]at e;exact go e
theorem vy{f:Pos}(l:X.N.Nodup)(hi:X.N[i]?=al x)(m:Loc X.env.scope x)(he:SX X c e p)(hs:gd e (al (.Name x f)) pos.line X.env=eS a7:=by rfl)(o:X.fn x=bx\/X.env.scope.names.lookup x=al .local:=by first|(left;rfl)|(right;rfl)|assumption):SS X c n (.Assign [.Name x f] e pos) (.asg i p):=by refine dH (qe l hi m he.ev hs o) ?_;rintro D σ H⟨F,ρ,fl,ρ',g,e,k⟩;rw[_H.X6]at e;obtain⟨r,j,q,e⟩:=aa e;obtain⟨ρ2,s,h,e⟩:=aa e;cases e;have t:=aD h;clear h;obtain⟨h,y⟩:=t;exact⟨F,ρ,r,j,g,q,λv F1 u s1 w=>k F1 _ u (s1.put w h)⟩
end
end _H
namespace _L
open PySem Spec PyProof.Rows
variable{env:Env}{scope:jt}{X:Cx}
noncomputable def ug(X:Cx)(scope:jt)(N':List Str)(cl:List (Str×b_))(C:b_)(s₀:bZ)(H₀:Hp)(ex:List b_):Cx:={X with N:=N',s₀:=s₀,H₀:=H₀,env:=compEnvC scope cl C X.env,outer:=X.stack,stack:=X.stack,ex:=ex,fn:=λx=>scope.names.lookup x==al .cell,pn:=[],xe:=λ_ _=>False}
theorem zN(l:List (Str×ku)):∀(cs:List (Str×b_)),(∀n,(n,eH)∈l->∃c,env.cells.lookup n=al c)->(∀n c,cs.lookup n=al c->env.cells.lookup n=al c)->∃ cl,(forIn l cs (λ(x:Str × ku)(r:List (Str × b_))=>(if(x.2==eH)=bx then(do let a<-cellOf env x.1;eS (ii ((x.1,a)::r)))else eS (ii r):Sem (ForInStep (List (Str × b_))))):Sem (List (Str × b_)))=eS cl/\(∀n c,cl.lookup n=al c->env.cells.lookup n=al c)/\(∀n,((n,eH)∈l\/(cs.lookup n).isSome)->(cl.lookup n).isSome):=by induction l with|nil=>intro cs _ h;exact⟨cs,rfl,h,λn hn=>by rcases hn with hn|hn;cases hn;exact hn⟩|cons y l i=>
   obtain⟨n,k⟩:=y;intro cs b hc;rw[forIn_cons];by_cases f:k=.free
   . subst f;obtain⟨a,j⟩:=b n h_;obtain⟨cl,e,h1,g⟩:=i ((n,a)::cs) (λm hm=>b m (dA _ hm)) λm c hm=>by
      rw[fv]at hm;split at hm;.rename_i q;have q:=eq_of_beq q;subst q;cases hm;exact j
      .exact hc m c hm
     refine⟨cl,?_,h1,λm hm=>g m ?_⟩
     . rw[<-e];have:cellOf env n=eS a:=by unfold cellOf;rw[j]
       simp only[beq_self_eq_true,if_true,this];rfl
     . rcases hm with hm|hm
       . rcases cS.mp hm with hm|hm;.cases hm;right;simp[fv]
         .exact .inl hm
       . right;rw[fv];split;.rfl
         .exact hm
   . obtain⟨cl,e,h1,g⟩:=i cs (λm hm=>b m (dA _ hm)) hc;refine⟨cl,?_,h1,λm hm=>g m ?_⟩
     . rw[<-e];have:(k==eH)=a7:=by simpa using f
       simp only[this,ip,if_false];rfl
     . rcases hm with hm|hm
       . rcases cS.mp hm with hm|hm;.cases hm;exact absurd rfl f
         .exact .inl hm
       .exact .inr hm
theorem zT(a:∀n,(n,eH)∈scope.names->∃c,env.cells.lookup n=al c):∃cl,closureFor scope env=eS cl/\(∀n c,cl.lookup n=al c->env.cells.lookup n=al c)/\∀n,(n,eH)∈scope.names->(cl.lookup n).isSome:=by obtain⟨cl,e,h1,b⟩:=zN (env:=env) scope.names [] a (by simp);refine⟨cl,?_,h1,λn f=>b n (.inl f)⟩;unfold closureFor;exact(congrArg (λt=>t>>=λr=>eS r) e).trans rfl
theorem eG{env:Env}:∀(names:List (Str×ku))(x:Str),(names.map λ(n,k)=>if(k==eH&&env.scope.kind==.function&&env.kindOf n==al .cell)then(n,gf)else(n,k)).lookup x=(names.lookup x).map λk=>if(k==eH&&env.scope.kind==.function&&env.kindOf x==al .cell)=bx then gf else k
 |[],x=>rfl|(n,k)::r,x=>by
   have a:=eG (env:=env) r x;show List.lookup x ((if(k==eH&&env.scope.kind==.function&&env.kindOf n==al .cell)=bx then(n,gf)else(n,k))::_)=_;by_cases hc:(k==eH&&env.scope.kind==.function&&env.kindOf n==al .cell)=bx;.rw[if_pos hc,fv,fv];cases hx:x==n with|true=>have:=eq_of_beq hx;subst this;show al gf=al (if _ then _ else _);rw[if_pos hc]|false=>exact a
   .rw[if_neg hc,fv,fv];cases hx:x==n with|true=>have:=eq_of_beq hx;subst this;show al k=al (if _ then _ else _);rw[if_neg hc]|false=>exact a
noncomputable def Zg(N N':List Str)(a:jt):Bool:=(N.zip N').all λp=>(p.1==p.2&&a.names.lookup p.2==al .free)||(a.names.lookup p.2!=al .local&&a.names.lookup p.2!=al .cell&&a.names.lookup p.2!=al .free)
structure fY(X:Cx)(scope:jt)(N':List Str)(n:Nat):Prop where
 kind:scope.kind=.function
 cons:∀y∈scope.names,scope.names.lookup y.1=al y.2
 names:∀y∈scope.names,y.2=.local->scope.names.lookup y.1=al .local
 cap:∀y∈scope.names,y.2=.free->X.env.scope.names.lookup y.1=al .cell\/X.env.scope.names.lookup y.1=al .free
 len:N'.length=X.N.length+n
 same:Zg X.N N' scope=bx
theorem fY.get{N':List Str}{n:Nat}(c:fY X scope N' n){i:Nat}{x:Str}(hi:i<X.N.length)(h:N'[i]?=al x)(a:vC (i_ scope X.env) x):X.N[i]?=al x/\scope.names.lookup x=al .free:=by
 have hz:(X.N.zip N')[i]?=al (X.N[i],x):=by rw[kb];exact⟨by simp[hi],h⟩
 have:=(eh.mp c.same) _ (du hz);simp only[kS,ey]at this;rcases this with⟨h1,b⟩|⟨⟨h1,b⟩,f⟩;.have h1:=eq_of_beq h1;have b:=eq_of_beq b;exact⟨by simp[hi,h1],b⟩
 . exfalso;have h1:scope.names.lookup x≠al .local:=by simpa using h1
   have b:scope.names.lookup x≠al .cell:=by simpa using b
   have f:scope.names.lookup x≠al .free:=by simpa using f
   have e:=eG (env:=X.env) scope.names x;have a:(i_ scope X.env).names.lookup x=al .local\/(i_ scope X.env).names.lookup x=al .cell\/(i_ scope X.env).names.lookup x=al .free:=a;rw[show(i_ scope X.env).names.lookup x=_ from e]at a;cases q:scope.names.lookup x with|none=>rw[q]at a;simp at a|some k=>
     rw[q]at a h1 b f;have g:(k==eH)=a7:=by cases k<;>first|rfl|exact absurd rfl f
     simp only[ky,g,nk,ip,if_false,Option.some.injEq]at a;rcases a with rfl|rfl|rfl;.exact h1 rfl
     .exact b rfl
     .exact f rfl
structure CI(cl:List (Str×b_))(z:Nat)(h:ew)(acc:List (Str×b_)):Prop where from':∀n c,acc.lookup n=al c->cl.lookup n=al c\/(z<=c/\h.IsCell c bdq)inj:∀n n' c,acc.lookup n=al c->acc.lookup n'=al c->n=n'
theorem JH{cl:List (Str×b_)}{z:Nat}(i:∀n c,cl.lookup n=al c->c<z):∀(names:List (Str×ku))(h:ew)(f:List (Str×b_)),z<=h.objs.size->CI cl z h f->CI cl z (pushCells h names) (kg h.objs.size names f)/\(∀n,(f.lookup n).isSome->((kg h.objs.size names f).lookup n).isSome)/\(∀n,((∃c,f.lookup n=al c/\z<=c)\/(n,gf)∈names)->∃c,(kg h.objs.size names f).lookup n=al c/\z<=c)/\(∀n c,(n,gf)∉names->(kg h.objs.size names f).lookup n=al c->f.lookup n=al c)
 |[],h,f,hz,x=>by
   refine⟨x,λ_ q=>q,λn q=>?_,λ_ _ _ q=>q⟩;rcases q with q|q;.exact q
   .cases q|(name,kind)::r,h,f,hz,x=>by
   unfold pushCells kg;by_cases l:kind=.cell
   . subst l;rw[if_pos (by rfl),if_pos (by rfl)];have p:CI cl z (h.push {cls:=.type "cell",data:=.cell bdq}) ((name,h.objs.size)::f):=by
      have lt:∀n c,f.lookup n=al c->c<h.objs.size:=λn c e=>by
       rcases x.from' n c e with q|q;.exact d_ (i n c q) hz
       .exact q.2.lt
      refine⟨λn c e=>?_,λn m c e j=>?_⟩
      . rw[fv]at e;split at e;.cases e;exact .inr ⟨hz,_,cv _ rfl,rfl⟩
        . rcases x.from' n c e with q|q;.exact .inl q
          .exact .inr ⟨q.1,q.2.keeps λb o e=>dB e⟩
      . rw[fv]at e j;split at e<;>split at j;.rename_i _ a _ b;rw[eq_of_beq a,eq_of_beq b]
        .cases e;exact absurd (lt m _ j) (ia _)
        .cases j;exact absurd (lt n _ e) (ia _)
        .exact x.inj n m c e j
     have g:=JH i r (h.push {cls:=.type "cell",data:=.cell bdq}) ((name,h.objs.size)::f) (by rw[ef];omega) p;rw[ef]at g;refine⟨g.1,λn q=>g.2.1 n ?_,λn q=>g.2.2.1 n ?_,λn c q e=>?_⟩
     . rw[fv];split;.rfl
       .exact q
     . rcases q with⟨c,e,hc⟩|q
       . left;rw[fv];split;.exact⟨_,rfl,hz⟩
         .exact⟨c,e,hc⟩
       . rcases cS.mp q with q|q;.cases q;left;exact⟨_,by simp[fv],hz⟩
         .exact .inr q
     . have:=g.2.2.2 n c (λz=>q (dA _ z)) e;rw[fv]at this;split at this;.rename_i a;exact absurd (by rw[eq_of_beq a];exact h_) q
       .exact this
   . have k:(kind==gf)=a7:=by simpa using l
     rw[if_neg (by rw[k];decide),if_neg (by rw[k];decide)];have g:=JH i r h f hz x;refine⟨g.1,g.2.1,λn q=>g.2.2.1 n ?_,λn c q e=>g.2.2.2 n c (λz=>q (dA _ z)) e⟩;rcases q with q|q;.exact .inl q
     . rcases cS.mp q with q|q;.cases q;exact absurd rfl l
       .exact .inr q
structure HJ(X:Cx)(scope:jt)(z:Nat)(h:ew)(cs:List (Str×b_)):Prop where
 from':∀n c,cs.lookup n=al c->X.env.cells.lookup n=al c\/(z<c/\h.IsCell c bdq)inj:∀n n' c,cs.lookup n=al c->cs.lookup n'=al c->n=n'
 has:∀n,(scope.names.lookup n=al .free\/scope.names.lookup n=al .cell)->∃c,cs.lookup n=al c
 fre:∀n c,scope.names.lookup n=al .free->cs.lookup n=al c->X.env.cells.lookup n=al c
 own:∀n c,scope.names.lookup n=al .cell->cs.lookup n=al c->z<c
theorem GK{M:r_}{A:ej}{E:bw->bZ->Prop}{s:bZ}{N':List Str}{n:Nat}{cl:List (Str×b_)}{Q:Env->bZ->Prop}(ok:fY X scope N' n)(h:∀n c,X.env.cells.lookup n=al c->c<s.heap.objs.size)(f:∀x y c,X.env.cells.lookup x=al c->X.env.cells.lookup y=al c->x=y)(a:∀n c,cl.lookup n=al c->X.env.cells.lookup n=al c)(l:∀n,(n,eH)∈scope.names->(cl.lookup n).isSome)(m:∀ cs h',h'.Ns s.heap.objs.size (λ_=>bdq)->(∀ b o,s.heap.get? b=al o->h'.get? b=al o)->HJ X scope s.heap.objs.size h' cs->Q {scope:=scope,locals:=s.heap.objs.size,globals:=X.env.globals,cells:=cs,qual:=X.env.qual,func:=bdq,code:=X.env.code,frame:=X.env.frame,builtins:=X.env.builtins} {s with heap:=h'}):cy M A (og scope X.env.globals cl [] X.env.qual bdq .none (al X.env)) Q E s:=by
 simp only[og,Option.isSome_some,if_true];refine a_ (wpAny_alloc ?_);refine a_ (wpAny_layCells _ (λname kind cells=>by cases i:kind==gf<;>simp[i]) _ _ _ _ ?_);have ck:=JH (cl:=cl) (z:=s.heap.objs.size+1) (λn c e=>Nat.lt_succ_of_lt (h n c (a n c e))) scope.names (s.heap.push {cls:=.type "dict",data:=.dict #[]}) cl (by rw[ef];exact dq) ⟨λn c e=>.inl e,λn k c e g=>f n k c (a n c e) (a k c g)⟩;obtain⟨c1,c2,c3,c4⟩:=ck;rw[show({s with heap:=s.heap.push {cls:=.type "dict",data:=.dict #[]}}:bZ).heap.objs.size=(s.heap.push {cls:=.type "dict",data:=.dict #[]}).objs.size from rfl];refine a_ ?_;rw[forIn_nil];refine cr (cr (m _ _ ((Heap.Ns.new s.heap (.type "dict")).keeps (pushCells_keeps _ _)) (λb o e=>pushCells_keeps _ _ b o (dB e)) ⟨λn c e=>?_,c1.inj,λn q=>?_,λn c q e=>?_,λn c q e=>?_⟩))
 . rcases c1.from' n c e with z|z;.exact .inl (a n c z)
   .exact .inr ⟨z.1,z.2⟩
 . rcases q with q|q;.exact nh.mp (c2 n (l n (PySem.mem_of_lookup q)))
   .obtain⟨c,e,_⟩:=c3 n (.inr (PySem.mem_of_lookup q));exact⟨c,e⟩
 .refine a n c (c4 n c (λz=>?_) e);have:=ok.cons _ z;rw[q]at this;cases this
 .obtain⟨p,g,j⟩:=c3 n (.inr (PySem.mem_of_lookup q));rw[e]at g;cases g;exact j
section
variable{X:Cx}{pins:List (b_×Obj)}{σ:_L.St}{H:Hp}{s:bZ}{scope:jt}{N':List Str}{n:Nat}{fp:List b_}{cl:List (Str×b_)}
theorem IW{h1:ew}{m:Str->Option bw}{t:Nat}{cs:List (Str×b_)}(ok:fY X scope N' n)(I:Inv X pins σ H s)(G:∀b∈fp,nR X pins H b/\b<s.heap.objs.size)(w:HJ X scope s.heap.objs.size h1 cs)(U:h1.Ns s.heap.objs.size m)(j:∀b u,s.heap.get? b=al u->h1.get? b=al u):Inv (ug X scope N' cs s.heap.objs.size s H fp) [] (σ++cq n bdq) H {s with heap:=h1,toks:=t}:=by
 have J:∀x,scope.names.lookup x=al .free->(i_ scope X.env).names.lookup x=al .cell\/(i_ scope X.env).names.lookup x=al .free:=λx h=>by
  have e:=eG (env:=X.env) scope.names x;rw[h]at e;have L:(i_ scope X.env).names.lookup x=_:=e;rw[L];simp only[ky];split;.exact .inl rfl
  .exact .inr rfl
 refine⟨⟨I.ok.mod,ok.kind,I.ok.glob,I.ok.blt,dq,λx y c h1 W=>w.inj x y c h1 W,λx z=>?_,λx c h e=>li (w.own x c (eq_of_beq (show(scope.names.lookup x==al gf)=bx from h)) e),I.ok.hd,I.ok.frames,.inl rfl,λb B=>?_,I.bs,g_ I.ok.RW I.sz,λb u e B=>?_,λb B M=>?_,I.stack,I.Du⟩,rfl,I.bare,Un.kept j,⟨m,U,λi x v Y C Z=>?_⟩,λx c e=>?_,I.hok.fresh (dq),λx c e=>?_,λp hp=>(by cases hp),I.hok.kept j,?_⟩;.--a abj name has its cell
   have z:(i_ scope X.env).names.lookup x=al .cell\/(i_ scope X.env).names.lookup x=al .free:=z;have e:=eG (env:=X.env) scope.names x;have L:(i_ scope X.env).names.lookup x=_:=e;rw[L]at z;refine w.has x ?_;cases q:scope.names.lookup x with|none=>rw[q]at z;simp at z|some k=>
     rw[q]at z;by_cases hk:k=.free;.rw[hk];exact .inl rfl
     . have g:(k==eH)=a7:=by simpa using hk
       simp only[ky,g,nk,ip,if_false,Option.some.injEq]at z;rcases z with rfl|rfl;.exact .inr rfl
       .exact absurd rfl hk
 . obtain⟨f,lt⟩:=G b B;refine⟨dP lt,λx c e=>?_⟩;rcases w.from' x c e with e|e;.exact f.2.2.2.2.1 x c e
   .rintro rfl;exact absurd (ot e.1 lt) (ia _)
 . obtain⟨f,lt⟩:=G b B;rcases f.2.2.2.1 with h|h;.exact I.ok.Ly b u e h
   .have this:b<X.base.objs.size:=de e;exact absurd (d_ this (g_ I.ok.RW h)) (ia _)
 . obtain⟨f,lt⟩:=G b B;rcases cS.mp (I.vL b M)with h|h;.exact f.2.1 h
   .exact f.2.2.1 h
 .--the names
   have hi:i<σ.length:=by
    by_cases hi:i<σ.length;.exact hi
    .rw[gx (by omega),ix]at C;split at C<;>cases C
   rw[dr hi]at C;obtain⟨N,o⟩:=ok.get (by rw[<-I.len];exact hi) Y Z;have hk:=ok.cap (x,.free) (PySem.mem_of_lookup o) rfl;obtain⟨m0,ac,hl⟩:=I.loc;obtain⟨u,r,l⟩:=hl i x v N C (.inr hk);refine⟨u,r,.inr ⟨J x o,?_⟩⟩;rcases l with⟨g,_⟩|⟨_,c,hc,A⟩;.have g:X.env.scope.names.lookup x=al .local:=g;rcases hk with hk|hk<;>(rw[g]at hk;cases hk)
   .obtain⟨c',E⟩:=w.has x (.inl o);have:=w.fre x c' o E;rw[hc]at this;cases this;refine⟨c,E,?_⟩;obtain⟨oc,O,Q⟩:=A;exact⟨oc,j c oc O,Q⟩
 . rcases w.from' x c e with e|e;.obtain⟨v,oc,O,Q⟩:=I.cell x c e;exact⟨v,oc,j c oc O,Q⟩
   .exact⟨_,e.2⟩
 . rcases w.from' x c e with e|e;.exact I.jz x c e
   .exact I.hok.fresh (li e.1)
 .show(σ++cq n bdq).length=N'.length;rw[eB,oz,I.len,ok.len]
theorem wL{prog:da}{w:eg}{A:ej}{R:Result->bZ->Prop}{p a iter:df}{ifs:List df}{pos:Pos}{it q:bw}(I:Nat->bZ->Prop)(t:∀ n s,I n s->cy (cE prog w) A (oe it) (λr b=>match r with|none=>R (.ok .next) b|some v=>cy (cE prog w) A (k3 a it v) (λ_ b=>cy (cE prog w) A (ka a env v) (λ_ j=>cy (cE prog w) A (forIn ifs bx λc r=>if r=bx then do let ok<-isTrue c env (eu c env);eS (ii ok)else eS (ii r)) (λok g=>if ok=bx then cy (cE prog w) A (eu p env) (λx k=>cy (cE prog w) A (call (.builtin "list.append") [q,x]) (λ_ l=>∃m,m<n/\I m l) (n4 (cE prog w) A env λe i=>R (.error e) i) k) (n4 (cE prog w) A env λe i=>R (.error e) i) g else ∃m,m<n/\I m g) (n4 (cE prog w) A env λe i=>R (.error e) i) j) (n4 (cE prog w) A env λe i=>R (.error e) i) b) (n4 (cE prog w) A env λe i=>R (.error e) i) b) (n4 (cE prog w) A env λe i=>R (.error e) i) s)(n:Nat){s:bZ}(h:I n s):kX (cE prog w) A (.compLoop (.ListComp p [⟨a,iter,ifs,0⟩] scope pos) 0 it q env) R s:=by refine codeAny_loop rfl I (λn s B=>?_) n h;show cy _ A ((compTurn (.ListComp p [⟨a,iter,ifs,0⟩] scope pos) 0 it q env).onRaise (λx=>do noteFrame x env;theTreesLotGoes x)) _ _ s;refine wpAny_noted ?_;rw[compTurn_list];refine a_ (ma (a_ (ei (t n s B) (λr b f=>?_) λ_ _ h'=>h')));cases r with|none=>exact cr f|some v=>refine a_ (ei f (λ_ b f=>?_) λ_ _ h'=>h');refine a_ (ei f (λ_ j u=>a_ (ei u (λok g o=>?_) λ_ _ h'=>h')) λ_ _ h'=>h');cases ok with|false=>exact cr ⟨rfl,o⟩|true=>exact a_ (a_ (ei o (λx k y=>a_ (ei y (λ_ l z=>cr (cr ⟨rfl,z⟩)) λ_ _ h'=>h')) λ_ _ h'=>h'))
noncomputable def S7(X:Cx)(ifs:List df)(t:TT):Prop:=∀(pins:List (b_ × Obj))(s:bZ)(σ:_L.St)(H:Hp)(Q:Bool->Hp->Prop),Inv X pins σ H s->t σ H Q->cy (cE X.prog X.w) X.A (forIn ifs bx λc r=>if r=bx then do let ok<-isTrue c X.env (eu c X.env);eS (ii ok)else eS (ii r)) (TP X pins σ Q) X.xe s
theorem PN:S7 X [] (λ_ H Q=>Q bx H):=λpins s σ H Q I h=>wpAny_tests_nil ⟨H,I,h⟩
theorem Nj{c:df}{t:TT}(h:PT X c t):S7 X [c] t:=λpins s σ H Q I q=>wpAny_tests_one (h pins s σ H Q I q)
noncomputable def QR(J:It)(g:TG)(tt:TT)(te:TE)(D:b_)(Q:Hp->Prop)(W:Nat->Nat->List V->_L.St->Hp->Prop):Prop:=∀ i m ys σ H,W i m ys σ H->H D=al (.lst ys)/\((J.stop i H/\Q H)\/(J.go i H/\∀ x e,J.LC i H x e->g x σ e λa j=>tt a j λb f=>if b=bx then te a f λy h=>h D=al (.lst ys)/\ys.length<sizeLine/\∃c,c<m/\W (i+1) c (ys++[y]) a (upd h D (.lst (ys++[y])))else ∃c,c<m/\W (i+1) c ys a f))
theorem ue{E:bw->bZ->Prop}{af a iter:df}{ifs:List df}{pos:Pos}{it:b_}{tn:Nat->ew->Prop}{J:It}{g:TG}{tt:TT}{te:TE}{Q:b_->Hp->Prop}{RR:bw->b_->Result->bZ->Prop}(hc:X.calm=bx)(ok:fY X scope N' n)(I:Inv X pins σ H s)(bn:∀n c,cl.lookup n=al c->X.env.cells.lookup n=al c)(BJ:∀n,(n,eH)∈scope.names->(cl.lookup n).isSome)(T:Turn X.prog X.w X.K a J fp it tn)(h0:tn 0 s.heap)(hf:∀b∈fp,nR X pins H b)(hg:∀cl C s₀ H₀ ex,PG (ug X scope N' cl C s₀ H₀ ex) a g)(ht:∀cl C s₀ H₀ ex,S7 (ug X scope N' cl C s₀ H₀ ex) ifs tt)(he:∀cl C s₀ H₀ ex,PE (ug X scope N' cl C s₀ H₀ ex) af te)(hw:∀D,H D=bdq->∃W,(∃m,W 0 m [] (σ++cq n bdq) (upd H D (.lst [])))/\QR J g tt te D (Q D) W)(bo:∀D C B l,Q D l->(∃m,B.heap.Ns C m)->nR X pins l C->Inv X pins σ l B->RR (.ref D) C (.ok .next) B):cy (cE X.prog X.w) X.A (newList []) (λaw ax=>cy (cE X.prog X.w) X.A (og scope X.env.globals cl [] X.env.qual bdq .none (al X.env)) (λam ay=>kX (cE X.prog X.w) X.A (.compStart (.ListComp af [⟨a,iter,ifs,0⟩] scope pos) 0 (.ref it) aw {am with scope:=i_ scope X.env}) (RR aw am.locals) ay) E ax) E s:=by
 refine ek (GK ok (λx c e=>?lt) I.ok.inj bn BJ (λcs M ap hold bc=>?_));case lt=>obtain⟨v,z⟩:=I.cell x c e;exact d_ z.lt (by show _<=(s.heap.push _).objs.size;rw[ef];exact le_succ _)
 dsimp only at ap hold bc ⊢--the new list,tracked
 have I3:Inv X pins σ (upd H s.heap.objs.size (.lst [])) {s with heap:=s.heap.push {cls:=.type "list",data:=.seq ([]:List bw).toArray}}:=I.V7 (t':=s.toks) .nil (uY);generalize ar:({s with heap:=s.heap.push {cls:=.type "list",data:=.seq ([]:List bw).toArray}}:bZ)=s3 at I3;have hsz:s3.heap.objs.size=s.heap.objs.size+1:=by rw[<-ar];exact ef _ _
 have R5:s3.heap=s.heap.push {cls:=.type "list",data:=.seq ([]:List bw).toArray}:=by rw[<-ar]
 obtain⟨W,⟨m0,w0⟩,aE⟩:=hw s.heap.objs.size I.fresh;have aI:∀{h':ew},(∀b o,s.heap.get? b=al o->h'.get? b=al o)->tn 0 h':=λk=>T.keep _ _ _ h0 λb j o e=>k b o e;have ag:∀b∈fp,nR X pins (upd H s.heap.objs.size (.lst [])) b/\b<s3.heap.objs.size:=λb j=>by obtain⟨o,e,_⟩:=T.obj 0 _ h0 b j;have lt:=de e;obtain⟨f1,f2⟩:=hf b j;exact⟨⟨by rw[ao (dP lt)];exact f1,f2⟩,by rw[hsz];exact Nat.lt_succ_of_lt lt⟩
 rw[<-R5]at ap hold bc ⊢;have I4:=IW (t:=s3.toks) ok I3 ag bc ap hold;have aS:∀b o,s.heap.get? b=al o->M.get? b=al o:=λb o e=>hold b o (by rw[R5];exact dB e);generalize U:ug X scope N' cs s3.heap.objs.size s3 (upd H s.heap.objs.size (.lst [])) fp=G at I4;have hA:G.A=X.A:=by rw[<-U];rfl
 have N:G.prog=X.prog:=by rw[<-U];rfl
 have O:G.w=X.w:=by rw[<-U];rfl
 have aT:G.K=X.K:=by rw[<-U];rfl
 have Y:G.calm=bx:=by rw[<-U];exact hc
 have bp:G.xe=λ_ _=>False:=by rw[<-U];rfl
 have a8:G.env=compEnvC scope cs s3.heap.objs.size X.env:=by rw[<-U];rfl
 have bq:PG G a g:=by rw[<-U];exact hg _ _ _ _ _
 have br:S7 G ifs tt:=by rw[<-U];exact ht _ _ _ _ _
 have bt:PE G af te:=by rw[<-U];exact he _ _ _ _ _
 have ff:∀{l:Hp}{b:b_},b∈fp->l b=bdq->nR G [] l b:=λ{l b}j hn=>by
  obtain⟨f,lt⟩:=ag b j;rw[<-U];refine⟨hn,dP lt,λbv=>?_,.inl j,λx c e=>?_,λp hp=>by cases hp⟩
  . rcases cS.mp (I3.vL b bv)with h|h;.exact f.2.1 h
    .exact f.2.2.1 h
  . rcases bc.from' x c e with e|e;.exact f.2.2.2.2.1 x c e
    .rintro rfl;exact absurd (ot e.1 lt) (ia _)--behind the block
 have fin:∀{L:_L.St}{l:Hp}{B:bZ},Inv G [] L l B->Q s.heap.objs.size l->RR (.ref s.heap.objs.size) s3.heap.objs.size (.ok .next) B:=λ{L l B}J' q=>by
  rw[<-U]at J';have hC:l s3.heap.objs.size=bdq:=J'.free;obtain⟨hh,gg,dd,bP,bS⟩:=B;have bX:bS=s3.os:=J'.os;subst bX;refine bo _ _ _ l q (let⟨m,hm,_⟩:=J'.loc;⟨m,hm⟩) ?_ (I3.call (h':=hh) (g':=gg) (d':=dd) (t':=bP) (ch:=fp) J'.base J'.hok J'.bare λb j=>?_);.exact I3.Ah (dq) hC
  .obtain⟨f,lt⟩:=ag b j;exact⟨f.2.2.2.1,f.2.1,f.2.2.2.2.1,f.2.2.2.2.2⟩
 have ac:kX (cE X.prog X.w) X.A (.compLoop (.ListComp af [⟨a,iter,ifs,0⟩] scope pos) 0 (.ref it) (.ref s.heap.objs.size) G.env) (RR (.ref s.heap.objs.size) s3.heap.objs.size) {s3 with heap:=M,toks:=s3.toks}:=by
  refine wL (λk B=>∃i ys L l,Inv G [] L l B/\tn i B.heap/\(∀b∈fp,l b=bdq)/\W i k ys L l) (λk s5 hI=>?_) m0 ⟨0,[],_,_,I4,aI aS,λb j=>(ag b j).1.1,w0⟩;obtain⟨i,ys,ah,H5,I5,t5,f5,w5⟩:=hI;obtain⟨hD,av⟩:=aE i k ys ah H5 w5;have ai:∀{Z:bw->bZ->Prop},∀(e:bw)(B:bZ),G.xe e B->Z e B:=λe B z=>by rw[bp]at z;exact e_ z
  rcases av with⟨stop,q⟩|⟨go,step⟩;.have z:=T.done G N O aT Y i [] s5 ah H5 (λ_ _=>False) I5 (λb j=>ff j (f5 b j)) t5 stop;rw[hA]at z;refine ei z (?_) λ_ _ z=>e_ z;rintro r s6⟨hr,I6⟩;subst hr;exact fin I6 q
  . have z:=T.item G N O aT Y i [] s5 ah H5 (λ_ _=>False) I5 (λb j=>ff j (f5 b j)) t5 go;rw[hA]at z;refine ei z (?_) λ_ _ z=>e_ z;rintro r s6⟨u,hr,z6⟩;subst hr;refine ei z6 (?_) λ_ _ z=>e_ z;rintro _ s7⟨x,H7,I7,r7,y7,t7,f7⟩;have ca:=I7.pinned (λb j=>ff j (f7 b j)) (T.obj _ _ t7)--what the pins keep
    have back:∀{L:_L.St}{l:Hp}{B:bZ},Inv G ([]++rF fp s7.heap) L l B->Inv G [] L l B/\tn (i+1) B.heap/\∀b∈fp,l b=bdq:=λ{L l B}J'=>by refine⟨J'.mq,T.keep _ _ _ t7 λb j o e=>(J'.pin (b,o) (fi _ (fi _ (jg j e)))).1,λb j=>?_⟩;obtain⟨o,e,_⟩:=T.obj _ _ t7 b j;exact(J'.pin (b,o) (fi _ (fi _ (jg j e)))).2.1
    have z7:=bq _ s7 ah H7 x u _ ca r7 (step x H7 y7);rw[hA,N,O]at z7;refine ei z7 (?_) ai;rintro _ s8⟨ae,H8,I8,q8⟩;have z8:=br _ s8 ae H8 _ I8 q8;rw[hA,N,O]at z8;refine ei z8 (?_) ai;rintro b s9⟨H9,I9,q9⟩;cases b with|false=>rw[if_neg c_]at q9 ⊢;obtain⟨m',hm,w'⟩:=q9;obtain⟨b1,b2,b3⟩:=back I9;exact⟨m',hm,i+1,ys,ae,H9,b1,b2,b3,w'⟩|true=>rw[if_pos rfl]at q9 ⊢;have z9:=bt _ s9 ae H9 _ I9 q9;rw[hA,N,O]at z9;refine ei z9 (?_) ai;rintro y sW⟨yv,a9,cb,ce,cf,ba,m',hm,w'⟩;have bi:=kY _ sW ae a9 (.ref s.heap.objs.size) [yv] (.ref s.heap.objs.size) [y] (λv bm=>bm=upd a9 s.heap.objs.size (.lst (ys++[yv]))) cb rfl (.cons ce .nil) ⟨_,ys,yv,rfl,rfl,cf,ba,rfl⟩;rw[hA,N,O]at bi;refine ei bi (?_) ai;rintro _ s11⟨_,bm,ci,_,cn⟩;subst cn;obtain⟨b1,b2,b3⟩:=back ci;exact⟨m',hm,i+1,ys++[yv],ae,_,b1,b2,b3,w'⟩
 have e3:({s3 with heap:=M,toks:=s3.toks}:bZ)={s with heap:=M}:=by rw[<-ar]
 rw[a8,e3]at ac;exact codeAny_compStart_list ac (T.self _ 0 _ _ _ (aI aS) ac)
end
section
variable{X:Cx}{elt target iter:df}{ifs:List df}{scope:jt}{pos:Pos}{N':List Str}{n:Nat}{wi:TI}{g:TG}{tt:TT}{te:TE}
noncomputable def uA(n:Nat)(wi:TI)(g:TG)(tt:TT)(te:TE):TE:=λσ H Q=>wi σ H λJ a=>∀D,a D=bdq->∃W,(∃m,W 0 m [] (σ++cq n bdq) (upd a D (.lst [])))/\QR J g tt te D (λb=>Q (.ref D) b) W
theorem mK{a:List (b_×Obj)}{σ:_L.St}{H:Hp}{s:bZ}(I:Inv X a σ H s)(ok:fY X scope N' n):∃cl,closureFor scope X.env=eS cl/\(∀n c,cl.lookup n=al c->X.env.cells.lookup n=al c)/\∀n,(n,eH)∈scope.names->(cl.lookup n).isSome:=zT λm b=>I.ok.has m (ok.cap (m,.free) b rfl)
theorem Ep(hc:X.calm=bx)(ok:fY X scope N' n)(hi:PI X target iter wi)(r:∀cl C s₀ H₀ ex,PG (ug X scope N' cl C s₀ H₀ ex) target g)(ht:∀cl C s₀ H₀ ex,S7 (ug X scope N' cl C s₀ H₀ ex) ifs tt)(he:∀cl C s₀ H₀ ex,PE (ug X scope N' cl C s₀ H₀ ex) elt te)(hs:∀x,fm iter X.env x=eS x:=by intro _;rfl):PE X (.ListComp elt [⟨target,iter,ifs,0⟩] scope pos) (uA n wi g tt te):=by intro a s σ H Q I h;obtain⟨cl,c,i,t⟩:=mK I ok;rw[eval_ListComp];refine pf (use:=bdq) rfl hs c ok.kind ok.names (cB (hi a s σ H _ I h) λv s1 h1=>cB h1 λu s2 y=>?_);obtain⟨it,M,N,J,O,rfl,z,T,t0,f2,B⟩:=y;refine ue (Q:=λD j=>Q (.ref D) j) (RR:=λk C=>compPost (cE X.prog X.w) X.A X.xe bdq (EP X a σ Q) k C) hc ok z i t T t0 f2 r ht he B λD C E j q l f G=>?_;obtain⟨m,l⟩:=l;refine⟨m,l,λh' p=>⟨.ref D,j,?_,rfl,q⟩⟩;exact G.turned (t':=E.toks) (λb o L e=>p.extBut b o L e) f.1 f.2.1 f.2.2.2.1 f.2.2.2.2.1 f.2.2.2.2.2
theorem Qj{i:Nat}{x:Str}{c j:Pos}(hc:X.calm=bx)(U:X.N.Nodup)(r:X.N[i]?=al x)(W:Loc X.env.scope x)(ok:fY X scope N' n)(hi:PI X target iter wi)(Y:∀cl C s₀ H₀ ex,PG (ug X scope N' cl C s₀ H₀ ex) target g)(ht:∀cl C s₀ H₀ ex,S7 (ug X scope N' cl C s₀ H₀ ex) ifs tt)(he:∀cl C s₀ H₀ ex,PE (ug X scope N' cl C s₀ H₀ ex) elt te)(t:gd (.ListComp elt [⟨target,iter,ifs,0⟩] scope pos) (al (.Name x c)) j.line X.env=eS bx)(hs:∀x,fm iter X.env x=eS x:=by intro _;rfl)(Z:X.fn x=bx\/X.env.scope.names.lookup x=al .local:=by first|(left;rfl)|(right;rfl)|assumption):PS X (.Assign [.Name x c] (.ListComp elt [⟨target,iter,ifs,0⟩] scope pos) j) (yF (uA n wi g tt te) (ju i)):=by
 intro f s σ H D I h;obtain⟨cl,k,u,BJ⟩:=mK I ok;rw[exec_Assign_Name_used _ _ _ _ t];refine a_ (ma (a_ ?_));show cy _ X.A (do let _<-comprehension (.ListComp elt [⟨target,iter,ifs,0⟩] scope pos) scope X.env _ (newList []) a7 (eu iter X.env) (al (ka (.Name x c) X.env))) _ _ s;refine a_ (ei (pf (use:=al (ka (.Name x c) X.env)) (Q:=λ_ p=>SP X f D .next p) rfl hs k ok.kind ok.names (cB (hi f s σ H _ I h) λv s1 h1=>cB h1 λac s2 h2=>?_)) (λ_ p hq=>cr (cr hq)) λ_ _ e=>e);obtain⟨it,fp,tn,J,H2,rfl,I2,T,t0,f2,hw⟩:=h2;refine ue (Q:=λDa y=>D.nx (σ.set i (al (.ref Da))) y) (RR:=λB C=>compPost (cE X.prog X.w) X.A X.xe (al (ka (.Name x c) X.env)) (λ_ p=>SP X f D .next p) B C) hc ok I2 u BJ T t0 f2 Y ht he hw λDa C p y q E l I'=>?_;obtain⟨m,E⟩:=E;show cy _ X.A (ka (.Name x c) X.env (.ref Da)) _ _ _;refine wpAny_assign_Name (tV I' U r W (show RelV (.ref Da) (.ref Da)from rfl) (?_) Z);rintro G L⟨a,sb,ha⟩;have M:C≠a:=by
  rcases ha with rfl|ha;.exact l.2.1
  .exact λz=>l.2.2.2.2.1 x a ha z.symm
 refine⟨m,E.sameBut sb M,λh' O=>⟨_,y,?_,q⟩⟩;exact L.turned (t':=G.toks) (λb o hb e=>O.extBut b o hb e) l.1 l.2.1 l.2.2.2.1 l.2.2.2.2.1 l.2.2.2.2.2
noncomputable def adH(K:PySem.W.Frag)(c:TE):TI:=λσ H R=>c σ H λx b=>∃a,x=.ref a/\(((∃xs,dF K b a xs)/\R (U6 K a) b)\/((∃xs,iB K b a xs)/\R (YT K a) b))
theorem Ay{u l:df}{r:TE}(w:PE X l r):PI X u l (adH X.K r):=by
 intro f s σ H R I h;refine cB (w f s σ H _ I h) ?_;rintro v s1⟨x,t,c,r1,j⟩;obtain⟨a,e,j⟩:=j;subst e;cases r1;rcases j with⟨⟨xs,k⟩,q⟩|⟨⟨xs,k⟩,q⟩
 . obtain⟨i,y,p,hz⟩:=c.list k;refine gy p.isList ?_;refine⟨s1.heap.objs.size,[s1.heap.objs.size],_,_,t,rfl,c.kept (t':=s1.toks) λb o e=>dB e,FP a _,⟨_,cv _ rfl,rfl,rfl⟩,λb m=>?_,q⟩;have e:b=s1.heap.objs.size:=by simpa using m
   subst e;exact c.Ah (dq) (c.hok.fresh (dq))
 . obtain⟨i,y,p,hz⟩:=c.tuple k;refine fg (show s1.heap.IsTuple a i.toArray from p) ?_;refine⟨s1.heap.objs.size,[s1.heap.objs.size],_,_,t,rfl,c.kept (t':=s1.toks) λb o e=>dB e,Aa a _,⟨_,cv _ rfl,rfl,rfl⟩,λb m=>?_,q⟩;have e:b=s1.heap.objs.size:=by simpa using m
   subst e;exact c.Ah (dq) (c.hok.fresh (dq))
end
end _L
namespace _H
open PySem _L Spec PyProof.Rows
variable{v:V}{i m:Nat}{K:PySem.W.Frag}{F H:Hp}{ρ:List Sl}{σ:_L.St}{x:Str}{p':Pos}{is:List Nat}{ds:List D}{s:bZ}{A:ej}{u':bw}
structure Walk(K:PySem.W.Frag)(F:Hp)(ρ:List Sl)(σ:_L.St)(H:Hp)(ul:List Sl->List Sl)(J:It)(ds:List D)(F1:Hp)(ρ1:List Sl)(H1:Hp):Prop where
 gs:GS K F1 ρ1 σ H1
 src:∀(n k:Nat)(F':Hp)(ρ':List Sl)(σ':_L.St)(H':Hp),az K F1 (ρ1++cq n .aN) (σ++cq n bdq) H1 F' ρ' σ' H'->(∀d,ds[k]?=al d->J.go k H'/\∀x lr,J.LC k H' x lr->∃F'',Ext F' H' F'' lr/\Rep K F'' x d)/\(ds.length<=k->J.stop k H')fin:∀F2 ρ2 σ2 H2,az K F1 ρ1 σ H1 F2 ρ2 σ2 H2->az K F ρ σ H F2 (ul ρ2) σ2 H2/\∀v r,cT K F2 ρ2 σ2 H2 ρ1 σ H1 v r->cT K F2 (ul ρ2) σ2 H2 ρ σ H v r
inductive tIt(K:PySem.W.Frag)(iv:Option Nat)(f:Ev)(σ:_L.St)(H:Hp)(R:It->Hp->Prop):Prop where|mk(F:Hp)(ρ:List Sl)(ds:List D)(ρ1:List Sl)(g:GS K F ρ σ H)(e:srcOf iv f ρ=.ok ds ρ1)(k:∀J F1 H1,Walk K F ρ σ H (aU ρ iv) J ds F1 ρ1 H1->R J H1)
section
variable{K:PySem.W.Frag}{F F1 H H1:Hp}{ρ ρ1:List Sl}{σ:_L.St}{ds:List D}{a:b_}
theorem Cj{xs:List V}{f b:Hp}(g:iB K b a xs)(r:aF K f xs ds)(s:aB f b)(k:Nat):(∀d,ds[k]?=al d->(YT K a).go k b/\∀x j,(YT K a).LC k b x j->∃c,Ext f b c j/\Rep K c x d)/\(ds.length<=k->(YT K a).stop k b):=by refine⟨λd hd=>?_,λh=>⟨xs,g,by rw[r.length];exact h⟩⟩;obtain⟨w,h1,l⟩:=r.get hd;refine⟨⟨xs,w,g,h1⟩,?_⟩;rintro x j⟨e,y⟩;subst e;have:=y xs g;rw[h1]at this;cases this;exact⟨f,.refl s,l⟩
theorem qO{xs:List V}{f b:Hp}(g:dF K b a xs)(r:aF K f xs ds)(s:aB f b)(k:Nat):(∀d,ds[k]?=al d->(U6 K a).go k b/\∀x j,(U6 K a).LC k b x j->∃c,Ext f b c j/\Rep K c x d)/\(ds.length<=k->(U6 K a).stop k b):=by refine⟨λd hd=>?_,λh=>⟨xs,g,by rw[r.length];exact h⟩⟩;obtain⟨w,h1,l⟩:=r.get hd;refine⟨⟨xs,w,g,h1⟩,?_⟩;rintro x j⟨e,y⟩;subst e;have:=y xs g;rw[h1]at this;cases this;exact⟨f,.refl s,l⟩
theorem yD{ul:List Sl->List Sl}{d:D}(s:az K F ρ σ H F1 ρ1 σ H1)(r:Rep K F1 v d)(hi:items d=al ds)(fin:∀F2 ρ2 b e,az K F1 ρ1 σ H1 F2 ρ2 b e->az K F ρ σ H F2 (ul ρ2) b e/\∀v r,cT K F2 ρ2 b e ρ1 σ H1 v r->cT K F2 (ul ρ2) b e ρ σ H v r):∃a,v=.ref a/\(((∃xs,dF K H1 a xs)/\Walk K F ρ σ H ul (U6 K a) ds F1 ρ1 H1)\/((∃xs,iB K H1 a xs)/\Walk K F ρ σ H ul (YT K a) ds F1 ρ1 H1)):=by cases d with|tup es=>cases hi;rw[Rep]at r;obtain⟨a,xs,rfl,h1,f⟩:=r;exact⟨a,rfl,.inr ⟨⟨xs,aB.gU s.gs.sub h1⟩,s.gs,λn k j g h l c=>Cj (aB.gU c.gs.sub (aB.gU c.bT h1)) (f.mono c.bT) c.gs.sub k,fin⟩⟩|lst es=>cases hi;rw[Rep]at r;obtain⟨a,xs,rfl,h1,f⟩:=r;exact⟨a,rfl,.inl ⟨⟨xs,s.gs.sub.seq h1⟩,s.gs,λn k j g h l c=>qO (c.gs.sub.seq (c.bT.seq h1)) (f.mono c.bT) c.gs.sub k,fin⟩⟩|_=>cases hi
theorem uv{ul:List Sl->List Sl}(g:GS K F ρ1 σ H)(e:ρ1[i]?=al (.lent ds))(fin:∀F2 ρ2 b c,az K F ρ1 σ H F2 ρ2 b c->az K F ρ σ H F2 (ul ρ2) b c/\∀v r,cT K F2 ρ2 b c ρ1 σ H v r->cT K F2 (ul ρ2) b c ρ σ H v r):∃a,σ[i]?=al (al (.ref a))/\(∃xs,dF K H a xs)/\Walk K F ρ σ H ul (U6 K a) ds F ρ1 H:=by obtain⟨a,xs,h1,l,z,B⟩:=g.mW i _ ds e rfl;have hi:i<ρ1.length:=(dX e).1;refine⟨a,h1,⟨xs,dF.of l⟩,g,λn k C o p E f=>?_,fin⟩;obtain⟨h,t,q,u⟩:=f.lk i _ (by rw[dr hi];exact e) rfl;cases(show t=.lent ds from u);rw[dr (by rw[<-g.len];exact hi),h1]at h;obtain⟨G,ys,j,w,I,y⟩:=f.gs.mW i _ ds q rfl;rw[h]at j;cases j;exact qO (dF.of w) y f.gs.sub k
end
section
variable{X:Cx}{c:Call}{n:Nat}{e a b d tg:df}{p pa pb pd:P}{pos:Pos}
theorem lA{t t':TI}(h:PI X tg e t)(i:∀σ H R,t' σ H R->t σ H R):PI X tg e t':=λf s σ H R I q=>h f s σ H R I (i σ H R q)
noncomputable def SI(X:Cx)(c:Call)(tg e:df)(p:P):Prop:=PI X tg e (tIt X.K (isVar p) (_H.ev c p))
theorem cW(h:SX X c e p):SI X c tg e p:=by unfold SI;cases hv:isVar p with|none=>refine lA (Ay h.ev) ?_;rintro σ H R⟨F,ρ,ds,o,g,e,k⟩;obtain⟨r,ρ2,I,l⟩:=aa e;have t:=aD l;clear l;obtain⟨l,u⟩:=t;subst u;refine⟨F,ρ,r,_,g,I,λv O Q s y=>?_⟩;obtain⟨F2,s2,_,J⟩:=s.cQ y;obtain⟨a,B,C⟩:=yD (ul:=aU ρ bdq) s2 J l λU L M W s3=>⟨s2.trans s3,λv r y=>y.later s2⟩;exact⟨a,B,C.imp (λ⟨z,w⟩=>⟨z,k _ _ _ w⟩) (λ⟨z,w⟩=>⟨z,k _ _ _ w⟩)⟩|some i=>
   refine lA (Ay (h.var i hv)) ?_;rintro σ H R⟨F,ρ,ds,o,g,e,k⟩;unfold srcOf at e;dsimp only at e;split at e
   . rename_i b d q;have t:=aD e;clear e;obtain⟨l,u⟩:=t;subst u;obtain⟨v,h1,N⟩:=g.val i b d q;have fin:∀F2 ρ2 f j,az X.K F ρ σ H F2 ρ2 f j->az X.K F ρ σ H F2 (aU ρ (al i) ρ2) f j/\∀v r,cT X.K F2 ρ2 f j ρ σ H v r->cT X.K F2 (aU ρ (al i) ρ2) f j ρ σ H v r:=λF2 ρ2 f j s=>by unfold aU;dsimp only;rw[q];exact⟨s,λ_ _ z=>z⟩
     obtain⟨a,B,C⟩:=yD (ul:=aU ρ (al i)) (.refl g) N l fin;exact⟨v,h1,a,B,C.imp (λ⟨z,w⟩=>⟨z,k _ _ _ w⟩) (λ⟨z,w⟩=>⟨z,k _ _ _ w⟩)⟩
   . rename_i b E q;cases e;have hi:i<ρ.length:=(dX q).1;have fin:∀F2 ρ2 f j,az X.K F (ρ.set i (.lent ds)) σ H F2 ρ2 f j->az X.K F ρ σ H F2 (aU ρ (al i) ρ2) f j/\∀v r,cT X.K F2 ρ2 f j (ρ.set i (.lent ds)) σ H v r->cT X.K F2 (aU ρ (al i) ρ2) f j ρ σ H v r:=λF2 ρ2 f j s=>by unfold aU;dsimp only;rw[q];exact az.aU g q s
     obtain⟨a,h1,G,w⟩:=uv (ul:=aU ρ (al i)) (g.lend q) (cp hi) fin;exact⟨_,h1,a,rfl,.inl ⟨G,k _ _ _ w⟩⟩
   . rename_i E q;cases e;have fin:∀F2 ρ2 f j,az X.K F ρ σ H F2 ρ2 f j->az X.K F ρ σ H F2 (aU ρ (al i) ρ2) f j/\∀v r,cT X.K F2 ρ2 f j ρ σ H v r->cT X.K F2 (aU ρ (al i) ρ2) f j ρ σ H v r:=λF2 ρ2 f j s=>by unfold aU;dsimp only;rw[q];exact⟨s,λ_ _ z=>z⟩
     obtain⟨a,h1,G,w⟩:=uv (ul:=aU ρ (al i)) g q fin;exact⟨_,h1,a,rfl,.inl ⟨G,k _ _ _ w⟩⟩
   .cases e
theorem yu{F1 g:Hp}{f:List Sl}(s:az K F ρ σ H F1 f σ g)(i j:Int):Walk K F ρ σ H (aU ρ bdq) (Xx i (j-i).toNat) ((dy (j-i).toNat).map λ(k:Nat)=>D.int (i+(k:Int))) F1 f g:=by
 refine⟨s.gs,λn k o q t I u=>⟨λd hd=>?_,λh=>?_⟩,λJ w y L s3=>⟨s.trans s3,λv r z=>z.later s⟩⟩;.rw[er]at hd;obtain⟨m,B,C⟩:=map_some hd;obtain⟨h1,l⟩:=dX B;rw[List.getElem_range]at l;subst l;subst C;rw[kU]at h1;refine⟨h1,?_⟩;rintro x M⟨E,G⟩;subst E;subst G;exact⟨o,.refl u.gs.sub,cu _⟩
 .rw[dQ,kU]at h;exact h
theorem pK(t:x="range")(u:Gl X x)(w:X.mg x=bdq)(y:SX X c a pa)(hs:cw [a] X.env=[(a7,eu a X.env)]:=by rfl):SI X c tg (.Call (.Name x p') [a] [] pos) (.wX (.con (.int 0)) pa):=by
 subst t;obtain⟨Q,h1,z⟩:=y.cN;refine lA (uM u w (bu h1 di hs) hs) ?_;rintro σ H R⟨F,ρ,ds,B,g,e,k⟩;obtain⟨r,ρ2,q,h⟩:=aa e;have l:=aD h;clear h;obtain⟨h,C⟩:=l;subst C;rw[_H.E20]at q;obtain⟨U,E,G,f⟩:=aa q;have l:=aD f;clear f;obtain⟨f,I⟩:=l;subst I;obtain⟨W,J,L,o⟩:=aa G;cases o;obtain⟨i,f1,f⟩:=cC f;obtain⟨j,f2,f⟩:=cC f;obtain⟨⟨b1,b2,b3,b4⟩,f⟩:=bf f;have f1:i=0:=by cases f1;rfl
 subst f1;subst f;cases h;cases dg f2;refine z g L λv M N s O=>⟨j,by rw[O.int],by omega,by omega,?_⟩;have:=yu s 0 j;rw[mx]at this;refine k _ M N ?_;rw[mx];exact this
theorem vm(y:x="range")(z:Gl X x)(B:X.mg x=bdq)(C:SX X c a pa)(E:SX X c b pb)(hs:cw [a,b] X.env=[(a7,eu a X.env),(a7,eu b X.env)]:=by rfl)(h:cw [b] X.env=[(a7,eu b X.env)]:=by rfl):SI X c tg (.Call (.Name x p') [a,b] [] pos) (.wX pa pb):=by subst y;obtain⟨W,Y,h1,G,I⟩:=C.iR E;refine lA (GD z B (bu h1 (bu G di h) (by rw[hs,h])) hs h) ?_;rintro σ H R⟨F,ρ,ds,J,g,e,k⟩;obtain⟨r,ρ2,o,l⟩:=aa e;have q:=aD l;clear l;obtain⟨l,L⟩:=q;subst L;rw[_H.E20]at o;obtain⟨Z,M,N,f⟩:=aa o;have q:=aD f;clear f;obtain⟨f,O⟩:=q;subst O;obtain⟨i,f1,f⟩:=cC f;obtain⟨j,f2,f⟩:=cC f;obtain⟨⟨b1,b2,b3,b4⟩,f⟩:=bf f;subst f;cases l;refine I g N λv u Q U s t w=>⟨i,j,?_,by omega,k _ Q U (yu s i j)⟩;have o:=dg f1;have l:=dg f2;rw[o]at t;rw[l]at w;rw[t.int,w.int]
end
section
variable{X:Cx}{c:Call}{n:Nat}{e a b d tg iter:df}{p pa pb pd:P}{pos:Pos}{body:List eM}{ss:List S}
noncomputable def La(K:PySem.W.Frag)(j:List Sl->D->Option (List Sl))(g:TG):Prop:=∀(x:V)(d:D)(F:Hp)(ρ f:List Sl)(σ:_L.St)(H:Hp)(Q:_L.St->Hp->Prop),GS K F ρ σ H->Rep K F x d->j ρ d=al f->(∀h,az K F ρ σ H F f h H->Q h H)->g x σ H Q
theorem vg(i:Nat):La K (λρ d=>put ρ i (.val a7 d)) (ju i):=λx d F ρ f σ H Q g r h k=>k _ (az.put (r:=.val d) (.refl g) r h)
theorem cP:∀(is:List Nat)(gs:Hc),(∀(xs:List V)(ds:List D)(F:Hp)(ρ f:List Sl)(σ:_L.St)(H:Hp)(Q:_L.St->Hp->Prop),GS K F ρ σ H->aF K F xs ds->putAll ρ is ds=al f->(∀j,az K F ρ σ H F f j H->Q j H)->gs xs σ H Q)->∀i,∀(xs:List V)(ds:List D)(F:Hp)(ρ f:List Sl)(σ:_L.St)(H:Hp)(Q:_L.St->Hp->Prop),GS K F ρ σ H->aF K F xs ds->putAll ρ (i::is) ds=al f->(∀j,az K F ρ σ H F f j H->Q j H)->K9 (ju i) gs xs σ H Q:=by intro is gs o i xs ds F ρ f σ H Q g r h k;cases ds with|nil=>simp[j9,jk,nP,nJ]at h|cons d ds=>obtain⟨v,vs,rfl,h1,q⟩:=r.cF;rw[jk]at h;obtain⟨l,t,u⟩:=cC h;have s1:=az.put (r:=.val d) (.refl g) h1 t;refine⟨v,vs,rfl,o vs ds F l f _ H _ s1.gs q u λj s2=>k j (s1.trans s2)⟩
theorem ir:∀(xs:List V)(ds:List D)(F:Hp)(ρ f:List Sl)(σ:_L.St)(H:Hp)(Q:_L.St->Hp->Prop),GS K F ρ σ H->aF K F xs ds->putAll ρ [] ds=al f->(∀j,az K F ρ σ H F f j H->Q j H)->U9 xs σ H Q:=by intro xs ds F ρ f σ H Q g r h k;cases ds with|nil=>rw[j9]at h;cases h;exact⟨r.fu,k σ (.refl g)⟩|cons d ds=>simp[j9,jk,nP,nJ]at h
theorem lH:∀{is:List Nat}{ds:List D}{ρ f:List Sl},putAll ρ is ds=al f->ds.length=is.length|[],[],_,_,_=>rfl|[],_::_,_,_,h=>by simp[j9,jk,nP,nJ]at h|_::_,[],_,_,h=>by simp[j9,jk,nP,nJ]at h|i::is,d::ds,ρ,f,h=>by rw[jk]at h;obtain⟨g,k,j⟩:=cC h;simp[lH j]
theorem jK{gs:Hc}(q:m=is.length)(h:∀(xs:List V)(ds:List D)(F:Hp)(ρ f:List Sl)(σ:_L.St)(H:Hp)(Q:_L.St->Hp->Prop),GS K F ρ σ H->aF K F xs ds->putAll ρ is ds=al f->(∀l,az K F ρ σ H F f l H->Q l H)->gs xs σ H Q):La K (λρ d=>cJ ρ is a7 d) (Vx K m gs):=by intro x d F ρ f σ H Q g r j k;replace j:cJ ρ is a7 d=al f:=j;cases d with|tup ds=>replace j:putAll ρ is ds=al f:=j;rw[Rep]at r;obtain⟨a,xs,rfl,h1,o⟩:=r;exact⟨a,xs,rfl,aB.gU g.sub h1,by rw[o.length,lH j,q],h xs _ F ρ f σ H Q g o j k⟩|_=>cases j
theorem lM{g:TG}{one:Bool}(hp:lS (cE X.prog X.w) X.A X.env X.xe)(hc:X.calm=bx)(hi:SI X c tg iter p)(hg:PG X tg g)(Y:La X.K (λρ d=>cJ ρ is one d) g)(hb:SB X c n body ss)(hs:∀x,fm iter X.env x=eS x:=by intro _;rfl):SS X c n (.For tg iter body [] pos) (.iD p is one ss):=by
 refine dH (KD hp hc hi hg hb hs) ?_;rintro D σ H⟨F,ρ,fl,t,g0,e,k⟩;rw[_H.X14]at e;obtain⟨ds,o,e1,e⟩:=aa e;obtain⟨ae,ρ2,e2,e⟩:=aa e;cases e;refine⟨F,ρ,ds,o,g0,e1,λJ F1 Z w=>?_⟩;have src:∀(i:Nat)(Q:Hp)(t:List Sl)(h:_L.St)(j:Hp),az X.K F1 o σ Z Q t h j->(∀d,ds[i]?=al d->J.go i j/\∀x lr,J.LC i j x lr->∃I,Ext Q j I lr/\Rep X.K I x d)/\(ds.length<=i->J.stop i j):=λi Q t h j s=>w.src 0 i Q t h j (by simpa using s);refine⟨λi m q U=>∃G f,az X.K F1 o σ Z G f q U/\m=ds.length-i/\i<=ds.length/\jf is one (gj c n ss) (ds.drop i) f=.ok fl ρ2,⟨_,F1,o,.refl w.gs,rfl,uY,e2⟩,?_⟩;rintro i m q U⟨G,f,W,rfl,af,l⟩;obtain⟨s1,s2⟩:=src i G f q U W;by_cases u:i<ds.length
 . right;have hd:ds[i]?=al ds[i]:=by simp[u]
   obtain⟨go,step⟩:=s1 _ hd;refine⟨go,λh j=>∃m',m'<ds.length-i/\∃G f,az X.K F1 o σ Z G f h j/\m'=ds.length-(i+1)/\i+1<=ds.length/\jf is one (gj c n ss) (ds.drop (i+1)) f=.ok fl ρ2,λh j z=>z,λx j y=>?_⟩;obtain⟨F2,ext,rx⟩:=step x j y;have L:=W.trans (ext.stp W.gs);rw[fy u,zX]at l;cases hbd:cJ f is one ds[i]with|none=>rw[hbd]at l;cases l|some M=>rw[hbd]at l;obtain⟨N,C,eb,l⟩:=aa l;refine Y x _ F2 f M q j _ L.gs rx hbd λag sb=>?_;have E:=L.trans sb;refine⟨F2,M,N,C,E.gs,eb,λF4 O H4 s4=>?_⟩;have B:=E.trans s4;cases N with|next=>exact⟨_,by omega,F4,C,B,rfl,u,l⟩|cont=>exact⟨_,by omega,F4,C,B,rfl,u,l⟩|brk=>cases l;exact k F4 O H4 (w.fin _ _ _ _ B).1|ret r=>cases l;intro v rr;obtain⟨z1,z2⟩:=w.fin _ _ _ _ B;exact k F4 O H4 z1 v (z2 v r (rr.later E))
 . left;have ac:ds.drop i=[]:=by rw[k4];omega
   rw[ac,JW]at l;cases l;exact⟨s2 (by omega),k G q U (w.fin _ _ _ _ W).1⟩
theorem nH(i:Nat):(λ(ρ:List Sl)(d:D)=>cJ ρ [i] bx d)=λρ d=>put ρ i (.val a7 d):=by funext ρ d;rfl
theorem vR{f:Pos}(h:lS (cE X.prog X.w) X.A X.env X.xe)(hc:X.calm=bx)(j:X.N.Nodup)(g:X.N[i]?=al x)(k:Loc X.env.scope x)(hi:SI X c (.Name x f) iter p)(l:SB X c n body ss)(hs:∀x,fm iter X.env x=eS x:=by intro _;rfl)(o:X.fn x=bx\/X.env.scope.names.lookup x=al .local:=by first|(left;rfl)|(right;rfl)|assumption):SS X c n (.For (.Name x f) iter body [] pos) (.iD p [i] bx ss):=lM h hc hi (aJ j g k o) (by rw[nH];exact vg i) l hs
theorem zy(L:lS (cE X.prog X.w) X.A X.env X.xe)(ht:ST X c e p)(M:SB X c n body ss):SS X c n (.While e body [] pos) (.whl p ss):=by refine dH (Kv L ht M) ?_;rintro D σ H⟨F,ρ,fl,o,g,e,k⟩;rw[_H.X15]at e;refine⟨λm j C=>∃q f,az X.K F ρ σ H q f j C/\qZ (iY (_H.ev c p)) (gj c n ss) m f=.ok fl o,⟨n,F,ρ,.refl g,e⟩,?_⟩;rintro m j C⟨q,f,E,h⟩;cases m with|zero=>rw[Vi]at h;cases h|succ m=>rw[Jr]at h;obtain⟨b,t,O,h⟩:=aa h;refine⟨q,f,b,t,E.gs,O,λF1 Q s1=>?_⟩;have s2:=E.trans s1;cases b with|false=>rw[if_neg c_]at h;cases h;exact k F1 j Q s2|true=>rw[if_pos rfl]at h;obtain⟨u,l,U,h⟩:=aa h;refine(show ∃N:_L.St->Hp->Prop,_/\_ from⟨λy G=>∃I,I<m+1/\∃q f,az X.K F ρ σ H q f y G/\qZ (iY (_H.ev c p)) (gj c n ss) I f=.ok fl o,λy G z=>z,F1,t,u,l,s2.gs,U,λF4 B J s4=>?_⟩);have s5:=s2.trans s4;cases u with|next=>exact⟨m,by omega,F4,l,s5,h⟩|cont=>exact⟨m,by omega,F4,l,s5,h⟩|brk=>cases h;exact k F4 B J s5|ret r=>cases h;exact λv W=>k F4 B J s5 v (W.later s2)
end
section
variable{X:Cx}{c:Call}{n:Nat}{e elt tg iter:df}{p ps pe:P}{pos:Pos}{scope:jt}{N':List Str}{ifs:List df}
theorem J1{t t':TE}(h:PE X e t)(i:∀σ H Q,σ.length=X.N.length->t' σ H Q->t σ H Q):PE X e t':=λa s σ H Q I q=>h a s σ H Q I (i σ H Q I.len q)
noncomputable def oV(K:PySem.W.Frag)(m:Nat)(is:List Nat)(one:Bool)(g:TG):Prop:=∀(x:V)(d:D)(F:Hp)(ρ b:List Sl)(σ:_L.St)(H:Hp)(Q:_L.St->Hp->Prop),GS K F ρ σ H->Rep K F x d->cJ ρ is one d=al b->(∀a,az K F ρ σ H F b a H->a.take m=σ.take m->Q a H)->g x σ H Q
theorem take_set{b:Type}{l:List b}{a:b}(h:m<=i):(l.set i a).take m=l.take m:=by rw[List.take_set_of_le h]
theorem dh(h:m<=i):oV K m [i] bx (ju i):=λx d F ρ a σ H Q g r b k=>k _ (az.put (r:=.val d) (.refl g) r b) (take_set h)
noncomputable def Oz(K:PySem.W.Frag)(m:Nat)(is:List Nat)(gs:Hc):Prop:=∀(xs:List V)(ds:List D)(F:Hp)(ρ b:List Sl)(σ:_L.St)(H:Hp)(Q:_L.St->Hp->Prop),GS K F ρ σ H->aF K F xs ds->putAll ρ is ds=al b->(∀a,az K F ρ σ H F b a H->a.take m=σ.take m->Q a H)->gs xs σ H Q
theorem cI{gs:Hc}(hi:m<=i)(j:Oz K m is gs):Oz K m (i::is) (K9 (ju i) gs):=by intro xs ds F ρ a σ H Q g r h k;cases ds with|nil=>simp[j9,jk,nP,nJ]at h|cons d ds=>obtain⟨v,vs,rfl,h1,l⟩:=r.cF;rw[jk]at h;obtain⟨b,o,q⟩:=cC h;have s1:=az.put (r:=.val d) (.refl g) h1 o;exact⟨v,vs,rfl,j vs ds F b a _ H _ s1.gs l q λf s2 z=>k f (s1.trans s2) (z.trans (take_set hi))⟩
theorem jq:Oz K m [] U9:=by intro xs ds F ρ a σ H Q g r h k;cases ds with|nil=>rw[j9]at h;cases h;exact⟨r.fu,k σ (.refl g) rfl⟩|cons d ds=>simp[j9,jk,nP,nJ]at h
theorem jh{gs:Hc}{l:Nat}(o:l=is.length)(h:Oz K m is gs):oV K m is a7 (Vx K l gs):=by intro x d F ρ b σ H Q g r f k;cases d with|tup ds=>replace f:putAll ρ is ds=al b:=f;rw[Rep]at r;obtain⟨a,xs,rfl,h1,j⟩:=r;exact⟨a,xs,rfl,aB.gU g.sub h1,by rw[j.length,lH f,o],h xs _ F ρ b σ H Q g j f k⟩|_=>cases f
noncomputable def SQ(X:Cx)(c:Call)(ifs:List df)(t:Option P):Prop:=S7 X ifs (Ld X.K (tL c t))
theorem cX:SQ X c [] bdq:=λa s σ H Q I⟨F,ρ,k,ρ',g,e,q⟩=>by rw[tL]at e;cases e;exact PN a s σ H Q I (q F H (.refl g))
theorem pP(h:ST X c e p):SQ X c [e] (al p):=λa s σ H Q I⟨F,ρ,k,ρ',g,e,q⟩=>by rw[tL]at e;exact Nj h a s σ H Q I ⟨F,ρ,k,ρ',g,e,q⟩
theorem az.vY{F1 j:Hp}{f:List Sl}{g:_L.St}{Da:b_}{o:HO}(s:az K F ρ σ H F1 f g j)(h:H Da=bdq)(q:F1 Da=bdq)(ho:¬ Own f g Da):az K F ρ σ H F1 f g (upd j Da o):=by
 refine⟨⟨λb u e=>?_,s.gs.len,s.gs.val,λi t ds e k=>?_,s.gs.dis⟩,s.bT,s.wR,λb u e n=>?_,s.wY,s.len,s.lk⟩
 . have:b≠Da:=by rintro rfl;rw[q]at e;cases e
   rw[ao this];exact s.gs.sub b u e
 . obtain⟨a,xs,l,r,w,y⟩:=s.gs.own i t ds e k;have:a≠Da:=by rintro rfl;exact ho ⟨i,⟨t,ds,e,k⟩,l⟩
   exact⟨a,xs,l,by rw[ao this];exact r,w,y⟩
 . have:b≠Da:=by rintro rfl;rw[h]at e;cases e
   rw[ao this];exact s.keep b u e n
theorem yI{b ρ2:List Sl}{ul:List Sl->List Sl}{ti:TI}{one:Bool}{r:List Sl->Res Bool}{el:Ev}{g:TG}{Q:VK}{xs:List D}(hm:σ.length=m)(af:oV K m is one g)(ag:∀R:It->Hp->Prop,(∀J F1 O,Walk K F ρ σ H ul J ds F1 b O->R J O)->ti σ H R)(am:ds.length<=lim)(e2:turns is one r el ds [] (b++cq n .aN)=.ok xs ρ2)(k:∀v F' H',az K F ρ σ H F' (ul (ρ2.take b.length)) σ H'->cT K F' (ul (ρ2.take b.length)) σ H' ρ σ H v (.own xs)->Q v H'):uA n ti g (Ld K r) (uW K el) σ H Q:=by
 refine ag _ λJ F1 O w Da M=>?_;have ah:b.length=σ.length:=w.gs.len;have gm:=w.gs.more (n:=n) (τ:=cq n bdq) (by simp);have fD:F1 Da=bdq:=by cases q:F1 Da with|none=>rfl|some o=>rw[w.gs.sub Da o q]at M;cases M
 have nO:¬ Own (b++cq n .aN) (σ++cq n bdq) Da:=λ⟨i,⟨t,dt,q1,q2⟩,q3⟩=>by obtain⟨a,ys,z1,z2,_⟩:=gm.own i t dt q1 q2;rw[q3]at z1;cases z1;rw[M]at z2;cases z2
 refine⟨λi mm ys f E=>∃C h l,az K F1 (b++cq n .aN) (σ++cq n bdq) O C h f E/\f.take m=σ/\E Da=al (.lst ys)/\C Da=bdq/\¬ Own h f Da/\aF K C ys l/\l.length<=i/\mm=ds.length-i/\i<=ds.length/\turns is one r el (ds.drop i) l h=.ok xs ρ2,⟨_,F1,_,[],(az.refl gm).vY M fD nO,by rw[mu (by omega),n7 (by omega)],aC,fD,nO,.nil,uY,rfl,uY,e2⟩,?_⟩;rintro i mm ys f E⟨C,h,l,U,G,W,hF,hO,rs,ap,rfl,ar,j⟩;refine⟨W,?_⟩--what stays of the new list through a step
 have stay:∀{F2 N:Hp}{I:List Sl}{u:_L.St},az K C h f E F2 I u N->N Da=al (.lst ys)/\F2 Da=bdq/\¬ Own I u Da:=λ{F2 N I u}s=>by
  refine⟨s.keep Da _ W hO,?_,λo=>?_⟩;.cases q:F2 Da with|none=>rfl|some o=>
      rcases s.wR Da hF (by rw[q];simp)with z|z;.exact absurd z hO
      .exact(Ku W z).elim
  . rcases s.wY Da o with z|z;.exact hO z
    .rw[W]at z;cases z
 obtain⟨s1,s2⟩:=w.src n i C h f E U;by_cases B:i<ds.length
 . right;have hd:ds[i]?=al ds[i]:=by simp[B]
   obtain⟨go,step⟩:=s1 _ hd;refine⟨go,λx N y=>?_⟩;obtain⟨F2,ext,rx⟩:=step x N y;have t2:=ext.stp U.gs;rw[fy B,Kr]at j;cases hbd:cJ h is one ds[i]with|none=>rw[hbd]at j;cases j|some Y=>rw[hbd]at j;obtain⟨bb,L,eb,j⟩:=aa j;refine af x _ F2 h Y f N _ t2.gs rx hbd λu sb Z=>?_;have t3:=t2.trans sb;refine⟨F2,Y,bb,L,t3.gs,eb,λF4 H4 s4=>?_⟩;have t4:=t3.trans s4;cases bb with|false=>rw[if_neg c_]at j;obtain⟨y1,y2,y3⟩:=stay t4;exact⟨_,by omega,F4,L,l,U.trans t4,Z.trans G,y1,y2,y3,rs.mono t4.bT,by omega,rfl,B,j⟩|true=>
       rw[if_pos rfl]at j;obtain⟨re,ac,ee,j⟩:=aa j;refine(show uW K el u H4 _ from⟨F4,L,re,ac,t4.gs,ee,λv F5 H5 s5 rr=>?_⟩);obtain⟨F6,s6,_,rp⟩:=s5.cQ rr;have t6:=t4.trans s6;obtain⟨y1,y2,y3⟩:=stay t6;have ae:ys.length<sizeLine:=by have h1:=rs.length;have h2:lim=sizeLine:=rfl;omega
       exact⟨y1,ae,_,by omega,F6,ac,l++[re.d],(U.trans t6).vY M y2 y3,Z.trans G,aC,y2,y3,(rs.mono t6.bT).append (.cons rp .nil),by simp;omega,rfl,B,j⟩
 . left;have ai:ds.drop i=[]:=by rw[k4];omega
   rw[ai,Ib]at j;cases j;refine⟨s2 (by omega),?_⟩;obtain⟨l1,l2⟩:=az.less (m:=b.length) rfl w.gs (by simp) U;have hst:f.take b.length=σ:=by rw[ah,hm];exact G
   rw[hst]at l1;have rr:cT K C ρ2 f E (b++cq n .aN) (σ++cq n bdq) O (.ref Da) (.own xs):=⟨Da,ys,rfl,W,hF,rs,hO,.inr M⟩;have R6:=l2 _ _ rr;rw[hst]at R6;obtain⟨z1,z2⟩:=w.fin _ _ _ _ l1;exact k _ C E z1 (z2 _ _ R6)
theorem NP{iv:Option Nat}{f:Ev}{one:Bool}{b:List Sl->Res Bool}{w:Ev}{g:TG}{Q:VK}{r:R}{j:List Sl}(z:σ.length=m)(q:oV K m is one g)(B:GS K F ρ σ H)(e:((srcOf iv f ρ).bind λds a=>if ds.length<=lim then(turns is one b w ds [] (a++cq n .aN)).bind λxs l=>Res.ok (R.own xs) (aU ρ iv (l.take a.length))else .stuck)=.ok r j)(k:∀v y t,az K F ρ σ H y j σ t->cT K y j σ t ρ σ H v r->Q v t):uA n (tIt K iv f) g (Ld K b) (uW K w) σ H Q:=by
 obtain⟨ds,u,C,e⟩:=aa e;split at e;.rename_i o;obtain⟨xs,ρ2,E,e⟩:=aa e;cases e;exact yI z q (λR h=>⟨F,ρ,ds,u,B,C,h⟩) o E k
 .cases e
theorem cO{g:TG}{one:Bool}{t:Option P}(hc:X.calm=bx)(ok:fY X scope N' n)(hi:SI X c tg iter ps)(b:∀cl C s₀ H₀ ex,PG (ug X scope N' cl C s₀ H₀ ex) tg g)(a:oV X.K X.N.length is one g)(ht:∀cl C s₀ H₀ ex,SQ (ug X scope N' cl C s₀ H₀ ex) c ifs t)(he:∀cl C s₀ H₀ ex,SX (ug X scope N' cl C s₀ H₀ ex) c elt pe)(hs:∀x,fm iter X.env x=eS x:=by intro _;rfl):SX X c (.ListComp elt [⟨tg,iter,ifs,0⟩] scope pos) (.comp ps n is one t pe):=by refine⟨J1 (Ep (tt:=Ld X.K (tL c t)) (te:=uW X.K (_H.ev c pe)) hc ok hi b ht (λcl C s₀ H₀ ex=>(he cl C s₀ H₀ ex).ev) hs) ?_,λi h=>by cases h⟩;rintro σ H Q f⟨F,ρ,r,j,l,e,k⟩;rw[_H.E19]at e;exact NP f a l e k
end
section
variable{X:Cx}{c:Call}{n:Nat}{e a b d:df}{p pa pb pd:P}{pos:Pos}{es:List df}{ps:List P}
noncomputable def tyN:D->String|.non=>"NoneType"|.bl _=>"bool"|.int _=>"int"|.str _=>"str"|.tup _=>"tuple"|.lst _=>"list"|.dz _=>"dict"|.dv _ _=>"dict"
noncomputable def Z4:Ty->String|.none=>"NoneType"|.bool=>"bool"|.int=>"int"|.str=>"str"|.tuple=>"tuple"|.list=>"list"
theorem ZQ(K:PySem.W.Frag)(t:Ty)(d:D):PySem.W.kitOne K (.type (tyN d)) (.type (Z4 t))=al (cR t d):=by cases t<;>cases d<;>rfl
theorem ZW{k:List (b_×Obj)}{x:V}{u:bw}{dt:D}(I:_L.Inv X k σ H s)(sm:aB F H)(g:dw X.K F H x dt)(f:RelV x u):(∃r,PySem.W.KitX X.K u (.type (tyN dt)) r/\r s.heap)/\u≠.builtin "__main__.__loader__#opaque":=by cases dt with|non=>rw[g.non]at f;cases f;exact⟨⟨_,PySem.W.kitx_none,trivial⟩,nofun⟩|bl y=>rw[g.bl]at f;cases f;exact⟨⟨_,PySem.W.kitx_bool,trivial⟩,nofun⟩|int i=>rw[g.int]at f;obtain⟨t,rfl⟩:=f;exact⟨⟨_,PySem.W.kitx_int,trivial⟩,nofun⟩|str y=>rw[g.str]at f;obtain⟨t,rfl⟩:=f;exact⟨⟨_,PySem.W.kitx_str,trivial⟩,nofun⟩|tup ds=>obtain⟨q,xs,rfl,h,_⟩:=g.tup sm;cases f;obtain⟨l,_,⟨o,h1,j,_⟩,_⟩:=I.tuple h;exact⟨⟨_,PySem.W.kitx_tuple,⟨o,h1,j⟩⟩,nofun⟩|lst ds=>obtain⟨q,xs,rfl,h,_⟩:=g.lst sm;cases f;obtain⟨l,_,w,_⟩:=I.list h;obtain⟨o,h1,j,_⟩:=w.isList;exact⟨⟨_,PySem.W.kitx_list,⟨o,h1,j⟩⟩,nofun⟩|dz m=>obtain⟨q,_,rfl,h⟩:=g.dz sm;cases f;obtain⟨o,h1,j⟩:=JR I h;exact⟨⟨_,kitx_dict,⟨o,h1,j⟩⟩,nofun⟩|dv ks ds=>obtain⟨q,_,vs,rfl,h,_⟩:=g.dv sm;cases f;obtain⟨o,h1,j⟩:=HR I h;exact⟨⟨_,kitx_dict,⟨o,h1,j⟩⟩,nofun⟩
theorem UT(t:Ty):eY X (.builtin "isinstance") (λxs H Q=>∃x F dt,xs=[x,.ty (Z4 t)]/\aB F H/\dw X.K F H x dt/\Q (.bl (cR t dt)) H):=by rintro g s σ H xs o Q I r⟨x,F,dt,h,sm,j,q⟩;subst h;obtain⟨u,k,rfl,l,rt⟩:=r.two;cases(show k=fq (Z4 t)from rt);obtain⟨⟨w,Z,hz⟩,f⟩:=ZW I sm j l;exact PySem.W.kia_one Z I.Ue hz (ZQ _ t dt) f λtk=>⟨.bl _,H,I.tok tk,rfl,q⟩
theorem Jv:eK "isinstance"=al (.builtin "isinstance"):=by decide+kernel
theorem mU{y:Str}{p2:Pos}(t:Ty)(u:x="isinstance")(w:Gl X x)(z:X.mg x=bdq)(B:SX X c a pa)(f:Gl X y)(j:X.mg y=bdq)(C:eK y=al (.type (Z4 t)))(l:y≠"__name__":=by decide)(o:(y==("__debug__":Str))=a7:=by decide)(hs:cw [a,.Name y p2] X.env=(a7,eu a X.env)::cw [.Name y p2] X.env:=by rfl):SX X c (.Call (.Name x p') [a,.Name y p2] [] pos) (.inst [t] pa):=by subst u;obtain⟨N,h1,E⟩:=B.cN;refine⟨dG (fW (UT t) w z Jv (bu h1 (bu (Py (v:=.ty (Z4 t)) f j C rfl l o) di) hs) (he:=hs)) ?_,λi h=>by cases h⟩;rintro σ H Q⟨F,ρ,r,G,g,e,k⟩;rw[_H.E18]at e;obtain⟨dt,I,J,e⟩:=aa e;cases e;refine E g J λv q L s M=>⟨v,q,dt,rfl,s.gs.sub,M,k _ q L s ?_⟩;show Rep X.K q _ _;rw[jp,List.any_nil,Bool.or_false];exact dZ _
inductive rBn(K:PySem.W.Frag)(f:List D->Option R)(xs:List V)(H:Hp)(Q:VK):Prop where|mk(F:Hp)(ds:List D)(r:R)(sm:aB F H)(rs:aF K F xs ds)(he:f ds=al r)(k:∀v F' H',Ext F H F' H'->cH K F' H' H v r->Q v H')
theorem RQ{E:df}{f:List D->Option R}{q:P}(o:∀{t},PA X es t->PE X E (Ym (rBn X.K f) t))(u:SA X c es ps)(y:∀ρ,_H.ev c q ρ=(evs c ps ρ).bind λds ρ=>lift (f ds) ρ)(z:isVar q=bdq):SX X c E q:=by refine⟨dG (o u.1) ?_,λi h=>by rw[z]at h;cases h⟩;rintro σ H Q⟨F,ρ,r,B,g,e,k⟩;rw[y]at e;obtain⟨ds,l,C,j⟩:=aa e;have G:=aD j;clear j;obtain⟨j,I⟩:=G;subst I;exact⟨F,ρ,ds,l,g,C,λvs J O s L=>⟨J,ds,r,s.gs.sub,L,j,λw F2 M x N=>k w F2 M (s.trans (x.stp s.gs)) (.later s (N.pD s.gs))⟩⟩
theorem RG{xs:List V}{i j:Int}(h:aF K F xs [.int i,.int j]):xs=[.int i,.int j]:=by obtain⟨v,r,rfl,h1,g⟩:=h.cF;obtain⟨u,l,rfl,f,k⟩:=g.cF;rw[Rep]at h1 f;rw[h1,f,k.fu]
theorem inv2{f:ZD}{g:Int->Int->Int}{r:R}(h0:blt f []=bdq)(h1:∀a,blt f [a]=bdq)(o:∀a b c l,blt f (a::b::c::l)=bdq)(q:∀a b,eZ a=a7->blt f [a,b]=bdq)(t:∀i b,eZ b=a7->blt f [.int i,b]=bdq)(hi:∀i j,blt f [.int i,.int j]=al (.val (.int (g i j))))(he:blt f ds=al r):∃i j,ds=[.int i,.int j]/\r=.val (.int (g i j)):=by
 rcases ds with _|⟨a,_|⟨b,_|⟨c,l⟩⟩⟩;.rw[h0]at he;cases he
 .rw[h1]at he;cases he
 . by_cases h:eZ a=bx
   . obtain⟨i,rfl⟩:∃i,a=.int i:=by cases a<;>first|exact⟨_,rfl⟩|cases h
     by_cases k:eZ b=bx
     . obtain⟨j,rfl⟩:∃j,b=.int j:=by cases b<;>first|exact⟨_,rfl⟩|cases k
       rw[hi]at he;cases he;exact⟨i,j,rfl,rfl⟩
     .rw[t i b (by simpa using k)]at he;cases he
   .rw[q a b (by simpa using h)]at he;cases he
 .rw[o]at he;cases he
theorem Ut(hc:X.calm=bx):eY X (.builtin "min") (rBn X.K (blt .min2)):=by rintro f s σ H xs o Q I r⟨F,ds,t,sm,q,he,k⟩;obtain⟨i,j,rfl,rfl⟩:=inv2 (g:=λi j=>if j<i then j else i) rfl (λa=>by cases a<;>rfl) (λa b c l=>by cases a<;>first|rfl|(cases b<;>rfl)) (λa b h=>by cases a<;>first|rfl|cases h) (λi b h=>by cases b<;>first|rfl|cases h) (λ_ _=>rfl) he;rw[RG q]at r;exact Ez hc f s σ H _ o Q I r ⟨_,_,rfl,cH.cY sm (cu _) k⟩
theorem V2(hc:X.calm=bx):eY X (.builtin "max") (rBn X.K (blt .max2)):=by rintro f s σ H xs o Q I r⟨F,ds,t,sm,q,he,k⟩;obtain⟨i,j,rfl,rfl⟩:=inv2 (g:=λi j=>if i<j then j else i) rfl (λa=>by cases a<;>rfl) (λa b c l=>by cases a<;>first|rfl|(cases b<;>rfl)) (λa b h=>by cases a<;>first|rfl|cases h) (λi b h=>by cases b<;>first|rfl|cases h) (λ_ _=>rfl) he;rw[RG q]at r;exact Ft hc f s σ H _ o Q I r ⟨_,_,rfl,cH.cY sm (cu _) k⟩
theorem boot_min:eK "min"=al (.builtin "min"):=by decide+kernel
theorem boot_max:eK "max"=al (.builtin "max"):=by decide+kernel
theorem pW(f:x="min")(hc:X.calm=bx)(g:Gl X x)(j:X.mg x=bdq)(k:SA X c [a,b] [pa,pb])(hs:cw [a,b] X.env=(a7,eu a X.env)::cw [b] X.env:=by rfl)(hpl:(iA pos (cw [b] X.env)).any (·.1)=a7:=by rfl):SX X c (.Call (.Name x p') [a,b] [] pos) (.blt .min2 [pa,pb]):=by subst f;exact RQ (λh=>fW (Ut hc) g j boot_min h (he:=hs) (hpl:=hpl)) k (λρ=>rfl) rfl
theorem wF(f:x="max")(hc:X.calm=bx)(g:Gl X x)(j:X.mg x=bdq)(k:SA X c [a,b] [pa,pb])(hs:cw [a,b] X.env=(a7,eu a X.env)::cw [b] X.env:=by rfl)(hpl:(iA pos (cw [b] X.env)).any (·.1)=a7:=by rfl):SX X c (.Call (.Name x p') [a,b] [] pos) (.blt .max2 [pa,pb]):=by subst f;exact RQ (λh=>fW (V2 hc) g j boot_max h (he:=hs) (hpl:=hpl)) k (λρ=>rfl) rfl
end
section
variable{X:Cx}{c:Call}{n:Nat}{e a b d:df}{p pa pb pd:P}{pos:Pos}{es:List df}{ps:List P}
theorem Eb(g:GS K F ρ σ H)(h:Hh ρ i=al ds):∃a xs,σ[i]?=al (al (V.ref a))/\dF K H a xs:=by
 unfold Hh at h;split at h;.rename_i q;cases h;obtain⟨v,h1,f⟩:=g.pk q;obtain⟨a,xs,rfl,j,_⟩:=f.lst g.sub;exact⟨a,xs,h1,j⟩
 .cases h
theorem mC{k:Nat}{h f:Pos}(G:X.N[k]?=al x)(I:vC X.env.scope x)(hi:SX X c b pb)(he:SX X c e p)(J:∀ v,ka (.Subscript (.Name x h) b f) X.env v=(do
  let ov<-iO [v] (eu (.Name x h) X.env)let iv<-iO [v,ov] (eu b X.env)qv f
  iO [v,ov,iv] (mA ov iv v)qB [v,ov,iv] []):=by intro _;rfl)(hs:i8 [.Subscript (.Name x h) b f] e pos.line X.env=eS a7:=by rfl)(L:i9 [.Subscript (.Name x h) b f] e X.env=eS bdq:=by rfl)(h1:(iE [.Subscript (.Name x h) b f] X.env).map (·.2)=[ka (.Subscript (.Name x h) b f) X.env]:=by rfl)(hd:(x==("__debug__":Str))=a7:=by decide)(t:(x==("__classdict__":Str))=a7:=by decide):SS X c n (.Assign [.Subscript (.Name x h) b f] e pos) (.za k pb p):=by
 obtain⟨ti,u,w⟩:=hi.cN;refine dH (zW he.ev (KN (eU G I hd t) u set_list J) hs L h1) ?_;rintro D σ H⟨F,ρ,fl,M,g,e,O⟩;rw[_H.X9]at e;obtain⟨r,y,Q,e⟩:=aa e;obtain⟨x0,B,l,e⟩:=aa e;have U:=aD l;clear l;obtain⟨l,W⟩:=U;subst W;obtain⟨dk,ρ2,Y,e⟩:=aa e;refine⟨F,ρ,r,y,g,Q,λv F1 H1 s1 Z=>?_⟩;obtain⟨F2,s2,_,rp⟩:=s1.cQ Z;obtain⟨o,ho,_⟩:=s2.gs.pk l;refine⟨o,ho,w s2.gs Y λvi F3 H3 s3 pi=>?_⟩;split at e
 . rename_i bb ds z q;split at e;.rename_i j hj;cases e;obtain⟨ad,xs,C,q2,q3,E⟩:=s3.gs.mW k _ ds q rfl;rw[ho]at C;cases C;refine⟨ad,xs,z,j,rfl,pi.int,q2,by rw[E.length];exact hj,?_⟩;exact O F3 σ _ ((s2.trans s3).trans (s3.gs.mut q ho (E.set (rp.mono s3.bT) j)))
   .cases e
 .cases e
theorem fP{k:Nat}{o h f:Pos}(G:X.N[k]?=al x)(I:vC X.env.scope x)(he:SX X c e p)(j:(h.endLine==f.line)=bx:=by rfl)(hs:cw [e] X.env=(a7,eu e X.env)::cw [] X.env:=by rfl)(l:iq (.Name x o) "append" X.env (eu (.Name x o) X.env)=eu (.Name x o) X.env:=by rfl)(t:((iA f (cw [e] X.env)).all (λx=>!x.1)&&(ol f (lj [] X.env)).all (λx=>x.1.isSome)&&decide ([e].length+([]:List kG).length+(if([]:List kG).isEmpty then 0 else 1)<30))=bx:=by rfl)(w:gd (.Call (.Attribute (.Name x o) "append" h) [e] [] f) bdq pos.line X.env=eS a7:=by rfl)(hd:(x==("__debug__":Str))=a7:=by decide)(y:(x==("__classdict__":Str))=a7:=by decide):SS X c n (.Expr (.Call (.Attribute (.Name x o) "append" h) [e] [] f) pos) (.app k p):=by
 refine dH (v5 (Kh plainAttrs_list PySem.F.slot_list_append PySem.F.type_list_append kY (eU G I hd y) (bu he.ev di hs) l t j hs) w) ?_;rintro D σ H⟨F,ρ,fl,J,g,e,L⟩;rw[_H.X10]at e;obtain⟨d0,M,u,e⟩:=aa e;have O:=aD u;clear u;obtain⟨u,Q⟩:=O;subst Q;obtain⟨r,z,U,e⟩:=aa e;obtain⟨a,xs,h1,W⟩:=Eb g u;refine⟨.ref a,h1,.inl ⟨rfl,xs,W⟩,F,ρ,r,z,g,U,λv F1 H1 s1 Y=>?_⟩;obtain⟨F2,s2,_,Z⟩:=s1.cQ Y;split at e
 . rename_i bb ds q;split at e;.rename_i B;cases e;obtain⟨ad,ys,C,q2,q3,E⟩:=s2.gs.mW k _ ds q rfl;rw[h1]at C;cases C;exact⟨_,ys,v,rfl,rfl,q2,by rw[E.length];exact B,L F2 σ _ (s2.trans (s2.gs.mut q h1 (E.append (.cons Z .nil))))⟩
   .cases e
 .cases e
theorem Wv{j:Nat}{y:Str}{l o pt:Pos}{kt k2 WX}(hc:X.calm=bx)(B:X.N.Nodup)(hi:X.N[i]?=al x)(C:X.N[j]?=al y)(q:i≠j)(E:X.env.scope.names.lookup x=al .local)(G:X.env.scope.names.lookup y=al .local)(I:SX X c a pa)(J:SX X c b pb)(L:i9 [.Tuple [.Name x l,.Name y o] kt pt] (.Tuple [a,b] k2 WX) X.env=eS (al [x,y]):=by rfl)(hs:i8 [.Tuple [.Name x l,.Name y o] kt pt] (.Tuple [a,b] k2 WX) pos.line X.env=eS a7:=by rfl)(h1:cw [a,b] X.env=(a7,eu a X.env)::cw [b] X.env:=by rfl)(M:cw [b] X.env=(a7,eu b X.env)::cw [] X.env:=by rfl):SS X c n (.Assign [.Tuple [.Name x l,.Name y o] kt pt] (.Tuple [a,b] k2 WX) pos) (.par i j pa pb):=by refine dH (_L.Wk hc B hi C q E G (bu I.ev (bu J.ev di M) h1) L hs) ?_;rintro D σ H⟨F,ρ,fl,O,g,e,k⟩;rw[_H.X7]at e;obtain⟨r,f,Q,e⟩:=aa e;obtain⟨z,ρ2,U,e⟩:=aa e;obtain⟨W,Y,h,e⟩:=aa e;cases e;have Z:=aD h;clear h;obtain⟨h,e4⟩:=Z;obtain⟨ac,e5,e6⟩:=cC h;refine⟨F,ρ,r,f,g,Q,λv F1 H1 s1 rr=>?_⟩;obtain⟨F2,s2,_,rp⟩:=s1.cQ rr;refine⟨F2,f,z,ρ2,s2.gs,U,λu F3 H3 s3 t=>?_⟩;obtain⟨F4,s4,_,w⟩:=s3.cQ t;refine⟨v,u,rfl,?_⟩;have t4:=s2.trans s4;have t5:=t4.put (r:=.val r.d) (v:=v) (rp.mono s4.bT) e5;exact k F4 _ H3 (t5.put (r:=.val z.d) (v:=u) w e6)
theorem J6{bs:List Bool}(h:ds.mapM zP=al bs):ds=bs.map D.bl:=by induction ds generalizing bs with|nil=>simp at h;subst h;rfl|cons d ds f=>rw[List.mapM_cons]at h;cases hd:zP d with|none=>rw[hd]at h;cases h|some k=>rw[hd]at h;cases hr:ds.mapM zP with|none=>rw[hr]at h;cases h|some r=>rw[hr]at h;cases h;rw[dc,<-f hr,m9 hd]
theorem Ed{K:PySem.W.Frag}{F:Hp}:∀{bs:List Bool}{xs:List V},aF K F xs (bs.map D.bl)->xs=bs.map V.bl|[],_,h=>h.fu|k::bs,_,h=>by obtain⟨v,r,rfl,h1,f⟩:=h.cF;rw[Rep]at h1;rw[h1,Ed f];rfl
theorem Eh:∀{bs:List Bool}{f:List bw},Vals (bs.map V.bl) f->f=bs.map jr|[],_,h=>h.zero|k::bs,_,.cons r t=>by rw[dc,<-Eh t,show _=_ from r]
theorem Pr{id:String}{f:List Bool->Bool}(hc:X.calm=bx)(rule:∀{x:bw}{Q:bw->bZ->Prop}{s:bZ},cy (cE X.prog X.w) X.A.in1 (qE x) (λit g=>∃ I E t n P St y,it=.ref I/\Walks X.prog X.w X.A.in1 I E t n P St/\St 0 g.heap/\TruthOf X.prog X.w X.A.in1 P y/\∀h' tk,(∀b o,b∉t->g.heap.get? b=al o->h'.get? b=al o)->Q (.bool (f ((dy n).map y))) {g with heap:=h',toks:=tk}) X.xe s->cy (cE X.prog X.w) X.A (call (.builtin id) [x]) Q X.xe s):eY X (.builtin id) (λxs H Q=>∃p ys bs,xs=[.ref p]/\dF X.K H p ys/\ys=bs.map V.bl/\Q (.bl (f bs)) H):=by
 rintro B s σ H xs us Q I r⟨p,ys,bs,G,J,L,k⟩;subst G;subst L;obtain⟨u,rfl,M⟩:=r.one;cases M;obtain⟨N,O,l,hz⟩:=I.list J;have h:=Eh O;subst h;refine rule (gy l.isList ?_);have q:p≠s.heap.objs.size:=by obtain⟨o,h1,_⟩:=l.isList;exact dP (de h1)
 refine⟨s.heap.objs.size,_,_,_,_,_,λi=>bs.getD i a7,rfl,Walks.list (prog:=X.prog) (w:=X.w) (A:=X.A.in1) (show X.A.in1.handled=bdq from I.ok.hd hc) s.heap.objs.size p q (bs.map jr).toArray,⟨⟨_,cv _ rfl,rfl,rfl⟩,?_⟩,?_,λh' tk kp=>?_⟩;.obtain⟨o,h1,C⟩:=l.isList;exact⟨o,dB h1,C⟩
 . intro i v s' Q' E' j U;have W:v=.bool (bs.getD i a7):=by
    have j:(bs.map jr)[i]?=al v:=by simpa using j
    rw[er]at j;obtain⟨k',Y,Z⟩:=map_some j;rw[<-Z,fw,Y];rfl
   subst W;exact fF U
 . have e:f ((dy (bs.map jr).toArray.size).map λi=>bs.getD i a7)=f bs:=by
    congr 1;apply nK;.simp
    .intro i h1 C;simp at h1;simp[h1]
   rw[e];exact⟨.bl _,H,I.kept (λb o z=>kp b o (by simp;exact dP (de z)) (dB z)),rfl,k⟩
theorem aaS(hc:X.calm=bx):eY X (.builtin "all") (Rh X.K λx=>blt .all [x]):=by rintro g s σ H xs q Q I r⟨x,t,F,d,u,sm,w,he,k⟩;obtain⟨bs,y,he⟩:=map_some (show((zG d).bind λds=>ds.mapM zP).map _=al u from he);subst he;obtain⟨ds,j,B⟩:=cC y;have C:=J6 B;cases d with|lst es=>cases j;obtain⟨p,ys,rfl,E,l⟩:=w.lst sm;rw[C]at l;refine Pr (f:=λbs=>bs.all id) hc (λh=>call_all_walk (ei h (λit o⟨I,fp,wr,n,P,Sx,tr,h1,h2,h3,h4,h5⟩=>⟨I,fp,wr,n,P,Sx,tr,h1,h2,h3,h4,λh' tk kp=>?_⟩) λ_ _ z=>z)) g s σ H xs q Q I r ⟨p,ys,bs,t,E,Ed l,cH.cY sm (dZ _) k⟩;have z:=h5 h' tk kp;rw[all_map]at z;exact z|_=>cases j
theorem boot_all:eK "all"=al (.builtin "all"):=by decide+kernel
theorem vq(f:x="all")(hc:X.calm=bx)(g:Gl X x)(j:X.mg x=bdq)(k:SX X c a pa)(hs:cw [a] X.env=(a7,eu a X.env)::cw [] X.env:=by rfl):SX X c (.Call (.Name x p') [a] [] pos) (.blt .all [pa]):=by subst f;exact rY (λh=>fW (aaS hc) g j boot_all h (he:=hs)) k (λρ=>rfl) rfl hs
end
section
variable{K:PySem.W.Frag}
theorem jY:∀{xs ys:List D},xs.length≠ys.length->iM xs ys=a7|[],[],h=>absurd rfl h|[],_::_,_=>by simp[lK,jb,rT,qx]|_::_,[],_=>by simp[lK,jb,rT,qx]|x::xs,y::ys,h=>by rw[jb,jY (xs:=xs) (ys:=ys) (by simpa using h),nm]
theorem gM:∀{xs ys:List D},xs.length=ys.length->iM xs ys=(dy xs.length).all λj=>jP (xs.getD j .non) (ys.getD j .non)|[],[],_=>by rw[lK];rfl|[],_::_,h=>by simp at h|_::_,[],h=>by simp at h|x::xs,y::ys,h=>by rw[jb,gM (xs:=xs) (ys:=ys) (by simpa using h),dL,List.range_succ_eq_map,kq,all_map];rfl
mutual
theorem xR:∀d:D,jP d d=bx|.non=>rfl|.bl _=>by exact beq_self_eq_true _|.int _=>by exact beq_self_eq_true _|.str _=>by exact beq_self_eq_true _|.tup ds=>by exact kZ ds|.lst ds=>by exact kZ ds|.dz _=>by exact decide_eq_true rfl|.dv ks ds=>by show(decide (ks=ks)&&iM ds ds)=bx;rw[kZ ds];simp
theorem kZ:∀ds:List D,iM ds ds=bx|[]=>by rw[lK]|d::ds=>by rw[jb,xR d,kZ ds];rfl
end
theorem fV{d e:D}(b:flat d=bx)(h1:Rep K F v d)(a:Rep K F v e):d=e:=by cases d with
 |tup _=>cases b|lst _=>cases b|dz _=>cases b|dv _ _=>cases b|non=>rw[Rep]at h1;subst h1;cases e with|non=>rfl|tup _=>rw[Rep]at a;obtain⟨_,_,q,_⟩:=a;cases q|lst _=>rw[Rep]at a;obtain⟨_,_,q,_⟩:=a;cases q|dz _=>rw[Rep]at a;obtain⟨_,_,q,_⟩:=a;cases q|dv _ _=>rw[Rep]at a;obtain⟨_,_,_,q,_⟩:=a;cases q|_=>rw[Rep]at a;cases a
 |bl k=>rw[Rep]at h1;subst h1;cases e with|bl _=>rw[Rep]at a;cases a;rfl|tup _=>rw[Rep]at a;obtain⟨_,_,q,_⟩:=a;cases q|lst _=>rw[Rep]at a;obtain⟨_,_,q,_⟩:=a;cases q|dz _=>rw[Rep]at a;obtain⟨_,_,q,_⟩:=a;cases q|dv _ _=>rw[Rep]at a;obtain⟨_,_,_,q,_⟩:=a;cases q|_=>rw[Rep]at a;cases a
 |int k=>rw[Rep]at h1;subst h1;cases e with|int _=>rw[Rep]at a;cases a;rfl|tup _=>rw[Rep]at a;obtain⟨_,_,q,_⟩:=a;cases q|lst _=>rw[Rep]at a;obtain⟨_,_,q,_⟩:=a;cases q|dz _=>rw[Rep]at a;obtain⟨_,_,q,_⟩:=a;cases q|dv _ _=>rw[Rep]at a;obtain⟨_,_,_,q,_⟩:=a;cases q|_=>rw[Rep]at a;cases a
 |str k=>rw[Rep]at h1;subst h1;cases e with|str _=>rw[Rep]at a;cases a;rfl|tup _=>rw[Rep]at a;obtain⟨_,_,q,_⟩:=a;cases q|lst _=>rw[Rep]at a;obtain⟨_,_,q,_⟩:=a;cases q|dz _=>rw[Rep]at a;obtain⟨_,_,q,_⟩:=a;cases q|dv _ _=>rw[Rep]at a;obtain⟨_,_,_,q,_⟩:=a;cases q|_=>rw[Rep]at a;cases a
theorem Ou{X:Cx}{u:List (b_×Obj)}(I:_L.Inv X u σ H s)(sm:aB F H):∀n:Nat,(∀d:D,iK n d=bx->∀(v:V)(e:D),Rep X.K F v d->Rep X.K F v e->d=e):=by
 have N:∀{a:b_}{xs ys:List V},iB X.K F a xs->dF X.K F a ys->False:=λ{a xs ys}h1 b=>by obtain⟨_,_,⟨o,g,j,_⟩,_⟩:=I.tuple (aB.gU sm h1);obtain⟨_,_,w,_⟩:=I.list (sm.seq b);obtain⟨C,c,f,_⟩:=w.isList;rw[g]at c;cases c;rw[j]at f;exact absurd f (by decide)
 have O:∀{a:b_}{kvs:Dc},Rep X.K F (.ref a) (.dz kvs)->∃o,s.heap.get? a=al o/\o.cls=.type "dict":=λ{a kvs}h=>by rw[Rep]at h;obtain⟨y,_,q,E⟩:=h;cases q;exact JR I (sm _ _ E)
 have Q:∀{a:b_}{xs:List V}{kvs:Dc},iB X.K F a xs->Rep X.K F (.ref a) (.dz kvs)->False:=λ{a xs kvs}h1 b=>by obtain⟨_,_,⟨o,g,j,_⟩,_⟩:=I.tuple (aB.gU sm h1);obtain⟨C,c,f⟩:=O b;rw[g]at c;cases c;rw[j]at f;exact absurd f (by decide)
 have ld:∀{a:b_}{xs:List V}{kvs:Dc},dF X.K F a xs->Rep X.K F (.ref a) (.dz kvs)->False:=λ{a xs kvs}h1 b=>by obtain⟨_,_,w,_⟩:=I.list (sm.seq h1);obtain⟨o,g,j,_⟩:=w.isList;obtain⟨C,c,f⟩:=O b;rw[g]at c;cases c;rw[j]at f;exact absurd f (by decide)
 have z:∀{a:b_}{ks:List Int}{es:List D},Rep X.K F (.ref a) (.dv ks es)->∃o,s.heap.get? a=al o/\o.cls=.type "dict":=λ{a ks es}h=>by rw[Rep]at h;obtain⟨y,_,_,q,E,_⟩:=h;cases q;exact HR I (sm _ _ E)
 have G:∀{a:b_}{xs:List V}{ks:List Int}{es:List D},iB X.K F a xs->Rep X.K F (.ref a) (.dv ks es)->False:=λ{a xs ks es}h1 b=>by obtain⟨_,_,⟨o,g,j,_⟩,_⟩:=I.tuple (aB.gU sm h1);obtain⟨C,c,f⟩:=z b;rw[g]at c;cases c;rw[j]at f;exact absurd f (by decide)
 have J:∀{a:b_}{xs:List V}{ks:List Int}{es:List D},dF X.K F a xs->Rep X.K F (.ref a) (.dv ks es)->False:=λ{a xs ks es}h1 b=>by obtain⟨_,_,w,_⟩:=I.list (sm.seq h1);obtain⟨o,g,j,_⟩:=w.isList;obtain⟨C,c,f⟩:=z b;rw[g]at c;cases c;rw[j]at f;exact absurd f (by decide)
 intro n;induction n with
 |zero=>intro d hd v e h1 b;cases d with|tup _=>simp[bM,bH,bN,bK,bL,bJ]at hd|lst _=>simp[bM,bH,bN,bK,bL,bJ]at hd|dz _=>simp[bM,bH,bN,bK,bL,bJ]at hd|dv _ _=>simp[bM,bH,bN,bK,bL,bJ]at hd|non=>exact fV rfl h1 b|bl k=>exact fV rfl h1 b|int k=>exact fV rfl h1 b|str k=>exact fV rfl h1 b
 |succ n U=>
   have all:∀{xs:List V}{ds es:List D},ds.all (iK n)=bx->aF X.K F xs ds->aF X.K F xs es->ds=es:=λ{xs ds}=>by induction ds generalizing xs with|nil=>intro es _ h1 b;rw[h1.fu]at b;have:=b.length;exact(gN this.symm).symm|cons d ds L=>intro es p h1 b;rw[kq,ey]at p;obtain⟨v,r,rfl,g,j⟩:=h1.cF;cases es with|nil=>cases b.fu|cons e es=>obtain⟨Y,Z,W,c,f⟩:=b.cF;cases W;rw[U d p.1 v e g c,L p.2 j f]
   intro d hd v e h1 b;cases d with
   |dz _=>simp[bM,bH,bN,bK,bL,bJ]at hd|dv _ _=>simp[bM,bH,bN,bK,bL,bJ]at hd|tup ds=>
     have p:ds.all (iK n)=bx:=by simpa[bM,bH,bN,bK,bL,bJ]using hd
     rw[Rep]at h1;obtain⟨a,xs,rfl,l,M⟩:=h1;cases e with|tup es=>rw[Rep]at b;obtain⟨y,ys,q,t,B⟩:=b;cases q;have:=I.kJ (aB.gU sm l) (aB.gU sm t);subst this;rw[all p M B]|lst es=>rw[Rep]at b;obtain⟨y,ys,q,t,B⟩:=b;cases q;exact(N l t).elim|dz _=>exact(Q l b).elim|dv _ _=>exact(G l b).elim|_=>rw[Rep]at b;cases b
   |lst ds=>
     have p:ds.all (iK n)=bx:=by simpa[bM,bH,bN,bK,bL,bJ]using hd
     rw[Rep]at h1;obtain⟨a,xs,rfl,l,M⟩:=h1;cases e with|lst es=>rw[Rep]at b;obtain⟨y,ys,q,t,B⟩:=b;cases q;have:=I.m7 (sm.seq l) (sm.seq t);subst this;rw[all p M B]|tup es=>rw[Rep]at b;obtain⟨y,ys,q,t,B⟩:=b;cases q;exact(N t l).elim|dz _=>exact(ld l b).elim|dv _ _=>exact(J l b).elim|_=>rw[Rep]at b;cases b
   |non=>exact fV rfl h1 b|bl k=>exact fV rfl h1 b|int k=>exact fV rfl h1 b|str k=>exact fV rfl h1 b
theorem DW{d e:D}{u:V}{c:bw}(hd:flat d=bx)(he:flat e=bx)(h1:Rep K F v d)(a:Rep K F u e)(r1:RelV v c)(b:RelV u u'):gL A s c u' (jP d e):=by cases d with
 |tup _=>cases hd|lst _=>cases hd|dz _=>cases hd|dv _ _=>cases hd|non=>rw[Rep]at h1;subst h1;cases(show c=.none from r1);cases e with|tup _=>cases he|lst _=>cases he|dz _=>cases he|dv _ _=>cases he|non=>rw[Rep]at a;subst a;cases(show u'=.none from b);exact k7 _|bl _=>rw[Rep]at a;subst a;cases(show u'=.bool _ from b);exact none_bool _|int _=>rw[Rep]at a;subst a;obtain⟨t,rfl⟩:=b;exact none_int _ _|str _=>rw[Rep]at a;subst a;obtain⟨t,rfl⟩:=b;exact none_str _ _
 |bl _=>rw[Rep]at h1;subst h1;cases(show c=.bool _ from r1);cases e with|tup _=>cases he|lst _=>cases he|dz _=>cases he|dv _ _=>cases he|non=>rw[Rep]at a;subst a;cases(show u'=.none from b);exact bool_none _|bl _=>rw[Rep]at a;subst a;cases(show u'=.bool _ from b);exact bool_bool _ _|int _=>rw[Rep]at a;subst a;obtain⟨t,rfl⟩:=b;exact bool_int _ _ _|str _=>rw[Rep]at a;subst a;obtain⟨t,rfl⟩:=b;exact bool_str _ _ _
 |int _=>rw[Rep]at h1;subst h1;obtain⟨t0,rfl⟩:=r1;cases e with|tup _=>cases he|lst _=>cases he|dz _=>cases he|dv _ _=>cases he|non=>rw[Rep]at a;subst a;cases(show u'=.none from b);exact int_none _ _|bl _=>rw[Rep]at a;subst a;cases(show u'=.bool _ from b);exact int_bool _ _ _|int _=>rw[Rep]at a;subst a;obtain⟨t,rfl⟩:=b;exact int_int _ _ _ _|str _=>rw[Rep]at a;subst a;obtain⟨t,rfl⟩:=b;exact int_str _ _ _ _
 |str _=>rw[Rep]at h1;subst h1;obtain⟨t0,rfl⟩:=r1;cases e with|tup _=>cases he|lst _=>cases he|dz _=>cases he|dv _ _=>cases he|non=>rw[Rep]at a;subst a;cases(show u'=.none from b);exact str_none _ _|bl _=>rw[Rep]at a;subst a;cases(show u'=.bool _ from b);exact str_bool _ _ _|int _=>rw[Rep]at a;subst a;obtain⟨t,rfl⟩:=b;exact str_int _ _ _ _|str _=>rw[Rep]at a;subst a;obtain⟨t,rfl⟩:=b;exact str_str _ _ _ _
theorem nC{e:D}{u:V}{a:b_}{g:Array bw}(ht:s.heap.IsTuple a g)(b:A.units<fT)(he:flat e=bx)(c:Rep K F u e)(f:RelV u u'):gL A s (.ref a) u' (jP (.tup ds) e)/\gL A s u' (.ref a) (jP e (.tup ds)):=by cases e with|tup _=>cases he|lst _=>cases he|dz _=>cases he|dv _ _=>cases he|non=>rw[Rep]at c;subst c;cases(show u'=.none from f);exact⟨SeqAt.EqAt.tuple_none ht b,SeqAt.EqAt.none_tuple ht b⟩|bl _=>rw[Rep]at c;subst c;cases(show u'=.bool _ from f);exact⟨SeqAt.EqAt.tuple_bool _ ht b,SeqAt.EqAt.bool_tuple _ ht b⟩|int _=>rw[Rep]at c;subst c;obtain⟨t,rfl⟩:=f;exact⟨SeqAt.EqAt.tuple_int _ _ ht b,SeqAt.EqAt.int_tuple _ _ ht b⟩|str _=>rw[Rep]at c;subst c;obtain⟨t,rfl⟩:=f;exact⟨SeqAt.EqAt.tuple_str _ _ ht b,SeqAt.EqAt.str_tuple _ _ ht b⟩
theorem mQ{e:D}{u:V}{a:b_}{g:Array bw}(ht:s.heap.IsList a g)(b:A.units<fT)(he:flat e=bx)(c:Rep K F u e)(f:RelV u u'):gL A s (.ref a) u' (jP (.lst ds) e)/\gL A s u' (.ref a) (jP e (.lst ds)):=by cases e with|tup _=>cases he|lst _=>cases he|dz _=>cases he|dv _ _=>cases he|non=>rw[Rep]at c;subst c;cases(show u'=.none from f);exact⟨SeqAt.EqAt.list_none ht b,SeqAt.EqAt.none_list ht b⟩|bl _=>rw[Rep]at c;subst c;cases(show u'=.bool _ from f);exact⟨SeqAt.EqAt.list_bool _ ht b,SeqAt.EqAt.bool_list _ ht b⟩|int _=>rw[Rep]at c;subst c;obtain⟨t,rfl⟩:=f;exact⟨SeqAt.EqAt.list_int _ _ ht b,SeqAt.EqAt.int_list _ _ ht b⟩|str _=>rw[Rep]at c;subst c;obtain⟨t,rfl⟩:=f;exact⟨SeqAt.EqAt.list_str _ _ ht b,SeqAt.EqAt.str_list _ _ ht b⟩
theorem xj{n:Nat}{d:D}(h:iK n d=bx)(h0:n=0):flat d=bx:=by subst h0;cases d<;>first|rfl|simp[bM,bH,bN,bK,bL,bJ]at h
theorem afm{X:Cx}{G:List (b_×Obj)}(I:_L.Inv X G σ H s)(sm:aB F H):∀(n:Nat)(A:ej),A.units+n<fT->∀(d e:D),iK n d=bx->iK n e=bx->∀(v u:V)(J u':bw),Rep X.K F v d->Rep X.K F u e->RelV v J->RelV u u'->gL A s J u' (jP d e):=by intro n;induction n with|zero=>intro A Z d e hd he v u J u' h1 f r1 g;exact DW (xj hd rfl) (xj he rfl) h1 f r1 g|succ n ih=>
   intro A Z d e hd he v u J u' h1 f r1 g;have c:A.units<fT:=by omega
   have N:A.in1.units+n<fT:=by show A.units+1+n<fT;omega--items by place
   have L:∀{xs ys:List V}{q ws:List bw}{ds es:List D}{j:Nat}(B:j<q.toArray.size)(C:j<ws.toArray.size),ds.all (iK n)=bx->es.all (iK n)=bx->Vals xs q->Vals ys ws->aF X.K F xs ds->aF X.K F ys es->gL A.in1 s q.toArray[j] ws.toArray[j] (jP (ds.getD j .non) (es.getD j .non)):=λ{xs ys q ws ds es j}B C a1 a2 E h p1 p2=>by
    have B:j<q.length:=by simpa using B
    have C:j<ws.length:=by simpa using C
    have r:j<ds.length:=by rw[<-p1.length,E.length];exact B
    have l2:j<es.length:=by rw[<-p2.length,h.length];exact C
    obtain⟨x,g1,g2⟩:=p1.get (show ds[j]?=al ds[j]by simp[r]);obtain⟨y,g3,g4⟩:=p2.get (show es[j]?=al es[j]by simp[l2]);obtain⟨W,g5,g6⟩:=E.get g1;obtain⟨Y,g7,g8⟩:=h.get g3;have e1:q.toArray[j]=W:=by have:=(dX g5).2;simpa using this
    have e2:ws.toArray[j]=Y:=by have:=(dX g7).2;simpa using this
    have e3:ds.getD j .non=ds[j]:=by simp[jv,r]
    have e4:es.getD j .non=es[j]:=by simp[jv,l2]
    rw[e1,e2,e3,e4];exact ih A.in1 N _ _ (eh.mp a1 _ (kC r)) (eh.mp a2 _ (kC l2)) x y W Y g2 g4 g6 g8--the same object
   have same:∀{a:b_},v=.ref a->u=.ref a->gL A s J u' (jP d e):=λ{a}q1 q2=>by subst q1;subst q2;have:=Ou I sm (n+1) d hd _ e h1 f;subst this;rw[xR];cases r1;cases g;exact k7 _
   cases d with
   |dz _=>simp[bM,bH,bN,bK,bL,bJ]at hd|dv _ _=>simp[bM,bH,bN,bK,bL,bJ]at hd|tup ds=>
     have O:ds.all (iK n)=bx:=by simpa[bM,bH,bN,bK,bL,bJ]using hd
     have k:=h1;rw[Rep]at k;obtain⟨a,xs,rfl,Q,M⟩:=k;cases r1;obtain⟨q,E,p1,_⟩:=I.tuple (aB.gU sm Q)
     cases e with|dz _=>simp[bM,bH,bN,bK,bL,bJ]at he|dv _ _=>simp[bM,bH,bN,bK,bL,bJ]at he|tup es=>
       have U:es.all (iK n)=bx:=by simpa[bM,bH,bN,bK,bL,bJ]using he
       have l:=f;rw[Rep]at l;obtain⟨b,ys,rfl,o,t⟩:=l;by_cases p:a=b;.subst p;exact same rfl rfl
       . cases g;obtain⟨ws,h,p2,_⟩:=I.tuple (aB.gU sm o);refine .of_refs p ?_;have z:=SeqAt.RcAt.tuples (A:=A) (e:=λj=>jP (ds.getD j .non) (es.getD j .non)) p1 p2 c λj B C=>L B C O U E h M t;have r:q.toArray.size=ds.length:=by rw[cx,<-E.length,M.length]
         have l2:ws.toArray.size=es.length:=by rw[cx,<-h.length,t.length]
         rw[r,l2]at z;have e0:jP (.tup ds) (.tup es)=((dy (min ds.length es.length)).all (λj=>jP (ds.getD j .non) (es.getD j .non))&&ds.length==es.length):=by
          rw[pqt];by_cases w:ds.length=es.length;.rw[gM w,w];simp
          . rw[jY w];have:(ds.length==es.length)=a7:=by simpa using w
            rw[this,nm]
         rw[e0];exact z|lst es=>rw[Rep]at f;obtain⟨b,ys,rfl,o,t⟩:=f;cases g;obtain⟨ws,h,p2,_⟩:=I.list (sm.seq o);exact SeqAt.EqAt.tuple_list p1 p2.isList c|non=>exact(nC p1 c rfl f g).1|bl _=>exact(nC p1 c rfl f g).1|int _=>exact(nC p1 c rfl f g).1|str _=>exact(nC p1 c rfl f g).1
   |lst ds=>
     have O:ds.all (iK n)=bx:=by simpa[bM,bH,bN,bK,bL,bJ]using hd
     have k:=h1;rw[Rep]at k
     obtain⟨a,xs,rfl,Q,M⟩:=k;cases r1;obtain⟨q,E,p1,_⟩:=I.list (sm.seq Q);cases e with|dz _=>simp[bM,bH,bN,bK,bL,bJ]at he|dv _ _=>simp[bM,bH,bN,bK,bL,bJ]at he|lst es=>
       have U:es.all (iK n)=bx:=by simpa[bM,bH,bN,bK,bL,bJ]using he
       have l:=f;rw[Rep]at l;obtain⟨b,ys,rfl,o,t⟩:=l;by_cases p:a=b;.subst p;exact same rfl rfl
       . cases g;obtain⟨ws,h,p2,_⟩:=I.list (sm.seq o);refine .of_refs p ?_;have r:q.toArray.size=ds.length:=by rw[cx,<-E.length,M.length]
         have l2:ws.toArray.size=es.length:=by rw[cx,<-h.length,t.length]
         rw[pql];by_cases w:ds.length=es.length;.have z:=SeqAt.RcAt.lists (A:=A) (e:=λj=>jP (ds.getD j .non) (es.getD j .non)) p1.isList p2.isList (by rw[r,l2,w]) c λj B C=>L B C O U E h M t;rw[r]at z;rw[gM w];exact z
         .rw[jY w];exact lists_lengths p1.isList p2.isList (by rw[r,l2];simpa using w) c|tup es=>rw[Rep]at f;obtain⟨b,ys,rfl,o,t⟩:=f;cases g;obtain⟨ws,h,p2,_⟩:=I.tuple (aB.gU sm o);exact SeqAt.EqAt.list_tuple p1.isList p2 c|non=>exact(mQ p1.isList c rfl f g).1|bl _=>exact(mQ p1.isList c rfl f g).1|int _=>exact(mQ p1.isList c rfl f g).1|str _=>exact(mQ p1.isList c rfl f g).1
   |non|bl _|int _|str _=>cases e with|dz _=>simp[bM,bH,bN,bK,bL,bJ]at he|dv _ _=>simp[bM,bH,bN,bK,bL,bJ]at he|tup es=>rw[Rep]at f;obtain⟨b,ys,rfl,o,t⟩:=f;cases g;obtain⟨ws,h,p2,_⟩:=I.tuple (aB.gU sm o);exact(nC p2 c rfl h1 r1).2|lst es=>rw[Rep]at f;obtain⟨b,ys,rfl,o,t⟩:=f;cases g;obtain⟨ws,h,p2,_⟩:=I.list (sm.seq o);exact(mQ p2.isList c rfl h1 r1).2|_=>exact DW rfl rfl h1 f r1 g
end
section
variable{X:Cx}{pins:List (b_×Obj)}{σ:_L.St}{H F:Hp}{s:bZ}{A:ej}
noncomputable abbrev RC(A:ej)(s:bZ)(v u:bw)(k:Bool):Prop:=SeqAt.RcAt A s v u k/\SeqAt.RcNeAt A s v u (!k)
inductive Top(X:Cx)(F H:Hp)(s:bZ):bw->D->Prop where|non:Top X F H s .none .non|bl(b:Bool):Top X F H s (.bool b) (.bl b)|int(i:Int)(t:Tok):Top X F H s (.int i t) (.int i)|str(x:Str)(t:Tok):Top X F H s (.str x t) (.str x)|tup{a:b_}{us:List bw}{xs:List V}{ds:List D}(ht:s.heap.IsTuple a us.toArray)(hv:Vals xs us)(hr:aF X.K F xs ds):Top X F H s (.ref a) (.tup ds)|lst{a:b_}{us:List bw}{xs:List V}{ds:List D}(ht:s.heap.IsList a us.toArray)(hv:Vals xs us)(hr:aF X.K F xs ds):Top X F H s (.ref a) (.lst ds)
theorem vd(I:_L.Inv X pins σ H s)(sm:aB F H){f:bw}{d:D}(hd:iK 8 d=bx)(h:dw X.K F H v d)(r:RelV v f):Top X F H s f d:=by cases d with|dz _=>simp[bM,bH,bN,bK,bL,bJ]at hd|dv _ _=>simp[bM,bH,bN,bK,bL,bJ]at hd|non=>rw[h.non]at r;cases r;exact .non|bl b=>rw[h.bl]at r;cases r;exact .bl b|int i=>rw[h.int]at r;obtain⟨t,rfl⟩:=r;exact .int i t|str x=>rw[h.str]at r;obtain⟨t,rfl⟩:=r;exact .str x t|tup ds=>obtain⟨a,xs,rfl,h1,c,_⟩:=h.tup sm;cases r;obtain⟨g,e,p1,_⟩:=I.tuple h1;exact .tup p1 e c|lst ds=>obtain⟨a,xs,rfl,h1,c⟩:=h.lst sm;cases r;obtain⟨g,e,p1,_⟩:=I.list h1;exact .lst p1.isList e c
theorem Zj(I:_L.Inv X pins σ H s)(sm:aB F H){n:Nat}(hu:A.units+(n+1)<fT){d e:D}(hd:iK (n+1) d=bx)(he:iK (n+1) e=bx){J:bw}(h1:Top X F H s J d)(w:Top X F H s u' e):RC A s J u' (jP d e):=by
 have c:A.units<fT:=by omega
 have G:A.in1.units+n<fT:=by show A.units+1+n<fT;omega
 have r:∀{xs ys:List V}{q ws:List bw}{ds es:List D}{j:Nat}(k:j<q.toArray.size)(l:j<ws.toArray.size),ds.all (iK n)=bx->es.all (iK n)=bx->Vals xs q->Vals ys ws->aF X.K F xs ds->aF X.K F ys es->gL A.in1 s q.toArray[j] ws.toArray[j] (jP (ds.getD j .non) (es.getD j .non)):=λ{xs ys q ws ds es j}k l Q U L M p1 p2=>by
  have k:j<q.length:=by simpa using k
  have l:j<ws.length:=by simpa using l
  have o:j<ds.length:=by rw[<-p1.length,L.length];exact k
  have l2:j<es.length:=by rw[<-p2.length,M.length];exact l
  obtain⟨x,W,Y⟩:=p1.get (show ds[j]?=al ds[j]by simp[o]);obtain⟨y,Z,g4⟩:=p2.get (show es[j]?=al es[j]by simp[l2]);obtain⟨N,g5,g6⟩:=L.get W;obtain⟨O,g7,g8⟩:=M.get Z;have e1:q.toArray[j]=N:=by have:=(dX g5).2;simpa using this
  have e2:ws.toArray[j]=O:=by have:=(dX g7).2;simpa using this
  have e3:ds.getD j .non=ds[j]:=by simp[jv,o]
  have e4:es.getD j .non=es[j]:=by simp[jv,l2]
  rw[e1,e2,e3,e4];exact afm I sm n A.in1 G _ _ (eh.mp Q _ (kC o)) (eh.mp U _ (kC l2)) x y N O Y g4 g6 g8
 cases h1 with
 |non=>cases w with|non=>exact⟨SeqAt.RcAt.none_none,SeqAt.RcNeAt.none_none⟩|bl b=>exact⟨SeqAt.RcAt.none_bool _,SeqAt.RcNeAt.none_bool _⟩|int i t=>exact⟨SeqAt.RcAt.none_int _ _,SeqAt.RcNeAt.none_int _ _⟩|str i t=>exact⟨SeqAt.RcAt.none_str _ _,SeqAt.RcNeAt.none_str _ _⟩|tup ht _ _=>exact⟨SeqAt.RcAt.none_tuple ht c,SeqAt.RcNeAt.none_tuple ht c⟩|lst ht _ _=>exact⟨SeqAt.RcAt.none_list ht c,SeqAt.RcNeAt.none_list ht c⟩
 |bl b0=>cases w with|non=>exact⟨SeqAt.RcAt.bool_none _,SeqAt.RcNeAt.bool_none _⟩|bl b=>exact⟨SeqAt.RcAt.bool_bool _ _,SeqAt.RcNeAt.bool_bool _ _⟩|int i t=>exact⟨SeqAt.RcAt.bool_int _ _ _,SeqAt.RcNeAt.bool_int _ _ _⟩|str i t=>exact⟨SeqAt.RcAt.bool_str _ _ _,SeqAt.RcNeAt.bool_str _ _ _⟩|tup ht _ _=>exact⟨SeqAt.RcAt.bool_tuple _ ht c,SeqAt.RcNeAt.bool_tuple _ ht c⟩|lst ht _ _=>exact⟨SeqAt.RcAt.bool_list _ ht c,SeqAt.RcNeAt.bool_list _ ht c⟩
 |int i0 t0=>cases w with|non=>exact⟨SeqAt.RcAt.int_none _ _,SeqAt.RcNeAt.int_none _ _⟩|bl b=>exact⟨SeqAt.RcAt.int_bool _ _ _,SeqAt.RcNeAt.int_bool _ _ _⟩|int i t=>exact⟨SeqAt.RcAt.int_int _ _ _ _,SeqAt.RcNeAt.int_int _ _ _ _⟩|str i t=>exact⟨SeqAt.RcAt.int_str _ _ _ _,SeqAt.RcNeAt.int_str _ _ _ _⟩|tup ht _ _=>exact⟨SeqAt.RcAt.int_tuple _ _ ht c,SeqAt.RcNeAt.int_tuple _ _ ht c⟩|lst ht _ _=>exact⟨SeqAt.RcAt.int_list _ _ ht c,int_list _ _ ht c⟩
 |str i0 t0=>cases w with|non=>exact⟨SeqAt.RcAt.str_none _ _,SeqAt.RcNeAt.str_none _ _⟩|bl b=>exact⟨SeqAt.RcAt.str_bool _ _ _,SeqAt.RcNeAt.str_bool _ _ _⟩|int i t=>exact⟨SeqAt.RcAt.str_int _ _ _ _,SeqAt.RcNeAt.str_int _ _ _ _⟩|str i t=>exact⟨SeqAt.RcAt.str_str _ _ _ _,SeqAt.RcNeAt.str_str _ _ _ _⟩|tup ht _ _=>exact⟨SeqAt.RcAt.str_tuple _ _ ht c,SeqAt.RcNeAt.str_tuple _ _ ht c⟩|lst ht _ _=>exact⟨SeqAt.RcAt.str_list _ _ ht c,str_list _ _ ht c⟩
 |@tup a q xs ds ht u hr=>
   have z:ds.all (iK n)=bx:=by simpa[bM,bH,bN,bK,bL,bJ]using hd
   cases w with|non=>exact⟨SeqAt.RcAt.tuple_none ht c,SeqAt.RcNeAt.tuple_none ht c⟩|bl b=>exact⟨SeqAt.RcAt.tuple_bool _ ht c,SeqAt.RcNeAt.tuple_bool _ ht c⟩|int i t=>exact⟨SeqAt.RcAt.tuple_int _ _ ht c,SeqAt.RcNeAt.tuple_int _ _ ht c⟩|str i t=>exact⟨SeqAt.RcAt.tuple_str _ _ ht c,SeqAt.RcNeAt.tuple_str _ _ ht c⟩|lst h _ _=>exact⟨SeqAt.RcAt.tuple_list ht h c,SeqAt.RcNeAt.tuple_list ht h c⟩|@tup b ws ys es h f g=>
     have B:es.all (iK n)=bx:=by simpa[bM,bH,bN,bK,bL,bJ]using he
     have o:q.toArray.size=ds.length:=by rw[cx,<-u.length,hr.length]
     have l2:ws.toArray.size=es.length:=by rw[cx,<-f.length,g.length]
     have C:=SeqAt.RcAt.tuples (A:=A) (e:=λj=>jP (ds.getD j .non) (es.getD j .non)) ht h c λj k l=>r k l z B u f hr g;have E:=SeqAt.RcNeAt.tuples (A:=A) (e:=λj=>jP (ds.getD j .non) (es.getD j .non)) ht h c λj k l=>r k l z B u f hr g;rw[o,l2]at C E;have e0:jP (.tup ds) (.tup es)=((dy (min ds.length es.length)).all (λj=>jP (ds.getD j .non) (es.getD j .non))&&ds.length==es.length):=by
      rw[pqt];by_cases p:ds.length=es.length;.rw[gM p,p];simp
      . rw[jY p];have:(ds.length==es.length)=a7:=by simpa using p
        rw[this,nm]
     rw[e0];exact⟨C,E⟩
 |@lst a q xs ds ht u hr=>
   have z:ds.all (iK n)=bx:=by simpa[bM,bH,bN,bK,bL,bJ]using hd
   cases w with|non=>exact⟨SeqAt.RcAt.list_none ht c,SeqAt.RcNeAt.list_none ht c⟩|bl b=>exact⟨SeqAt.RcAt.list_bool _ ht c,SeqAt.RcNeAt.list_bool _ ht c⟩|int i t=>exact⟨SeqAt.RcAt.list_int _ _ ht c,list_int _ _ ht c⟩|str i t=>exact⟨SeqAt.RcAt.list_str _ _ ht c,list_str _ _ ht c⟩|tup h _ _=>exact⟨SeqAt.RcAt.list_tuple ht h c,SeqAt.RcNeAt.list_tuple ht h c⟩|@lst b ws ys es h f g=>
     have B:es.all (iK n)=bx:=by simpa[bM,bH,bN,bK,bL,bJ]using he
     have o:q.toArray.size=ds.length:=by rw[cx,<-u.length,hr.length]
     have l2:ws.toArray.size=es.length:=by rw[cx,<-f.length,g.length]
     rw[pql];by_cases p:ds.length=es.length;.have C:=SeqAt.RcAt.lists (A:=A) (e:=λj=>jP (ds.getD j .non) (es.getD j .non)) ht h (by rw[o,l2,p]) c λj k l=>r k l z B u f hr g;have E:=SeqAt.RcNeAt.lists (A:=A) (e:=λj=>jP (ds.getD j .non) (es.getD j .non)) ht h (by rw[o,l2,p]) c λj k l=>r k l z B u f hr g;rw[o]at C E;rw[gM p];exact⟨C,E⟩
     .rw[jY p];exact⟨lists_lengths ht h (by rw[o,l2];simpa using p) c,SeqAt.RcNeAt.lists_lengths ht h (by rw[o,l2];simpa using p) c⟩
theorem qu(b:X.A.units+8<fT):fX X (dO .Eq) (rD X.K (pG .eq)):=by rintro pins s σ H x y v u Q I c f⟨F,d,e,r,sm,g,h,he,k⟩;obtain⟨t,a,j⟩:=map_some (show(zx d e).map _=al r from he);subst j;unfold zx at a;obtain⟨hd,a⟩:=bf a;rw[ey]at hd;subst a;exact(Zj I sm (n:=7) b hd.1 hd.2 (vd I sm hd.1 g c) (vd I sm hd.2 h f)).1 _ _ _ _ ⟨.bl _,H,I,rfl,cH.cY sm (dZ _) k⟩
theorem gP(b:X.A.units+8<fT):fX X (dO .NotEq) (rD X.K (pG .ne)):=by rintro pins s σ H x y v u Q I c f⟨F,d,e,r,sm,g,h,he,k⟩;obtain⟨t,a,j⟩:=map_some (show(Ij d e).map _=al r from he);subst j;unfold Ij at a;obtain⟨hd,a⟩:=bf a;rw[ey]at hd;subst a;exact(Zj I sm (n:=7) b hd.1 hd.2 (vd I sm hd.1 g c) (vd I sm hd.2 h f)).2 _ _ _ _ ⟨.bl _,H,I,rfl,cH.cY sm (dZ _) k⟩
end
section
variable{Pg:da}{w:eg}{K:PySem.W.Frag}{mg:Str->Option bw}{base:ew}
theorem aaP{qual:Str}{st:eM}{f:b_}{fd:h8}{N ps:List Str}{k n:Nat}{c:Call}{d:Fd}(C:gZ K x qual st f fd)(S:aK N ps (aA st))(h1:d.np=ps.length)(t:d.nn=N.length)(G:∀(cdv:bw)(A:ej)(outer:List Env)(s:bZ)(H:Hp)(E:XK),jX k (A.deeper (ll qual (aA st) s.heap.objs.size f cdv))->SB (Bh Jf Pg w K mg base N qual (aA st) f cdv A outer s H E).nox c n (gq st) d.body):oA Pg w K mg base Jf (k+1) f fd ps (Qs K ps.length (λargs=>enter c n d args)):=by
 refine C.ok S (λvs H Q E h=>h.1) λcdv A outer s H vs Q E hr h=>?_;obtain⟨u,F,args,r,o,g,e,q⟩:=h;refine⟨_,G cdv A outer s H E hr,?_⟩;replace e:enter c n d args=.ok r o:=e;unfold enter at e;split at e
 . rename_i hc;obtain⟨c1,c2⟩:=hc;have I:=g.more (n:=d.nn-d.np) (τ:=cq (N.length-vs.length) bdq) (by simp[h1,t,u]);have p:args.length=d.np:=c1;have go:∀{fl:Fl}{a:List Sl},gj c n d.body (args++cq (d.nn-d.np) .aN)=.ok fl a->(∀l b j,az K F (args++cq (d.nn-d.np) .aN) (start N vs) H l a b j->(match fl with|.next=>Q .non j|.brk=>False|.cont=>False|.ret r=>∀v,cT K l a b j (args++cq (d.nn-d.np) .aN) (start N vs) H v r->Q v j))->XQ K (gj c n d.body) {nx:=λ_ j=>Q .non j,rt:=Q} (start N vs) H:=λ{fl a}z k=>⟨F,_,fl,a,I,z,λl b j s=>by have:=k l b j s;cases fl<;>exact this⟩;split at e;.rename_i a z;cases e;refine go z λl b j s=>?_;obtain⟨y,B⟩:=az.less (m:=d.np) p.symm g (by simp[h1,t,u]) s;exact q .non l _ j y (show Rep K l _ _ from Tn)
   .rename_i L a z;cases e;refine go z λl b j s v J=>?_;obtain⟨y,B⟩:=az.less (m:=d.np) p.symm g (by simp[h1,t,u]) s;exact q v l _ j y (B v r J)
   .split at e<;>cases e
 .cases e
structure aQ(Pg:da)(w:eg)(K:PySem.W.Frag)(mg:Str->Option bw)(base:ew)(k:Nat)(c:Call)(i:Nat)(x:Str)(np:Nat):Prop where ex:∃fa fd qs,oA Pg w K mg base Jf k fa fd qs (Qs K qs.length (c i))/\mg x=al (.ref fa)/\keepIn K (.ref fa)=bx/\Binds K fd qs []/\qs.length=np
end
section
variable{X:Cx}{c:Call}{n k:Nat}{e a b:df}{es:List df}{p pa pb:P}{ps:List P}{pos:Pos}
theorem sv(i:Nat)(g:X.N[i]?=al x:=by rfl)(h:vC X.env.scope x:=by first|exact eR rfl|exact eN (eR rfl)|exact eN (eN rfl))(hd:(x==("__debug__":Str))=a7:=by rfl)(f:(x==("__classdict__":Str))=a7:=by rfl):SX X c (.Name x pos) (.var i):=U0 g h hd f
theorem eX{np:Nat}(C:aQ X.prog X.w X.K X.mg X.base k c i x np)(hr:jX k X.A)(h:SG X c (e::es) ps)(j:Gl X x:=by rfl)(l:(e::es).length=np:=by rfl)(f:(x==("__debug__":Str))=a7:=by rfl)(he:cw (e::es) X.env=(a7,eu e X.env)::cw es X.env:=by rfl)(hpl:(iA pos (cw es X.env)).any (·.1)=a7:=by rfl)(g:ps.length=(e::es).length:=by rfl):SX X c (.Call (.Name x p') (e::es) [] pos) (.call i ps):=by obtain⟨u,fd,y,h1,o,q,r,t⟩:=C.ex;exact Qe h1 hr j o q r h (l.trans t.symm) f he hpl g
noncomputable def Q7(names outer:List (Str×ku))(N N':List Str)(n:Nat):Bool:=(names.all λy=>names.lookup y.1==al y.2)&&(names.all λy=>y.2!=.local||names.lookup y.1==al .local)&&(names.all λy=>y.2!=.free||outer.lookup y.1==al .cell||outer.lookup y.1==al .free)&&N'.length==N.length+n&&((N.zip N').all λp=>(p.1==p.2&&names.lookup p.2==al .free)||(names.lookup p.2!=al .local&&names.lookup p.2!=al .cell&&names.lookup p.2!=al .free))
theorem vH{scope:jt}{N':List Str}(g:scope.kind=.function)(h:Q7 scope.names X.env.scope.names X.N N' n=bx):fY X scope N' n:=by
 unfold Q7 at h;simp only[ey]at h;obtain⟨⟨⟨⟨h1,j⟩,l⟩,o⟩,q⟩:=h;refine⟨g,λy f=>eq_of_beq (eh.mp h1 y f),λy f e=>?_,λy f e=>?_,by simpa using o,q⟩;.have:=eh.mp j y f;rw[e]at this;simpa using this
 . have:=eh.mp l y f;rw[e]at this;simp only[kS]at this;rcases this with(z|z)|z;.cases z
   .exact .inl (eq_of_beq z)
   .exact .inr (eq_of_beq z)
theorem aV(h:jX k A):A.units+8<fT:=by have:=h.un;omega
end
end _H
namespace PySem
section
variable{prog:da}{w:eg}{A:ej}{E:bw->bZ->Prop}{s:bZ}
theorem ig{it l:b_}{i:Nat}{items:Array bw}{x:bw}{Q:bw->bZ->Prop}(a:s.heap.IsTupleIter it l i)(e:s.heap.IsTuple l items)(f:items[i]?=al x)(g:∀h',h'.IsTupleIter it l (i+1)->rf it s.heap h'->Q x {s with heap:=h'}):cy (cE prog w) A (lb (.ref it)) Q E s:=by obtain⟨o,ho,hc,hd⟩:=id a;obtain⟨h,b,_,j,c⟩:=e;unfold lb;refine a_ (fI (name:=iF "__next__") a.typeIs F.slot_tuple_iterator_next (gX F.slot_tuple_iterator_next a.typeIs F.entry_tuple_iterator_next ?_ (F.args_tuple_iterator_next_1 _)));show cy _ _ (p5 (.ref it) 0>>=_) _ _ s;refine a_ (fh ho hd (x:=.ref l) rfl ?_);show cy _ _ (if(dS l==eL)=bx then _ else _) _ _ s;rw[if_neg (show ¬((dS l==eL)=bx)from c_)];show cy _ _ (p5 (.ref it) 1>>=_) _ _ s;refine a_ (fh ho hd (x:=.int i 0) rfl ?_);show cy _ _ (seqItems? (.ref l)>>=_) _ _ s;refine a_ (gT b c ?_);simp only[l7,f];refine a_ (wpAny_setField ho hd (by simp) (cr ⟨x,rfl,cr (g _ ?_ (m4 ..))⟩));exact⟨_,iL _ ho (Obj.isFreed_of_fields (Obj.data_mapFields hd _)),(Obj.cls_mapFields ..).trans hc,by rw[Obj.data_mapFields hd];simp[ml]⟩
theorem fG{it l:b_}{i:Nat}{items:Array bw}{Q:bw->bZ->Prop}(g:A.handled=bdq)(b:s.heap.IsTupleIter it l i)(h:s.heap.IsTuple l items)(j:items[i]?=bdq)(k:∀h' e,Heap.ExtBut it s.heap h'->(∃o,h'.get? e=al o/\o.cls=.type "StopIteration")->E (.ref e) {s with heap:=h'}):cy (cE prog w) A (lb (.ref it)) Q E s:=by
 obtain⟨o,ho,hc,hd⟩:=id b;obtain⟨n,c,_,p,f⟩:=h;unfold lb;refine a_ (fI (name:=iF "__next__") b.typeIs F.slot_tuple_iterator_next (gX F.slot_tuple_iterator_next b.typeIs F.entry_tuple_iterator_next ?_ (F.args_tuple_iterator_next_1 _)));show cy _ _ (p5 (.ref it) 0>>=_) _ _ s;refine a_ (fh ho hd (x:=.ref l) rfl ?_);show cy _ _ (if(dS l==eL)=bx then _ else _) _ _ s;rw[if_neg (show ¬((dS l==eL)=bx)from c_)];show cy _ _ (p5 (.ref it) 1>>=_) _ _ s;refine a_ (fh ho hd (x:=.int i 0) rfl ?_);show cy _ _ (seqItems? (.ref l)>>=_) _ _ s;refine a_ (gT c f ?_);simp only[l7,j];refine a_ (kl (a_ (wpAny_setField ho hd (by simp) ?_)));show cy _ _ (newExc (.type "StopIteration") []>>=_) _ _ _;refine a_ ?_;simp only[newExc,newTuple];refine a_ (ek ?_ (by size_fits));refine a_ (m:=firstArgMember _ _) (wpAny_of_eq (a:=eL) (by first|rfl|(simp only[firstArgMember];rfl)) ?_);refine ek ?_ (by size_fits);simp only[raiseNew];refine a_ (wpAny_handled ?_);first|rw[show A.in1.handled=bdq from g]|rw[g]
 refine a_ (cr (wpAny_throw ?_));exact k _ _ (((m4 ..).extBut.push _).push _) ⟨_,cv _ rfl,rfl⟩
end
theorem j6(l:b_)(items:Array bw)(n:Nat)(b:Option b_)(sl:Array (Option bw)):m2 (io.«enumerate.__new__» ⟨[.type "enumerate",.ref l],[]⟩) (λ_ R s=>s.heap.get? l=al {cls:=.type "tuple",dict:=b,data:=.seq items n,slots:=sl}/\R (.ok (.ret (.ref (s.heap.push {cls:=.type "tuple_iterator",data:=.fields #[.ref l,.int 0 0]}).objs.size))) {s with heap:=(s.heap.push {cls:=.type "tuple_iterator",data:=.fields #[.ref l,.int 0 0]}).push {cls:=.type "enumerate",data:=.fields #[.none,.bool a7,.ref s.heap.objs.size,ml 0,.none,.none]}}):=.of_wp λprog w A R s h=>by
  obtain⟨i,g,d,tk,os⟩:=s;obtain⟨a,h⟩:=h;have f:=sub_enumerate;have e:rg (hU ⟨i,g,d,tk,os⟩) l items:=⟨_,a,rfl,n,rfl⟩;wp_walk using fN a;refine wpAny_stack_any λst=>cr ?_;split
  . rename_i c _ _ _ _ _;cases(c==fq "enumerate");.wp_walk using fN a,fg e;exact⟨_,rfl,h⟩
    .wp_walk using fN a,fg e;exact⟨_,rfl,h⟩
  .wp_walk using fN a,fg e;exact⟨_,rfl,h⟩
section
variable{prog:da}{w:eg}{A:ej}{E:bw->bZ->Prop}{s:bZ}
theorem jQ{l:b_}{items:Array bw}{Q:bw->bZ->Prop}(e:s.heap.IsTuple l items)(h:∀ h',IsEnum h' (s.heap.objs.size+1) s.heap.objs.size 0 .none->h'.IsTupleIter s.heap.objs.size l 0->h'.objs.size=s.heap.objs.size+2->(∀b o,s.heap.get? b=al o->h'.get? b=al o)->Q (.ref (s.heap.objs.size+1)) {s with heap:=h'}):cy (cE prog w) A (call (.type "enumerate") [.ref l]) Q E s:=by
 obtain⟨⟨c,a,dt,sl⟩,f,hc,n,hd⟩:=e;replace hc:c=.type "tuple":=hc;replace hd:dt=.seq items n:=hd;subst hc hd;refine ke F.called_enumerate (by decide) (F.typeCall_enumerate_1 _) (F.newCall_enumerate_1 _) (λobj=>F.args_object_init_2 obj _) F.entry_enumerate_new (j6 l items n a sl) ⟨f,?_⟩;have hz:(s.heap.push {cls:=.type "tuple_iterator",data:=.fields #[.ref l,.int 0 0]}).objs.size=s.heap.objs.size+1:=ef ..;show _/\_;rw[hz];have he:IsEnum ((s.heap.push {cls:=.type "tuple_iterator",data:=.fields #[.ref l,.int 0 0]}).push {cls:=.type "enumerate",data:=.fields #[.none,.bool a7,.ref s.heap.objs.size,ml 0,.none,.none]}) (s.heap.objs.size+1) s.heap.objs.size 0 .none:=by have:=cv (s.heap.push {cls:=.type "tuple_iterator",data:=.fields #[.ref l,.int 0 0]}) (o:={cls:=.type "enumerate",data:=.fields #[.none,.bool a7,.ref s.heap.objs.size,ml 0,.none,.none]}) rfl;rw[hz]at this;exact this
 refine⟨⟨_,he,rfl⟩,h _ he ⟨_,dB (cv _ rfl),rfl,rfl⟩ (by rw[ef,hz]) λb o x=>dB (dB x)⟩
end
end PySem
namespace _L
open PySem Spec PyProof.Rows
variable{prog:da}{w:eg}{A:ej}
section
variable{X:Cx}{pins:List (b_×Obj)}{σ:_L.St}{H:Hp}{s:bZ}
theorem Inv.Bo{ch:List b_}{h':ew}{o:HO}{t':Nat}(I:Inv X pins σ H s)(k:∀b u,b∉ch->s.heap.get? b=al u->h'.get? b=al u)(l:∀b∈ch,∃u,h'.get? b=al u)(g:∀b∈ch,nR X pins H b)(i:bI X.prog X.w (upd H s.heap.objs.size o) h' s.heap.objs.size o):Inv X pins σ (upd H s.heap.objs.size o) {s with heap:=h',toks:=t'}:=by
 have fr:H s.heap.objs.size=bdq:=I.hok.fresh (dq);have j:∀b u,H b=al u->b∉ch:=λb u e a=>by rw[(g b a).1]at e;cases e
 have h:∀b u,H b=al u->upd H s.heap.objs.size o b=al u:=λb u e=>by
  have:b≠s.heap.objs.size:=by rintro rfl;rw[fr]at e;cases e
  rw[ao this];exact e
 refine I.call (g':=s.gens) (d':=s.drawn) (ch:=ch) ⟨λb u e n _ f=>k b u f e,λb u e n _ f=>⟨u.slots,k b u f e⟩,λb u e n f=>?_,λb u e f=>⟨u,k b u f e⟩,λb xs e=>h b _ e,λb m u e=>h b _ e,λb ps e=>⟨#[],by rw[h b _ e];simp⟩⟩ ?_ I.bare λb a=>⟨(g b a).2.2.2.1,(g b a).2.1,(g b a).2.2.2.2.1,(g b a).2.2.2.2.2⟩;.have:b≠s.heap.objs.size:=dP (de e);rw[ao this];exact n
 . intro b u e;by_cases a:b=s.heap.objs.size;.subst a;rw[aC]at e;cases e;exact i
   . rw[ao a]at e;refine(I.hok b u e).stay (λc v hc q=>k c v ?_ q) (λc q=>h c _ q) λc xs q=>h c _ q;rcases hc with rfl|hc;.exact j _ _ e
     .exact j _ _ hc
end
noncomputable def Ab(K:PySem.W.Frag)(a:b_):It:=⟨λi H=>∃xs x,dF K H a xs/\xs[i]?=al x,λi H x b=>∃T v,H T=bdq/\x=.ref T/\b=upd H T (.tup [.int (i:Int),v])/\∀xs,dF K H a xs->xs[i]?=al v,λi H=>∃xs,dF K H a xs/\xs.length<=i⟩
theorem WL(f:A.handled=bdq)(it l:b_)(c:l≠it)(items:Array bw):Draws prog w A it [it,l] items.size (λi v=>items[i]?=al v) (λi h=>h.IsListIter it l i/\h.IsList l items)where
 live:=λ_ _ st=>let⟨o,ho,_⟩:=st.1;⟨o,ho⟩;frame:=λ_ _ _ st e=>⟨(let⟨o,ho,r⟩:=st.1;⟨o,e it (by simp) o ho,r⟩),(let⟨o,ho,r⟩:=st.2;⟨o,e l (by simp) o ho,r⟩)⟩;item:=λi s Q E hi st g=>by refine qk st.1 st.2 (x:=items[i]) (by simp[hi]) λh' a b=>?_;exact g _ h' s.toks (by simp[hi]) ⟨a,(let⟨o,ho,r⟩:=st.2;⟨o,b.extBut l o c ho,r⟩)⟩ b
 done:=λs Q E st j=>k6 f st.1 st.2 (by simp) j
theorem Ge(b:A.handled=bdq)(it l:b_)(items:Array bw)(n:Nat)(c:items.size<=n):Draws prog w A it [it,l] n (λ_ _=>True) (λi h=>i=n/\h.IsListIter it l i/\h.IsList l items)where live:=λ_ _ st=>let⟨o,ho,_⟩:=st.2.1;⟨o,ho⟩;frame:=λ_ _ _ st a=>⟨st.1,(let⟨o,ho,r⟩:=st.2.1;⟨o,a it (by simp) o ho,r⟩),(let⟨o,ho,r⟩:=st.2.2;⟨o,a l (by simp) o ho,r⟩)⟩;item:=λi s Q E hi st f=>absurd st.1 (dP hi);done:=λs Q E st e=>k6 b st.2.1 st.2.2 (by simp;exact c) e
theorem Gr{P:da}{K:PySem.W.Frag}{p:List df}{x1}{tp:Pos}(a it e:b_)(m:e≠it):Turn P w K (.Tuple p x1 tp) (Ab K a) [e,it] e (λi h=>(∃g,IsEnum h e it (i:Int) g)/\h.IsListIter it a i)where
 mem:=by simp
 obj:=λi h st b hb=>by
  obtain⟨⟨g,h1⟩,o,j,G,h4⟩:=st;rcases cS.mp hb with rfl|hb;.exact⟨_,h1,λv z=>by cases z⟩
  . have:b=it:=by simpa using hb
    subst this;exact⟨o,j,λv z=>by rw[h4]at z;cases z⟩
 keep:=λi h h' st k=>by obtain⟨⟨g,h1⟩,o,j,G⟩:=st;exact⟨⟨g,k e (by simp) _ h1⟩,o,k it (by simp) _ j,G⟩
 item:=λX Z hw hK hc i t s σ H E I J st go=>by
  subst Z hw hK;obtain⟨⟨g,he⟩,l⟩:=st;obtain⟨xs,x,L,B⟩:=go;obtain⟨c,M,pl,hz⟩:=I.list L;have N:s.heap.IsList a c.toArray:=pl.isList;obtain⟨oa,O,n,_⟩:=id N;have ac:e≠a:=by rintro rfl;rw[he]at O;cases O;exact absurd (show fq "enumerate"=fq _ from n) (by decide)
  have ae:a≠it:=by rintro rfl;obtain⟨o,j,G,_⟩:=id l;rw[j]at O;cases O;rw[G]at n;exact absurd n (by decide)
  have af:i<c.toArray.size:=by rw[cx,<-M.length];exact(dX B).1
  refine p4 (WL (show X.A.in1.handled=bdq from I.ok.hd hc) it a ae c.toArray) he ⟨l,N⟩ af m (by simp[m,ac]) λy h' tk U ag hst ht hsz kp=>?_;refine⟨_,rfl,n9 ag λC Mh Y=>?_⟩;obtain⟨u,ah,ai⟩:=M.get B;have am:y=u:=by
   have U:c[i]?=al y:=by simpa using U
   rw[ah]at U;cases U;rfl
  subst am;have hT:∀b∈[e,it],b≠s.heap.objs.size:=λb hb=>by
   rcases cS.mp hb with rfl|hb;.exact dP (de he)
   . have:b=it:=by simpa using hb
     subst this;obtain⟨o,j,_⟩:=id l;exact dP (de j)
  have ap:s.heap.objs.size≠e:=(hT e (by simp)).symm;have Y7:∀b o,b∉[e,it]->s.heap.get? b=al o->C.get? b=al o:=λb o hb q=>by have h1:b≠e:=λz=>hb (by simp[z]);have j:b≠it:=λz=>hb (by simp[z]);exact Y.extBut b o h1 (kp b o h1 j q)
  have zc:C.get? s.heap.objs.size=al {cls:=.type "tuple",data:=.seq #[.int i tk,y]}:=Y.extBut _ _ ap ht;refine⟨.ref s.heap.objs.size,upd H s.heap.objs.size (.tup [.int (i:Int),x]),?_,rfl,⟨_,x,I.fresh,rfl,rfl,λys ar=>?_⟩,⟨⟨_,Mh⟩,?_⟩,λb hb=>?_⟩
  . refine I.Bo (ch:=[e,it]) (t':=tk+1) Y7 (λb hb=>?_) (λb hb=>(J b hb)) ⟨(by show 2<=sizeLine;decide),[.int i tk,y],.cons ⟨_,rfl⟩ (.cons ai .nil),⟨_,zc,rfl,_,rfl⟩⟩;rcases cS.mp hb with rfl|hb;.exact⟨_,Mh⟩
    . have:b=it:=by simpa using hb
      subst this;obtain⟨o,j,_⟩:=id hst.1;exact⟨o,Y.extBut _ _ (fE m) j⟩
  .rw[I.m7 ar L];exact B
  .obtain⟨o,j,r⟩:=hst.1;exact⟨o,Y.extBut _ _ (fE m) j,r⟩
  .rw[ao (hT b hb)];exact(J b hb).1
 done:=λX Z hw hK hc i t s σ H E I J st stop=>by subst Z hw hK;obtain⟨⟨g,he⟩,l⟩:=st;obtain⟨xs,L,B⟩:=stop;obtain⟨c,M,pl,hz⟩:=I.list L;have N:s.heap.IsList a c.toArray:=pl.isList;refine qh (Ge (show X.A.in1.handled=bdq from I.ok.hd hc) it a c.toArray i (by rw[cx,<-M.length];exact B)) he ⟨rfl,l,N⟩ λh' hs=>⟨rfl,?_⟩;have f:=J it (by simp);exact I.turned (t':=s.toks) (λb o hb q=>hs b o hb q) f.1 f.2.1 f.2.2.2.1 f.2.2.2.2.1 f.2.2.2.2.2
 self:=λA i s Q E st q=>mv st.1.choose_spec q
noncomputable def Bd(K:PySem.W.Frag)(a:b_):It:=⟨λi H=>∃xs x,iB K H a xs/\xs[i]?=al x,λi H x b=>∃T v,H T=bdq/\x=.ref T/\b=upd H T (.tup [.int (i:Int),v])/\∀xs,iB K H a xs->xs[i]?=al v,λi H=>∃xs,iB K H a xs/\xs.length<=i⟩
theorem Ua(f:A.handled=bdq)(it l:b_)(c:l≠it)(items:Array bw):Draws prog w A it [it,l] items.size (λi v=>items[i]?=al v) (λi h=>h.IsTupleIter it l i/\h.IsTuple l items)where
 live:=λ_ _ st=>let⟨o,ho,_⟩:=st.1;⟨o,ho⟩;frame:=λ_ _ _ st e=>⟨(let⟨o,ho,r⟩:=st.1;⟨o,e it (by simp) o ho,r⟩),(let⟨o,ho,r⟩:=st.2;⟨o,e l (by simp) o ho,r⟩)⟩;item:=λi s Q E hi st g=>by refine ig st.1 st.2 (x:=items[i]) (by simp[hi]) λh' a b=>?_;exact g _ h' s.toks (by simp[hi]) ⟨a,(let⟨o,ho,r⟩:=st.2;⟨o,b.extBut l o c ho,r⟩)⟩ b
 done:=λs Q E st j=>fG f st.1 st.2 (by simp) j
theorem Gx(b:A.handled=bdq)(it l:b_)(items:Array bw)(n:Nat)(c:items.size<=n):Draws prog w A it [it,l] n (λ_ _=>True) (λi h=>i=n/\h.IsTupleIter it l i/\h.IsTuple l items)where live:=λ_ _ st=>let⟨o,ho,_⟩:=st.2.1;⟨o,ho⟩;frame:=λ_ _ _ st a=>⟨st.1,(let⟨o,ho,r⟩:=st.2.1;⟨o,a it (by simp) o ho,r⟩),(let⟨o,ho,r⟩:=st.2.2;⟨o,a l (by simp) o ho,r⟩)⟩;item:=λi s Q E hi st f=>absurd st.1 (dP hi);done:=λs Q E st e=>fG b st.2.1 st.2.2 (by simp;exact c) e
theorem Gg{P:da}{K:PySem.W.Frag}{p:List df}{x1}{tp:Pos}(a it e:b_)(m:e≠it):Turn P w K (.Tuple p x1 tp) (Bd K a) [e,it] e (λi h=>(∃g,IsEnum h e it (i:Int) g)/\h.IsTupleIter it a i)where
 mem:=by simp
 obj:=λi h st b hb=>by
  obtain⟨⟨g,h1⟩,o,j,G,h4⟩:=st;rcases cS.mp hb with rfl|hb;.exact⟨_,h1,λv z=>by cases z⟩
  . have:b=it:=by simpa using hb
    subst this;exact⟨o,j,λv z=>by rw[h4]at z;cases z⟩
 keep:=λi h h' st k=>by obtain⟨⟨g,h1⟩,o,j,G⟩:=st;exact⟨⟨g,k e (by simp) _ h1⟩,o,k it (by simp) _ j,G⟩
 item:=λX Z hw hK hc i t s σ H E I J st go=>by
  subst Z hw hK;obtain⟨⟨g,he⟩,l⟩:=st;obtain⟨xs,x,L,B⟩:=go;obtain⟨c,M,pl,hz⟩:=I.tuple L;have N:s.heap.IsTuple a c.toArray:=pl;obtain⟨oa,O,n,_⟩:=id N;have ac:e≠a:=by rintro rfl;rw[he]at O;cases O;exact absurd (show fq "enumerate"=fq _ from n) (by decide)
  have ae:a≠it:=by rintro rfl;obtain⟨o,j,G,_⟩:=id l;rw[j]at O;cases O;rw[G]at n;exact absurd n (by decide)
  have af:i<c.toArray.size:=by rw[cx,<-M.length];exact(dX B).1
  refine p4 (Ua (show X.A.in1.handled=bdq from I.ok.hd hc) it a ae c.toArray) he ⟨l,N⟩ af m (by simp[m,ac]) λy h' tk U ag hst ht hsz kp=>?_;refine⟨_,rfl,n9 ag λC Mh Y=>?_⟩;obtain⟨u,ah,ai⟩:=M.get B;have am:y=u:=by
   have U:c[i]?=al y:=by simpa using U
   rw[ah]at U;cases U;rfl
  subst am;have hT:∀b∈[e,it],b≠s.heap.objs.size:=λb hb=>by
   rcases cS.mp hb with rfl|hb;.exact dP (de he)
   . have:b=it:=by simpa using hb
     subst this;obtain⟨o,j,_⟩:=id l;exact dP (de j)
  have ap:s.heap.objs.size≠e:=(hT e (by simp)).symm;have Y7:∀b o,b∉[e,it]->s.heap.get? b=al o->C.get? b=al o:=λb o hb q=>by have h1:b≠e:=λz=>hb (by simp[z]);have j:b≠it:=λz=>hb (by simp[z]);exact Y.extBut b o h1 (kp b o h1 j q)
  have zc:C.get? s.heap.objs.size=al {cls:=.type "tuple",data:=.seq #[.int i tk,y]}:=Y.extBut _ _ ap ht;refine⟨.ref s.heap.objs.size,upd H s.heap.objs.size (.tup [.int (i:Int),x]),?_,rfl,⟨_,x,I.fresh,rfl,rfl,λys ar=>?_⟩,⟨⟨_,Mh⟩,?_⟩,λb hb=>?_⟩
  . refine I.Bo (ch:=[e,it]) (t':=tk+1) Y7 (λb hb=>?_) (λb hb=>(J b hb)) ⟨(by show 2<=sizeLine;decide),[.int i tk,y],.cons ⟨_,rfl⟩ (.cons ai .nil),⟨_,zc,rfl,_,rfl⟩⟩;rcases cS.mp hb with rfl|hb;.exact⟨_,Mh⟩
    . have:b=it:=by simpa using hb
      subst this;obtain⟨o,j,_⟩:=id hst.1;exact⟨o,Y.extBut _ _ (fE m) j⟩
  .rw[I.kJ ar L];exact B
  .obtain⟨o,j,r⟩:=hst.1;exact⟨o,Y.extBut _ _ (fE m) j,r⟩
  .rw[ao (hT b hb)];exact(J b hb).1
 done:=λX Z hw hK hc i t s σ H E I J st stop=>by subst Z hw hK;obtain⟨⟨g,he⟩,l⟩:=st;obtain⟨xs,L,B⟩:=stop;obtain⟨c,M,pl,hz⟩:=I.tuple L;have N:s.heap.IsTuple a c.toArray:=pl;refine qh (Gx (show X.A.in1.handled=bdq from I.ok.hd hc) it a c.toArray i (by rw[cx,<-M.length];exact B)) he ⟨rfl,l,N⟩ λh' hs=>⟨rfl,?_⟩;have f:=J it (by simp);exact I.turned (t':=s.toks) (λb o hb q=>hs b o hb q) f.1 f.2.1 f.2.2.2.1 f.2.2.2.2.1 f.2.2.2.2.2
 self:=λA i s Q E st q=>mv st.1.choose_spec q
section
variable{X:Cx}{elts:List df}{x1:Nat}{tp:Pos}
noncomputable def aeg(K:PySem.W.Frag)(c:TE):TI:=λσ H R=>c σ H λx b=>∃a,x=.ref a/\(((∃xs,dF K b a xs)/\R (Ab K a) b)\/((∃xs,iB K b a xs)/\R (Bd K a) b))
theorem boot_enumerate:eK "enumerate"=al (.type "enumerate"):=by decide+kernel
theorem Wj{a:df}{t:TE}{p pos:Pos}(v:Gl X "enumerate")(y:X.mg "enumerate"=bdq)(z:PE X a t)(hs:cw [a] X.env=[(a7,eu a X.env)]:=by rfl):PI X (.Tuple elts x1 tp) (.Call (.Name "enumerate" p) [a] [] pos) (aeg X.K t):=by
 intro e s σ H R I h;refine Call_ (ji I v y boot_enumerate (eF (cB ((bu z di hs) pos e s σ H (λvs c=>match vs with|[x]=>∃a,x=.ref a/\(((∃xs,dF X.K c a xs)/\R (Ab X.K a) c)\/((∃xs,iB X.K c a xs)/\R (Bd X.K a) c))|_=>False) I h) ?_) hs rfl));rintro E s1⟨vs,c,f,r1,j⟩
 . obtain⟨ad,q,k⟩:∃ad,(((∃xs,dF X.K c ad xs)/\R (Ab X.K ad) c)\/((∃xs,iB X.K c ad xs)/\R (Bd X.K ad) c))/\vs=[.ref ad]:=by cases vs with|nil=>cases j|cons x r=>cases r with|nil=>obtain⟨ad,rfl,q⟩:=j;exact⟨ad,q,rfl⟩|cons _ _=>cases j
   subst k;obtain⟨u,rfl,B⟩:=r1.one;cases B;have fin:∀(h':ew)(i:Nat->ew->Prop)(J:It),Turn X.prog X.w X.K (.Tuple elts x1 tp) J [s1.heap.objs.size+1,s1.heap.objs.size] (s1.heap.objs.size+1) i->i 0 h'->IsEnum h' (s1.heap.objs.size+1) s1.heap.objs.size 0 .none->(∀b o,s1.heap.get? b=al o->h'.get? b=al o)->R J c->cy (cE X.prog X.w) X.A (qE (.ref (s1.heap.objs.size+1))) (PIE X e σ (.Tuple elts x1 tp) R) X.xe {s1 with heap:=h'}:=λh' i J T t0 he kp q=>by
    refine mv he ⟨_,_,i,J,c,rfl,f.kept (t':=s1.toks) kp,T,t0,λb hb=>?_,q⟩;have g:s1.heap.objs.size<=b:=by
     rcases cS.mp hb with rfl|hb;.exact le_succ _
     . have:b=s1.heap.objs.size:=by simpa using hb
       rw[this];exact dq
    exact f.Ah g (f.hok.fresh g)
   rcases q with⟨⟨xs,l⟩,q⟩|⟨⟨xs,l⟩,q⟩;.obtain⟨m,C,n,hz⟩:=f.list l;exact call_enumerate_list n.isList λh' he hi hsz kp=>fin h' _ _ (Gr ad s1.heap.objs.size (s1.heap.objs.size+1) (Nat.succ_ne_self _)) ⟨⟨_,he⟩,hi⟩ he kp q
   .obtain⟨m,C,n,hz⟩:=f.tuple l;exact jQ n λh' he hi hsz kp=>fin h' _ _ (Gg ad s1.heap.objs.size (s1.heap.objs.size+1) (Nat.succ_ne_self _)) ⟨⟨_,he⟩,hi⟩ he kp q
end
end _L
namespace _H
open PySem _L Spec PyProof.Rows
section
variable{K:PySem.W.Frag}{F F1 H H1:Hp}{ρ ρ1:List Sl}{σ:_L.St}{ds:List D}{a:b_}
theorem qX{c e:Hp}{T:b_}{v w:V}{d1 d2:D}(sm:aB c e)(g:e T=bdq)(r1:Rep K c v d1)(h:Rep K c w d2):∃b,Ext c e b (upd e T (.tup [v,w]))/\Rep K b (.ref T) (.tup [d1,d2]):=An (Q:=λv f=>∃b,Ext c e b f/\Rep K b v (.tup [d1,d2])) sm (.cons r1 (.cons h .nil)) g λv b f x i=>⟨b,x,i⟩
theorem J4{xs:List V}{e b:Hp}(f:dF K b a xs)(r:aF K e xs ds)(s:aB e b)(k:Nat):(∀d,(ds.mapIdx λi d=>D.tup [.int (i:Int),d])[k]?=al d->(Ab K a).go k b/\∀x g,(Ab K a).LC k b x g->∃c,Ext e b c g/\Rep K c x d)/\((ds.mapIdx λi d=>D.tup [.int (i:Int),d]).length<=k->(Ab K a).stop k b):=by refine⟨λd hd=>?_,λh=>⟨xs,f,by rw[r.length];simpa using h⟩⟩;rw[pc]at hd;obtain⟨d0,j,l⟩:=map_some hd;subst l;obtain⟨w,h1,m⟩:=r.get j;refine⟨⟨xs,w,f,h1⟩,?_⟩;rintro x g⟨T,v,n,o,p,y⟩;subst o;subst p;have:=y xs f;rw[h1]at this;cases this;exact qX s n (cu _) m
theorem Kl{xs:List V}{e b:Hp}(f:iB K b a xs)(r:aF K e xs ds)(s:aB e b)(k:Nat):(∀d,(ds.mapIdx λi d=>D.tup [.int (i:Int),d])[k]?=al d->(Bd K a).go k b/\∀x g,(Bd K a).LC k b x g->∃c,Ext e b c g/\Rep K c x d)/\((ds.mapIdx λi d=>D.tup [.int (i:Int),d]).length<=k->(Bd K a).stop k b):=by refine⟨λd hd=>?_,λh=>⟨xs,f,by rw[r.length];simpa using h⟩⟩;rw[pc]at hd;obtain⟨d0,j,l⟩:=map_some hd;subst l;obtain⟨w,h1,m⟩:=r.get j;refine⟨⟨xs,w,f,h1⟩,?_⟩;rintro x g⟨T,v,n,o,p,y⟩;subst o;subst p;have:=y xs f;rw[h1]at this;cases this;exact qX s n (cu _) m
end
section
variable{X:Cx}{c:Call}{e a:df}{pa:P}{pos:Pos}{elts:List df}{x1:Nat}{tp:Pos}
theorem Ji{x:Str}{A:Pos}(B:x="enumerate")(C:Gl X x)(E:X.mg x=bdq)(G:SX X c a pa)(hs:cw [a] X.env=[(a7,eu a X.env)]:=by rfl):SI X c (.Tuple elts x1 tp) (.Call (.Name x A) [a] [] pos) (.Y4 pa):=by subst B;refine lA (Wj C E G.ev hs) ?_;rintro σ H R⟨F,ρ,Q,I,g,e,k⟩;obtain⟨r,ρ2,w,j⟩:=aa e;have m:=aD j;clear j;obtain⟨j,J⟩:=m;subst J;rw[_H.E21]at w;obtain⟨r0,h,L,l⟩:=aa w;have m:=aD l;clear l;obtain⟨l,M⟩:=m;subst M;obtain⟨es,f1,f2⟩:=map_some l;subst f2;cases j;refine⟨F,ρ,r0,_,g,L,λv y z s i=>?_⟩;obtain⟨F2,s2,_,f⟩:=s.cQ i;cases hd:r0.d with|tup o=>rw[hd]at f1 f;cases f1;rw[Rep]at f;obtain⟨ad,xs,rfl,h1,p⟩:=f;exact⟨ad,rfl,.inr ⟨⟨xs,aB.gU s2.gs.sub h1⟩,k _ _ _ ⟨s2.gs,λn k y q t z b=>Kl (aB.gU b.gs.sub (aB.gU b.bT h1)) (p.mono b.bT) b.gs.sub k,λN h u O s3=>⟨s2.trans s3,λv r i=>i.later s2⟩⟩⟩⟩|lst o=>rw[hd]at f1 f;cases f1;rw[Rep]at f;obtain⟨ad,xs,rfl,h1,p⟩:=f;exact⟨ad,rfl,.inl ⟨⟨xs,s2.gs.sub.seq h1⟩,k _ _ _ ⟨s2.gs,λn k y q t z b=>J4 (b.gs.sub.seq (b.bT.seq h1)) (p.mono b.bT) b.gs.sub k,λN h u O s3=>⟨s2.trans s3,λv r i=>i.later s2⟩⟩⟩⟩|_=>rw[hd]at f1;cases f1
end
end _H
namespace PySem
structure Nx(prog:da)(w:eg)(A:ej)(it src:b_)(Sx:Nat->ew->Prop)(get:Nat->Option bw):Prop where
 obj:∀k h,Sx k h->∃o,h.get? it=al o/\∀v,o.data≠.cell v
 keep:∀k h h',Sx k h->(∀o,h.get? it=al o->h'.get? it=al o)->(∀o,h.get? src=al o->h'.get? src=al o)->Sx k h'
 item:∀k(s:bZ)(Q:bw->bZ->Prop)(E:bw->bZ->Prop)x,Sx k s.heap->get k=al x->(∀h',Sx (k+1) h'->rf it s.heap h'->Q x {s with heap:=h'})->cy (cE prog w) A (lb (.ref it)) Q E s
 fin:∀k(s:bZ)(Q:bw->bZ->Prop)(E:bw->bZ->Prop),Sx k s.heap->get k=bdq->(∀h' e,Heap.ExtBut it s.heap h'->(∃o,h'.get? e=al o/\o.cls=.type "StopIteration")->E (.ref e) {s with heap:=h'})->cy (cE prog w) A (lb (.ref it)) Q E s
variable{Q:bw->bZ->Prop}{l1 l2:b_}{xs ys:Array bw}
section
variable{prog:da}{w:eg}{A:ej}{E:bw->bZ->Prop}{s:bZ}
theorem Nx.list(g:A.handled=bdq)(it l:b_)(c:l≠it)(items:Array bw):Nx prog w A it l (λk h=>h.IsListIter it l k/\h.IsList l items) (λk=>items[k]?)where obj:=λk h st=>let⟨o,h1,_,h3⟩:=st.1;⟨o,h1,λv z=>by rw[h3]at z;cases z⟩;keep:=λk h h' st a b=>⟨(let⟨o,ho,r⟩:=st.1;⟨o,a o ho,r⟩),(let⟨o,ho,r⟩:=st.2;⟨o,b o ho,r⟩)⟩;item:=λk s Q E x st e i=>qk st.1 st.2 e λh' f hs=>i h' ⟨f,(let⟨o,ho,r⟩:=st.2;⟨o,hs.extBut l o c ho,r⟩)⟩ hs;fin:=λk s Q E st e j=>k6 g st.1 st.2 e j
theorem Nx.tuple(g:A.handled=bdq)(it l:b_)(c:l≠it)(items:Array bw):Nx prog w A it l (λk h=>h.IsTupleIter it l k/\h.IsTuple l items) (λk=>items[k]?)where obj:=λk h st=>let⟨o,h1,_,h3⟩:=st.1;⟨o,h1,λv z=>by rw[h3]at z;cases z⟩;keep:=λk h h' st a b=>⟨(let⟨o,ho,r⟩:=st.1;⟨o,a o ho,r⟩),(let⟨o,ho,r⟩:=st.2;⟨o,b o ho,r⟩)⟩;item:=λk s Q E x st e i=>ig st.1 st.2 e λh' f hs=>i h' ⟨f,(let⟨o,ho,r⟩:=st.2;⟨o,hs.extBut l o c ho,r⟩)⟩ hs;fin:=λk s Q E st e j=>fG g st.1 st.2 e j
variable{z TI TO i1 i2 l1 l2:b_}{k:Nat}{S1 S2:Nat->ew->Prop}{g1 g2:Nat->Option bw}{a b:bw}
theorem G3{x y:bw}(D:lm z TI TO i1 i2 l1 l2)(t:Nx prog w A i1 l1 S1 g1)(u:Nx prog w A i2 l2 S2 g2)(hz:i6 s.heap z TI TO .none)(G:fk s.heap TI (.ref i1) (.ref i2))(H:fk s.heap TO a b)(h1:S1 k s.heap)(W:S2 k s.heap)(X:g1 k=al x)(Y:g2 k=al y)(Z:∀ h',i6 h' z TI TO (ml s.heap.objs.size)->fk h' TO x y->S1 (k+1) h'->S2 (k+1) h'->fk h' s.heap.objs.size x y->h'.objs.size=s.heap.objs.size+1->(∀c o,c≠z->c≠TO->c≠i1->c≠i2->s.heap.get? c=al o->h'.get? c=al o)->Q (.ref s.heap.objs.size) {s with heap:=h'}):cy (cE prog w) A (io.«zip.__next__» ⟨[.ref z],[]⟩) (λfin s'=>∃v,fin=.done (.ret v)/\Q v s') E s:=by
 show cy _ _ (p5 (.ref z) 2>>=_) _ _ _;refine a_ (fh hz rfl (x:=.bool a7) rfl ?_);show cy _ _ (p5 (.ref z) 3>>=_) _ _ _;refine a_ (fh hz rfl (x:=.ref TI) rfl (a_ (gT G rfl ?_)));show cy _ _ (ft (.ref z)>>=_) _ _ _;refine a_ ?_;unfold ft;refine a_ (fh hz rfl (x:=.none) rfl (cr ?_));simp only[if_true];refine a_ (kl (a_ (fh hz rfl (x:=.ref TO) rfl (a_ (hJ hz (by simp) λt1 I g=>?_)))));have I:i6 t1 z TI TO .ellipsis:=I;refine a_ ?_;simp only[List.zipIdx_cons,List.zipIdx_nil,forIn_cons,forIn_nil];refine a_ (a_ (md ?_));show cy _ _ (lb (.ref i1)>>=_) _ _ _;have q1:S1 k t1:=t.keep _ _ _ h1 (λo e=>g.extBut _ _ D.i1z e) λo e=>g.extBut _ _ D.l1z e;refine a_ (t.item k _ _ _ x q1 X λt2 q2 m=>cr ?_);have p2:fk t2 TO a b:=m.extBut _ _ D.TOi1 (g.extBut _ _ D.TOz H);refine a_ (gT p2 rfl (a_ (k_ p2 λL p3 h=>?_)));have p3:fk L TO x b:=p3;refine a_ (rl (cr (a_ (a_ (md ?_)))));show cy _ _ (lb (.ref i2)>>=_) _ _ _;have w3:S2 k L:=u.keep _ _ _ W (λo e=>h.extBut _ _ D.TOi2.symm (m.extBut _ _ D.i12.symm (g.extBut _ _ D.i2z e))) λo e=>h.extBut _ _ D.l2TO (m.extBut _ _ D.l2i1 (g.extBut _ _ D.l2z e));refine a_ (u.item k _ _ _ y w3 Y λt4 w4 n=>cr ?_);have M:fk t4 TO x b:=n.extBut _ _ D.TOi2 p3;refine a_ (gT M rfl (a_ (k_ M λf B i=>?_)));have B:fk f TO x y:=B;refine a_ (rl (cr (cr (a_ (gT B rfl (a_ (wpAny_newTuple ?_)))))));have hsz:f.objs.size=s.heap.objs.size:=by rw[i.1,n.1,h.1,m.1,g.1]
 have N:i6 f z TI TO .ellipsis:=i.extBut _ _ D.TOz.symm (n.extBut _ _ D.i2z.symm (h.extBut _ _ D.TOz.symm (m.extBut _ _ D.i1z.symm I)));have kp:∀c o,c≠z->c≠TO->c≠i1->c≠i2->s.heap.get? c=al o->f.get? c=al o:=λc o c1 c2 c3 c4 e=>i.extBut _ _ c2 (n.extBut _ _ c4 (h.extBut _ _ c2 (m.extBut _ _ c3 (g.extBut _ _ c1 e))));have q5:S1 (k+1) f:=t.keep _ _ _ q2 (λo e=>i.extBut _ _ D.TOi1.symm (n.extBut _ _ D.i12 (h.extBut _ _ D.TOi1.symm e))) λo e=>i.extBut _ _ D.l1TO (n.extBut _ _ D.l1i2 (h.extBut _ _ D.l1TO e));have w5:S2 (k+1) f:=u.keep _ _ _ w4 (λo e=>i.extBut _ _ D.TOi2.symm e) λo e=>i.extBut _ _ D.l2TO e;have q:z<f.objs.size:=de N;show cy _ _ (jS (.ref z) (.ref f.objs.size)>>=_) _ _ _;refine a_ ?_;unfold jS;have z6:i6 (f.push {cls:=.type "tuple",data:=.seq #[x,y]}) z TI TO .ellipsis:=dB N;refine a_ (hJ z6 (by simp) λt7 J j=>?_);have J:i6 t7 z TI TO (ml f.objs.size):=J;refine hJ J (by simp) λr C l=>?_;have C:i6 r z TI TO (ml f.objs.size):=C;have p:∀c o,c≠z->f.get? c=al o->r.get? c=al o:=λc o c1 e=>l.extBut _ _ c1 (j.extBut _ _ c1 (dB e));have O:fk r f.objs.size x y:=l.extBut _ _ (rL q) (j.extBut _ _ (rL q) (cv _ rfl));have U:r.objs.size=f.objs.size+1:=by rw[l.1,j.1,ef]
 rw[hsz]at C O U;refine cr ⟨_,rfl,?_⟩;show Q (.ref f.objs.size) _;rw[hsz];exact Z r C (p _ _ D.TOz B) (t.keep _ _ _ q5 (λo e=>p _ o D.i1z e) λo e=>p _ o D.l1z e) (u.keep _ _ _ w5 (λo e=>p _ o D.i2z e) λo e=>p _ o D.l2z e) O U λc o c1 c2 c3 c4 e=>p c o c1 (kp c o c1 c2 c3 c4 e)
theorem HW{Q:Fin->bZ->Prop}(D:lm z TI TO i1 i2 l1 l2)(q:Nx prog w A i1 l1 S1 g1)(y:Nx prog w A i2 l2 S2 g2)(hz:i6 s.heap z TI TO .none)(r:fk s.heap TI (.ref i1) (.ref i2))(t:fk s.heap TO a b)(h1:S1 k s.heap)(L:S2 k s.heap)(n:g1 k=bdq\/g2 k=bdq)(B:∀h' e,(∀c o,c≠z->c≠TO->c≠i1->c≠i2->s.heap.get? c=al o->h'.get? c=al o)->(∃o,h'.get? e=al o/\o.cls=.type "StopIteration")->E (.ref e) {s with heap:=h'}):cy (cE prog w) A (io.«zip.__next__» ⟨[.ref z],[]⟩) Q E s:=by
 show cy _ _ (p5 (.ref z) 2>>=_) _ _ _;refine a_ (fh hz rfl (x:=.bool a7) rfl ?_);show cy _ _ (p5 (.ref z) 3>>=_) _ _ _;refine a_ (fh hz rfl (x:=.ref TI) rfl (a_ (gT r rfl ?_)));show cy _ _ (ft (.ref z)>>=_) _ _ _;refine a_ ?_;unfold ft;refine a_ (fh hz rfl (x:=.none) rfl (cr ?_));simp only[if_true];refine a_ (kl (a_ (fh hz rfl (x:=.ref TO) rfl (a_ (hJ hz (by simp) λt1 p j=>?_)))));have p:i6 t1 z TI TO .ellipsis:=p;refine a_ ?_;simp only[List.zipIdx_cons,List.zipIdx_nil,forIn_cons,forIn_nil];refine a_ (a_ (md ?_));show cy _ _ (lb (.ref i1)>>=_) _ _ _
 have C:S1 k t1:=q.keep _ _ _ h1 (λo e=>j.extBut _ _ D.i1z e) λo e=>j.extBut _ _ D.l1z e;cases hx:g1 k with|none=>
   refine a_ (q.fin k _ _ _ C hx λt2 e i he=>?_);obtain⟨u,f,g⟩:=he;have G:i6 t2 z TI TO .ellipsis:=i _ _ D.i1z.symm p;have l:e≠z:=λx=>by subst x;rw[G]at f;cases f;simp at g
   exact hJ G (by simp) λv _ m=>B v e (λc o c1 _ c3 _ x=>m.extBut _ _ c1 (i _ _ c3 (j.extBut _ _ c1 x))) ⟨u,m.extBut _ _ l f,g⟩|some x=>
   have M:g2 k=bdq:=by rcases n with h|h;rw[hx]at h;cases h;exact h
   refine a_ (q.item k _ _ _ x C hx λt2 W i=>cr ?_);have p2:fk t2 TO a b:=i.extBut _ _ D.TOi1 (j.extBut _ _ D.TOz t);refine a_ (gT p2 rfl (a_ (k_ p2 λv p3 m=>?_)));refine a_ (rl (cr (a_ (a_ (md ?_)))));show cy _ _ (lb (.ref i2)>>=_) _ _ _;have N:S2 k v:=y.keep _ _ _ L (λo e=>m.extBut _ _ D.TOi2.symm (i.extBut _ _ D.i12.symm (j.extBut _ _ D.i2z e))) λo e=>m.extBut _ _ D.l2TO (i.extBut _ _ D.l2i1 (j.extBut _ _ D.l2z e));refine a_ (y.fin k _ _ _ N M λO e H he=>?_);obtain⟨u,f,g⟩:=he;have I:i6 O z TI TO .ellipsis:=H _ _ D.i2z.symm (m.extBut _ _ D.TOz.symm (i.extBut _ _ D.i1z.symm p));have l:e≠z:=λx=>by subst x;rw[I]at f;cases f;simp at g
   exact hJ I (by simp) λU _ J=>B U e (λc o c1 c2 c3 c4 x=>J.extBut _ _ c1 (H _ _ c4 (m.extBut _ _ c2 (i.extBut _ _ c3 (j.extBut _ _ c1 x))))) ⟨u,J.extBut _ _ l f,g⟩
theorem nM{x y:bw}{Q:Option bw->bZ->Prop}(D:lm z TI TO i1 i2 l1 l2)(h:Nx prog w A.in1 i1 l1 S1 g1)(i:Nx prog w A.in1 i2 l2 S2 g2)(hz:i6 s.heap z TI TO .none)(e:fk s.heap TI (.ref i1) (.ref i2))(f:fk s.heap TO a b)(h1:S1 k s.heap)(j:S2 k s.heap)(l:g1 k=al x)(m:g2 k=al y)(n:∀ h',i6 h' z TI TO (ml s.heap.objs.size)->fk h' TO x y->S1 (k+1) h'->S2 (k+1) h'->fk h' s.heap.objs.size x y->h'.objs.size=s.heap.objs.size+1->(∀c o,c≠z->c≠TO->c≠i1->c≠i2->s.heap.get? c=al o->h'.get? c=al o)->Q (al (.ref s.heap.objs.size)) {s with heap:=h'}):cy (cE prog w) A (oe (.ref z)) Q E s:=by have g:s.TypeIs (.ref z) "zip":=⟨_,hz,rfl⟩;unfold oe;exact a_ (pp (fI (name:=iF "__next__") g F.slot_zip_next (gX F.slot_zip_next g F.entry_zip_next (G3 D h i hz e f h1 j l m λh' p q r t u v B=>cr (n h' p q r t u v B)) (F.args_zip_next_1 _))))
theorem o5{Q:Option bw->bZ->Prop}(D:lm z TI TO i1 i2 l1 l2)(j:Nx prog w A.in1 i1 l1 S1 g1)(l:Nx prog w A.in1 i2 l2 S2 g2)(hz:i6 s.heap z TI TO .none)(g:fk s.heap TI (.ref i1) (.ref i2))(h:fk s.heap TO a b)(h1:S1 k s.heap)(m:S2 k s.heap)(f:g1 k=bdq\/g2 k=bdq)(n:∀h',(∀c o,c≠z->c≠TO->c≠i1->c≠i2->s.heap.get? c=al o->h'.get? c=al o)->Q bdq {s with heap:=h'}):cy (cE prog w) A (oe (.ref z)) Q E s:=by have i:s.TypeIs (.ref z) "zip":=⟨_,hz,rfl⟩;unfold oe;refine a_ (pp (fI (name:=iF "__next__") i F.slot_zip_next (gX F.slot_zip_next i F.entry_zip_next (HW D j l hz g h h1 m f λh' e p he=>?_) (F.args_zip_next_1 _))));obtain⟨o,ho,hc⟩:=he;exact a_ (wpAny_isInstance (T:="StopIteration") (b:=bx) ⟨o,ho,hc⟩ isSubtype_stop (cr (n _ p)))
end
theorem o6(l1 l2:b_)(xs ys:Array bw):m2 (io.«zip.__new__» ⟨[.type "zip",.ref l1,.ref l2],[]⟩) (λ_ R s=>s.heap.IsList l1 xs/\s.heap.IsList l2 ys/\R (.ok (.ret (.ref (s.heap.objs.size+4)))) {s with heap:=((((s.heap.push {cls:=.type "list_iterator",data:=.fields #[.ref l1,.int 0 0]}).push {cls:=.type "list_iterator",data:=.fields #[.ref l2,.int 0 0]}).push {cls:=.type "tuple",data:=.seq #[.ref s.heap.objs.size,.ref (s.heap.objs.size+1)]}).push {cls:=.type "tuple",data:=.seq #[.none,.none]}).push {cls:=.type "zip",data:=.fields #[.none,.bool a7,.bool a7,.ref (s.heap.objs.size+2),.ref (s.heap.objs.size+3)]}}):=.of_wp λprog w A R s h=>by obtain⟨f,g,d,tk,os⟩:=s;obtain⟨a,b,h⟩:=h;have i:=sub_zip;have c:IsList (hU ⟨f,g,d,tk,os⟩) l1 xs:=a;have e:IsList (hU ⟨f.push {cls:=.type "list_iterator",data:=.fields #[.ref l1,.int 0 0]},g,d,tk,os⟩) l2 ys:=Heap.IsList.push b _;wp_walk using gy c,gy e;simp only[ef]at*;exact⟨_,rfl,h⟩
section
variable{prog:da}{w:eg}{A:ej}{E:bw->bZ->Prop}{s:bZ}
theorem Bg(i:s.heap.IsList l1 xs)(j:s.heap.IsList l2 ys)(h:∀ h',i6 h' (s.heap.objs.size+4) (s.heap.objs.size+2) (s.heap.objs.size+3) .none->fk h' (s.heap.objs.size+2) (.ref s.heap.objs.size) (.ref (s.heap.objs.size+1))->fk h' (s.heap.objs.size+3) .none .none->h'.IsListIter s.heap.objs.size l1 0->h'.IsListIter (s.heap.objs.size+1) l2 0->(∀c o,s.heap.get? c=al o->h'.get? c=al o)->Q (.ref (s.heap.objs.size+4)) {s with heap:=h'}):cy (cE prog w) A (call (.type "zip") [.ref l1,.ref l2]) Q E s:=by
 refine ke F.called_zip (by decide) (F.typeCall_zip_2 _ _) (F.newCall_zip_2 _ _) (λobj=>F.args_object_init_3 obj _ _) F.entry_zip_new (o6 l1 l2 xs ys) ⟨i,j,?_⟩;generalize k:s.heap.push {cls:=.type "list_iterator",data:=.fields #[.ref l1,.int 0 0]}=t1;have r:t1.objs.size=s.heap.objs.size+1:=by rw[<-k,ef]
 have z:t1.get? s.heap.objs.size=al {cls:=.type "list_iterator",data:=.fields #[.ref l1,.int 0 0]}:=by rw[<-k];exact cv _ rfl
 have B:∀c o,s.heap.get? c=al o->t1.get? c=al o:=λc o e=>by rw[<-k];exact dB e
 generalize l:t1.push {cls:=.type "list_iterator",data:=.fields #[.ref l2,.int 0 0]}=t2;have t:t2.objs.size=s.heap.objs.size+2:=by rw[<-l,ef,r]
 have C:t2.get? (s.heap.objs.size+1)=al {cls:=.type "list_iterator",data:=.fields #[.ref l2,.int 0 0]}:=by rw[<-r,<-l];exact cv _ rfl
 have u:∀c o,t1.get? c=al o->t2.get? c=al o:=λc o e=>by rw[<-l];exact dB e
 generalize m:t2.push {cls:=.type "tuple",data:=.seq #[.ref s.heap.objs.size,.ref (s.heap.objs.size+1)]}=a;have v:a.objs.size=s.heap.objs.size+3:=by rw[<-m,ef,t]
 have G:a.get? (s.heap.objs.size+2)=al {cls:=.type "tuple",data:=.seq #[.ref s.heap.objs.size,.ref (s.heap.objs.size+1)]}:=by rw[<-t,<-m];exact cv _ rfl
 have n:∀c o,t2.get? c=al o->a.get? c=al o:=λc o e=>by rw[<-m];exact dB e
 generalize p:a.push {cls:=.type "tuple",data:=.seq #[.none,.none]}=b;have H:b.objs.size=s.heap.objs.size+4:=by rw[<-p,ef,v]
 have I:b.get? (s.heap.objs.size+3)=al {cls:=.type "tuple",data:=.seq #[.none,.none]}:=by rw[<-v,<-p];exact cv _ rfl
 have g:∀c o,a.get? c=al o->b.get? c=al o:=λc o e=>by rw[<-p];exact dB e
 generalize x:b.push {cls:=.type "zip",data:=.fields #[.none,.bool a7,.bool a7,.ref (s.heap.objs.size+2),.ref (s.heap.objs.size+3)]}=q;have y:q.get? (s.heap.objs.size+4)=al {cls:=.type "zip",data:=.fields #[.none,.bool a7,.bool a7,.ref (s.heap.objs.size+2),.ref (s.heap.objs.size+3)]}:=by rw[<-H,<-x];exact cv _ rfl
 have f:∀c o,b.get? c=al o->q.get? c=al o:=λc o e=>by rw[<-x];exact dB e
 exact⟨⟨_,y,rfl⟩,h q y (f _ _ (g _ _ G)) (f _ _ I) ⟨_,f _ _ (g _ _ (n _ _ (u _ _ z))),rfl,rfl⟩ ⟨_,f _ _ (g _ _ (n _ _ C)),rfl,rfl⟩ λc o e=>f _ _ (g _ _ (n _ _ (u _ _ (B _ _ e))))⟩
end
theorem pC(l1 l2:b_)(xs ys:Array bw):m2 (io.«zip.__new__» ⟨[.type "zip",.ref l1,.ref l2],[]⟩) (λ_ R s=>s.heap.IsList l1 xs/\s.heap.IsTuple l2 ys/\R (.ok (.ret (.ref (s.heap.objs.size+4)))) {s with heap:=((((s.heap.push {cls:=.type "list_iterator",data:=.fields #[.ref l1,.int 0 0]}).push {cls:=.type "tuple_iterator",data:=.fields #[.ref l2,.int 0 0]}).push {cls:=.type "tuple",data:=.seq #[.ref s.heap.objs.size,.ref (s.heap.objs.size+1)]}).push {cls:=.type "tuple",data:=.seq #[.none,.none]}).push {cls:=.type "zip",data:=.fields #[.none,.bool a7,.bool a7,.ref (s.heap.objs.size+2),.ref (s.heap.objs.size+3)]}}):=.of_wp λprog w A R s h=>by obtain⟨f,g,d,tk,os⟩:=s;obtain⟨a,b,h⟩:=h;have i:=sub_zip;have c:IsList (hU ⟨f,g,d,tk,os⟩) l1 xs:=a;have e:rg (hU ⟨f.push {cls:=.type "list_iterator",data:=.fields #[.ref l1,.int 0 0]},g,d,tk,os⟩) l2 ys:=Heap.IsTuple.push b _;wp_walk using gy c,fg e;simp only[ef]at*;exact⟨_,rfl,h⟩
section
variable{prog:da}{w:eg}{A:ej}{E:bw->bZ->Prop}{s:bZ}
theorem Bq(i:s.heap.IsList l1 xs)(j:s.heap.IsTuple l2 ys)(h:∀ h',i6 h' (s.heap.objs.size+4) (s.heap.objs.size+2) (s.heap.objs.size+3) .none->fk h' (s.heap.objs.size+2) (.ref s.heap.objs.size) (.ref (s.heap.objs.size+1))->fk h' (s.heap.objs.size+3) .none .none->h'.IsListIter s.heap.objs.size l1 0->h'.IsTupleIter (s.heap.objs.size+1) l2 0->(∀c o,s.heap.get? c=al o->h'.get? c=al o)->Q (.ref (s.heap.objs.size+4)) {s with heap:=h'}):cy (cE prog w) A (call (.type "zip") [.ref l1,.ref l2]) Q E s:=by
 refine ke F.called_zip (by decide) (F.typeCall_zip_2 _ _) (F.newCall_zip_2 _ _) (λobj=>F.args_object_init_3 obj _ _) F.entry_zip_new (pC l1 l2 xs ys) ⟨i,j,?_⟩;generalize k:s.heap.push {cls:=.type "list_iterator",data:=.fields #[.ref l1,.int 0 0]}=t1;have r:t1.objs.size=s.heap.objs.size+1:=by rw[<-k,ef]
 have z:t1.get? s.heap.objs.size=al {cls:=.type "list_iterator",data:=.fields #[.ref l1,.int 0 0]}:=by rw[<-k];exact cv _ rfl
 have B:∀c o,s.heap.get? c=al o->t1.get? c=al o:=λc o e=>by rw[<-k];exact dB e
 generalize l:t1.push {cls:=.type "tuple_iterator",data:=.fields #[.ref l2,.int 0 0]}=t2;have t:t2.objs.size=s.heap.objs.size+2:=by rw[<-l,ef,r]
 have C:t2.get? (s.heap.objs.size+1)=al {cls:=.type "tuple_iterator",data:=.fields #[.ref l2,.int 0 0]}:=by rw[<-r,<-l];exact cv _ rfl
 have u:∀c o,t1.get? c=al o->t2.get? c=al o:=λc o e=>by rw[<-l];exact dB e
 generalize m:t2.push {cls:=.type "tuple",data:=.seq #[.ref s.heap.objs.size,.ref (s.heap.objs.size+1)]}=a;have v:a.objs.size=s.heap.objs.size+3:=by rw[<-m,ef,t]
 have G:a.get? (s.heap.objs.size+2)=al {cls:=.type "tuple",data:=.seq #[.ref s.heap.objs.size,.ref (s.heap.objs.size+1)]}:=by rw[<-t,<-m];exact cv _ rfl
 have n:∀c o,t2.get? c=al o->a.get? c=al o:=λc o e=>by rw[<-m];exact dB e
 generalize p:a.push {cls:=.type "tuple",data:=.seq #[.none,.none]}=b;have H:b.objs.size=s.heap.objs.size+4:=by rw[<-p,ef,v]
 have I:b.get? (s.heap.objs.size+3)=al {cls:=.type "tuple",data:=.seq #[.none,.none]}:=by rw[<-v,<-p];exact cv _ rfl
 have g:∀c o,a.get? c=al o->b.get? c=al o:=λc o e=>by rw[<-p];exact dB e
 generalize x:b.push {cls:=.type "zip",data:=.fields #[.none,.bool a7,.bool a7,.ref (s.heap.objs.size+2),.ref (s.heap.objs.size+3)]}=q;have y:q.get? (s.heap.objs.size+4)=al {cls:=.type "zip",data:=.fields #[.none,.bool a7,.bool a7,.ref (s.heap.objs.size+2),.ref (s.heap.objs.size+3)]}:=by rw[<-H,<-x];exact cv _ rfl
 have f:∀c o,b.get? c=al o->q.get? c=al o:=λc o e=>by rw[<-x];exact dB e
 exact⟨⟨_,y,rfl⟩,h q y (f _ _ (g _ _ G)) (f _ _ I) ⟨_,f _ _ (g _ _ (n _ _ (u _ _ z))),rfl,rfl⟩ ⟨_,f _ _ (g _ _ (n _ _ C)),rfl,rfl⟩ λc o e=>f _ _ (g _ _ (n _ _ (u _ _ (B _ _ e))))⟩
end
theorem pg(l1 l2:b_)(xs ys:Array bw):m2 (io.«zip.__new__» ⟨[.type "zip",.ref l1,.ref l2],[]⟩) (λ_ R s=>s.heap.IsTuple l1 xs/\s.heap.IsList l2 ys/\R (.ok (.ret (.ref (s.heap.objs.size+4)))) {s with heap:=((((s.heap.push {cls:=.type "tuple_iterator",data:=.fields #[.ref l1,.int 0 0]}).push {cls:=.type "list_iterator",data:=.fields #[.ref l2,.int 0 0]}).push {cls:=.type "tuple",data:=.seq #[.ref s.heap.objs.size,.ref (s.heap.objs.size+1)]}).push {cls:=.type "tuple",data:=.seq #[.none,.none]}).push {cls:=.type "zip",data:=.fields #[.none,.bool a7,.bool a7,.ref (s.heap.objs.size+2),.ref (s.heap.objs.size+3)]}}):=.of_wp λprog w A R s h=>by obtain⟨f,g,d,tk,os⟩:=s;obtain⟨a,b,h⟩:=h;have i:=sub_zip;have c:rg (hU ⟨f,g,d,tk,os⟩) l1 xs:=a;have e:IsList (hU ⟨f.push {cls:=.type "tuple_iterator",data:=.fields #[.ref l1,.int 0 0]},g,d,tk,os⟩) l2 ys:=Heap.IsList.push b _;wp_walk using fg c,gy e;simp only[ef]at*;exact⟨_,rfl,h⟩
section
variable{prog:da}{w:eg}{A:ej}{E:bw->bZ->Prop}{s:bZ}
theorem Bs(i:s.heap.IsTuple l1 xs)(j:s.heap.IsList l2 ys)(h:∀ h',i6 h' (s.heap.objs.size+4) (s.heap.objs.size+2) (s.heap.objs.size+3) .none->fk h' (s.heap.objs.size+2) (.ref s.heap.objs.size) (.ref (s.heap.objs.size+1))->fk h' (s.heap.objs.size+3) .none .none->h'.IsTupleIter s.heap.objs.size l1 0->h'.IsListIter (s.heap.objs.size+1) l2 0->(∀c o,s.heap.get? c=al o->h'.get? c=al o)->Q (.ref (s.heap.objs.size+4)) {s with heap:=h'}):cy (cE prog w) A (call (.type "zip") [.ref l1,.ref l2]) Q E s:=by
 refine ke F.called_zip (by decide) (F.typeCall_zip_2 _ _) (F.newCall_zip_2 _ _) (λobj=>F.args_object_init_3 obj _ _) F.entry_zip_new (pg l1 l2 xs ys) ⟨i,j,?_⟩;generalize k:s.heap.push {cls:=.type "tuple_iterator",data:=.fields #[.ref l1,.int 0 0]}=t1;have r:t1.objs.size=s.heap.objs.size+1:=by rw[<-k,ef]
 have z:t1.get? s.heap.objs.size=al {cls:=.type "tuple_iterator",data:=.fields #[.ref l1,.int 0 0]}:=by rw[<-k];exact cv _ rfl
 have B:∀c o,s.heap.get? c=al o->t1.get? c=al o:=λc o e=>by rw[<-k];exact dB e
 generalize l:t1.push {cls:=.type "list_iterator",data:=.fields #[.ref l2,.int 0 0]}=t2;have t:t2.objs.size=s.heap.objs.size+2:=by rw[<-l,ef,r]
 have C:t2.get? (s.heap.objs.size+1)=al {cls:=.type "list_iterator",data:=.fields #[.ref l2,.int 0 0]}:=by rw[<-r,<-l];exact cv _ rfl
 have u:∀c o,t1.get? c=al o->t2.get? c=al o:=λc o e=>by rw[<-l];exact dB e
 generalize m:t2.push {cls:=.type "tuple",data:=.seq #[.ref s.heap.objs.size,.ref (s.heap.objs.size+1)]}=a;have v:a.objs.size=s.heap.objs.size+3:=by rw[<-m,ef,t]
 have G:a.get? (s.heap.objs.size+2)=al {cls:=.type "tuple",data:=.seq #[.ref s.heap.objs.size,.ref (s.heap.objs.size+1)]}:=by rw[<-t,<-m];exact cv _ rfl
 have n:∀c o,t2.get? c=al o->a.get? c=al o:=λc o e=>by rw[<-m];exact dB e
 generalize p:a.push {cls:=.type "tuple",data:=.seq #[.none,.none]}=b;have H:b.objs.size=s.heap.objs.size+4:=by rw[<-p,ef,v]
 have I:b.get? (s.heap.objs.size+3)=al {cls:=.type "tuple",data:=.seq #[.none,.none]}:=by rw[<-v,<-p];exact cv _ rfl
 have g:∀c o,a.get? c=al o->b.get? c=al o:=λc o e=>by rw[<-p];exact dB e
 generalize x:b.push {cls:=.type "zip",data:=.fields #[.none,.bool a7,.bool a7,.ref (s.heap.objs.size+2),.ref (s.heap.objs.size+3)]}=q;have y:q.get? (s.heap.objs.size+4)=al {cls:=.type "zip",data:=.fields #[.none,.bool a7,.bool a7,.ref (s.heap.objs.size+2),.ref (s.heap.objs.size+3)]}:=by rw[<-H,<-x];exact cv _ rfl
 have f:∀c o,b.get? c=al o->q.get? c=al o:=λc o e=>by rw[<-x];exact dB e
 exact⟨⟨_,y,rfl⟩,h q y (f _ _ (g _ _ G)) (f _ _ I) ⟨_,f _ _ (g _ _ (n _ _ (u _ _ z))),rfl,rfl⟩ ⟨_,f _ _ (g _ _ (n _ _ C)),rfl,rfl⟩ λc o e=>f _ _ (g _ _ (n _ _ (u _ _ (B _ _ e))))⟩
end
theorem pA(l1 l2:b_)(xs ys:Array bw):m2 (io.«zip.__new__» ⟨[.type "zip",.ref l1,.ref l2],[]⟩) (λ_ R s=>s.heap.IsTuple l1 xs/\s.heap.IsTuple l2 ys/\R (.ok (.ret (.ref (s.heap.objs.size+4)))) {s with heap:=((((s.heap.push {cls:=.type "tuple_iterator",data:=.fields #[.ref l1,.int 0 0]}).push {cls:=.type "tuple_iterator",data:=.fields #[.ref l2,.int 0 0]}).push {cls:=.type "tuple",data:=.seq #[.ref s.heap.objs.size,.ref (s.heap.objs.size+1)]}).push {cls:=.type "tuple",data:=.seq #[.none,.none]}).push {cls:=.type "zip",data:=.fields #[.none,.bool a7,.bool a7,.ref (s.heap.objs.size+2),.ref (s.heap.objs.size+3)]}}):=.of_wp λprog w A R s h=>by obtain⟨f,g,d,tk,os⟩:=s;obtain⟨a,b,h⟩:=h;have i:=sub_zip;have c:rg (hU ⟨f,g,d,tk,os⟩) l1 xs:=a;have e:rg (hU ⟨f.push {cls:=.type "tuple_iterator",data:=.fields #[.ref l1,.int 0 0]},g,d,tk,os⟩) l2 ys:=Heap.IsTuple.push b _;wp_walk using fg c,fg e;simp only[ef]at*;exact⟨_,rfl,h⟩
section
variable{prog:da}{w:eg}{A:ej}{E:bw->bZ->Prop}{s:bZ}
theorem Ba(i:s.heap.IsTuple l1 xs)(j:s.heap.IsTuple l2 ys)(h:∀ h',i6 h' (s.heap.objs.size+4) (s.heap.objs.size+2) (s.heap.objs.size+3) .none->fk h' (s.heap.objs.size+2) (.ref s.heap.objs.size) (.ref (s.heap.objs.size+1))->fk h' (s.heap.objs.size+3) .none .none->h'.IsTupleIter s.heap.objs.size l1 0->h'.IsTupleIter (s.heap.objs.size+1) l2 0->(∀c o,s.heap.get? c=al o->h'.get? c=al o)->Q (.ref (s.heap.objs.size+4)) {s with heap:=h'}):cy (cE prog w) A (call (.type "zip") [.ref l1,.ref l2]) Q E s:=by
 refine ke F.called_zip (by decide) (F.typeCall_zip_2 _ _) (F.newCall_zip_2 _ _) (λobj=>F.args_object_init_3 obj _ _) F.entry_zip_new (pA l1 l2 xs ys) ⟨i,j,?_⟩;generalize k:s.heap.push {cls:=.type "tuple_iterator",data:=.fields #[.ref l1,.int 0 0]}=t1;have r:t1.objs.size=s.heap.objs.size+1:=by rw[<-k,ef]
 have z:t1.get? s.heap.objs.size=al {cls:=.type "tuple_iterator",data:=.fields #[.ref l1,.int 0 0]}:=by rw[<-k];exact cv _ rfl
 have B:∀c o,s.heap.get? c=al o->t1.get? c=al o:=λc o e=>by rw[<-k];exact dB e
 generalize l:t1.push {cls:=.type "tuple_iterator",data:=.fields #[.ref l2,.int 0 0]}=t2;have t:t2.objs.size=s.heap.objs.size+2:=by rw[<-l,ef,r]
 have C:t2.get? (s.heap.objs.size+1)=al {cls:=.type "tuple_iterator",data:=.fields #[.ref l2,.int 0 0]}:=by rw[<-r,<-l];exact cv _ rfl
 have u:∀c o,t1.get? c=al o->t2.get? c=al o:=λc o e=>by rw[<-l];exact dB e
 generalize m:t2.push {cls:=.type "tuple",data:=.seq #[.ref s.heap.objs.size,.ref (s.heap.objs.size+1)]}=a;have v:a.objs.size=s.heap.objs.size+3:=by rw[<-m,ef,t]
 have G:a.get? (s.heap.objs.size+2)=al {cls:=.type "tuple",data:=.seq #[.ref s.heap.objs.size,.ref (s.heap.objs.size+1)]}:=by rw[<-t,<-m];exact cv _ rfl
 have n:∀c o,t2.get? c=al o->a.get? c=al o:=λc o e=>by rw[<-m];exact dB e
 generalize p:a.push {cls:=.type "tuple",data:=.seq #[.none,.none]}=b;have H:b.objs.size=s.heap.objs.size+4:=by rw[<-p,ef,v]
 have I:b.get? (s.heap.objs.size+3)=al {cls:=.type "tuple",data:=.seq #[.none,.none]}:=by rw[<-v,<-p];exact cv _ rfl
 have g:∀c o,a.get? c=al o->b.get? c=al o:=λc o e=>by rw[<-p];exact dB e
 generalize x:b.push {cls:=.type "zip",data:=.fields #[.none,.bool a7,.bool a7,.ref (s.heap.objs.size+2),.ref (s.heap.objs.size+3)]}=q;have y:q.get? (s.heap.objs.size+4)=al {cls:=.type "zip",data:=.fields #[.none,.bool a7,.bool a7,.ref (s.heap.objs.size+2),.ref (s.heap.objs.size+3)]}:=by rw[<-H,<-x];exact cv _ rfl
 have f:∀c o,b.get? c=al o->q.get? c=al o:=λc o e=>by rw[<-x];exact dB e
 exact⟨⟨_,y,rfl⟩,h q y (f _ _ (g _ _ G)) (f _ _ I) ⟨_,f _ _ (g _ _ (n _ _ (u _ _ z))),rfl,rfl⟩ ⟨_,f _ _ (g _ _ (n _ _ C)),rfl,rfl⟩ λc o e=>f _ _ (g _ _ (n _ _ (u _ _ (B _ _ e))))⟩
end
end PySem
namespace _L
open PySem Spec PyProof.Rows
variable{t:Bool}{a:b_}
noncomputable def Sq(t:Bool)(K:PySem.W.Frag)(H:Hp)(a:b_)(xs:List V):Prop:=if t then iB K H a xs else dF K H a xs
noncomputable def Yv(t:Bool)(h:ew)(a:b_)(xs:Array bw):Prop:=if t then h.IsTuple a xs else h.IsList a xs
noncomputable def Hg(t:Bool)(h:ew)(i a:b_)(k:Nat):Prop:=if t then h.IsTupleIter i a k else h.IsListIter i a k
section
variable{X:Cx}{pins:List (b_×Obj)}{σ:_L.St}{H:Hp}{s:bZ}
theorem Inv.sq{xs:List V}(I:Inv X pins σ H s)(h:Sq t X.K H a xs):∃b:List bw,Vals xs b/\Yv t s.heap a b.toArray:=by cases t with|true=>obtain⟨b,c,e,_⟩:=I.tuple h;exact⟨b,c,e⟩|false=>obtain⟨b,c,e,_⟩:=I.list h;exact⟨b,c,e.isList⟩
theorem Inv.Jc{xs ys:List V}(I:Inv X pins σ H s)(h:Sq t X.K H a xs)(h':Sq t X.K H a ys):xs=ys:=by cases t with|true=>exact I.kJ h h'|false=>exact I.m7 h h'
theorem Yv.lt{h:ew}{xs:Array bw}(q:Yv t h a xs):a<h.objs.size:=by cases t with|true=>obtain⟨o,e,_⟩:=id q;exact de e|false=>obtain⟨o,e,_⟩:=id q;exact de e
theorem Hg.obj{h:ew}{i:b_}{k:Nat}(q:Hg t h i a k):∃o,h.get? i=al o/\∀v,o.data≠.cell v:=by cases t with|true=>obtain⟨o,b,e,c⟩:=id q;exact⟨o,b,λv z=>by rw[c]at z;cases z⟩|false=>obtain⟨o,b,e,c⟩:=id q;exact⟨o,b,λv z=>by rw[c]at z;cases z⟩
theorem Hg.keep{h h':ew}{i:b_}{k:Nat}(q:Hg t h i a k)(e:∀o,h.get? i=al o->h'.get? i=al o):Hg t h' i a k:=by cases t with|true=>obtain⟨o,b,r⟩:=id q;exact⟨o,e o b,r⟩|false=>obtain⟨o,b,r⟩:=id q;exact⟨o,e o b,r⟩
theorem Om(t:Bool){prog:da}{w:eg}{A:ej}(c:A.handled=bdq)(it l:b_)(b:l≠it)(items:Array bw):Nx prog w A it l (λk h=>Hg t h it l k/\Yv t h l items) (λk=>items[k]?):=by cases t with|true=>exact Nx.tuple c it l b items|false=>exact Nx.list c it l b items
theorem Inv.J0{ch:List b_}{h':ew}(I:Inv X pins σ H s)(k:∀b u,b∉ch->s.heap.get? b=al u->h'.get? b=al u)(h:∀b∈ch,nR X pins H b):Inv X pins σ H {s with heap:=h'}:=by
 have i:∀b u,H b=al u->b∉ch:=λb u e f=>by rw[(h b f).1]at e;cases e
 refine I.call (g':=s.gens) (d':=s.drawn) (t':=s.toks) (ch:=ch) ⟨λb u e n _ g=>k b u g e,λb u e n _ g=>⟨u.slots,k b u g e⟩,λb u e n g=>n,λb u e g=>⟨u,k b u g e⟩,λb xs e=>e,λb j u e=>e,λb ps e=>⟨#[],by rw[e];simp⟩⟩ ?_ I.bare λb f=>⟨(h b f).2.2.2.1,(h b f).2.1,(h b f).2.2.2.2.1,(h b f).2.2.2.2.2⟩;intro b u e;refine(I.hok b u e).stay (λc v hc q=>k c v ?_ q) (λc q=>q) λc xs q=>q;rcases hc with rfl|hc;.exact i _ _ e
 .exact i _ _ hc
end
noncomputable def Ze(t1 t2:Bool)(K:PySem.W.Frag)(a b:b_):It:=⟨λi H=>∃ xs ys x y,Sq t1 K H a xs/\Sq t2 K H b ys/\xs[i]?=al x/\ys[i]?=al y,λi H x c=>∃T v w,H T=bdq/\x=.ref T/\c=upd H T (.tup [v,w])/\(∀xs,Sq t1 K H a xs->xs[i]?=al v)/\∀ys,Sq t2 K H b ys->ys[i]?=al w,λi H=>∃xs ys,Sq t1 K H a xs/\Sq t2 K H b ys/\(xs.length<=i\/ys.length<=i)⟩
theorem Jz{P:da}{w:eg}{K:PySem.W.Frag}{L:List df}{x1}{tp:Pos}(t1 t2:Bool){z TI TO f g J l2:b_}(D:lm z TI TO f g J l2):Turn P w K (.Tuple L x1 tp) (Ze t1 t2 K J l2) [z,TI,TO,f,g] z (λi h=>i6 h z TI TO .none/\fk h TI (.ref f) (.ref g)/\(∃a b,fk h TO a b)/\Hg t1 h f J i/\Hg t2 h g l2 i)where
 mem:=by simp
 obj:=λi h st b c=>by
  obtain⟨h1,m,⟨u,v,r⟩,B,C⟩:=st;simp only[cS,iH,or_false]at c;rcases c with rfl|rfl|rfl|rfl|rfl;.exact⟨_,h1,λv z=>by cases z⟩
  .exact⟨_,m,λv z=>by cases z⟩
  .exact⟨_,r,λv z=>by cases z⟩
  .exact B.obj
  .exact C.obj
 keep:=λi h h' st k=>by obtain⟨h1,m,⟨u,v,r⟩,B,C⟩:=st;exact⟨k z (by simp) _ h1,k TI (by simp) _ m,⟨u,v,k TO (by simp) _ r⟩,B.keep (k f (by simp)),C.keep (k g (by simp))⟩
 item:=λX hP hw hK hc i M s σ H E I Y st go=>by
  subst hP hw hK;obtain⟨h1,m,⟨u,v,r⟩,B,C⟩:=st;obtain⟨xs,ys,x,y,n,p,hx,hy⟩:=go;obtain⟨QC,G,Y8⟩:=I.sq n;obtain⟨j,W2,R4⟩:=I.sq p;obtain⟨Z,ac,ae⟩:=G.get hx;obtain⟨uy,af,ag⟩:=W2.get hy;have N:X.A.in1.handled=bdq:=I.ok.hd hc;refine nM D (Om t1 N f J D.l1i1 QC.toArray) (Om t2 N g l2 D.l2i2 j.toArray) h1 m r (k:=i) ⟨B,Y8⟩ ⟨C,R4⟩ (x:=Z) (y:=uy) (by simpa using ac) (by simpa using af) λh' z1 p1 s1 s2 pT hsz kp=>?_;refine⟨_,rfl,wpAny_letOwnedTupleGo_zip z1 λl z2 O=>?_⟩;have U:∀b∈[z,TI,TO,f,g],b≠s.heap.objs.size:=λb c=>by
   simp only[cS,iH,or_false]at c;rcases c with rfl|rfl|rfl|rfl|rfl;.exact dP (de h1)
   .exact dP (de m)
   .exact dP (de r)
   .exact dP (de B.obj.choose_spec.1)
   .exact dP (de C.obj.choose_spec.1)
  have Y7:∀b o,b∉[z,TO,f,g]->s.heap.get? b=al o->l.get? b=al o:=λb o c q=>by simp only[cS,iH,or_false,not_or]at c;exact O.extBut b o c.1 (kp b o c.1 c.2.1 c.2.2.1 c.2.2.2 q)
  have ah:fk l s.heap.objs.size Z uy:=O.extBut _ _ (U z (by simp)).symm pT;have p2:fk l TO Z uy:=O.extBut _ _ D.TOz p1;have j1:Hg t1 l f J (i+1):=s1.1.keep λo e=>O.extBut _ _ D.i1z e;have j2:Hg t2 l g l2 (i+1):=s2.1.keep λo e=>O.extBut _ _ D.i2z e;refine⟨.ref s.heap.objs.size,upd H s.heap.objs.size (.tup [x,y]),?_,rfl,⟨_,x,y,I.fresh,rfl,rfl,λzs hz=>?_,λzs hz=>?_⟩,⟨z2,Y7 TI _ ?_ m,⟨_,_,p2⟩,j1,j2⟩,λb c=>?_⟩
  . refine I.Bo (ch:=[z,TO,f,g]) (t':=s.toks) Y7 (λb c=>?_) (λb c=>Y b ?_) ⟨(by show 2<=sizeLine;decide),[Z,uy],.cons ae (.cons ag .nil),⟨_,ah,rfl,_,rfl⟩⟩
    . simp only[cS,iH,or_false]at c;rcases c with rfl|rfl|rfl|rfl;.exact⟨_,z2⟩
      .exact⟨_,p2⟩
      .exact⟨_,j1.obj.choose_spec.1⟩
      .exact⟨_,j2.obj.choose_spec.1⟩
    .simp only[cS,iH,or_false]at c ⊢;rcases c with h|h|h|h<;>simp[h]
  .rw[I.Jc hz n];exact hx
  .rw[I.Jc hz p];exact hy
  .simp[D.TIz,D.TITO,D.TIi1,D.TIi2]
  .rw[ao (U b c)];exact(Y b c).1
 done:=λX hP hw hK hc i M s σ H E I Y st stop=>by
  subst hP hw hK;obtain⟨h1,m,⟨u,v,r⟩,B,C⟩:=st;obtain⟨xs,ys,n,p,hx⟩:=stop;obtain⟨QC,G,Y8⟩:=I.sq n;obtain⟨j,W2,R4⟩:=I.sq p;have N:X.A.in1.handled=bdq:=I.ok.hd hc;refine o5 D (Om t1 N f J D.l1i1 QC.toArray) (Om t2 N g l2 D.l2i2 j.toArray) h1 m r (k:=i) ⟨B,Y8⟩ ⟨C,R4⟩ ?_ λh' kp=>⟨rfl,?_⟩
  . rcases hx with hx|hx;.left;rw[G.length]at hx;simpa using hx
    .right;rw[W2.length]at hx;simpa using hx
  .exact I.J0 (ch:=[z,TO,f,g]) (λb u c q=>by simp only[cS,iH,or_false,not_or]at c;exact kp b u c.1 c.2.1 c.2.2.1 c.2.2.2 q) λb c=>Y b (by simp only[cS,iH,or_false]at c ⊢;rcases c with h|h|h|h<;>simp[h])
 self:=λA i s Q E st q=>wpAny_pyIter_zip st.1 q
section
variable{X:Cx}{elts:List df}{x1:Nat}{tp:Pos}
theorem Fg{prog:da}{w:eg}{A:ej}{E:bw->bZ->Prop}{s:bZ}(t1 t2:Bool){f l2:b_}{xs ys:Array bw}{Q:bw->bZ->Prop}(b:Yv t1 s.heap f xs)(e:Yv t2 s.heap l2 ys)(h:∀ h',i6 h' (s.heap.objs.size+4) (s.heap.objs.size+2) (s.heap.objs.size+3) .none->fk h' (s.heap.objs.size+2) (.ref s.heap.objs.size) (.ref (s.heap.objs.size+1))->fk h' (s.heap.objs.size+3) .none .none->Hg t1 h' s.heap.objs.size f 0->Hg t2 h' (s.heap.objs.size+1) l2 0->(∀c o,s.heap.get? c=al o->h'.get? c=al o)->Q (.ref (s.heap.objs.size+4)) {s with heap:=h'}):cy (cE prog w) A (call (.type "zip") [.ref f,.ref l2]) Q E s:=by
 cases t1<;>cases t2;.exact Bg b e h
 .exact Bq b e h
 .exact Bs b e h
 .exact Ba b e h
theorem S8{n l m:Nat}(h1:l<n)(b:m<n):lm (n+4) (n+2) (n+3) n (n+1) l m:=by constructor<;>exact λh=>absurd (show(_:Nat)=_ from h) (by omega)
noncomputable def adC(K:PySem.W.Frag)(R:It->Hp->Prop)(vs:List V)(c:Hp):Prop:=∃t1 t2 a b,vs=[.ref a,.ref b]/\(∃xs,Sq t1 K c a xs)/\(∃ys,Sq t2 K c b ys)/\R (Ze t1 t2 K a b) c
noncomputable def adO(K:PySem.W.Frag)(b:TA):TI:=λσ H R=>b σ H (adC K R)
theorem boot_zip:eK "zip"=al (.type "zip"):=by decide+kernel
theorem JS{a b:df}{k:TA}{p pos:Pos}(w:Gl X "zip")(x:X.mg "zip"=bdq)(y:PA X [a,b] k)(hs:cw [a,b] X.env=[(a7,eu a X.env),(a7,eu b X.env)]:=by rfl)(c:cw [b] X.env=[(a7,eu b X.env)]:=by rfl):PI X (.Tuple elts x1 tp) (.Call (.Name "zip" p) [a,b] [] pos) (adO X.K k):=by
 intro e s σ H R I h;refine Call_ (ji I w x boot_zip (eF (cB (y pos e s σ H _ I h) ?_) (by rw[hs,c]) (by rw[c];rfl)));rintro O s1⟨vs,z,f,r1,A⟩;obtain⟨t1,t2,B,l2,rfl,⟨xs,i⟩,⟨ys,j⟩,q⟩:=A;obtain⟨u,v,rfl,C,E⟩:=r1.two;cases C;cases E;obtain⟨Q,G,l⟩:=f.sq i;obtain⟨m,U,n⟩:=f.sq j;have b1:=l.lt;have b2:=n.lt;refine Fg t1 t2 l n λh' o J L M N kp=>?_;have D:lm (s1.heap.objs.size+4) (s1.heap.objs.size+2) (s1.heap.objs.size+3) s1.heap.objs.size (s1.heap.objs.size+1) B l2:=S8 b1 b2;refine wpAny_pyIter_zip o ⟨_,_,_,_,z,rfl,f.kept (t':=s1.toks) kp,Jz t1 t2 D,⟨o,J,⟨_,_,L⟩,M,N⟩,λb r=>?_,q⟩;have g:s1.heap.objs.size<=b:=by simp only[cS,iH,or_false]at r;rcases r with rfl|rfl|rfl|rfl|rfl<;>first|exact Nat.le_add_right _ _|exact dq
 exact f.Ah g (f.hok.fresh g)
end
end _L
namespace _H
open PySem _L Spec PyProof.Rows
variable{x:Str}
section
variable{K:PySem.W.Frag}{F F1 H H1:Hp}{ρ ρ1:List Sl}{σ:_L.St}{ds es:List D}{a b:b_}
theorem aB.sq{t:Bool}{xs:List V}(e:aB F H)(h:Sq t K F a xs):Sq t K H a xs:=by cases t with|true=>exact aB.gU e h|false=>exact e.seq h
theorem p6{t1 t2:Bool}{xs ys:List V}{j c:Hp}(e:Sq t1 K c a xs)(f:Sq t2 K c b ys)(r1:aF K j xs ds)(n:aF K j ys es)(s:aB j c)(k:Nat):(∀d,((ds.zip es).map λp=>D.tup [p.1,p.2])[k]?=al d->(Ze t1 t2 K a b).go k c/\∀x l,(Ze t1 t2 K a b).LC k c x l->∃g,Ext j c g l/\Rep K g x d)/\(((ds.zip es).map λp=>D.tup [p.1,p.2]).length<=k->(Ze t1 t2 K a b).stop k c):=by refine⟨λd hd=>?_,λh=>⟨xs,ys,e,f,by rw[r1.length,n.length];rw[dQ,i5]at h;omega⟩⟩;rw[er]at hd;obtain⟨⟨d0,d1⟩,o,q⟩:=map_some hd;subst q;obtain⟨f1,f2⟩:=kb.mp o;obtain⟨w,h1,r⟩:=r1.get f1;obtain⟨t,i,m⟩:=n.get f2;refine⟨⟨xs,ys,w,t,e,f,h1,i⟩,?_⟩;rintro x l⟨T,v,C,u,z,A,y,B⟩;subst z;subst A;have:=y xs e;rw[h1]at this;cases this;have:=B ys f;rw[i]at this;cases this;exact qX s u r m
theorem vG{v:V}{d:D}{ds:List D}(h:Rep K F v d)(e:items d=al ds):∃t a xs,v=.ref a/\Sq t K F a xs/\aF K F xs ds:=by cases d with|tup es=>cases e;rw[Rep]at h;obtain⟨a,xs,rfl,h1,c⟩:=h;exact⟨bx,a,xs,rfl,h1,c⟩|lst es=>cases e;rw[Rep]at h;obtain⟨a,xs,rfl,h1,c⟩:=h;exact⟨a7,a,xs,rfl,h1,c⟩|_=>cases e
end
section
variable{X:Cx}{c:Call}{e a b:df}{pa pb:P}{pos:Pos}{elts:List df}{x1:Nat}{tp:Pos}
theorem vf{w:Pos}(y:x="zip")(z:Gl X x)(A:X.mg x=bdq)(B:SX X c a pa)(C:SX X c b pb)(hs:cw [a,b] X.env=[(a7,eu a X.env),(a7,eu b X.env)]:=by rfl)(f:cw [b] X.env=[(a7,eu b X.env)]:=by rfl):SI X c (.Tuple elts x1 tp) (.Call (.Name x w) [a,b] [] pos) (.zip pa pb):=by subst y;refine lA (JS z A (pY B (pY C aR f) (by rw[hs,f])).1 hs f) ?_;rintro σ H R⟨F,ρ,ds,E,g,e,k⟩;obtain⟨r,ρ2,p,l⟩:=aa e;have o:=aD l;clear l;obtain⟨l,G⟩:=o;subst G;rw[_H.E22]at p;obtain⟨x0,j,I,J⟩:=aa p;obtain⟨L,M,N,m⟩:=aa J;have o:=aD m;clear m;obtain⟨m,O⟩:=o;subst O;obtain⟨us,f1,Q⟩:=cC m;obtain⟨ws,f2,f3⟩:=map_some Q;subst f3;cases l;refine⟨F,ρ,[x0.d,L.d],_,g,by rw[wN,I];show(evs c [pb] j).bind _=_;rw[wN,N];rfl,λvs U W s h=>?_⟩;obtain⟨v,r',rfl,Y,h⟩:=h.cF;obtain⟨u,Z,rfl,ru,h⟩:=h.cF;rw[h.fu];obtain⟨t1,a1,xs,rfl,q,r1⟩:=vG Y f1;obtain⟨t2,a2,ys,rfl,t,r2⟩:=vG ru f2;exact⟨t1,t2,a1,a2,rfl,⟨xs,aB.sq s.gs.sub q⟩,⟨ys,aB.sq s.gs.sub t⟩,k _ _ _ ⟨s.gs,λn k U ac ae W i=>p6 (aB.sq i.gs.sub (aB.sq i.bT q)) (aB.sq i.gs.sub (aB.sq i.bT t)) (r1.mono i.bT) (r2.mono i.bT) i.gs.sub k,λF3 j af H3 s3=>⟨s.trans s3,λv r h=>h.later s⟩⟩⟩
end
structure bB(K:PySem.W.Frag)(x:Str)(st:eM):Prop where ex:∃f fd,PySem.W.nsIn K dE x=al (al (.ref f))/\gZ K x x st f fd
section
variable{Pg:da}{w:eg}{K:PySem.W.Frag}{mg:Str->Option bw}{base h:ew}
theorem Vs{st:eM}{f:b_}{oc:bw}{g i:Option b_}{b:Array (Option bw)}{kV e j cdv ct:bw}(a:PySem.W.nsIn K dE x=al (al (.ref f)))(l:K.lookup f=al ⟨oc,g,.func (PySem.W.fnOf x x (jm st) (gq st) (aA st) .none kV e j i cdv ct),b⟩)(c:PySem.W.codeIn K cdv x=bx)(k:keepIn K (.ref f)=bx):bB K x st:=⟨_,_,a,Ug l c k⟩
theorem bQ{Γ:Tab}{wl i np:Nat}{st:eM}{ps:List Str}(X:K.In h)(G:h.Ns dE mg)(D:bB K x st)(j:ps.length=np)(k:∀(kV g l:bw)(m:Option b_)(cdv ct:bw)(c:List bw),c.length=ps.length->r8 (PySem.W.fnOf x x (jm st) (gq st) (aA st) .none kV g l m cdv ct) ⟨c,[]⟩=eS (ps.zip c)):aQ Pg w K mg base 0 (run Γ wl 0) i x np:=by obtain⟨f,fd,a,F⟩:=D.ex;exact⟨f,fd,ps,⟨λvs H Q E s=>s.1,λA outer s H args c vs Q E hr e b v sp=>by obtain⟨_,F,as,r,n,_,z,_⟩:=sp;cases z⟩,mg_of X G a,F.kp,F.binds k,j⟩
theorem bO{Γ:Tab}{wl n i np:Nat}{st:eM}{ps:List Str}{d:Fd}(X:K.In h)(G:h.Ns dE mg)(D:bB K x st)(j:ps.length=np)(b:Γ i=al d)(k:∀(kV c l:bw)(m:Option b_)(cdv ct:bw)(g:List bw),g.length=ps.length->r8 (PySem.W.fnOf x x (jm st) (gq st) (aA st) .none kV c l m cdv ct) ⟨g,[]⟩=eS (ps.zip g))(ok:∀f fd,gZ K x x st f fd->oA Pg w K mg base Jf (n+1) f fd ps (Qs K np (λargs=>enter (run Γ wl n) wl d args))):aQ Pg w K mg base (n+1) (run Γ wl (n+1)) i x np:=by
 obtain⟨f,fd,a,F⟩:=D.ex;refine⟨f,fd,ps,?_,mg_of X G a,F.kp,F.binds k,j⟩;have e:run Γ wl (n+1) i=λargs=>enter (run Γ wl n) wl d args:=by funext args;show(match Γ i with|some d=>enter (run Γ wl n) wl d args|none=>.stuck)=_;rw[b]
 rw[e,j];exact ok f fd F
theorem um{F:Hp}:∀ns:List Int,aF K F (ns.map V.int) (ns.map D.int)|[]=>.nil|n::ns=>.cons (cu n) (um ns)
theorem GR{H:Hp}{a:b_}{ns:List Int}{g:List Sl->Res R}{as:List Sl}(l:dF K H a (ns.map V.int))(hr:g [.val a7 (.lst (ns.map D.int))]=.ok (.val (.bl bx)) as):Qs K 1 g [.ref a] H (λv _=>v=.bl bx) λ_ _ _=>False:=by
 refine⟨rfl,H,_,_,as,⟨.refl _,rfl,λi b d e=>?_,λi s m e k=>?_,λi j c h=>?_⟩,hr,λv n o p s f=>?_⟩;.match i,e with|0,e=>cases e;refine⟨.ref a,rfl,?_⟩;rw[Rep];exact⟨a,_,rfl,l,um ns⟩|i+1,e=>simp at e
 .match i,e with|0,e=>cases e;cases k|i+1,e=>simp at e
 .obtain⟨⟨s,m,e,k⟩,_⟩:=h;match i,e with|0,e=>cases e;cases k|i+1,e=>simp at e
 .have f:Rep K n v (.bl bx):=f;rw[Rep]at f;exact f
end
end _H
namespace _H
open PySem
variable{n:Nat}{c:Call}{ρ:List Sl}{is:List Nat}{ds:List D}
noncomputable def Res.sat{b:Type}(Q:b->List Sl->Prop)(x:Res b):Prop:=match x with|.ok a ρ=>Q a ρ|.exc _ _=>False|.stuck=>False
section
variable{α β:Type}{Q Q':α->List Sl->Prop}
@[simp]theorem Vw{a:α}{ρ:List Sl}:(Res.ok a ρ).sat Q=Q a ρ:=rfl
@[simp]theorem ab9{k:Nat}{ρ:List Sl}:(Res.exc k ρ:Res α).sat Q=False:=rfl
@[simp]theorem XJ:(Res.stuck:Res α).sat Q=False:=rfl
theorem cG{x:Res β}{f:β->List Sl->Res α}:(x.bind f).sat Q=x.sat λa ρ=>(f a ρ).sat Q:=by cases x<;>rfl
@[simp]theorem abT{p:Prop}[Decidable p]{x y:Res α}:(if p then x else y).sat Q=((p->x.sat Q)/\(¬ p->y.sat Q)):=by by_cases h:p<;>simp[h]
@[simp]theorem Mw{a:α}{ρ:List Sl}:(lift (al a) ρ).sat Q=Q a ρ:=rfl
@[simp]theorem My{ρ:List Sl}:(lift (bdq:Option α) ρ).sat Q=False:=rfl
@[simp]theorem O1{p:Prop}[Decidable p]{a:α}{ρ:List Sl}:(lift (if p then al a else bdq) ρ).sat Q=(p/\Q a ρ):=by by_cases h:p<;>simp[h]
theorem Res.sat.imp{x:Res α}(h:x.sat Q)(k:∀a ρ,Q a ρ->Q' a ρ):x.sat Q':=by cases x with|ok a ρ=>exact k a ρ h|exc _ _=>exact h|stuck=>exact h
theorem sat_iff{x:Res α}:x.sat Q↔∃a ρ,x=.ok a ρ/\Q a ρ:=by cases x with|ok a ρ=>exact⟨λh=>⟨a,ρ,rfl,h⟩,λ⟨_,_,e,h⟩=>by cases e;exact h⟩|exc _ _=>exact⟨λh=>h.elim,λ⟨_,_,e,_⟩=>by cases e⟩|stuck=>exact⟨λh=>h.elim,λ⟨_,_,e,_⟩=>by cases e⟩
end
noncomputable def fr:Sl->Bool|.aN=>bx|.val b _=>!b|.own b _=>!b|.lent _=>a7|.gY _=>a7|.cM _=>a7|.hold _=>a7
@[simp]theorem adJ:fr .aN=bx:=rfl
@[simp]theorem afF{b:Bool}{d:D}:fr (.val b d)=!b:=rfl
@[simp]theorem adY{b:Bool}{d:List D}:fr (.own b d)=!b:=rfl
@[simp]theorem acq{d:List D}:fr (.lent d)=a7:=rfl
theorem VF(ρ:List Sl)(i:Nat)(s:Sl):put ρ i s=match ρ[i]?with|some t=>if fr t=bx then al (ρ.set i s)else bdq|none=>bdq:=by unfold put;cases h:ρ[i]?with|none=>rfl|some t=>cases t with|aN=>rfl|val b d=>cases b<;>rfl|own b d=>cases b<;>rfl|lent d=>rfl|gY m=>rfl|cM m=>rfl|hold m=>rfl
theorem Hk{Γ:Tab}{w i:Nat}{d:Fd}{args:List Sl}(h:Γ i=al d):run Γ w (n+1) i args=enter (run Γ w n) w d args:=by rw[run,h]
noncomputable def fin(np:Nat):Fl->List Sl->Option (R×List Sl)|.next,ρ=>al (.val .non,ρ.take np)|.ret r,ρ=>al (r,ρ.take np)|_,_=>bdq
noncomputable def eQ(np:Nat)(Q:R->List Sl->Prop)(fl:Fl)(ρ:List Sl):Prop:=match fl with|.next=>Q (.val .non) (ρ.take np)|.ret r=>Q r (ρ.take np)|_=>False
noncomputable def sQ(c:Call)(n:Nat)(r:List S)(Q:Fl->List Sl->Prop)(fl:Fl)(ρ:List Sl):Prop:=match fl with|.next=>(gj c n r ρ).sat Q|fl=>Q fl ρ
noncomputable def fQ(J:List Sl->Prop)(Q:Fl->List Sl->Prop)(fl:Fl)(ρ:List Sl):Prop:=match fl with|.next=>J ρ|.cont=>J ρ|.brk=>Q .next ρ|.ret v=>Q (.ret v) ρ
section
variable{np:Nat}{Q:R->List Sl->Prop}{ρ:List Sl}{v:R}{c:Call}{n:Nat}{r:List S}{Q':Fl->List Sl->Prop}{J:List Sl->Prop}
@[simp]theorem acY:eQ np Q .next ρ=Q (.val .non) (ρ.take np):=rfl
@[simp]theorem afz:eQ np Q (.ret v) ρ=Q v (ρ.take np):=rfl
@[simp]theorem ad6:eQ np Q .brk ρ=False:=rfl
@[simp]theorem acD:eQ np Q .cont ρ=False:=rfl
@[simp]theorem abO:sQ c n r Q' .next ρ=(gj c n r ρ).sat Q':=rfl
@[simp]theorem afh:sQ c n r Q' (.ret v) ρ=Q' (.ret v) ρ:=rfl
@[simp]theorem aeS:sQ c n r Q' .brk ρ=Q' .brk ρ:=rfl
@[simp]theorem acN:sQ c n r Q' .cont ρ=Q' .cont ρ:=rfl
@[simp]theorem ac8:fQ J Q' .next ρ=J ρ:=rfl
@[simp]theorem ab5:fQ J Q' .cont ρ=J ρ:=rfl
@[simp]theorem age:fQ J Q' .brk ρ=Q' .next ρ:=rfl
@[simp]theorem adL:fQ J Q' (.ret v) ρ=Q' (.ret v) ρ:=rfl
end
theorem GQ{d:Fd}{args:List Sl}{Q:R->List Sl->Prop}(a:args.length=d.np)(hd:d.np<=d.nn)(h:(gj c n d.body (args++cq (d.nn-d.np) .aN)).sat (eQ d.np Q)):(enter c n d args).sat Q:=by unfold enter;rw[if_pos ⟨a,hd⟩];revert h;cases gj c n d.body (args++cq (d.nn-d.np) .aN)with|stuck=>exact λh=>e_ h|exc _ _=>exact λh=>e_ h|ok fl ρ=>cases fl<;>first|exact id|exact λh=>e_ h
theorem aL{Γ:Tab}{w i:Nat}{d:Fd}{args:List Sl}{Q:R->List Sl->Prop}(a:Γ i=al d)(b:args.length=d.np)(hd:d.np<=d.nn)(h:(gj (run Γ w n) w d.body (args++cq (d.nn-d.np) .aN)).sat (eQ d.np Q)):(run Γ w (n+1) i args).sat Q:=by rw[Hk a];exact GQ b hd h
theorem ak{s:S}{r:List S}{Q:Fl->List Sl->Prop}(h:(ex c n s ρ).sat (sQ c n r Q)):(gj c n (s::r) ρ).sat Q:=by rw[M6,cG];refine h.imp λfl a q=>?_;cases fl<;>exact q
theorem GF{s:S}{r:List S}{Q:Fl->List Sl->Prop}(h:(ex c n s ρ).sat (sQ c n r Q)):sQ c n (s::r) Q .next ρ:=ak h
@[simp]theorem abL{c:Call}{n:Nat}{ρ:List Sl}{Q:Fl->List Sl->Prop}:(gj c n [] ρ).sat Q=Q .next ρ:=by rw[xs0];rfl
theorem dN{s:S}{r:List S}{Q:Fl->List Sl->Prop}(M:List Sl->Prop)(h:(ex c n s ρ).sat λfl a=>fl=.next/\M a)(k:∀a,M a->(gj c n r a).sat Q):(gj c n (s::r) ρ).sat Q:=ak (h.imp λfl a⟨e,q⟩=>by subst e;exact k a q)
theorem bW{is:List Nat}{one:Bool}{body:List Sl->Res Fl}(J:List D->List Sl->Prop){Q:Fl->List Sl->Prop}(b:∀d r ρ,J (d::r) ρ->∃a,cJ ρ is one d=al a/\(body a).sat (fQ (J r) Q))(f:∀ρ,J [] ρ->Q .next ρ):∀{ds:List D}{ρ:List Sl},J ds ρ->(jf is one body ds ρ).sat Q|[],ρ,j=>f ρ j|d::r,ρ,j=>by obtain⟨a,e,h⟩:=b d r ρ j;rw[zX,e];show((body a).bind _).sat Q;rw[cG];refine h.imp λfl ρ2 q=>?_;cases fl with|next=>exact bW J b f q|cont=>exact bW J b f q|brk=>exact q|ret v=>exact q
theorem lq{is:List Nat}{one:Bool}{a:List Sl->Res Bool}{o:Ev}(J:List Sl->Prop)(g:D->Option D){Q:List D->List Sl->Prop}:∀{ds f:List D}{ρ:List Sl},J ρ->(∀ d,d ∈ ds->∀ ρ,J ρ->∃ i,cJ ρ is one d=al i/\(a i).sat λb ρ2=>if b=bx then(o ρ2).sat λr p=>g d=al r.d/\J p else g d=bdq/\J ρ2)->(∀ ρ,J ρ->Q (f++ds.filterMap g) ρ)->(turns is one a o ds f ρ).sat Q|[],f,ρ,j,h,k=>by rw[Ib];simpa using k ρ j|d::r,f,ρ,j,h,k=>by obtain⟨i,e,h1⟩:=h d (by simp) ρ j;rw[Kr,e];show((a i).bind _).sat Q;rw[cG];refine h1.imp λb ρ2 q=>?_;cases b with|true=>rw[if_pos rfl]at q;rw[if_pos rfl,cG];refine q.imp λx p⟨t,j3⟩=>?_;refine lq J g j3 (λd' l=>h d' (by simp[l])) λm s=>?_;have:=k m s;rw[gu,t]at this;rw[eP];exact this|false=>rw[if_neg (by simp)]at q;rw[if_neg (by simp)];refine lq J g q.2 (λd' l=>h d' (by simp[l])) λm s=>?_;have:=k m s;rw[gu,q.1]at this;exact this
theorem Az{one:Bool}{b:Ev}(J:List Sl->Prop)(g:D->D){Q:List D->List Sl->Prop}(j:J ρ)(h:∀d,d∈ds->∀ρ,J ρ->∃a,cJ ρ is one d=al a/\(b a).sat λr f=>g d=r.d/\J f)(k:∀ρ,J ρ->Q (ds.map g) ρ):(turns is one (tL c bdq) b ds [] ρ).sat Q:=lq J (λd=>al (g d)) j (λd hd ρ j=>by obtain⟨a,e,h1⟩:=h d hd ρ j;refine⟨a,e,?_⟩;rw[tL,Vw,if_pos rfl];exact h1.imp λr f q=>⟨by rw[q.1],q.2⟩) λρ j=>by simpa using k ρ j
section
variable{ρ l:List Sl}{a:Sl}{i j:Int}{k m:Nat}{b b':Bool}{s:Str}{d:D}{ds es:List D}{e f:Ev}{x:Option Sl}{c:Call}
@[simp]theorem VG:cR .int .non=a7:=rfl
@[simp]theorem Yk:cR .int (.bl b)=bx:=rfl
@[simp]theorem VL:cR .int (.int i)=bx:=rfl
@[simp]theorem Tq:cR .int (.str s)=a7:=rfl
@[simp]theorem Vt:cR .int (.tup ds)=a7:=rfl
@[simp]theorem Vk:cR .int (.lst ds)=a7:=rfl
@[simp]theorem RD:cR .bool .non=a7:=rfl
@[simp]theorem T4:cR .bool (.bl b)=bx:=rfl
@[simp]theorem QX:cR .bool (.int i)=a7:=rfl
@[simp]theorem RJ:cR .bool (.str s)=a7:=rfl
@[simp]theorem RP:cR .bool (.tup ds)=a7:=rfl
@[simp]theorem Rg:cR .bool (.lst ds)=a7:=rfl
@[simp]theorem Tz:cR .str .non=a7:=rfl
@[simp]theorem Yz:cR .str (.bl b)=a7:=rfl
@[simp]theorem Vd:cR .str (.int i)=a7:=rfl
@[simp]theorem WQ:cR .str (.str s)=bx:=rfl
@[simp]theorem Wx:cR .str (.tup ds)=a7:=rfl
@[simp]theorem Uk:cR .str (.lst ds)=a7:=rfl
@[simp]theorem Nu:cR .tuple .non=a7:=rfl
@[simp]theorem Rb:cR .tuple (.bl b)=a7:=rfl
@[simp]theorem Nf:cR .tuple (.int i)=a7:=rfl
@[simp]theorem Ny:cR .tuple (.str s)=a7:=rfl
@[simp]theorem M9:cR .tuple (.tup ds)=bx:=rfl
@[simp]theorem Nv:cR .tuple (.lst ds)=a7:=rfl
@[simp]theorem Rw:cR .list .non=a7:=rfl
@[simp]theorem Uj:cR .list (.bl b)=a7:=rfl
@[simp]theorem Rp:cR .list (.int i)=a7:=rfl
@[simp]theorem RK:cR .list (.str s)=a7:=rfl
@[simp]theorem Rx:cR .list (.tup ds)=a7:=rfl
@[simp]theorem QQ:cR .list (.lst ds)=bx:=rfl
@[simp]theorem Q9:cR .none .non=bx:=rfl
@[simp]theorem Vo:cR .none (.bl b)=a7:=rfl
@[simp]theorem QK:cR .none (.int i)=a7:=rfl
@[simp]theorem Q8:cR .none (.str s)=a7:=rfl
@[simp]theorem Ro:cR .none (.tup ds)=a7:=rfl
@[simp]theorem Ry:cR .none (.lst ds)=a7:=rfl
@[simp]theorem YL:jG .non=bx:=rfl
@[simp]theorem aaB:jG (.bl b)=a7:=rfl
@[simp]theorem YF:jG (.int i)=a7:=rfl
@[simp]theorem Xm:jG (.str s)=a7:=rfl
@[simp]theorem Xp:jG (.tup ds)=a7:=rfl
@[simp]theorem YS:jG (.lst ds)=a7:=rfl
@[simp]theorem Z5:flat .non=bx:=rfl
@[simp]theorem acn:flat (.bl b)=bx:=rfl
@[simp]theorem yl:flat (.int i)=bx:=rfl
@[simp]theorem aa2:flat (.str s)=bx:=rfl
@[simp]theorem aaz:flat (.tup ds)=a7:=rfl
@[simp]theorem Z6:flat (.lst ds)=a7:=rfl
@[simp]theorem aeh:(R.val d).d=d:=rfl
@[simp]theorem adG:(R.own ds).d=.lst ds:=rfl
@[simp]theorem aa7:Bv (.val d)=.val a7 d:=rfl
@[simp]theorem aa1:Bv (.own ds)=.own a7 ds:=rfl
@[simp]theorem XF:ur (.val d)=.dat d:=rfl
@[simp]theorem Yu:ur (.own ds)=.tmp ds:=rfl
@[simp]theorem abK:iJ (.int i)=al i:=rfl
@[simp]theorem afg:zP (.bl b)=al b:=rfl
@[simp]theorem uz:items (.lst ds)=al ds:=rfl
@[simp]theorem YW:items (.tup ds)=al ds:=rfl
@[simp]theorem U3:Vh (.tup ds)=al ds:=rfl
@[simp]theorem TJ:zG (.lst ds)=al ds:=rfl
@[simp]theorem acv:tu .add=qg:=rfl
@[simp]theorem acK:tu .sub=xx:=rfl
@[simp]theorem abJ:tu .mul=lC:=rfl
@[simp]theorem Z2:tu .fdiv=rK:=rfl
@[simp]theorem acd:tu .mod=xK:=rfl
@[simp]theorem acs:tu .pow=yr:=rfl
@[simp]theorem Xd:qg (.int i) (.int j)=al (.val (.int (i+j))):=rfl
@[simp]theorem Yt:qg (.lst ds) (.lst es)=if ds.length+es.length<=lim then al (.own (ds++es))else bdq:=rfl
@[simp]theorem YC:qg (.tup ds) (.tup es)=if ds.length+es.length<=lim then al (.val (.tup (ds++es)))else bdq:=rfl
@[simp]theorem Xf:xx (.int i) (.int j)=al (.val (.int (i-j))):=rfl
@[simp]theorem Yp:lC (.int i) (.int j)=if((-18446744073709551616<i/\i<18446744073709551616)\/(-18446744073709551616<j/\j<18446744073709551616))then al (.val (.int (i*j)))else bdq:=rfl
@[simp]theorem Ti:rK (.int i) (.int j)=if 0<j/\j<1606938044258990275541962092341162602522202993782792835301376 then al (.val (.int (i/j)))else bdq:=rfl
@[simp]theorem XX:xK (.int i) (.int j)=if 0<j then al (.val (.int (i%j)))else bdq:=rfl
@[simp]theorem XM:yr (.int i) (.int j)=if 0<=j/\j<=1000/\i.natAbs<18446744073709551616 then al (.val (.int (i^j.toNat)))else bdq:=rfl
@[simp]theorem acV:Gj (.lst ds) (.int i)=(at' ds i).map .val:=rfl
@[simp]theorem acO:Gj (.tup ds) (.int i)=(at' ds i).map .val:=rfl
@[simp]theorem aa5:HB (.int i)=al (.val (.int (-i))):=rfl
@[simp]theorem Xo:cm .eq (.int i) (.int j)=al (i==j):=rfl
@[simp]theorem Yl:cm .ne (.int i) (.int j)=al (!(i==j)):=rfl
@[simp]theorem aal:cm .eq (.bl b) (.bl b')=al (b==b'):=rfl
@[simp]theorem Zo:cm .ne (.bl b) (.bl b')=al (!(b==b')):=rfl
@[simp]theorem Xn:cm .lt (.int i) (.int j)=al (decide (i<j)):=rfl
@[simp]theorem XH:cm .le (.int i) (.int j)=al (decide (i<=j)):=rfl
@[simp]theorem YX:cm .gt (.int i) (.int j)=al (decide (j<i)):=rfl
@[simp]theorem Yj:cm .ge (.int i) (.int j)=al (decide (j<=i)):=rfl
@[simp]theorem adK:cm .isN d .non=al (jG d):=rfl
@[simp]theorem ac2:cm .Qw d .non=al (!jG d):=rfl
@[simp]theorem RL:blt .len [.lst ds]=al (.val (.int ds.length)):=rfl
@[simp]theorem QM:blt .len [.tup ds]=al (.val (.int ds.length)):=rfl
@[simp]theorem Qp:blt .list [.lst ds]=al (.own ds):=rfl
@[simp]theorem Pz:blt .list [.tup ds]=al (.own ds):=rfl
@[simp]theorem Ms:blt .tuple [.lst ds]=al (.val (.tup ds)):=rfl
@[simp]theorem MF:blt .tuple [.tup ds]=al (.val (.tup ds)):=rfl
@[simp]theorem aax:blt .min2 [.int i,.int j]=al (.val (.int (if j<i then j else i))):=rfl
@[simp]theorem ZF:blt .max2 [.int i,.int j]=al (.val (.int (if i<j then j else i))):=rfl
@[simp]theorem abH:blt .all [.lst ds]=(ds.mapM zP).map λbs=>.val (.bl (bs.all id)):=rfl
@[simp]theorem YH:isVar (.var k)=al k:=rfl
@[simp]theorem ack:pk (a::l) k=match(a::l)[k]?with|some (.val _ d)=>al d|some (.own _ ds)=>al (.lst ds)|some (.lent ds)=>al (.lst ds)|_=>bdq:=rfl
@[simp]theorem Za:Hh (a::l) k=match pk (a::l) k with|some (.lst ds)=>al ds|_=>bdq:=rfl
@[simp]theorem aaI:cN (al k) e ρ=lift (pk ρ k) ρ:=rfl
@[simp]theorem ZZ:cN bdq e ρ=(e ρ).bind λr ρ=>.ok r.d ρ:=rfl
@[simp]theorem Xw{y:Option Nat}:iR (al k) e y f ρ=(lift (pk ρ k) ρ).bind λ_ ρ=>(cN y f ρ).bind λy ρ=>(lift (pk ρ k) ρ).bind λx ρ=>.ok (x,y) ρ:=rfl
@[simp]theorem Xc{y:Option Nat}:iR bdq e y f ρ=(cN bdq e ρ).bind λx ρ=>(cN y f ρ).bind λy ρ=>.ok (x,y) ρ:=rfl
@[simp]theorem XR{es:List D}:dU (.own b ds) (al (.own b' es))=.own b es:=rfl
@[simp]theorem Ys:dU (.own b ds) (al (.val b' d))=.val b d:=rfl
@[simp]theorem Ju:dU a bdq=a:=by cases a<;>rfl
@[simp]theorem Fb:dU (.val b d) x=.val b d:=by cases x<;>rfl
@[simp]theorem XC:dU .aN x=.aN:=by cases x<;>rfl
@[simp]theorem zK:dU (.lent ds) x=.lent ds:=by cases x<;>rfl
@[simp]theorem ZL:cJ ρ [k] bx d=put ρ k (.val a7 d):=rfl
@[simp]theorem Xy{is:List Nat}:cJ ρ is a7 (.tup ds)=putAll ρ is ds:=by cases is<;>rfl
@[simp]theorem Tr:srcOf bdq e ρ=(e ρ).bind λr ρ=>lift (items r.d) ρ:=rfl
@[simp]theorem Vr:srcOf (al k) e (a::l)=match(a::l)[k]?with|some (.val _ d)=>lift (items d) (a::l)|some (.own _ ds)=>.ok ds ((a::l).set k (.lent ds))|some (.lent ds)=>.ok ds (a::l)|_=>.stuck:=rfl
@[simp]theorem QZ{g:List Sl}:aU g bdq ρ=ρ:=rfl
@[simp]theorem RV:aU (a::l) (al k) ρ=match(a::l)[k]?with|some (.own b ds)=>ρ.set k (.own b ds)|_=>ρ:=rfl
@[simp]theorem Zv{s:Sl}:put (a::l) k s=match(a::l)[k]?with|some t=>if fr t=bx then al ((a::l).set k s)else bdq|none=>bdq:=VF ..
@[simp]theorem UJ:putAll ρ [] []=al ρ:=rfl
@[simp]theorem QV{is:List Nat}:putAll ρ (k::is) (d::ds)=(put ρ k (.val a7 d)).bind λρ=>putAll ρ is ds:=rfl
end
@[simp]theorem at_0{a:Type}{b:a}{l:List a}:at' (b::l) 0=al b:=by unfold at' iI;rw[if_pos (by decide),if_pos (by simp only[dL];omega)];rfl
@[simp]theorem at_1{a:Type}{e b:a}{l:List a}:at' (e::b::l) 1=al b:=by unfold at' iI;rw[if_pos (by decide),if_pos (by simp only[dL];omega)];rfl
@[simp]theorem at_2{a:Type}{e f b:a}{l:List a}:at' (e::f::b::l) 2=al b:=by unfold at' iI;rw[if_pos (by decide),if_pos (by simp only[dL];omega)];rfl
@[simp]theorem at_3{a:Type}{e f g b:a}{l:List a}:at' (e::f::g::b::l) 3=al b:=by unfold at' iI;rw[if_pos (by decide),if_pos (by simp only[dL];omega)];rfl
@[simp]theorem at_4{a:Type}{e f g h b:a}{l:List a}:at' (e::f::g::h::b::l) 4=al b:=by unfold at' iI;rw[if_pos (by decide),if_pos (by simp only[dL];omega)];rfl
@[simp]theorem at_5{a:Type}{e f g h i b:a}{l:List a}:at' (e::f::g::h::i::b::l) 5=al b:=by unfold at' iI;rw[if_pos (by decide),if_pos (by simp only[dL];omega)];rfl
@[simp]theorem at_6{a:Type}{e f g h i j b:a}{l:List a}:at' (e::f::g::h::i::j::b::l) 6=al b:=by unfold at' iI;rw[if_pos (by decide),if_pos (by simp only[dL];omega)];rfl
@[simp]theorem at_7{a:Type}{e f g h i j k b:a}{l:List a}:at' (e::f::g::h::i::j::k::b::l) 7=al b:=by unfold at' iI;rw[if_pos (by decide),if_pos (by simp only[dL];omega)];rfl
theorem Ak{a:Type}{l:List a}{i:Int}(h:0<=i)(h':i<l.length):at' l i=l[i.toNat]?:=by unfold at' iI;rw[if_pos h,if_pos h'];rfl
theorem Ja{a:Type}{l:List a}{k:Nat}(h':k<l.length):at' l (k:Int)=l[k]?:=by rw[Ak (by omega) (by omega)];simp
@[simp]theorem Xr{d:D}:isVar (.con d)=bdq:=rfl
@[simp]theorem Yg{o:Op}{p q:P}:isVar (.bin o p q)=bdq:=rfl
@[simp]theorem XD{p:P}:isVar (.neg p)=bdq:=rfl
@[simp]theorem YQ{p:P}:isVar (.not p)=bdq:=rfl
@[simp]theorem YK{p q:P}:isVar (.and p q)=bdq:=rfl
@[simp]theorem aas{p q:P}:isVar (.or p q)=bdq:=rfl
@[simp]theorem Xg{o:Cm}{p q:P}:isVar (.cmp o p q)=bdq:=rfl
@[simp]theorem QL{o a:Cm}{p q r:P}:isVar (.chain o a p q r)=bdq:=rfl
@[simp]theorem Ye{p q r:P}:isVar (.R0 p q r)=bdq:=rfl
@[simp]theorem Xz{as:List P}:isVar (.tup as)=bdq:=rfl
@[simp]theorem Yw{as:List P}:isVar (.lst as)=bdq:=rfl
@[simp]theorem Yr{p q:P}:isVar (.idx p q)=bdq:=rfl
@[simp]theorem RN{p q r:P}:isVar (.slice p q r)=bdq:=rfl
@[simp]theorem Tw{f:Nat}{as:List P}:isVar (.call f as)=bdq:=rfl
@[simp]theorem Yh{b:ZD}{as:List P}:isVar (.blt b as)=bdq:=rfl
@[simp]theorem Up{a:List Ty}{p:P}:isVar (.inst a p)=bdq:=rfl
@[simp]theorem Wd{p e:P}{n:Nat}{is:List Nat}{one:Bool}{t:Option P}:isVar (.comp p n is one t e)=bdq:=rfl
@[simp]theorem Yi{p q:P}:isVar (.wX p q)=bdq:=rfl
@[simp]theorem YG{p:P}:isVar (.Y4 p)=bdq:=rfl
@[simp]theorem Yd{p q:P}:isVar (.zip p q)=bdq:=rfl
noncomputable def oW(c:Call)(is:List Nat)(one:Bool)(a:Option P)(b:P)(ds:List D)(ρ:List Sl):Res (List D):=turns is one (tL c a) (ev c b) ds [] ρ
@[simp]theorem acP{c:Call}{src f:P}{n:Nat}{is:List Nat}{one:Bool}{b:Option P}{ρ:List Sl}:ev c (.comp src n is one b f) ρ=(srcOf (isVar src) (ev c src) ρ).bind λds a=>if ds.length<=lim then(oW c is one b f ds (a++cq n .aN)).bind λxs e=>.ok (.own xs) (aU ρ (isVar src) (e.take a.length))else .stuck:=(rfl)
noncomputable def Io(c:Call)(n:Nat)(t:P)(body:List S)(k:Nat)(ρ:List Sl):Res Fl:=qZ (iY (ev c t)) (gj c n body) k ρ
@[simp]theorem aeq{c:Call}{n:Nat}{t:P}{body:List S}{ρ:List Sl}:ex c n (.whl t body) ρ=Io c n t body n ρ:=(rfl)
theorem wz{b e h:Type}{x:Res e}{f:e->List Sl->Res b}{g:b->List Sl->Res h}:(x.bind f).bind g=x.bind λa ρ=>(f a ρ).bind g:=by cases x<;>rfl
@[simp]theorem ae2{Γ:Tab}{w n i:Nat}{args:List Sl}{b:Type}{f:R->List Sl->Res b}{Q:b->List Sl->Prop}:((run Γ w n i args).bind f).sat Q=(run Γ w n i args).sat λa ρ=>(f a ρ).sat Q:=cG
@[simp]theorem aem{Γ:Tab}{w n i:Nat}{args:List Sl}{b e:Type}{f:R->List Sl->Res b}{g:b->List Sl->Res e}:((run Γ w n i args).bind f).bind g=(run Γ w n i args).bind λa ρ=>(f a ρ).bind g:=wz
@[simp]theorem acw{c:Call}{is:List Nat}{one:Bool}{b:Option P}{e:P}{ds:List D}{ρ:List Sl}{g:Type}{f:List D->List Sl->Res g}{Q:g->List Sl->Prop}:((oW c is one b e ds ρ).bind f).sat Q=(oW c is one b e ds ρ).sat λa ρ=>(f a ρ).sat Q:=cG
@[simp]theorem abF{c:Call}{is:List Nat}{one:Bool}{b:Option P}{e:P}{ds:List D}{ρ:List Sl}{h i:Type}{f:List D->List Sl->Res h}{g:h->List Sl->Res i}:((oW c is one b e ds ρ).bind f).bind g=(oW c is one b e ds ρ).bind λa ρ=>(f a ρ).bind g:=wz
@[simp]theorem ad8{is:List Nat}{one:Bool}{b:List Sl->Res Fl}{ds:List D}{ρ:List Sl}{e:Type}{f:Fl->List Sl->Res e}{Q:e->List Sl->Prop}:((jf is one b ds ρ).bind f).sat Q=(jf is one b ds ρ).sat λa ρ=>(f a ρ).sat Q:=cG
@[simp]theorem acH{b e:Type}{p:Prop}[Decidable p]{a:e}{ρ:List Sl}{f:e->List Sl->Res b}{Q:b->List Sl->Prop}:((lift (if p then al a else bdq) ρ).bind f).sat Q=(p/\(f a ρ).sat Q):=by by_cases h:p<;>simp[h,lift,Res.bind]
@[simp]theorem abG{b e h:Type}{p:Prop}[Decidable p]{a:e}{ρ:List Sl}{f:e->List Sl->Res b}{g:b->List Sl->Res h}:((lift (if p then al a else bdq) ρ).bind f).bind g=(lift (if p then al a else bdq) ρ).bind λa ρ=>(f a ρ).bind g:=wz
@[simp]theorem bb_ite{b a:Type}{p:Prop}[Decidable p]{x y:Res a}{f:a->List Sl->Res b}:(if p then x else y).bind f=if p then x.bind f else y.bind f:=by by_cases h:p<;>simp[h]
@[simp]theorem ael{c:Call}{n k:Nat}{t:P}{b:List S}{ρ:List Sl}{e:Type}{f:Fl->List Sl->Res e}{Q:e->List Sl->Prop}:((Io c n t b k ρ).bind f).sat Q=(Io c n t b k ρ).sat λa ρ=>(f a ρ).sat Q:=cG
@[simp]theorem aeG{b e:Type}{a:b}{ρ:List Sl}{f:b->List Sl->Res e}:(Res.ok a ρ).bind f=f a ρ:=rfl
@[simp]theorem Yo{a b:Type}{f:a->List Sl->Res b}:(Res.stuck:Res a).bind f=.stuck:=rfl
@[simp]theorem aaR{b:Type}{a:b}{ρ:List Sl}:lift (al a) ρ=.ok a ρ:=rfl
@[simp]theorem aaF{a:Type}{ρ:List Sl}:lift (bdq:Option a) ρ=.stuck:=rfl
noncomputable def Hd:List Sl->Nat->Sl->List Sl|[],_,_=>[]|t::ρ,0,s=>dU t (al s)::ρ|t::ρ,k+1,s=>t::Hd ρ k s
theorem rM{k:Nat}{s:Sl}:Hd [] k s=[]:=rfl
theorem rJ{t:Sl}{ρ:List Sl}{s:Sl}:Hd (t::ρ) 0 s=dU t (al s)::ρ:=rfl
theorem qm{t:Sl}{ρ:List Sl}{k:Nat}{s:Sl}:Hd (t::ρ) (k+1) s=t::Hd ρ k s:=rfl
noncomputable def bk:List Arg->List Sl->List Sl->List Sl|.fM k::as,s::ss,ρ=>bk as ss (Hd ρ k s)|.dat _::as,_::ss,ρ=>bk as ss ρ|.tmp _::as,_::ss,ρ=>bk as ss ρ|_,_,ρ=>ρ
section
variable{t s:Sl}{ρ ss:List Sl}{k:Nat}{as:List Arg}{d:D}{ds:List D}
@[simp]theorem ahf:Hd (t::ρ) 0 s=dU t (al s)::ρ:=rfl
@[simp]theorem ahN:Hd (t::ρ) (k+1) s=t::Hd ρ k s:=rfl
@[simp]theorem TF:bk (.fM k::as) (s::ss) ρ=bk as ss (Hd ρ k s):=rfl
@[simp]theorem WR:bk (.dat d::as) (s::ss) ρ=bk as ss ρ:=rfl
@[simp]theorem TV:bk (.tmp ds::as) (s::ss) ρ=bk as ss ρ:=rfl
@[simp]theorem afA:bk [] ss ρ=ρ:=rfl
end
theorem Ax{s:Sl}:∀{ρ:List Sl}{k j:Nat},(Hd ρ k s)[j]?=(ρ[j]?).map λt=>if j=k then dU t (al s)else t|[],_,_=>by simp[rM,rJ,qm]|t::ρ,0,0=>by simp[rM,rJ,qm]|t::ρ,0,j+1=>by simp[rM,rJ,qm]|t::ρ,k+1,0=>by simp[rM,rJ,qm]|t::ρ,k+1,j+1=>by have:=Ax (s:=s) (ρ:=ρ) (k:=k) (j:=j);simp only[rM,rJ,qm,kw,this];congr 1;funext t;simp
theorem yE{as:List Arg}{ss:List Sl}:∀{ρ:List Sl}{i j:Nat},(eV as ss i ρ)[j]?=(ρ[j]?).map λt=>dU t (aY (i+j) as ss)|[],_,_=>by simp[rB,lU]|t::ρ,i,0=>by simp[rB,lU]|t::ρ,i,j+1=>by have:=yE (as:=as) (ss:=ss) (ρ:=ρ) (i:=i+1) (j:=j);simp only[rB,lU,kw,this];rw[show i+1+j=i+(j+1)by omega]
noncomputable def stb(t:Sl):Prop:=∀x,dU t x=t
noncomputable def Vv(ρ:List Sl):List Arg->Prop|[]=>True|.fM k::as=>(Arg.fM k∈as->∀t,ρ[k]?=al t->stb t)/\Vv ρ as|_::as=>Vv ρ as
theorem pZ{ρ:List Sl}:∀{as:List Arg}{a:List Sl},Vv ρ as->(∀k,Arg.fM k∈as->∀t,a[k]?=al t->ρ[k]?=al t\/stb t)->Vv a as
 |[],_,_,_=>trivial|.fM k::as,a,h,g=>⟨λf t ht=>by
  rcases g k (by simp) t ht with e|e;.exact h.1 f t e
  .exact e,pZ h.2 λj b=>g j (by simp[b])⟩|.dat _::as,a,h,g=>pZ (as:=as) h λj b=>g j (by simp[b])|.tmp _::as,a,h,g=>pZ (as:=as) h λj b=>g j (by simp[b])
theorem m8{k:Nat}:∀{as:List Arg}{ss:List Sl},Arg.fM k∉as->aY k as ss=bdq|[],_,_=>by unfold aY;rfl|.fM j::as,[],_=>rfl|.dat _::as,[],_=>rfl|.tmp _::as,[],_=>rfl|.fM j::as,s::ss,h=>by simp only[cS,Arg.fM.injEq,not_or]at h;rw[aY,if_neg (λe=>h.1 e.symm),m8 h.2]|.dat _::as,s::ss,h=>by simp only[cS,not_or]at h;rw[aY,m8 h.2]|.tmp _::as,s::ss,h=>by simp only[cS,not_or]at h;rw[aY,m8 h.2]
theorem Ei:∀{as:List Arg}{ss ρ:List Sl},Vv ρ as->∀j,(bk as ss ρ)[j]?=(ρ[j]?).map λt=>dU t (aY j as ss)
 |[],ss,ρ,_,j=>by cases ss<;>simp[aY]|.fM k::as,[],ρ,_,j=>by rw[show bk (.fM k::as) [] ρ=ρ from rfl];simp[aY]|.dat d::as,[],ρ,_,j=>by rw[show bk (.dat d::as) [] ρ=ρ from rfl];simp[aY]|.tmp d::as,[],ρ,_,j=>by rw[show bk (.tmp d::as) [] ρ=ρ from rfl];simp[aY]|.dat _::as,s::ss,ρ,h,j=>by rw[WR,aY];exact Ei (as:=as) h j|.tmp _::as,s::ss,ρ,h,j=>by rw[TV,aY];exact Ei (as:=as) h j|.fM k::as,s::ss,ρ,h,j=>by
   have b:Vv (Hd ρ k s) as:=pZ h.2 λi hi t ht=>by rw[Ax]at ht;cases e:ρ[i]?with|none=>rw[e]at ht;cases ht|some t0=>
      rw[e]at ht;by_cases c:i=k;.subst c;have hs:=h.1 hi t0 e;simp[hs (al s)]at ht;exact .inl (by rw[ht])
      .simp[c]at ht;exact .inl (by rw[ht])
   rw[TF,Ei b j,Ax,aY];cases e:ρ[j]?with|none=>rfl|some t0=>
     simp only[ky];by_cases c:j=k
     . subst c;rw[if_pos rfl,if_pos rfl];by_cases a:Arg.fM j∈as;.have hs:=h.1 a t0 e;rw[hs (al s),hs]
       .rw[m8 a,Ju]
     .rw[if_neg c,if_neg (λz=>c z.symm)]
theorem gC{ρ:List Sl}{k:Nat}{b:Bool}{ds:List D}(e:ρ[k]?=al (.own b ds)):∀{as:List Arg}{u:List Nat}{r:List Sl},k∈u->cz ρ as u=al r->Arg.fM k∉as
 |[],_,_,_,_=>by simp|.dat _::as,u,r,a,h=>by simp only[Av,Bp,Bj,qp,fe]at h;obtain⟨f,h,_⟩:=h;simp[gC e a h]|.tmp _::as,u,r,a,h=>by simp only[Av,Bp,Bj,qp,fe]at h;obtain⟨f,h,_⟩:=h;simp[gC e a h]|.fM i::as,u,r,a,h=>by
   rw[qp]at h;have hi:i≠k:=by rintro rfl;rw[e]at h;simp[a]at h
   have:Arg.fM k∉as:=by
    split at h;.obtain⟨f,h,_⟩:=fe.mp h;exact gC e a h
    . split at h;.cases h
      .obtain⟨f,h,_⟩:=fe.mp h;exact gC e (by simp[a]) h
    . split at h;.cases h
      .obtain⟨f,h,_⟩:=fe.mp h;exact gC e (by simp[a]) h
    .cases h
   simp[this];exact λz=>hi z.symm
theorem gB{ρ:List Sl}:∀{as:List Arg}{u:List Nat}{r:List Sl},cz ρ as u=al r->Vv ρ as
 |[],_,_,_=>trivial|.dat _::as,u,r,h=>by obtain⟨a,h,_⟩:=fe.mp h;exact gB (as:=as) h|.tmp _::as,u,r,h=>by obtain⟨a,h,_⟩:=fe.mp h;exact gB (as:=as) h|.fM i::as,u,r,h=>by
   rw[qp]at h;split at h;.rename_i b d q;obtain⟨a,h,_⟩:=fe.mp h;exact⟨λ_ t ht=>by rw[q]at ht;cases ht;exact λx=>Fb,gB h⟩
   . rename_i b ds q;split at h;.cases h
     .obtain⟨a,h,_⟩:=fe.mp h;exact⟨λe=>absurd e (gC q (by simp) h),gB h⟩
   . rename_i ds q;split at h;.cases h
     .obtain⟨a,h,_⟩:=fe.mp h;exact⟨λ_ t ht=>by rw[q]at ht;cases ht;exact λx=>zK,gB h⟩
   .cases h
theorem ZV{as:List Arg}{ss r:List Sl}{u:List Nat}(h:cz ρ as u=al r):eV as ss 0 ρ=bk as ss ρ:=by apply List.ext_getElem?;intro j;rw[yE,Ei (gB h),oo]
@[simp]theorem Yx{c:Call}{k:Nat}{as:List Arg}{ρ:List Sl}:p8 c k as ρ=match cz ρ as []with|none=>.stuck|some args=>(c k args).bind λr a=>.ok r (bk as a ρ):=by unfold p8;cases e:cz ρ as []with|none=>rfl|some args=>simp only[<-ZV (r:=args) e];cases c k args<;>rfl
theorem cg{one:Bool}{a:P}(J:List Sl->Prop)(g:D->D){Q:List D->List Sl->Prop}(j:J ρ)(h:∀d,d∈ds->∀ρ,J ρ->∃b,cJ ρ is one d=al b/\(ev c a b).sat λr e=>g d=r.d/\J e)(k:∀ρ,J ρ->Q (ds.map g) ρ):(oW c is one bdq a ds ρ).sat Q:=Az J g j h k
theorem kW{one:Bool}{f t:P}(J:List Sl->Prop)(g:D->Option D){Q:List D->List Sl->Prop}(j:J ρ)(h:∀d,d∈ds->∀ρ,J ρ->∃a,cJ ρ is one d=al a/\(ev c t a).sat λr ρ2=>∃b,r.d=.bl b/\if b=bx then(ev c f ρ2).sat λr i=>g d=al r.d/\J i else g d=bdq/\J ρ2)(k:∀ρ,J ρ->Q (ds.filterMap g) ρ):(oW c is one (al t) f ds ρ).sat Q:=lq J g j (λd hd ρ j=>by obtain⟨a,e,h1⟩:=h d hd ρ j;refine⟨a,e,?_⟩;rw[tL,iY,cG];refine h1.imp λr ρ2⟨b,e,q⟩=>?_;rw[e];exact q) λρ j=>by simpa using k ρ j
theorem j5{c:Call}{n:Nat}{t:P}{body:List S}(J:Nat->List Sl->Prop){Q:Fl->List Sl->Prop}(h:∀m ρ,J m ρ->(ev c t ρ).sat λr a=>∃b,r.d=.bl b/\if b=bx then(gj c n body a).sat (fQ (λρ2=>∃f,f<m/\J f ρ2) Q)else Q .next a):∀{k m:Nat}{ρ:List Sl},m<k->J m ρ->(Io c n t body k ρ).sat Q|0,m,ρ,g,_=>absurd g (Nat.not_lt_zero _)|k+1,m,ρ,g,j=>by unfold Io;rw[Jr,cG,iY,cG];refine(h m ρ j).imp λr a⟨b,e,q⟩=>?_;rw[e];show(if b=bx then _ else _:Res Fl).sat Q;cases b with|false=>rw[if_neg (by simp)]at q;rw[if_neg (by simp)];exact q|true=>rw[if_pos rfl]at q;rw[if_pos rfl,cG];refine q.imp λfl ρ2 q=>?_;cases fl with|next=>obtain⟨f,i,l⟩:=q;exact j5 J h (d_ i (Nat.lt_succ_iff.mp g)) l|cont=>obtain⟨f,i,l⟩:=q;exact j5 J h (d_ i (Nat.lt_succ_iff.mp g)) l|brk=>exact q|ret v=>exact q
@[simp]theorem ahj:type_of%@_H.E1:=@_H.E1
@[simp]theorem ahP:type_of%@_H.E2:=@_H.E2
@[simp]theorem ahU:type_of%@_H.E3:=@_H.E3
@[simp]theorem ahL:type_of%@_H.E4:=@_H.E4
@[simp]theorem ahu:type_of%@_H.E5:=@_H.E5
@[simp]theorem ahR:type_of%@_H.E6:=@_H.E6
@[simp]theorem ahs:type_of%@_H.E7:=@_H.E7
@[simp]theorem ahh:type_of%@_H.E8:=@_H.E8
@[simp]theorem afB:type_of%@_H.E9:=@_H.E9
@[simp]theorem aeK:type_of%@_H.E10:=@_H.E10
@[simp]theorem afU:type_of%@_H.E11:=@_H.E11
@[simp]theorem adW:type_of%@_H.E12:=@_H.E12
@[simp]theorem aee:type_of%@_H.E13:=@_H.E13
@[simp]theorem afY:type_of%@_H.E14:=@_H.E14
@[simp]theorem af5:type_of%@_H.E15:=@_H.E15
@[simp]theorem aeI:type_of%@_H.E16:=@_H.E16
@[simp]theorem ae8:type_of%@_H.E17:=@_H.E17
@[simp]theorem acJ:type_of%@_H.ZG:=@_H.ZG
@[simp]theorem aef:type_of%@_H.E18:=@_H.E18
@[simp]theorem afQ:type_of%@_H.E19:=@_H.E19
@[simp]theorem aeJ:type_of%@_H.E20:=@_H.E20
@[simp]theorem ae9:type_of%@_H.E21:=@_H.E21
@[simp]theorem afW:type_of%@_H.E22:=@_H.E22
@[simp]theorem ahv:type_of%@_H.X1:=@_H.X1
@[simp]theorem ahK:type_of%@_H.X2:=@_H.X2
@[simp]theorem ahM:type_of%@_H.X3:=@_H.X3
@[simp]theorem ahr:type_of%@_H.X4:=@_H.X4
@[simp]theorem ahH:type_of%@_H.X5:=@_H.X5
@[simp]theorem ahF:type_of%@_H.X6:=@_H.X6
@[simp]theorem ahi:type_of%@_H.X7:=@_H.X7
@[simp]theorem ahX:type_of%@_H.X8:=@_H.X8
@[simp]theorem ahd:type_of%@_H.X9:=@_H.X9
@[simp]theorem adF:type_of%@_H.X10:=@_H.X10
@[simp]theorem afo:type_of%@_H.X11:=@_H.X11
@[simp]theorem aew:type_of%@_H.X12:=@_H.X12
@[simp]theorem aeA:type_of%@_H.X13:=@_H.X13
@[simp]theorem aeZ:type_of%@_H.X14:=@_H.X14
@[simp]theorem adZ:type_of%@_H.iY.eq_1:=@_H.iY.eq_1
@[simp]theorem aeo:type_of%@_H.evs.eq_1:=@_H.evs.eq_1
@[simp]theorem agg:type_of%@_H.evs.eq_2:=@_H.evs.eq_2
@[simp]theorem aeU:type_of%@_H.Aj.eq_1:=@_H.Aj.eq_1
@[simp]theorem afj:type_of%@_H.Aj.eq_2:=@_H.Aj.eq_2
@[simp]theorem aeW:type_of%@_H.tL.eq_1:=@_H.tL.eq_1
@[simp]theorem adX:type_of%@_H.tL.eq_2:=@_H.tL.eq_2
@[simp]theorem af9:type_of%@_H.pG.eq_1:=@_H.pG.eq_1
@[simp]theorem aaC:type_of%@_H.cz.eq_1:=@_H.cz.eq_1
@[simp]theorem aab:type_of%@_H.cz.eq_2:=@_H.cz.eq_2
@[simp]theorem aaQ:type_of%@_H.cz.eq_3:=@_H.cz.eq_3
@[simp]theorem Zr:type_of%@_H.cz.eq_4:=@_H.cz.eq_4
@[simp]theorem Z1:type_of%@_H.eV.eq_1:=@_H.eV.eq_1
@[simp]theorem aaO:type_of%@_H.eV.eq_2:=@_H.eV.eq_2
@[simp]theorem aaU:type_of%@_H.aY.eq_1:=@_H.aY.eq_1
@[simp]theorem Zt:type_of%@_H.aY.eq_2:=@_H.aY.eq_2
@[simp]theorem ZC:type_of%@_H.aY.eq_3:=@_H.aY.eq_3
@[simp]theorem aaq:type_of%@_H.aY.eq_4:=@_H.aY.eq_4
end _H
namespace _H
open PySem _L Spec PyProof.Rows
variable{H:Hp}
section
variable{X:Cx}{c:Call}{a b:df}{pa pb:P}{pos:Pos}
theorem qR:∀{e:List D}{ns:List Int},e.mapM iJ=al ns->e=ns.map D.int|[],ns,h=>by simp at h;subst h;rfl|d::e,ns,h=>by simp[List.mapM_cons,Option.bind_eq_some_iff]at h;obtain⟨i,f,j,g,rfl⟩:=h;rw[dg f,qR g];rfl
theorem jZ{K:PySem.W.Frag}{F:Hp}:∀{ns:List Int}{ys:List V},aF K F ys (ns.map D.int)->ys=ns.map V.int|[],ys,h=>by rw[h.fu];rfl|n::ns,ys,h=>by obtain⟨v,r,rfl,h1,t⟩:=h.cF;rw[Rep]at h1;rw[h1,jZ t];rfl
theorem vo{ns:List Int}{f:List bw}(h:Vals (ns.map V.int) f){i:Nat}{v:bw}(e:f.toArray[i]?=al v):∃t,v=.int (ns.getD i 0) t:=by
 have e:f[i]?=al v:=by simpa using e
 have hi:i<f.length:=(dX e).1;have k:=h.length;rw[dQ]at k;have g:(ns.map V.int)[i]?=al (.int (ns.getD i 0)):=by rw[er,fS (by omega)];simp[jv,show i<ns.length by omega]
 obtain⟨w,j,l⟩:=h.get g;rw[e]at j;cases j;exact l
theorem walked{h:List (b_×Obj)}{σ:_L.St}{s:bZ}{p:b_}{ys:List V}(I:_L.Inv X h σ H s)(hc:X.calm=bx)(hq:dF X.K H p ys\/iB X.K H p ys){Q:bw->bZ->Prop}{E:bw->bZ->Prop}(k:∀(it:b_)(g:List bw)(e:bZ)(St:Nat->ew->Prop),Vals ys g->Walks X.prog X.w X.A.in1 it [it,p] [it] g.toArray.size (λi v=>g.toArray[i]?=al v) St->St 0 e.heap->(∀ b ∈[it,p],b<e.heap.objs.size)->(∀h' tk,(∀b o,b∉[it]->e.heap.get? b=al o->h'.get? b=al o)->_L.Inv X h σ H {e with heap:=h',toks:=tk})->Q (.ref it) e):cy (cE X.prog X.w) X.A.in1 (qE (.ref p)) Q E s:=by
 have q:X.A.in1.handled=bdq:=I.ok.hd hc;rcases hq with hq|hq
 . obtain⟨g,m,f,hz⟩:=I.list hq;have f:=f.isList;have j:p<s.heap.objs.size:=by obtain⟨o,h1,_⟩:=f;exact de h1
   refine gy f (k s.heap.objs.size g _ _ m (Walks.list q s.heap.objs.size p (dP j) g.toArray) ⟨⟨_,cv _ rfl,rfl,rfl⟩,?_⟩ ?_ λh' tk kp=>?_);.obtain⟨o,h1,n⟩:=f;exact⟨o,dB h1,n⟩
   . intro b l;obtain⟨o,h1,_⟩:=f;simp at l;rcases l with rfl|rfl;.exact de (cv _ rfl)
     .exact de (dB h1)
   .exact I.kept (λb o z=>kp b o (by simp;exact dP (de z)) (dB z))
 . obtain⟨g,m,f,hz⟩:=I.tuple hq;have j:p<s.heap.objs.size:=by obtain⟨o,h1,_⟩:=f;exact de h1
   refine fg f (k s.heap.objs.size g _ _ m (Walks.tuple q s.heap.objs.size p (dP j) g.toArray) ⟨⟨_,cv _ rfl,rfl,rfl⟩,?_⟩ ?_ λh' tk kp=>?_);.obtain⟨o,h1,n⟩:=f;exact⟨o,dB h1,n⟩
   . intro b l;obtain⟨o,h1,_⟩:=f;simp at l;rcases l with rfl|rfl;.exact de (cv _ rfl)
     .exact de (dB h1)
   .exact I.kept (λb o z=>kp b o (by simp;exact dP (de z)) (dB z))
theorem oH(ns:List Int):∀k,k<=ns.length->preSum (λi=>ns.getD i 0) k=(ns.take k).sum|0,_=>by simp[preSum]|k+1,h=>by rw[preSum,oH ns k (by omega),List.take_succ,List.sum_append];simp[jv,show k<ns.length by omega]
theorem Zu(hc:X.calm=bx):eY X (.builtin "sum") (Rh X.K λx=>blt .sum [x]):=by
 rintro g s σ H xs h Q I r⟨x,o,F,d,q,sm,t,he,k⟩;obtain⟨ns,w,he⟩:=map_some (show((items d).bind λj=>j.mapM iJ).map _=al q from he);subst he;obtain⟨j,y,z⟩:=cC w;obtain⟨p,ys,rfl,A,l⟩:=t.items sm y;rw[qR z]at l;have B:=jZ l;subst o;obtain⟨u,rfl,C⟩:=r.one;cases C;refine call_sum_walkG (walked I hc A λit h m St n W h0 E kp=>?_);subst B;have f:h.toArray.size=ns.length:=by rw[cx,<-n.length,dQ]
 refine⟨it,_,_,_,_,St,λi=>ns.getD i 0,rfl,W,h0,E,λi v e=>vo n e,λh' tk t' G=>?_⟩;rw[f,oH ns _ (dq),List.take_length];exact⟨.int _,H,kp h' tk G,⟨t',rfl⟩,cH.cY sm (cu _) k⟩
theorem JC{ns:List Int}{m:Int}(k:ns.min?=al m):ns.getD (argBest (λi j=>decide (ns.getD i 0<ns.getD j 0)) (ns.length-1)) 0=m:=by
 have h:ns≠[]:=by rintro rfl;simp at k
 have r:0<ns.length:=List.length_pos_iff.mpr h;obtain⟨h1,n⟩:=argBest_lt (λi=>ns.getD i 0) (ns.length-1);have l:=ox.mp k;generalize argBest (λi j=>decide (ns.getD i 0<ns.getD j 0)) (ns.length-1)=j at*;have o:j<ns.length:=by omega
 have f:ns.getD j 0∈ns:=by simp[jv,o]
 obtain⟨q,p,e⟩:=List.getElem_of_mem l.1;have g:=n q (by omega);simp only[jv,fS p,Option.getD_some]at g;rw[e]at g;have s:=l.2 _ f;have g:ns.getD j 0<=m:=g;omega
theorem Wz(hc:X.calm=bx):eY X (.builtin "min") (Rh X.K λx=>blt .G6 [x]):=by
 rintro j s σ H xs l Q I r⟨x,z,F,d,A,sm,B,he,k⟩;obtain⟨ns,C,he⟩:=cC (show((items d).bind λn=>n.mapM iJ).bind _=al A from he);obtain⟨m,o,he⟩:=map_some he;subst he;obtain⟨n,E,G⟩:=cC C;obtain⟨p,ys,rfl,J,q⟩:=B.items sm E;rw[qR G]at q;have L:=jZ q;subst z;obtain⟨u,rfl,M⟩:=r.one;cases M;refine call_min_walk (walked I hc J λit l w St h W h0 N kp=>?_);subst L;have f:l.toArray.size=ns.length:=by rw[cx,<-h.length,dQ]
 have g:0<ns.length:=by cases ns with|nil=>simp at o|cons _ _=>simp
 refine⟨it,_,_,_,_,St,_,rfl,W,h0,N,by rw[f];exact g,CmpOf.ints_lt (λi=>ns.getD i 0) (λi v e=>vo h e),λv h' tk y O=>?_⟩;rw[f]at y;obtain⟨t,rfl⟩:=vo h y;rw[JC o];exact⟨.int _,H,kp h' tk O,⟨t,rfl⟩,cH.cY sm (cu _) k⟩
theorem boot_sum:eK "sum"=al (.builtin "sum"):=by decide+kernel
theorem kh{x:Str}{e:Pos}(f:x="sum")(hc:X.calm=bx)(g:Gl X x)(i:X.mg x=bdq)(j:SX X c a pa)(hs:cw [a] X.env=(a7,eu a X.env)::cw [] X.env:=by rfl):SX X c (.Call (.Name x e) [a] [] pos) (.blt .sum [pa]):=by subst f;exact rY (λh=>fW (Zu hc) g i boot_sum h (he:=hs)) j (λρ=>rfl) rfl hs
theorem Dj{x:Str}{e:Pos}(f:x="min")(hc:X.calm=bx)(g:Gl X x)(i:X.mg x=bdq)(j:SX X c a pa)(hs:cw [a] X.env=(a7,eu a X.env)::cw [] X.env:=by rfl):SX X c (.Call (.Name x e) [a] [] pos) (.blt .G6 [pa]):=by subst f;exact rY (λh=>fW (Wz hc) g i boot_min h (he:=hs)) j (λρ=>rfl) rfl hs
theorem zF{K:PySem.W.Frag}{F H:Hp}{v:V}{d:D}(h:dw K F H v d)(f:flat d=bx):lE v=bx:=by cases d with|non=>rw[h.non];rfl|bl _=>rw[h.bl];rfl|int _=>rw[h.int];rfl|str _=>rw[h.str];rfl|tup _=>cases f|lst _=>cases f|dz _=>cases f|dv _ _=>cases f
theorem adU{K:PySem.W.Frag}{F H:Hp}{v u:V}{d e:D}(h:dw K F H v d)(h':dw K F H u e)(f:flat d=bx)(g:flat e=bx):M7 v u=jP d e:=by cases d with
 |tup _=>cases f|lst _=>cases f|dz _=>cases f|dv _ _=>cases f|non=>rw[h.non];cases e with|tup _=>cases g|lst _=>cases g|dz _=>cases g|dv _ _=>cases g|non=>rw[h'.non];rfl|bl _=>rw[h'.bl];rfl|int _=>rw[h'.int];rfl|str _=>rw[h'.str];rfl
 |bl _=>rw[h.bl];cases e with|tup _=>cases g|lst _=>cases g|dz _=>cases g|dv _ _=>cases g|non=>rw[h'.non];rfl|bl _=>rw[h'.bl];rfl|int _=>rw[h'.int];rfl|str _=>rw[h'.str];rfl
 |int _=>rw[h.int];cases e with|tup _=>cases g|lst _=>cases g|dz _=>cases g|dv _ _=>cases g|non=>rw[h'.non];rfl|bl _=>rw[h'.bl];rfl|int _=>rw[h'.int];rfl|str _=>rw[h'.str];rfl
 |str _=>rw[h.str];cases e with|tup _=>cases g|lst _=>cases g|dz _=>cases g|dv _ _=>cases g|non=>rw[h'.non];rfl|bl _=>rw[h'.bl];rfl|int _=>rw[h'.int];rfl|str _=>rw[h'.str];rfl
theorem U7{K:PySem.W.Frag}{F H:Hp}{v:V}{d:D}(h:dw K F H v d)(f:flat d=bx):∀{i:List D}{vs:List V},aF K F vs i->i.all flat=bx->vs.all lE=bx/\inV v vs=i.any λy=>jP y d|[],vs,r,_=>by rw[r.fu];exact⟨rfl,rfl⟩|e::i,vs,r,g=>by obtain⟨w,ws,rfl,h1,t⟩:=r.cF;rw[kq,ey]at g;obtain⟨k,j⟩:=U7 h f t g.2;have q:dw K F H w e:=.inl h1;refine⟨by rw[kq,zF q g.1,k];rfl,?_⟩;unfold inV at j ⊢;rw[jp,jp,j,adU q h g.1 f]
theorem Nz:fX X (dO .In) (rD X.K (pG .inn)):=by rintro f s σ H x y v u Q I i j⟨F,d,e,r,sm,h,l,he,k⟩;obtain⟨t,m,n⟩:=map_some (show(yh a7 d e).map _=al r from he);subst n;obtain⟨E,o,q⟩:=cC m;obtain⟨g,w⟩:=bf q;rw[ey]at g;obtain⟨p,xs,rfl,z,A⟩:=l.items sm o;obtain⟨B,C⟩:=U7 h g.1 A g.2;subst w;refine Gv f s σ H x _ v u Q I i j ⟨p,xs,rfl,z,zF h g.1,B,?_⟩;rw[C];exact cH.cY sm (dZ _) k
theorem G5:fX X (dO .NotIn) (rD X.K (pG .Ew)):=by rintro f s σ H x y v u Q I i j⟨F,d,e,r,sm,h,l,he,k⟩;obtain⟨t,m,n⟩:=map_some (show(yh bx d e).map _=al r from he);subst n;obtain⟨E,o,q⟩:=cC m;obtain⟨g,w⟩:=bf q;rw[ey]at g;obtain⟨p,xs,rfl,z,A⟩:=l.items sm o;obtain⟨B,C⟩:=U7 h g.1 A g.2;subst w;refine v8 f s σ H x _ v u Q I i j ⟨p,xs,rfl,z,zF h g.1,B,?_⟩;rw[C];exact cH.cY sm (dZ _) k
end
end _H
namespace _H
open PySem
section
variable{i j:Int}{ds es:List D}{d:D}{b b':Bool}
@[simp]theorem acC:tu .shl=JG:=rfl
@[simp]theorem abV:tu .shr=KH:=rfl
@[simp]theorem aam:tu .band=Ae:=rfl
@[simp]theorem Xl:JG (.int i) (.int j)=if 0<=j/\j<=1000/\i.natAbs<18446744073709551616 then al (.val (.int (i*2^j.toNat)))else bdq:=rfl
@[simp]theorem Xu:KH (.int i) (.int j)=if 0<=j then al (.val (.int (i/2^j.toNat)))else bdq:=rfl
@[simp]theorem Ul:Ae (.int i) (.int j)=al (.val (.int (Builtin.bitAnd i j))):=rfl
@[simp]theorem XN:lC (.lst ds) (.int i)=if 0<=i/\0<ds.length/\ds.length*i.toNat<=lim then al (.own (cq i.toNat ds).flatten)else bdq:=rfl
@[simp]theorem Xh:lC (.tup ds) (.int i)=if 0<=i/\0<ds.length/\ds.length*i.toNat<=lim then al (.val (.tup (cq i.toNat ds).flatten))else bdq:=rfl
@[simp]theorem ae0:cm .isT (.bl b) (.bl bx)=al b:=rfl
@[simp]theorem acz:cm .Qx (.bl b) (.bl bx)=al (!b):=rfl
@[simp]theorem acF:blt .sum [.lst ds]=(ds.mapM iJ).map λns=>.val (.int ns.sum):=rfl
@[simp]theorem aaW:blt .G6 [.lst ds]=(ds.mapM iJ).bind λns=>ns.min?.map λi=>.val (.int i):=rfl
end
@[simp]theorem afE:type_of%@_H.X16:=@_H.X16
@[simp]theorem afL:type_of%@_H.X17:=@_H.X17
theorem eO{ns:List Int}:(ns.map D.int).mapM iJ=al ns:=by induction ns with|nil=>rfl|cons n ns a=>simp[a]
@[simp]theorem Xi{ns:List Int}:ns.mapM (iJ ∘ D.int)=al ns:=by rw[<-eO (ns:=ns),List.mapM_map]
@[simp]theorem Zd{bs:List Bool}:bs.mapM (zP ∘ D.bl)=al bs:=by induction bs with|nil=>rfl|cons b bs a=>simp[a]
theorem Dp{S:List Int}{i:Int}:((S.map D.int).any λy=>jP y (.int i))=S.contains i:=by induction S with|nil=>rfl|cons s S a=>rw[dc,jp,List.contains_cons,a,pqi];rw[show(s==i)=(i==s)from Bool.eq_iff_iff.mpr ⟨λh=>by simp at h ⊢;exact h.symm,λh=>by simp at h ⊢;exact h.symm⟩]
theorem yt{S:List Int}:(S.map D.int).all flat=bx:=by rw[eh];intro d hd;obtain⟨i,_,rfl⟩:=cK.mp hd;rfl
theorem T5{S:List Int}{i:Int}:cm .inn (.int i) (.lst (S.map D.int))=al (S.contains i):=by show yh a7 _ _=_;unfold yh;simp only[uz,bind_some,yl,yt,nN,Dp];rfl
theorem FN{S:List Int}{i:Int}:cm .Ew (.int i) (.lst (S.map D.int))=al (!S.contains i):=by show yh bx _ _=_;unfold yh;simp only[uz,bind_some,yl,yt,nN,Dp];rfl
theorem p7{n:Nat}{S:List Int}:iK (n+1) (.lst (S.map D.int))=bx:=by rw[bH,eh];intro d hd;obtain⟨i,_,rfl⟩:=cK.mp hd;cases n<;>rfl
theorem rH:∀{S T:List Int},iM (S.map D.int) (T.map D.int)=(S==T)|[],[]=>by simp[lK,jb,rT,qx]|[],_::_=>by simp[lK,jb,rT,qx]|_::_,[]=>by simp[lK,jb,rT,qx]|s::S,t::T=>by rw[dc,dc,jb,rH,pqi];rfl
theorem acg{S T:List Int}:cm .eq (.lst (S.map D.int)) (.lst (T.map D.int))=al (S==T):=by show zx _ _=_;unfold zx;rw[p7,p7,pql,rH];rfl
theorem acS{S T:List Int}:cm .ne (.lst (S.map D.int)) (.lst (T.map D.int))=al (!(S==T)):=by show Ij _ _=_;unfold Ij;rw[p7,p7,pql,rH];rfl
theorem gO{a:Type}{l:List a}{f:a->D}{k:Nat}{x:a}(h:l[k]?=al x):at' (l.map f) (k:Int)=al (f x):=by have b:=(dX h).1;rw[Ja (by simpa using b),er,h];rfl
theorem U4{n k:Nat}(h:k<n):iI n (k:Int)=al k:=by unfold iI;rw[if_pos (by omega),if_pos (by omega)];simp
theorem jU{is:List Nat}{one:Bool}{body:List Sl->Res Fl}{g:Nat->D}{N:Nat}(J:Nat->List Sl->Prop){Q:Fl->List Sl->Prop}(c:∀i ρ,i<N->J i ρ->∃a,cJ ρ is one (g i)=al a/\(body a).sat (fQ (J (i+1)) Q))(f:∀ρ,J N ρ->Q .next ρ){ρ:List Sl}(h0:J 0 ρ):(jf is one body ((dy N).map g) ρ).sat Q:=by
 refine bW (λr ρ=>∃i,i<=N/\r=((dy N).map g).drop i/\J i ρ) ?_ ?_ ⟨0,uY,rfl,h0⟩
 . rintro d r ρ⟨i,hi,e,j⟩;have b:i<N:=by
    rcases Nat.lt_or_ge i N with h|h;.exact h
    .rw[List.drop_eq_nil_of_le (by simpa using h)]at e;cases e
   rw[fy (by simpa using b)]at e;injection e with e1 e2;simp at e1;subst e1;obtain⟨a,h1,k⟩:=c i ρ b j;refine⟨a,h1,k.imp λfl ρ2 q=>?_⟩;cases fl with|next=>exact⟨i+1,b,e2,q⟩|cont=>exact⟨i+1,b,e2,q⟩|brk=>exact q|ret v=>exact q
 . rintro ρ⟨i,hi,e,j⟩;have:i=N:=by have l:=congrArg kN e;simp at l;omega
   subst this;exact f ρ j
inductive A3(a b c:Prop):Prop where|mk(ha:a)(hb:b)(hc:c)
inductive A4(a b c d:Prop):Prop where|mk(ha:a)(hb:b)(hc:c)(hd:d)
inductive A5(a b c d e:Prop):Prop where|mk(ha:a)(hb:b)(hc:c)(hd:d)(he:e)
inductive A6(a b c d e f:Prop):Prop where|mk(ha:a)(hb:b)(hc:c)(hd:d)(he:e)(hf:f)
inductive A7(a b c d e f g:Prop):Prop where|mk(ha:a)(hb:b)(hc:c)(hd:d)(he:e)(hf:f)(hg:g)
inductive A8(a b c d e f g h:Prop):Prop where|mk(ha:a)(hb:b)(hc:c)(hd:d)(he:e)(hf:f)(hg:g)(hh:h)
inductive A9(a b c d e f g h i:Prop):Prop where|mk(ha:a)(hb:b)(hc:c)(hd:d)(he:e)(hf:f)(hg:g)(hh:h)(hi:i)
end _H
namespace _H
open PySem _L Spec PyProof.Rows
section
variable{X:Cx}{c:Call}{n:Nat}{e a b d tg:df}{p pa pb pd:P}{pos:Pos}
theorem Km{g:TG}{is:List Nat}(he:SX X c e p)(q:PG X tg g)(i:La X.K (λρ d=>cJ ρ is a7 d) g)(hs:i8 [tg] e pos.line X.env=eS a7:=by rfl)(s:i9 [tg] e X.env=eS bdq:=by rfl)(h1:(iE [tg] X.env).map (·.2)=[ka tg X.env]:=by rfl):SS X c n (.Assign [tg] e pos) (.unp is p):=by
 refine dH (zW he.ev q hs s h1) ?_;rintro D σ H⟨F,ρ,fl,t,u,e,k⟩;rw[_H.X8]at e;obtain⟨r,f,w,e⟩:=aa e;refine⟨F,ρ,r,f,u,w,λv F1 l s1 x=>?_⟩;obtain⟨F2,s2,_,m⟩:=s1.cQ x;split at e;.rename_i o hd;obtain⟨ρ2,y,h,e⟩:=aa e;cases e;have z:=aD h;clear h;obtain⟨h,A⟩:=z;rw[hd]at m;exact i v (.tup o) F2 f _ σ l _ s2.gs m (by show cJ f is a7 (.tup o)=_;cases is<;>exact h) λj s3=>k F2 j l (s2.trans s3)
 .cases e
theorem Il:fX X (dO .IsNot) (rD X.K (pG .Qx)):=by
 rintro g s σ H x y v u Q I h i⟨F,d,e,r,sm,j,l,he,k⟩;obtain⟨t,f,m⟩:=map_some (show(cmT bx d e).map _=al r from he);subst m;unfold cmT at f;split at f;.rename_i b;cases f;rw[j.bl]at h;rw[l.bl]at i;cases h;cases i;have q:=cH.cY sm (dZ (!b)) k;cases b<;>exact cr ⟨.bl _,H,I,rfl,q⟩
 .cases f
end
end _H
namespace _U
open PySem Spec PyProof.Rows
section
variable{prog:da}{w:eg}{A:ej}{E:bw->bZ->Prop}{s:bZ}
theorem xP{t sl:b_}{a:Array bw}{f g:bw}{lo hi:Option Int}{Q:bw->bZ->Prop}(ht:qa s.heap t a)(hs:s.heap.IsSliceOf sl f g .none)(i:lw f lo)(j:lw g hi)(h1:dD a.size 0 lo=0)(k:dD a.size a.size hi=a.size)(h:Q (.ref t) s):cy (cE prog w) A (kc (.ref t) (.ref sl)) Q E s:=by
 obtain⟨os,b,c,l⟩:=id hs;have m:s.TypeIs (.ref sl) "slice":=⟨os,b,c⟩;unfold kc;try with_reducible refine h9 ?_
 first|refine a_ (cr ?_)|skip
 refine a_ (wpAny_sequenceKey ht.typeIs (by decide) (a_ (fI (name:=iF "__getitem__") ht.typeIs slot_tuple_getitem (gX slot_tuple_getitem ht.typeIs entry_tuple_getitem ?_ (args_tuple_getitem _ _)))));show cy _ _ (tupleItemsOf (.ref t)>>=_) _ _ s;refine a_ (tupleItemsOf_ ht (a_ (kR m ?_)));rw[if_pos (by decide)];refine a_ (iV hs i j ?_);have e:((((dD a.size 0 lo:Nat):Int)==0&&(1:Int)==1&&(dD a.size a.size hi-dD a.size 0 lo)==a.size)=bx):=by rw[h1,k];simp
 show cy _ _ (if(((dD a.size 0 lo:Nat):Int)==0&&(1:Int)==1&&(dD a.size a.size hi-dD a.size 0 lo)==a.size)=bx then _ else _) _ _ s;rw[if_pos e];unfold Builtin.Tuple.tupleIsExact;refine a_ (a_ (kR ht.typeIs (cr ?_)));rw[if_pos (by decide)];exact a_ (kl (cr ⟨_,rfl,cr h⟩))
end
end _U
namespace _H
open PySem _L Spec PyProof.Rows
noncomputable def nst:df->Bool|.Starred _ _=>a7|_=>bx
theorem bC{e:df}{es:List df}{env:Env}(h:nst e=bx):cw (e::es) env=(a7,eu e env)::cw es env:=by cases e with|Starred a b=>cases h|_=>rw[cw];(intro e p z;cases z)
noncomputable def qP:List Int->List df->Option (List df)|[],es=>al es|i::is,.Constant (.int j) _ _::es=>if i=j then qP is es else bdq|_,_=>bdq
theorem vK{X:_L.Cx}{c:Call}:∀(is:List Int){es a:List df}{b:List P},qP is es=al a->SA X c a b->SA X c es (is.map (λi=>P.con (.int i))++b)|[],es,a,b,h,r=>by cases h;exact r|i::is,[],a,b,h,r=>by cases h|i::is,e::es,a,b,h,r=>by cases e with
   |Constant v k p=>cases v with
     |int j=>
       replace h:(if i=j then qP is es else bdq)=al a:=h;split at h;.rename_i f;subst f;exact pY aj (vK is h r) (bC rfl)
       .cases h|_=>cases h
   |_=>cases h
theorem uV{n d:Nat}{o:Option Int}:_U.dD n d o=_H.dD n d o:=by cases o with|none=>rfl|some v=>
   show(if v<0 then(v+(n:Int)).toNat else min v.toNat n)=(if 0<=v then min v.toNat n else(v+n).toNat);by_cases h:0<=v;.rw[if_pos h,if_neg (by omega)]
   .rw[if_neg h,if_pos (by omega)]
theorem Jl{xs:List V}{lo hi:Option Int}:yR xs lo hi=_H.cut xs lo hi:=by unfold yR _H.cut;rw[uV,uV]
theorem aF.cut{K:PySem.W.Frag}{F:Hp}{a:List D}{vs:List V}{lo hi:Option Int}(h:aF K F vs a):aF K F (_H.cut vs lo hi) (_H.cut a lo hi):=by unfold _H.cut;rw[h.length];exact(h.drop _).take _
section
variable{X:Cx}{c:Call}{n:Nat}{e a b:df}{p pa pb pl ph:P}{pos p2:Pos}{lo hi:Option df}
noncomputable def aed(K:PySem.W.Frag):V->Option Int->Option Int->Hp->VK->Prop:=λx lo hi H Q=>∃F d r,aB F H/\dw K F H x d/\Nr d (al lo) (al hi)=al r/\∀v g f,Ext F H g f->cH K g f H v r->Q v f
theorem ZS:SlR X (aed X.K):=by
 rintro f s σ H x v u w lo hi sl Q I l hs pl m⟨F,d,r,sm,y,he,k⟩;cases d with|lst o=>cases he;obtain⟨a,xs,rfl,j,h⟩:=y.lst sm;refine Oj f s σ H _ v u w lo hi sl Q I l hs pl m ⟨a,xs,rfl,j,λp q=>?_⟩;rw[Jl];exact Bl sm h.cut q k|tup o=>
   cases he;obtain⟨a,xs,rfl,j,h,rt⟩:=y.tup sm;by_cases i:_U.dD xs.length 0 lo=0/\_U.dD xs.length xs.length hi=xs.length
   . cases l;obtain⟨t,z,ht,hz⟩:=I.tuple j;have g:t.toArray.size=xs.length:=by rw[cx];exact z.length.symm
     refine⟨"tuple",_,slot_tuple_getitem.lookup,ht.typeIs,_U.xP ht hs pl m (by rw[g];exact i.1) (by rw[g];exact i.2) ⟨.ref a,H,I,rfl,?_⟩⟩;have hc:_H.cut o lo hi=o:=by unfold _H.cut;rw[<-h.length,<-uV,<-uV,i.1,i.2];simp[h.length]
     rw[hc]at k;exact cH.cY sm rt k
   .refine WT f s σ H _ v u w lo hi sl Q I l hs pl m ⟨a,xs,rfl,j,i,λp q=>?_⟩;rw[Jl];exact An sm h.cut q k|_=>cases he
noncomputable def SO(X:Cx)(c:Call)(o:Option df)(p:P):Prop:=∃t,PO X o t/\∀{σ:_L.St}{H F:Hp}{ρ f:List Sl}{d:D}{i:Option Int}{Q:Option Int->Hp->Prop},GS X.K F ρ σ H->cN (isVar p) (_H.ev c p) ρ=.ok d f->part p d=al i->(∀h g,az X.K F ρ σ H h f σ g->Q i g)->t σ H Q
theorem Cu:SO X c bdq (.con .non):=by refine⟨_,Oo,λ{σ H F ρ f d i Q}g e h k=>?_⟩;cases(show al bdq=al i from h);have j:(_H.ev c (.con .non) ρ).bind (λr ρ=>.ok r.d ρ)=.ok d f:=e;clear e;rw[_H.E2]at j;cases j;exact k F H (.refl g)
theorem pR(h:SX X c e p)(l:Z7 p=a7:=by rfl):SO X c (al e) p:=by obtain⟨t,h1,m⟩:=h.cN;refine⟨_,NZ h1,λ{σ H F ρ o d i Q}g e f k=>?_⟩;unfold part at f;rw[l,if_neg (by decide)]at f;obtain⟨j,q,r⟩:=map_some f;cases dg q;subst r;exact m g e λv u w s x=>⟨j,x.int,k u w s⟩
theorem xQ{d:D}{x y:Option (Option Int)}{r:R}(h:Nr d x y=al r):∃lo hi,x=al lo/\y=al hi:=by cases x with|none=>cases d<;>cases h|some lo=>cases y with|none=>cases d<;>cases h|some hi=>exact⟨lo,hi,rfl,rfl⟩
theorem qj(Y:SX X c a pa)(hl:SO X c lo pl)(hh:SO X c hi ph):SX X c (.Subscript a (.Slice lo hi bdq p2) pos) (.slice pa pl ph):=by obtain⟨tl,Z,l2⟩:=hl;obtain⟨th,h1,h2⟩:=hh;cases hv:isVar pa with|none=>refine⟨dG (xY ZS Y.ev Z h1) ?_,λi h=>by cases h⟩;rintro σ H Q⟨F,ρ,r,B,g,e,k⟩;rw[_H.E14,hv]at e;obtain⟨x,C,f,j⟩:=aa e;clear e;have l:(_H.ev c pa ρ).bind (λr ρ=>.ok r.d ρ)=.ok x C:=f;clear f;obtain⟨rx,ac,e1,E⟩:=aa l;clear l;cases E;obtain⟨y,ρ2,G,m⟩:=aa j;clear j;obtain⟨z,I,J,o⟩:=aa m;clear m;obtain⟨e,L⟩:=aD o;clear o;subst L;obtain⟨M,N,q,s⟩:=xQ e;rw[q,s]at e;refine⟨F,ρ,rx,_,g,e1,λv F1 H1 s1 rr=>?_⟩;obtain⟨F2,s2,_,rp⟩:=s1.cQ rr;refine l2 s2.gs G q λF3 H3 s3=>h2 s3.gs J s λF4 H4 s4=>?_;have s5:=s2.trans (s3.trans s4);refine⟨F4,_,r,s4.gs.sub,.inl ((rp.mono s3.bT).mono s4.bT),e,λv O U x W=>?_⟩;exact k v O U (s5.trans (x.stp s5.gs)) (.later s5 (W.pD s5.gs))|some i=>refine⟨dG (xY ZS (Y.var i hv) Z h1) ?_,λi h=>by cases h⟩;rintro σ H Q⟨F,ρ,r,B,g,e,k⟩;rw[_H.E14,hv]at e;obtain⟨x0,ae,t,j⟩:=aa e;clear e;obtain⟨E,G9⟩:=aD t;clear t;subst G9;obtain⟨y,ρ2,G,m⟩:=aa j;clear j;obtain⟨z,I,J,o⟩:=aa m;clear m;obtain⟨x,af,u,ed⟩:=aa o;clear o;obtain⟨e5,e6⟩:=aD u;clear u;subst e6;obtain⟨e,L⟩:=aD ed;clear ed;subst L;obtain⟨M,N,q,s⟩:=xQ e;rw[q,s]at e;obtain⟨v,w,_⟩:=g.pk E;refine⟨v,w,l2 g G q λF3 H3 s3=>h2 s3.gs J s λF4 H4 s4=>?_⟩;have s5:=s3.trans s4;obtain⟨v',A,pv⟩:=s5.gs.pk e5;rw[w]at A;cases A;refine⟨F4,_,r,s4.gs.sub,pv,e,λv O U x W=>?_⟩;exact k v O U (s5.trans (x.stp s5.gs)) (.later s5 (W.pD s5.gs))
theorem VB{i:Nat}{x:Str}{t:Pos}{op:lp}{sub:Bool}(ho:Rj X op (YM λi j=>if sub then i-j else i+j))(w:X.N.Nodup)(hi:X.N[i]?=al x)(y:Loc X.env.scope x)(he:SX X c e p)(z:X.fn x=bx\/X.env.scope.names.lookup x=al .local:=by first|(left;rfl)|(right;rfl)|assumption):SS X c n (.AugAssign (.Name x t) op e pos) (.aug i sub p):=by
 obtain⟨te,h1,A⟩:=he.cN;refine dH (Vq w hi y h1 ho z) ?_;rintro D σ H⟨F,ρ,fl,B,g,e,k⟩;rw[_H.X16]at e;obtain⟨Z,C,f,s⟩:=aa e;clear e;obtain⟨E,G⟩:=aD f;clear f;subst G;obtain⟨b0,I,J,o⟩:=aa s;clear s;obtain⟨v,q,L⟩:=g.pk E;refine⟨v,q,A g J λu F1 M s1 O=>?_⟩;split at o;.rename_i h l;obtain⟨ρ2,Q,m,U⟩:=aa o;clear o;cases U;obtain⟨W,e3⟩:=aD m;clear m;have Y:Rep X.K F1 (.int (if sub then h-l else h+l)) (.int (if sub then h-l else h+l)):=cu _;exact⟨h,l,L.int,O.int,k F1 _ M (az.put (r:=.val (.int _)) s1 Y W)⟩
 .cases o
theorem Og:Rj X .Add (YM λi j=>if a7 then i-j else i+j):=VH
theorem Ph:Rj X .Sub (YM λi j=>if bx then i-j else i+j):=WK
end
end _H
namespace _L
open PySem Spec PyProof.Rows
section
variable{X:Cx}{tg:df}
theorem xn:eK "tuple"=al (.type "tuple"):=by decide+kernel
theorem rR:eK "reversed"=al (.type "reversed"):=by decide+kernel
end
end _L
namespace _H
open PySem _L Spec PyProof.Rows
section
variable{K:PySem.W.Frag}{F F1 H H1:Hp}{ρ ρ1:List Sl}{σ:_L.St}{ds:List D}{a:b_}
theorem aF.rev:∀{ds:List D}{xs:List V},aF K F xs ds->aF K F xs.reverse ds.reverse|[],_,h=>by rw[h.fu];exact .nil|d::ds,_,h=>by obtain⟨v,r,rfl,h1,b⟩:=h.cF;rw[mE,mE];exact(aF.rev b).append (.cons h1 .nil)
end
end _H
namespace PySem
namespace F
theorem Iu:n_ (.type "list_reverseiterator") "__len__"=eS bdq:=by rw[typeLookup_type,ri];kernel_rfl
theorem Qm:n_ (.type "list_reverseiterator") "__length_hint__"=eS (al (.builtin "list_reverseiterator.__length_hint__")):=by rw[typeLookup_type,ri];kernel_rfl
end F
section
variable{prog:da}{w:eg}{A:ej}{E:bw->bZ->Prop}{s:bZ}
theorem o8{it l:b_}{items:Array bw}{Q:Bool->bZ->Prop}(e:s.heap.IsRevIter it l ((items.size:Int)-1))(k:s.heap.IsList l items)(i:items.size<=2^24)(h:∀b tk,s.toks<=tk->Q b {s with toks:=tk}):cy (cE prog w) A (listLengthHint (.ref it)) Q E s:=by
 have f:=e.typeIs;unfold listLengthHint;refine a_ (nV f F.Iu ?_);show cy _ _ (specialOf (dS it) (iF "__length_hint__")>>=_) _ _ _;refine a_ (nV f F.Qm ?_);generalize a:("list_reverseiterator.__length_hint__":String)=c;(fail_if_success(clear a c));wp_delta;rw[show splitId c=al ("list_reverseiterator","__length_hint__")from by subst a;decide+kernel];subst a;refine a_ (wpAny_isInstance (b:=bx) f (by rw[isSubtype_type];kernel_rfl) ?_);rw[if_neg (by decide)];dsimp only;split;.refine wpAny_ite_split (λg=>absurd g (by decide+kernel)) (λ_=>?_);exact cr (h _ s.toks (dq))
 .rename_i j;exact absurd (by decide+kernel) j
theorem mD{R:Result->bZ->Prop}{I l:b_}{items:Array bw}(O:A.handled=bdq)(j:s.heap.IsRevIter I l ((items.size:Int)-1))(C:s.heap.IsList l items)(G:l≠I)(u:items.size<=2^24)(S:b_)(m:S≠I)(x:S≠l)(res:bw)(k:Nat)(H:s.heap.get? S=al {cls:=.type "list",data:=.seq #[] k})(Q:∀ h' tk a t,(∀ b o,b ≠ S->b ≠ I->s.heap.get? b=al o->h'.get? b=al o)->h'.get? S=al {cls:=.type "list",dict:=bdq,data:=.seq a t,slots:=#[]}->ItemsOf (λi v=>items[items.size-1-i]?=al v) a items.size->R (.ok (.ret res)) {s with heap:=h',toks:=tk}):cy (cE prog w) A.in1 (lc (.ref S) (.ref I) res) (λfin n=>match fin with|.done f=>R (.ok f) n|.again t=>t.quiet=bx/\kX (cE prog w) A t R n) (λe n=>R (.error e) n) s:=by
 have J:S∉[I,l]:=λhm=>by
  rcases cS.mp hm with e|hm;.exact m e
  .exact x (dV.mp hm)
 have W:=(Walks.listRev (prog:=prog) (w:=w) (A:=A.in1) O I l G items).toS;have U:s.TypeIs (.ref I) "list_reverseiterator":=j.typeIs;have key:∀(h:ew)(c tk:Nat),h.IsRevIter I l ((items.size:Int)-1-((0:Nat):Int))->h.IsList l items->(∀b o,b≠S->s.heap.get? b=al o->h.get? b=al o)->h.get? S=al {cls:=.type "list",data:=.seq #[] c}->kX (cE prog w) A (.builtin "list.extend.loop" ⟨[.ref S,.ref I,res],[]⟩) R {s with heap:=h,toks:=tk}:=by
  intro h c tk hi L X p;refine codeAny_extend_loopS W (by rw[eW];omega) S J res items.size 0 _ #[] c rfl (uY) ⟨uY,hi,L⟩ p (ItemsOf.nil _) λn a t hm M y=>?_;rw[Moved.eq_with hm];refine Q n.heap n.toks a t (λb o z N e=>hm.heap b o (λhmem=>?_) (X b o z e)) M y;rcases cS.mp hmem with Y|hmem;.exact z Y
  .exact N (dV.mp hmem)
 unfold lc;refine a_ (kR U ?_);have h1:listSameRef (.ref S) (.ref I)=a7:=by simp[listSameRef,m]
 have Z:(fq "list_reverseiterator"==fq "list")=a7:=by decide
 have h3:(fq "list_reverseiterator"==fq "tuple")=a7:=by decide
 simp only[h1,Z,h3,Bool.or_false,ip,if_false];refine a_ (wpAny_pyIter_revIter j ?_);refine a_ (h9 (o8 j C u λbb tk ac=>?_));have B:s.heap.IsRevIter I l ((items.size:Int)-1-((0:Nat):Int)):=by simpa using j
 refine wpAny_ite_split (λ_=>?_) (λ_=>cr ⟨me F.plain_extend_loop _,key _ k _ B C (λb o _ e=>e) H⟩);refine a_ (kl ?_);refine a_ ?_;show cy _ _ (updateSeq S (·.push .none)>>=λ_=>updateSeq S (·.pop)) _ _ _;refine a_ (wpAny_updateSeq H rfl ?_);have g:=iL (f_ (·.push eL)) H rfl;refine wpAny_updateSeq (hz:=by seq_fits) g rfl ?_;have q:=iL (f_ (·.pop)) g rfl;have r:∀b o,b≠S->s.heap.get? b=al o->((s.heap.update S (f_ (·.push eL))).update S (f_ (·.pop))).get? b=al o:=λb o z e=>(ic _ _ (fE z)).trans ((ic _ _ (fE z)).trans e);exact cr ⟨me F.plain_extend_loop _,key _ _ _ (B.at λo e=>r I o (fE m) e) (C.at λo e=>r l o (fE x) e) r q⟩
end
end PySem
namespace _H
open PySem
theorem mO:∀a b:List Int,bA a b=bx->bA b a=a7
 |[],[],h=>by simp[bA]at h|[],_::_,_=>by simp[bA]|_::_,[],h=>by simp[bA]at h|x::a,y::b,h=>by
   simp only[bA,kS,decide_eq_true_eq,ey]at h;simp only[bA,kQ,decide_eq_false_iff_not,kK];rcases h with h|⟨h,h'⟩;.exact⟨by omega,.inl (by omega)⟩
   .exact⟨by omega,.inr (mO a b h')⟩
theorem zJ:∀a b c:List Int,bA b a=a7->bA c b=a7->bA c a=a7
 |[],_,c,_,_=>by cases c<;>simp[bA]|_::_,[],_,h,_=>by simp[bA]at h|_::_,_::_,[],_,h=>by simp[bA]at h|x::a,y::b,z::c,h1,f=>by
   simp only[bA,kQ,decide_eq_false_iff_not,kK]at h1 f ⊢;refine⟨by omega,?_⟩;by_cases e:z=x;.right;exact zJ a b c (h1.2.resolve_left (by omega)) (f.2.resolve_left (by omega))
   .exact .inl e
theorem xU:∀a b:List Int,bA a b=a7->bA b a=a7->a=b
 |[],[],_,_=>rfl|[],_::_,h,_=>by simp[bA]at h|_::_,[],_,h=>by simp[bA]at h|x::a,y::b,h1,c=>by
   simp only[bA,kQ,decide_eq_false_iff_not,kK]at h1 c;have e:x=y:=by omega
   subst e;rw[xU a b (h1.2.resolve_left (by simp)) (c.2.resolve_left (by simp))]
theorem yL:∀{xs ys:List D},xs.all eZ=bx->ys.all eZ=bx->xs.map tE=ys.map tE->xs=ys
 |[],[],_,_,_=>rfl|[],_::_,_,_,h=>by simp at h|_::_,[],_,_,h=>by simp at h|x::xs,y::ys,h1,a,h=>by
   simp only[kq,ey]at h1 a;simp only[dc,List.cons.injEq]at h;obtain⟨i,rfl⟩:∃i,x=.int i:=by cases x<;>first|exact⟨_,rfl⟩|(have q:=h1.1;simp[eZ]at q;done)
   obtain⟨j,rfl⟩:∃j,y=.int j:=by cases y<;>first|exact⟨_,rfl⟩|(have q:=a.1;simp[eZ]at q;done)
   rw[yL h1.2 a.2 h.2,show i=j from h.1]
theorem Ek{x y:D}(h:(eZ x=bx/\eZ y=bx)\/(yx x=bx/\yx y=bx))(e:cZ x=cZ y):x=y:=by
 rcases h with⟨h1,a⟩|⟨h1,a⟩
 . cases x<;>first|(simp[eZ]at h1;done)|skip
   cases y<;>first|(simp[eZ]at a;done)|skip
   simpa[cZ]using e
 . cases x<;>first|(simp[yx]at h1;done)|skip
   cases y<;>first|(simp[yx]at a;done)|skip
   rename_i xs ys;cases xs<;>first|(simp[yx]at h1;done)|skip
   cases ys<;>first|(simp[yx]at a;done)|skip
   rw[yL h1 a e]
noncomputable def mR(a b:D):Bool:=!bA (cZ b) (cZ a)
theorem yU(a:List D):(Q4 a).Perm a:=List.mergeSort_perm ..
theorem Pn(a b c:D)(h1:mR a b=bx)(e:mR b c=bx):mR a c=bx:=by simp only[mR,mI]at*;exact zJ _ _ _ h1 e
theorem Jj(a b:D):(mR a b||mR b a)=bx:=by simp only[mR,kS,mI];cases h:bA (cZ b) (cZ a)with|false=>exact .inl rfl|true=>exact .inr (mO _ _ h)
theorem zO(c:List D):(Q4 c).Pairwise λa b=>mR a b=bx:=List.pairwise_mergeSort Pn Jj c
theorem wg{a:List D}(h:sortable a=bx):∀x∈a,∀y∈a,cZ x=cZ y->x=y:=by
 simp only[sortable,ey,kS,eh]at h;intro x b y c e;rcases h.2 with h|h;.exact Ek (.inl ⟨h x b,h y c⟩) e
 .exact Ek (.inr ⟨h x b,h y c⟩) e
theorem qw{c l:List D}(h:sortable c=bx)(p:l.Perm c)(s:l.Pairwise λa b=>mR a b=bx):l=Q4 c:=by refine List.Perm.eq_of_pairwise (le:=λa b=>mR a b=bx) (λa b f g h1 e=>?_) s (zO c) (p.trans (yU c).symm);simp only[mR,mI]at h1 e;exact wg h a (p.mem_iff.mp f) b ((yU c).mem_iff.mp g) (xU _ _ e h1)
end _H
namespace _H
open PySem PyProof.Rows
variable{xs:Array gc}{i:Nat}
structure Rk(M:r_)(A:ej)(E:bw->bZ->Prop)(s:bZ)(κ:iP)(ok:gc->Prop)(K:gc->Int):Prop where lt:∀{x y:gc}{Q:Option Bool->iG->Prop}{st:iG},ok x->ok y->kindOf st=κ->Q (al (decide (K x<K y))) st->wpS M A E s (lt' x y) Q st
section
variable{M:r_}{A:ej}{E:bw->bZ->Prop}{s:bZ}{κ:iP}{ok:gc->Prop}{K:gc->Int}
noncomputable def it(xs:Array gc)(i:Nat):gc:=xs.getD i (eL,eL)
theorem Ox(h:i<xs.size):xs[i]?=al (it xs i):=by unfold it;simp[ng,h]
theorem JV(h:i<xs.size):it xs i∈xs.toList:=by
 have:it xs i=xs[i]:=by unfold it;simp[ng,h]
 rw[this];simp
theorem Cp{Q:gc->iG->Prop}{st:iG}(h:i<xs.size)(q:Q (it xs i) st):wpS M A E s (elem' xs i) Q st:=by rw[elem'_eq,Ox h];exact kj q
end
section
variable{K:gc->Int}
noncomputable def Seg(K:gc->Int)(xs:Array gc)(lo hi:Nat):Prop:=∀i j,lo<=i->i<=j->j<hi->K (it xs i)<=K (it xs j)
theorem O2:it xs i=xs.toList.getD i (eL,eL):=by
 unfold it;by_cases h:i<xs.size;.simp[ng,h]
 .simp[ng,h]
end
section
variable{M:r_}{A:ej}{E:bw->bZ->Prop}{s:bZ}{κ:iP}{ok:gc->Prop}{K:gc->Int}
structure Sx(κ:iP)(ok:gc->Prop)(st:iG)(xs:Array gc)(st':iG):Prop where
 kind:kindOf st'=κ
 arr:r9 st'=xs
 pend:kf st'=kf st
 fail:rX st'=bdq
 ok:∀x∈xs.toList,ok x
theorem PL(R:Rk M A E s κ ok K){st a:iG}{j:Nat}{Q:Option Bool->iG->Prop}(h:Sx κ ok st xs a)(hi:i<xs.size)(b:j<xs.size)(q:Q (al (decide (K (it xs i)<K (it xs j)))) a):wpS M A E s (ltAt' i j) Q a:=by rw[ltAt'_eq];refine hV (qc ?_);show wpS M A E s (elem' (r9 a) i>>=λx=>elem' (r9 a) j>>=λy=>lt' x y) Q a;rw[h.arr];exact hV (Cp hi (hV (Cp b (R.lt (h.ok _ (JV hi)) (h.ok _ (JV b)) h.kind q))))
theorem Tf(R:Rk M A E s κ ok K){st g:iG}{lo a n:Nat}{Q:Option (Option Nat)×Nat->iG->Prop}(h:Sx κ ok st xs g)(u:lo+n<=xs.size)(v:1<=a)(l:a<=n)(hs:Seg K xs lo (lo+a))(q:∀m,a<=m->m<=n->Seg K xs lo (lo+m)->(m=n\/K (it xs (lo+m))<K (it xs (lo+m-1)))->Q (bdq,m) g):wpS M A E s (forIn [a:n] ((bdq,a):Option (Option Nat)×Nat) λ_ c=>ltAt' (lo+c.2) (lo+c.2-1)>>=λo=>match o with|some b=>if b=bx then eS (.done (bdq,c.2))else eS (.yield (bdq,c.2+1))|_=>eS (.done (al bdq,c.2))) Q g:=by
 refine qf (I:=λx c k=>k=g/\c=(bdq,x)/\Seg K xs lo (lo+x)) ?_ ?_ ⟨rfl,rfl,hs⟩
 . rintro x c k h1 w⟨rfl,rfl,f⟩;try dsimp only
   refine hV (PL R h (by omega) (by omega) ?_);by_cases c:K (it xs (lo+x))<K (it xs (lo+x-1))
   . rw[decide_eq_true c];try dsimp only
     rw[if_pos rfl];exact kj (q x h1 (by omega) f (.inr c))
   . rw[decide_eq_false c];try dsimp only
     rw[if_neg (by simp)];refine kj ⟨rfl,rfl,λi j p r y=>?_⟩;by_cases t:j<lo+x;.exact f i j p r t
     . have:j=lo+x:=by omega
       subst this;by_cases e:i=lo+x;.rw[e];exact eT _
       .have:=f i (lo+x-1) p (by omega) (by omega);omega
 .rintro c k⟨rfl,rfl,f⟩;rw[show max a n=n by omega]at f ⊢;exact q n l (dq) f (.inl rfl)
end
noncomputable abbrev Rn:=Nat×Nat×Nat
section
variable{K:gc->Int}{xs ys:Array gc}
noncomputable def Rns(K:gc->Int)(xs:Array gc):Nat->List Rn->Nat->Prop|a,[],b=>a=b|a,r::l,b=>r.1=a/\1<=r.2.1/\Seg K xs a (a+r.2.1)/\Rns K xs (a+r.2.1) l b
theorem wH:∀{l k:List Rn}{a b:Nat},Rns K xs a (l++k) b↔∃m,Rns K xs a l m/\Rns K xs m k b
 |[],k,a,b=>⟨λh=>⟨a,rfl,h⟩,λ⟨m,h1,c⟩=>by cases(show a=m from h1);exact c⟩|r::l,k,a,b=>by
   rw[kD];constructor;.rintro⟨h1,c,e,f⟩;obtain⟨m,g,j⟩:=wH.mp f;exact⟨m,⟨h1,c,e,g⟩,j⟩
   .rintro⟨m,⟨h1,c,e,f⟩,g⟩;exact⟨h1,c,e,wH.mpr ⟨m,f,g⟩⟩
end
section
variable{M:r_}{A:ej}{E:bw->bZ->Prop}{s:bZ}{κ:iP}{ok:gc->Prop}{K:gc->Int}
structure SR(κ:iP)(ok:gc->Prop)(K:gc->Int)(x0 ys:Array gc)(l:List Rn)(lo:Nat)(st:iG):Prop where
 kind:kindOf st=κ
 arr:r9 st=ys
 fail:rX st=bdq
 pend:(kf st).toList=l
 perm:ys.toList.Perm x0.toList
 ok:∀x∈ys.toList,ok x
 rns:Rns K ys 0 l lo
 le:lo<=ys.size
theorem SR.sx{x0 ys:Array gc}{l:List Rn}{lo:Nat}{st:iG}(h:SR κ ok K x0 ys l lo st):Sx κ ok st ys st:=⟨h.kind,h.arr,rfl,h.fail,h.ok⟩
end
end _H
namespace _H
open PySem W PyProof.Rows Calls _L Spec
theorem Nb(a:List Int):bA a a=a7:=by cases h:bA a a with|false=>rfl|true=>rw[mO _ _ h]at h;cases h
theorem HS{a b x:List Int}(h:bA b a=a7)(c:bA x a=bx):bA x b=bx:=by cases e:bA x b with|true=>rfl|false=>rw[zJ _ _ _ h e]at c;cases c
theorem uL{a:Type}{p q:a->Bool}(h:∀x,p x=bx->q x=bx):∀{l:List a},(∃x,x∈l/\q x=bx/\p x=a7)->l.countP p<l.countP q
 |[],⟨x,hx,_⟩=>by cases hx|y::l,⟨x,hx,h1,b⟩=>by
   rw[List.countP_cons,List.countP_cons];have m:=oD (l:=l) (p:=p) (q:=q) λx _=>h x;rcases cS.mp hx with rfl|hx;.rw[h1,b,if_pos rfl,if_neg (by simp)];omega
   .have:=uL h ⟨x,hx,h1,b⟩;cases hp:p y with|true=>rw[h y hp];omega|false=>rw[if_neg (by simp)];omega
noncomputable def SJ(a:List D)(d:D):Nat:=a.countP λe=>bA (cZ e) (cZ d)
theorem Lp{a:List D}{d e:D}(hd:d∈a):decide ((SJ a d:Int)<SJ a e)=bA (cZ d) (cZ e):=by cases h:bA (cZ d) (cZ e)with|true=>have:=uL (l:=a) (p:=λx=>bA (cZ x) (cZ d)) (q:=λx=>bA (cZ x) (cZ e)) (λx b=>HS (mO _ _ h) b) ⟨d,hd,h,Nb _⟩;rw[decide_eq_true_iff];unfold SJ;omega|false=>have:=oD (l:=a) (p:=λx=>bA (cZ x) (cZ e)) (q:=λx=>bA (cZ x) (cZ d)) λx _ b=>HS h b;rw[decide_eq_false_iff_not];unfold SJ;omega
open Classical in
noncomputable def rkK(P:bw->D->Prop)(a:List D)(x:gc):Int:=if h:∃d,d∈a/\P x.1 d then(SJ a h.choose:Int)else 0
theorem Cv{P:bw->D->Prop}{a:List D}{x:gc}{d:D}(fn:∀u d e,P u d->P u e->cZ d=cZ e)(hd:d∈a)(b:P x.1 d):rkK P a x=SJ a d:=by have h:∃d,d∈a/\P x.1 d:=⟨d,hd,b⟩;unfold rkK;rw[dif_pos h];unfold SJ;rw[fn _ _ _ h.choose_spec.2 b]
noncomputable def pick{a:Type}(d:a)(p:List Nat)(l:List a):List a:=p.map λi=>l.getD i d
theorem mH{a:Type}(d:a)(l:List a):pick d (dy l.length) l=l:=by refine nK (by simp[pick]) λi h1 b=>?_;simp[pick,b]
theorem qD{a:Type}{d:a}{p:List Nat}{l:List a}{n:Nat}(h:p.Perm (dy n)):(pick d p l).length=n:=by rw[pick,dQ,h.length_eq,kU]
theorem kO{P:bw->D->Prop}:∀{b:List bw}{a:List D},Paired P b a->∀i,i<b.length->P (b.getD i .none) (a.getD i .non)/\a.getD i .non∈a|_,_,.cons r _,0,_=>⟨by simpa using r,by simp⟩|_,_,.cons _ t,i+1,hi=>by have:=kO t i (by simpa using hi);exact⟨by simpa using this.1,by simpa using eN this.2⟩
end _H
namespace _H
open PySem _L Spec PyProof.Rows Calls W
section
variable{prog:da}{w:eg}{A:ej}{E:bw->bZ->Prop}{s:bZ}{vs:List bw}{κ:iP}{P:bw->D->Prop}{ds:List D}
theorem oU{b fin:Bool}{Q:Bool->bZ->Prop}:∀{xs ys:List bw}{is js:List Int}{i:Nat},gS xs is->gS ys js->fin=decide (is.length<js.length)->Q (bA is js) s->KatLex prog w A b fin Q (xs.zip ys) i s
 |_,_,_,_,_,.nil,.nil,e,h=>by subst e;exact kat_nil (by simpa[bA]using h)|_,_,_,_,_,.nil,.cons _ _ _,e,h=>by subst e;exact kat_nil (by simpa[bA]using h)|_,_,_,_,_,.cons _ _ _,.nil,e,h=>by subst e;exact kat_nil (by simpa[bA]using h)|_,_,_,_,i,.cons (ns:=is) x t r,.cons (ns:=js) y u r',e,h=>by
   refine kat_cons (nq ?_);by_cases q:x=y;.subst q;rw[beq_self_eq_true];refine kat_yes (oU r r' (by rw[e];simp) ?_);simpa[bA]using h
   . rw[beq_eq_false_iff_ne.mpr q];refine kat_no ?_;have a:Q (decide (x<y)) s:=by simpa[bA,q]using h
     cases(b&&i==0)with|true=>exact oneLt_int a|false=>exact kat_one _ _ (wpAny_lt_int a)
noncomputable def oZ(h:ew)(u:bw)(d:D):Prop:=∃a b is,u=.ref a/\qa h a (qq b)/\gS b is/\is≠[]/\cZ d=is
theorem oE{h h':ew}(k:∀b o,h.get? b=al o->h'.get? b=al o){u:bw}{d:D}(t:oZ h u d):oZ h' u d:=by obtain⟨a,c,is,e,⟨o,h1,f⟩,g⟩:=t;exact⟨a,c,is,e,⟨o,k _ _ h1,f⟩,g⟩
theorem tY{h h':ew}(k:∀b o,h.get? b=al o->h'.get? b=al o):∀{a:List bw}{ds:List D},Paired (oZ h) a ds->Paired (oZ h') a ds|_,_,.nil=>.nil|_,_,.cons r t=>.cons (oE k r) (tY k t)
theorem oX{h:ew}:∀{b:List bw}{ds:List D},Paired (oZ h) b ds->∃fs,KatTups h b fs/\fs.length=b.length/\∀f∈fs,∃n t,f=fR n t|_,_,.nil=>⟨[],trivial,rfl,by simp⟩|_,_,.cons r t=>by obtain⟨fs,h1,e,g⟩:=oX t;obtain⟨a,i,is,rfl,⟨o,j,k,n,l⟩,hi,c,_⟩:=r;cases hi with|nil=>exact absurd rfl c|cons x tk m=>
     refine⟨.int x tk::fs,KatTups.cons j k l (by simp) h1,by simp[e],λf hf=>?_⟩;rcases cS.mp hf with rfl|hf;.exact⟨_,_,rfl⟩
     .exact g f hf
theorem FQ{ds:List D}(t:Paired (oZ s.heap) vs ds)(e:2<=vs.length){C:iP->bZ->Prop}(a:C (tuples' (fq "int"!=fq "tuple")) s):cy (cE prog w) A (keyKind' vs.toArray) C E s:=by obtain⟨fs,h1,f,b⟩:=oX t;refine kat_kind (T:=.type "int") h1 (by omega) (λv c=>?_) rfl a;obtain⟨n,t,rfl⟩:=b v c;exact Looks.now
theorem Oe{x y:bw}{d e:D}(h:oZ s.heap x d)(i:oZ s.heap y e){b:Bool}{C:Bool->bZ->Prop}(c:C (bA (cZ d) (cZ e)) s):cy (cE prog w) A (keyLt' (tuples' b) x y) C E s:=by obtain⟨a,j,is,rfl,⟨o,k,r,n,l⟩,hi,m,p⟩:=h;obtain⟨t,its',js,rfl,⟨u,p1,p2,v,p3⟩,f,g,q⟩:=i;refine kat_lt k l p1 p3 ?_;rw[p,q]at c;refine oU (is:=is) (js:=js) (by simpa using hi) (by simpa using f) ?_ c;rw[cx,cx,kH hi,kH f]
end
theorem Ff{xs:List V}{a:List bw}(h:Vals xs a)(i:Nat):RelV (xs.getD i .non) (a.getD i .none):=by
 have f:=h.length;by_cases hi:i<xs.length
 . obtain⟨u,e,r⟩:=h.get (i:=i) (x:=xs[i]) (fS hi);have b:xs.getD i .non=xs[i]:=by simp[hi]
   have c:a.getD i .none=u:=by simp[e]
   rw[b,c];exact r
 . have b:xs.getD i .non=.non:=by simp[ms hi]
   have c:a.getD i .none=.none:=by simp[show a.length<=i by omega]
   rw[b,c];rfl
theorem yV{f:Nat->V}{g:Nat->bw}(h:∀i,RelV (f i) (g i)):∀l:List Nat,Vals (l.map f) (l.map g)|[]=>.nil|i::l=>.cons (h i) (yV h l)
theorem K3{p:List Nat}{xs:List V}{a:List bw}(h:Vals xs a):Vals (pick .non p xs) (pick .none p a):=yV (Ff h) _
theorem xf{K:PySem.W.Frag}{F:Hp}{f:Nat->V}{g:Nat->D}(h:∀i,Rep K F (f i) (g i)):∀l:List Nat,aF K F (l.map f) (l.map g)|[]=>.nil|i::l=>.cons (h i) (xf h l)
theorem Jm{K:PySem.W.Frag}{F:Hp}{p:List Nat}{xs:List V}{a:List D}(h:aF K F xs a):aF K F (pick .non p xs) (pick .non p a):=xf (λi=>by
 have f:=h.length;by_cases hi:i<a.length
 . obtain⟨u,e,r⟩:=h.get (i:=i) (d:=a[i]) (fS hi);have b:a.getD i .non=a[i]:=by simp[hi]
   have c:xs.getD i .non=u:=by simp[e]
   rw[b,c];exact r
 . have b:a.getD i .non=.non:=by simp[ms hi]
   have c:xs.getD i .non=.non:=by simp[show xs.length<=i by omega]
   rw[b,c,Rep]) _
theorem Ls{a:List bw}:∀{ns b:List Int},gS a ns->gS a b->ns=b:=by induction a with|nil=>intro ns b h1 c;cases h1;cases c;rfl|cons u a e=>intro ns b h1 c;cases h1 with|cons n t r=>cases c with|cons m t' f=>rw[e r f]
theorem Pu{h:ew}(u:bw)(d e:D):oZ h u d->oZ h u e->cZ d=cZ e:=λ⟨a,f,is,h1,⟨o,g,r,n,i⟩,j,_,k⟩⟨b,l,js,c,⟨s,p1,p2,m,p3⟩,p,_,q⟩=>by rw[h1]at c;cases c;rw[g]at p1;cases p1;rw[i]at p3;cases p3;rw[k,q,Ls j p]
theorem all_ints:∀{a:List D},a.all eZ=bx->a=(a.map tE).map D.int
 |[],_=>rfl|d::a,h=>by
   simp only[kq,ey]at h;cases d<;>first|(have q:=h.1;simp[eZ]at q;done)|skip
   rw[dc,dc,<-all_ints h.2];rfl
theorem intsAre_of:∀{ns:List Int}{a:List bw},Vals (ns.map V.int) a->gS a ns|[],_,.nil=>.nil|n::ns,_,.cons r t=>by obtain⟨tk,rfl⟩:=r;exact .cons n tk (intsAre_of t)
section
variable{X:Cx}{c:Call}{a:df}{pa:P}{pos:Pos}
theorem boot_sorted:eK "sorted"=al (.builtin "sorted"):=by decide+kernel
end
end _H
namespace _H
open PySem _L Spec PyProof.Rows Calls
theorem Ad(l b:b_)(items a:List bw)(n G:Nat)(H o:Option b_)(sl r:Array (Option bw))(is js:List Int)(hi:gS items is)(E:gS a js):m2 (io.«tuple.__lt__» ⟨[.ref l,.ref b],[]⟩) (λA R s=>s.heap.get? l=al {cls:=.type "tuple",dict:=H,data:=.seq items.toArray n,slots:=sl}/\s.heap.get? b=al {cls:=.type "tuple",dict:=o,data:=.seq a.toArray G,slots:=r}/\R (.ok (.ret (.bool (bA is js)))) s):=.of_wp λprog w A R s h=>by
  obtain⟨v,g,d,tk,os⟩:=s;obtain⟨I,J,h⟩:=h;have f2:=AutoSeq1.sub_tuple_tuple;wp_walk using fN I,fN J,wpAny_forIn_list _ (λf b z=>b.1=bdq/\z=⟨v,g,d,tk,os⟩/\∃xs ys c j,f=xs.zip ys/\gS xs c/\gS ys j/\decide (items.length<a.length)=decide (c.length<j.length)/\R (.ok (.ret (.bool (bA c j)))) ⟨v,g,d,tk,os⟩) _;case turn=>rintro⟨y,x⟩f b z⟨i,rfl,xs,ys,c,j,hz,h1,k,B,m⟩;cases h1 with|nil=>cases hz|cons p t h1=>cases k with|nil=>cases hz|cons q u k=>
       injection hz with hyx hrest;cases hyx;refine a_ (nq ?_);by_cases e:p=q;.subst e;rw[beq_self_eq_true];wp_walk;exact⟨rfl,rfl,_,_,_,_,hrest,h1,k,by rw[B];simp,by simpa[bA]using m⟩
       . rw[beq_eq_false_iff_ne.mpr e];have C:R (.ok (.ret (.bool (decide (p<q))))) ⟨v,g,d,tk,os⟩:=by simpa[bA,e]using m
         simp only[Bool.not_false,if_true];refine a_ (kl ?_);refine a_ (show cy (cE prog w) A.in1 (dO .Lt (fR p t) (fR q u)) _ _ _ from wpAny_lt_int ?_);refine a_ (cr ?_);exact cr (cr ⟨_,rfl,C⟩)
  case fin=>
   rintro⟨b1,b2⟩z⟨i,rfl,xs,ys,c,j,hz,h1,k,B,m⟩;simp only at i;subst i;have e:bA c j=decide (items.length<a.length):=by rw[B];cases h1 with|nil=>cases k<;>simp[bA]|cons _ _ _=>cases k with|nil=>simp[bA]|cons _ _ _=>cases hz
   rw[e]at m;wp_walk;exact⟨_,rfl,by simpa[Builtin.Tuple.tupleCompareSizes]using m⟩
  case h=>exact⟨rfl,rfl,items,a,is,js,by simp,hi,E,by rw[kH hi,kH E],h⟩
section
variable{X:Cx}
theorem nQ(hu:X.A.units+8<fT):fX X (dO .Lt) (rD X.K (pG .lt)):=by rintro f s σ H x y v u Q I E G⟨F,d,e,r,sm,J,L,he,k⟩;obtain⟨t,c,p⟩:=map_some (show(Zy d e).map _=al r from he);subst p;cases d with
 |int i=>cases e with|int j=>exact Vj f s σ H x y v u Q I E G ⟨F,.int i,.int j,_,sm,J,L,by have p:Mx (λi j=>decide (i<j)) (.int i) (.int j)=al t:=c;simp only[p];rfl,k⟩|_=>cases c
 |tup xs=>cases e with|tup ys=>obtain⟨hc,c⟩:=bf (show(if(xs.all eZ&&ys.all eZ)=bx then al (bA (xs.map tE) (ys.map tE))else bdq)=al t from c);rw[ey]at hc;obtain⟨a,vs,rfl,h1,M,_⟩:=J.tup sm;obtain⟨b,ws,rfl,Y,N,_⟩:=L.tup sm;cases E;cases G;obtain⟨q,O,it,_⟩:=I.tuple h1;obtain⟨g,U,z,_⟩:=I.tuple Y;rw[all_ints hc.1]at M;rw[all_ints hc.2]at N;rw[jZ M]at O;rw[jZ N]at U;have Z:=intsAre_of O;have i2:=intsAre_of U;obtain⟨⟨cls,dd,data,sl⟩,ho,h,n,hd⟩:=it;obtain⟨⟨W,B,data2,C⟩,l,m,n2,o⟩:=z;simp only at h hd m o;subst h hd m o;refine(show cy (cE X.prog X.w) X.A (richCompare .Lt (.ref a) (.ref b)) _ _ s from richCompare_meets_room (op:=.Lt) ⟨_,ho,rfl⟩ ⟨_,l,rfl⟩ PySem.F.slot_tuple_lt PySem.F.entry_tuple_lt (PySem.F.args_tuple_lt_2 _ _) (Ad a b q g n n2 dd B sl C _ _ Z i2) ⟨ho,l,show jr _≠kL/\_ from⟨(λx=>nomatch x),⟨.bl t,H,I,by rw[<-c];rfl,cH.cY sm (dZ _) k⟩⟩⟩ (by omega))|_=>cases c
 |_=>cases c
end
end _H
namespace _L
open PySem Spec PyProof.Rows
variable{y:V}{w:eg}{H:Hp}{Q:bw->bZ->Prop}{pos:Pos}{X:Cx}
section
variable{κ:Type}[DecidableEq κ]
noncomputable def jB(kvs:List (κ×V))(k:κ):Option V:=(kvs.find? λa=>decide (a.1=k)).map (·.2)
noncomputable def putK(kvs:List (κ×V))(k:κ)(v:V):List (κ×V):=if(kvs.any λa=>decide (a.1=k))=bx then kvs.map (λa=>if a.1=k then(a.1,v)else a)else kvs++[(k,v)]
theorem mX{p:κ×V}{r:List (κ×V)}{k:κ}(e:p.1=k):jB (p::r) k=al p.2:=by simp[jB,gl,e]
theorem mV{p:κ×V}{r:List (κ×V)}{k:κ}(e:¬ p.1=k):jB (p::r) k=jB r k:=by simp[jB,gl,e]
theorem sr(k:κ):∀kvs:List (κ×V),(kvs.any λa=>decide (a.1=k))=(jB kvs k).isSome
 |[]=>rfl|p::r=>by
   rw[jp];by_cases e:p.1=k;.simp only[mX e,decide_eq_true e,Bool.true_or,Option.isSome_some]
   .rw[mV e,decide_eq_false e,Bool.false_or];exact sr k r
theorem jL(kvs:List (κ×V))(k:κ)(v:V):(putK kvs k v).length<=kvs.length+1:=by
 unfold putK;split;.rw[dQ];omega
 .rw[eB,dL,length_nil];omega
theorem o9.iT{o:Option V}{u:Option bw}(r:o9 o u):o.isSome=u.isSome:=by cases o with
 |none=>cases u with|none=>rfl|some _=>exact(show False from r).elim
 |some _=>cases u with|none=>exact(show False from r).elim|some _=>rfl
theorem o9.getD{o:Option V}{u:Option bw}{d:V}{d':bw}(r:o9 o u)(a:RelV d d'):RelV (o.getD d) (u.getD d'):=by cases o with
 |none=>cases u with|none=>exact a|some _=>exact(show False from r).elim
 |some _=>cases u with|none=>exact(show False from r).elim|some _=>exact r
theorem KV.val{kvs:List (κ×V)}{vs:List (κ×bw)}(r:KV kvs vs)(k:κ):o9 (jB kvs k) (mw vs k):=by unfold KV at r;induction r with|nil=>exact kF|@cons p q ps a h t f=>
   obtain⟨h1,g⟩:=h;by_cases e:p.1=k
   . have c:q.1=k:=h1.symm.trans e;have b:mw (q::a) k=al q.2:=by simp[mw,gl,c]
     rw[mX e,b];exact g
   . have c:¬ q.1=k:=λz=>e (h1.trans z);have b:mw (q::a) k=mw a k:=by simp[mw,gl,c]
     rw[mV e,b];exact f
theorem KV.any{kvs:List (κ×V)}{vs:List (κ×bw)}(r:KV kvs vs)(k:κ):(kvs.any λa=>decide (a.1=k))=vs.any λa=>decide (a.1=k):=by unfold KV at r;induction r with|nil=>rfl|cons h t b=>rw[jp,jp,b,h.1]
theorem KV.repl{kvs:List (κ×V)}{vs:List (κ×bw)}(r:KV kvs vs)(k:κ){u:bw}(b:RelV y u):KV (kvs.map λa=>if a.1=k then(a.1,y)else a) (vs.map λa=>if a.1=k then(a.1,u)else a):=by unfold KV at r ⊢;induction r with|nil=>exact .nil|@cons p q ps g h t c=>
   rw[dc,dc];refine .cons ?_ c;obtain⟨h1,f⟩:=h;by_cases e:p.1=k;.rw[if_pos e,if_pos (h1.symm.trans e)];exact⟨h1,b⟩
   .rw[if_neg e,if_neg (λz=>e (h1.trans z))];exact⟨h1,f⟩
theorem KV.put{kvs:List (κ×V)}{vs:List (κ×bw)}(r:KV kvs vs)(k:κ){u:bw}(a:RelV y u):KV (putK kvs k y) (stored vs k u):=by
 unfold putK stored;rw[r.any k];by_cases e:(vs.any λb=>decide (b.1=k))=bx;.rw[if_pos e,if_pos e];exact r.repl k a
 .rw[if_neg e,if_neg e];exact Paired.snoc r ⟨rfl,a⟩
theorem KV.length{kvs:List (κ×V)}{vs:List (κ×bw)}(r:KV kvs vs):kvs.length=vs.length:=Paired.length r
end
theorem qY{P:da}{k:Key}{u:bw}(r:RelV (kV k) u):(aZ P w).is k u=bx:=by cases k with|inl i=>obtain⟨t,e⟩:=(show ∃t,u=fR i t from r);subst e;exact yc P w i t|inr x=>obtain⟨t,e⟩:=(show ∃t,u=Value.str x t from r);subst e;exact yH P w x t
theorem uc{P:da}{w:eg}:∀{ks:List Key}{a:List bw},Vals (ks.map kV) a->ItemsAre (aZ P w) ks a|[],_,r=>by rw[mN]at r;cases r;exact .nil|k::ks,_,r=>by rw[dc]at r;cases r with|cons h t=>exact .cons (qY h) (uc t)
noncomputable abbrev KT(H:Hp):List (List Key×V)->List (List Key×b_×bw)->Prop:=Paired λp q=>p.1=q.1/\H q.2.1=al (.tup (p.1.map kV))/\RelV p.2 q.2.2
theorem KT.val{kvs:List (List Key×V)}{xs:List (List Key×b_×bw)}(r:KT H kvs xs)(k:List Key):o9 (jB kvs k) ((om xs k).map (·.2)):=by induction r with|nil=>exact kF|@cons p q ps a h t f=>
   obtain⟨h1,_,g⟩:=h;by_cases e:p.1=k
   . have c:q.1=k:=h1.symm.trans e;have b:om (q::a) k=al q.2:=by simp[om,gl,c]
     rw[mX e,b];exact g
   . have c:¬ q.1=k:=λz=>e (h1.trans z);have b:om (q::a) k=om a k:=by simp[om,gl,c]
     rw[mV e,b];exact f
theorem KT.repl{kvs:List (List Key×V)}{xs:List (List Key×b_×bw)}(r:KT H kvs xs)(k:List Key){u:bw}(c:RelV y u):KT H (kvs.map λa=>if a.1=k then(a.1,y)else a) (xs.map (putAt k u)):=by induction r with|nil=>exact .nil|@cons p q ps i h t f=>
   rw[dc,dc];refine .cons ?_ f;obtain⟨h1,b,g⟩:=h;unfold putAt;by_cases e:p.1=k;.rw[if_pos e,if_pos (h1.symm.trans e)];exact⟨h1,b,c⟩
   .rw[if_neg e,if_neg (λz=>e (h1.trans z))];exact⟨h1,b,g⟩
theorem KT.put{kvs:List (List Key×V)}{xs:List (List Key×b_×bw)}(r:KT H kvs xs)(k:List Key){b:b_}{u:bw}(c:H b=al (.tup (k.map kV)))(a:RelV y u):KT H (putK kvs k y) (storedH xs k b u):=by
 have e:(kvs.any λf=>decide (f.1=k))=(om xs k).isSome:=by rw[sr,(r.val k).iT,isSome_map]
 unfold putK storedH;rw[e];by_cases q:(om xs k).isSome=bx;.rw[if_pos q,if_pos q];exact r.repl k a
 .rw[if_neg q,if_neg q];exact Paired.snoc r ⟨rfl,c,a⟩
theorem KT.keeps{a:Hp}{kvs:List (List Key×V)}{xs:List (List Key×b_×bw)}(r:KT H kvs xs)(ht:∀b ys,H b=al (.tup ys)->a b=al (.tup ys)):KT a kvs xs:=Paired.Ve r λ_ _ z=>⟨z.1,ht _ _ z.2.1,z.2.2⟩
section
variable{P:da}{w:eg}{H:Hp}{h:ew}{a:b_}
theorem Rf{u:HO}(ok:nF P w H h)(e:Rd H a u):bI P w H h a u:=e.ok ok
theorem qd{kvs:List (Key×V)}(ok:nF P w H h)(e:Rd H a (.dK kvs)):kvs.length<=sizeLine/\(a==hQ)=a7/\∃vs,KV kvs vs/\h.DictOf (aZ P w) a vs:=show bI P w H h a (.dK kvs)from Rf ok e
theorem QJ{kvs:List (Key×V)}(ok:nF P w H h)(e:H a=al (.dK kvs)):kvs.length<=sizeLine/\(a==hQ)=a7/\∃vs,KV kvs vs/\h.DictOf (aZ P w) a vs:=qd ok (.inl e)
theorem nW{ks:List Key}(ok:nF P w H h)(e:H a=al (.tup (ks.map kV))):(lI (aZ P w)).is h ks a:=by obtain⟨_,b,r,o,h1,c,n,f⟩:=(show bI P w H h a (.tup (ks.map kV))from ok a _ e);exact⟨o,b.toArray,n,h1,c,f,by simpa using uc r⟩
theorem rW{kvs:List (List Key×V)}(ok:nF P w H h)(e:Rd H a (.dT kvs)):kvs.length<=sizeLine/\(a==hQ)=a7/\∃xs,KT H kvs xs/\h.DictOfH (lI (aZ P w)) a xs:=by
 obtain⟨z,y,xs,r,o,es,ep,h1,c,f,g,i⟩:=(show bI P w H h a (.dT kvs)from Rf ok e);refine⟨z,y,xs,r,o,es,ep,h1,c,f,g,λx hx=>?_,i⟩;have all:∀{l:List (List Key×V)}{m:List (List Key×b_×bw)},KT H l m->∀x∈m,(lI (aZ P w)).is h x.1 x.2.1:=by intro l m q;induction q with|nil=>intro x hx;exact nomatch hx|@cons p q ps k b t j=>
    intro x hx;rcases cS.mp hx with e|hx;.subst e;exact nW ok (by rw[<-b.1];exact b.2.1)
    .exact j x hx
 exact all r x hx
theorem Zn{kvs:List (List Key×V)}(ok:nF P w H h)(e:H a=al (.dT kvs)):kvs.length<=sizeLine/\(a==hQ)=a7/\∃xs,KT H kvs xs/\h.DictOfH (lI (aZ P w)) a xs:=rW ok (.inl e)
end
noncomputable def n6(H:Hp)(a:b_)(y:V)(r:Option V):Prop:=(∃kvs k,Rd H a (.dK kvs)/\y=kV k/\r=jB kvs k)\/∃kvs k b,Rd H a (.dT kvs)/\y=.ref b/\H b=al (.tup (k.map kV))/\r=jB kvs k
noncomputable def aay(H:Hp)(a:b_)(y v:V)(c:Hp):Prop:=(∃kvs k,H a=al (.dK kvs)/\y=kV k/\kvs.length<sizeLine/\c=upd H a (.dK (putK kvs k v)))\/∃kvs k b,H a=al (.dT kvs)/\y=.ref b/\H b=al (.tup (k.map kV))/\kvs.length<sizeLine/\c=upd H a (.dT (putK kvs k v))
section
variable{X:Cx}{pins:List (b_×Obj)}{σ:St}{H:Hp}{s:bZ}{a:b_}{y v:V}{u r:bw}{o:Option V}{A:ej}{E:bw->bZ->Prop}
theorem Inv.big(I:Inv X pins σ H s):hQ<s.heap.objs.size:=by have h:dE<s.heap.objs.size:=(I.mod.glob.keeps I.bk).lt;exact ot (by decide) h
theorem nZ(B:A.units+1<fT)(I:Inv X pins σ H s)(g:n6 H a y (al v))(t:RelV y u)(h:∀f x,Inv X pins σ H x->RelV v f->Q f x):cy (cE X.prog X.w) A (kc (.ref a) u) Q E s:=by
 rcases g with⟨kvs,k,e,i,l⟩|⟨kvs,k,b,e,i,C,l⟩;.subst i;obtain⟨z,hd,vs,c,j⟩:=qd I.hok e;obtain⟨f,m,n⟩:=o9.some_of (v:=v) (o:=mw vs k) (by rw[l];exact c.val k);exact wpAny_getItem_of (qY t) j.mapOf m (h f _ (I.tok _) n)
 .subst i;cases(show u=dS b from t);obtain⟨z,hd,xs,c,j⟩:=rW I.hok e;obtain⟨f,m,n⟩:=o9.some_of (v:=v) (o:=(om xs k).map (·.2)) (by rw[l];exact c.val k);obtain⟨p,G,q⟩:=fe.mp m;refine wpAny_getItem_heap (iu B) (nW I.hok C) j G ?_;rw[q];exact h f _ (I.tok _) n
theorem Zk(n:A.units+1<fT)(I:Inv X pins σ H s)(g:n6 H a y o)(j:RelV y u)(h:∀m,Inv X pins σ H m->Q (.bool o.isSome) m):cy (cE X.prog X.w) A (dO .In u (.ref a)) Q E s:=by
 rcases g with⟨kvs,k,e,f,l⟩|⟨kvs,k,b,e,f,p,l⟩;.subst f;obtain⟨z,hd,vs,c,i⟩:=qd I.hok e;refine wpAny_in_of (qY j) hd i.mapOf ?_;rw[<-(c.val k).iT,<-l];exact h _ (I.tok _)
 .subst f;cases(show u=dS b from j);obtain⟨z,hd,xs,c,i⟩:=rW I.hok e;refine wpAny_in_heap (iu n) (nW I.hok p) hd i ?_;have q:=(c.val k).iT;rw[isSome_map]at q;rw[<-q,<-l];exact h _ (I.tok _)
theorem CG(n:A.units+1<fT)(I:Inv X pins σ H s)(g:n6 H a y o)(j:RelV y u)(h:∀m,Inv X pins σ H m->Q (.bool (!o.isSome)) m):cy (cE X.prog X.w) A (dO .NotIn u (.ref a)) Q E s:=by
 rcases g with⟨kvs,k,e,f,l⟩|⟨kvs,k,b,e,f,p,l⟩;.subst f;obtain⟨z,hd,vs,c,i⟩:=qd I.hok e;refine wpAny_notIn_of (qY j) hd i.mapOf ?_;rw[<-(c.val k).iT,<-l];exact h _ (I.tok _)
 .subst f;cases(show u=dS b from j);obtain⟨z,hd,xs,c,i⟩:=rW I.hok e;refine wpAny_notIn_heap (iu n) (nW I.hok p) hd i ?_;have q:=(c.val k).iT;rw[isSome_map]at q;rw[<-q,<-l];exact h _ (I.tok _)
theorem vM{h':ew}{t':Nat}{c:HO}(I:Inv X pins σ H s)(g:Mut (H a))(hs:rf a s.heap h')(he:∃q,h'.get? a=al q)(f:bI X.prog X.w (upd H a c) h' a c):Inv X pins σ (upd H a c) {s with heap:=h',toks:=t'}:=I.write (x:=a) (e:=a) g (.inl rfl) (λb q h z=>(hs.2 b h).trans z) he f
theorem J7{P:da}{c:Hp}{h':ew}{kvs:List (Key×V)}{vs:List (Key×bw)}(z:kvs.length<=sizeLine)(hd:(a==hQ)=a7)(b:KV kvs vs)(e:h'.DictOf (aZ P w) a vs):bI P w c h' a (.dK kvs):=⟨z,hd,vs,b,e⟩
theorem G4{x:Hp}{Q:Unit->bZ->Prop}(M:A.units+1<fT)(I:Inv X pins σ H s)(g:aay H a y v x)(B:RelV y u)(C:RelV v r)(h:∀G,Inv X pins σ x G->Q () G):cy (cE X.prog X.w) A (mA (.ref a) u r) Q E s:=by
 rcases g with⟨kvs,k,e,m,l,n⟩|⟨kvs,k,b,e,m,J,l,n⟩
 . subst m n;obtain⟨z,hd,vs,f,p⟩:=QJ I.hok e;have hz:vs.length<=sizeLine:=by rw[<-f.length];exact z
   have t:(putK kvs k v).length<=sizeLine:=by have:=jL kvs k v;omega
   refine wpAny_setItem_pairs (hsz:=hz) (qY B) p λh' i hs=>h _ ?_;have he:∃q,h'.get? a=al q:=let⟨q,_,_,j,_⟩:=i;⟨q,j⟩;exact vM I (by rw[e];exact kF) hs he (J7 t hd (f.put k C) i)
 . subst m n;cases(show u=dS b from B);obtain⟨z,hd,xs,f,p⟩:=Zn I.hok e;have hz:xs.length<=sizeLine:=by rw[<-Paired.length f];exact z
   have t:(putK kvs k v).length<=sizeLine:=by have:=jL kvs k v;omega
   refine wpAny_setItem_heap (hsz:=hz) (iu M) (nW I.hok J) p λh' i hs=>h _ ?_;obtain⟨q,es,ep,j,N,O,U,_,W⟩:=i;refine vM I (by rw[e];exact kF) hs ⟨q,j⟩ ⟨t,hd,_,(f.put k J C).keeps λc ys L=>?_,q,es,ep,j,N,O,U,W⟩;rw[ao (aaY L e (λz=>nomatch z))];exact L
end
noncomputable def Qo(i:df):Prop:=∀ov iv,nB i a7 ov iv=operate [ov,iv] (kc ov iv)
theorem Dq{prog:da}{A:ej}{E:bw->bZ->Prop}{s:bZ}{env:Env}{a slice:df}{T id:String}(l:n_ (.type T) "__getitem__"=eS (al (.builtin id)))(hs:Qo slice)(h:cy (cE prog w) A (eu a env) (λo e=>cy (cE prog w) A (eu slice env) (λi b=>b.TypeIs o T/\cy (cE prog w) A (kc o i) Q E b) E e) E s):cy (cE prog w) A (eu (.Subscript a slice pos) env) Q E s:=by
 refine Subscript_ (ei h (λo e g=>ei g (λi b c=>?_) λ_ _ x=>x) λ_ _ x=>x);obtain⟨k,c⟩:=c;unfold pz;refine a_ ?_;rw[getitemInPython_of_ne k.not_modules];refine a_ (nV k l ?_);have fin:cy (cE prog w) A (nB slice a7 o i) (λr f=>cy (cE prog w) A (letTemporaryGo a o r>>=λ_=>eS r) Q E f) E b:=by rw[hs o i];exact wpAny_operating (ei c (λr f j=>a_ (wpAny_letTemporaryGo (cr j))) λ_ _ x=>x)
 first|exact cr (a_ fin)|exact a_ (cr (a_ fin))|exact a_ fin
theorem jR{c:List (b_×Obj)}{σ:St}{s:bZ}{a:b_}{o:Option V}(I:Inv X c σ H s)(g:n6 H a y o):s.TypeIs (.ref a) "dict":=by
 rcases g with⟨kvs,k,e,_,_⟩|⟨kvs,k,b,e,_,_,_⟩;.obtain⟨_,_,vs,_,f⟩:=qd I.hok e;exact f.typeIs
 .obtain⟨_,_,xs,_,f⟩:=rW I.hok e;exact f.typeIs
noncomputable def Zm(c ty:TE):TE:=λσ H Q=>c σ H λx e=>ty σ e λy b=>∃a v,x=.ref a/\n6 b a y (al v)/\Q v b
noncomputable def afK(ty c:TE):TE:=λσ H Q=>ty σ H λy e=>c σ e λx b=>∃a o,x=.ref a/\n6 b a y o/\Q (.bl o.isSome) b
noncomputable def O7(ty c:TE):TE:=λσ H Q=>ty σ H λy e=>c σ e λx b=>∃a o,x=.ref a/\n6 b a y o/\Q (.bl (!o.isSome)) b
noncomputable def aag(c ty e:TE):TS:=λD σ H=>e σ H λv f=>c σ f λx g=>ty σ g λy h=>∃a b,x=.ref a/\aay h a y v b/\D.nx σ b
section
variable{X:Cx}{o i e value:df}{pos pos' tpos:Pos}{td ty tv:TE}
theorem Oh(c:X.A.units+1<fT)(ho:PE X o td)(hi:PE X i ty)(hs:Qo i):PE X (.Subscript o i pos) (Zm td ty):=by intro b s σ H Q I h;refine Dq PySem.F.slot_dict_getitem.lookup hs (cB (ho b s σ H _ I h) λu s1⟨x,H1,I1,rx,q1⟩=>cB (hi b s1 σ H1 _ I1 q1) λiv s2⟨y,H2,I2,ry,a,v,ex,g,q2⟩=>?_);subst ex;obtain rfl:u=dS a:=rx;exact⟨jR I2 g,nZ c I2 g ry λk s3 f j=>⟨v,H2,f,j,q2⟩⟩
theorem VM(c:X.A.units+1<fT)(hi:PE X i ty)(ho:PE X o td):PC X .In i o (afK ty td):=by intro b s σ H Q I h;refine cB (hi b s σ H _ I h) λiv s1⟨y,H1,I1,ry,q1⟩=>cB (ho b s1 σ H1 _ I1 q1) λu s2⟨x,H2,I2,rx,a,ov,ex,g,q2⟩=>?_;subst ex;obtain rfl:u=dS a:=rx;exact Zk c I2 g ry λs3 f=>⟨.bl ov.isSome,H2,f,rfl,q2⟩
theorem Gz(c:X.A.units+1<fT)(hi:PE X i ty)(ho:PE X o td):PC X .NotIn i o (O7 ty td):=by intro b s σ H Q I h;refine cB (hi b s σ H _ I h) λiv s1⟨y,H1,I1,ry,q1⟩=>cB (ho b s1 σ H1 _ I1 q1) λu s2⟨x,H2,I2,rx,a,ov,ex,g,q2⟩=>?_;subst ex;obtain rfl:u=dS a:=rx;exact CG c I2 g ry λs3 f=>⟨.bl (!ov.isSome),H2,f,rfl,q2⟩
theorem Ce(c:X.A.units+1<fT)(ho:PE X o td)(hi:PE X i ty)(f:PE X value tv)(hs:gd value (al (.Subscript o i pos')) pos.line X.env=eS a7):PS X (.Assign [.Subscript o i pos'] value pos) (aag td ty tv):=by intro b s σ H D I h;refine wpAny_Assign_Subscript (cB (f b s σ H _ I h) λr s1⟨v,H1,I1,rv,q1⟩=>cB (ho b s1 σ H1 _ I1 q1) λu s2⟨x,H2,I2,rx,q2⟩=>cB (hi b s2 σ H2 _ I2 q2) λiv s3⟨y,H3,I3,ry,a,H4,ex,g,q3⟩=>?_) hs;subst ex;obtain rfl:u=dS a:=rx;exact G4 c I3 g ry rv λs4 j=>⟨σ,H4,j,q3⟩
end
theorem yM{P:da}(h:ew)(a:hQ<h.objs.size):bI P w H (h.push {cls:=.type "dict",data:=.dict #[]}) h.objs.size (.dK []):=⟨uY,beq_eq_false_iff_ne.mpr (fE (dP a)),[],.nil,Heap.DictOf.new h⟩
noncomputable def V1:TE:=λ_ H Q=>∀p,H p=bdq->Q (.ref p) (upd H p (.dK []))
section
variable{X:Cx}{pos:Pos}
theorem yC:PE X (.Dict [] [] pos) V1:=λb s σ H Q I h=>wpAny_Dict_empty ⟨.ref s.heap.objs.size,_,I.laid (a:=s.heap.objs.size) (o:=.dK []) (t':=s.toks) (λ_ _ q=>dB q) (dq) (yM s.heap I.big),rfl,h _ (I.hok.fresh (dq))⟩
end
noncomputable def Bc:List (TE×TE)->St->Hp->(List (V×V)->Hp->Prop)->Prop|[],_,H,Q=>Q [] H|(tk,a)::r,σ,H,Q=>tk σ H λx b=>a σ b λy c=>Bc r σ c λps e=>Q ((x,y)::ps) e
noncomputable abbrev VV:List (V×V)->List (bw×bw)->Prop:=Paired λp q=>RelV p.1 q.1/\RelV p.2 q.2
noncomputable def PPs(X:Cx)(pos:Pos)(keys:List (Option df))(a:List df)(e:List (TE×TE)):Prop:=∀(b:List (b_ × Obj))(s:bZ)(σ:St)(H:Hp)(Q:List (V × V)->Hp->Prop),Inv X b σ H s->Bc e σ H Q->cy (cE X.prog X.w) X.A (evalPairs (pairTrees keys a X.env pos)) (λvs f=>∃ps c,Inv X b σ c f/\VV ps vs/\Q ps c) X.xe s
theorem Dd:PPs X pos [] [] []:=λa s σ H Q I h=>pairTrees_nil_walk ⟨[],H,I,.nil,h⟩
theorem xq{k v:df}{ks:List (Option df)}{vs:List df}{tk b:TE}{c:List (TE×TE)}(e:PE X k tk)(f:PE X v b)(hr:PPs X pos ks vs c):PPs X pos (al k::ks) (v::vs) ((tk,b)::c):=λa s σ H Q I h=>pairTrees_cons_walk (cB (e a s σ H _ I h) λu s1⟨x,H1,I1,rx,q1⟩=>cB (f a s1 σ H1 _ I1 q1) λg s2⟨y,H2,I2,ry,q2⟩=>cB (hr a s2 σ H2 _ I2 q2) λws s3⟨ps,H3,I3,rel,q3⟩=>⟨(x,y)::ps,H3,I3,.cons ⟨rx,ry⟩ rel,q3⟩)
noncomputable def oh(kvs more:List (Key×V)):List (Key×V):=more.foldl (λa b=>putK a b.1 b.2) kvs
theorem KV.merge:∀{more:List (Key×V)}{a:List (Key×bw)}{kvs:List (Key×V)}{vs:List (Key×bw)},KV more a->KV kvs vs->KV (oh kvs more) (merged vs a):=by intro more a kvs vs r;unfold KV at r;induction r generalizing kvs vs with|nil=>intro q;exact q|@cons p q ps c h t b=>
   intro r0;have e:KV (putK kvs p.1 p.2) (stored vs q.1 q.2):=by have:=r0.put p.1 h.2;rw[<-h.1];exact this
   exact b e
theorem lB:∀(more kvs:List (Key×V)),(oh kvs more).length<=kvs.length+more.length|[],kvs=>by show kvs.length<=kvs.length+0;omega|p::r,kvs=>by have h1:=lB r (putK kvs p.1 p.2);have a:=jL kvs p.1 p.2;show(oh (putK kvs p.1 p.2) r).length<=_;rw[dL];omega
theorem su{P:da}{w:eg}:∀{kvs:List (Key×V)}{ws:List (bw×bw)},VV (kvs.map λf=>(kV f.1,f.2)) ws->∃e,Carries (aZ P w) ws e/\KV kvs e|[],_,r=>by rw[mN]at r;cases r;exact⟨[],kF,.nil⟩|p::kvs,_,r=>by rw[dc]at r;cases r with|@cons a b as bs h t=>obtain⟨e,c,q⟩:=su (P:=P) (w:=w) t;obtain⟨b1,b2⟩:=b;exact⟨(p.1,b2)::e,⟨qY h.1,rfl,c⟩,.cons ⟨rfl,h.2⟩ q⟩
noncomputable def aaX(c:List (TE×TE)):TE:=λσ H Q=>∀p,H p=bdq->Bc c σ (upd H p (.dK [])) λps a=>a p=al (.dK [])/\∃kvs:List (Key×V),ps=kvs.map (λb=>(kV b.1,b.2))/\kvs.length<=15/\Q (.ref p) (upd a p (.dK (oh [] kvs)))
theorem Dn{keys:List (Option df)}{b:List df}{j:List (TE×TE)}(h:PPs X pos keys b j)(f:keys.all (·.isSome)=bx)(l:keys.length=b.length)(h0:keys≠[])(i:keys.length<=15):PE X (.Dict keys b pos) (aaX j):=by
 intro g s σ H Q I q;have m:=I.hok.fresh (le_refl s.heap.objs.size);have n:=I.laid (a:=s.heap.objs.size) (o:=.dK []) (h':=s.heap.push {cls:=.type "dict",data:=.dict #[]}) (t':=s.toks) (λ_ _ q=>dB q) (dq) (yM s.heap I.big);refine wpAny_Dict_walk (knd:=aZ X.prog X.w) f l h0 i (cB (h g _ σ _ _ n (q _ m)) λws s2⟨ps,H2,I2,rel,e,kvs,ep,lk,q2⟩=>?_);subst ep;obtain⟨p,c,r⟩:=su (P:=X.prog) (w:=X.w) rel;obtain⟨z,hd,t,r0,u⟩:=QJ I2.hok e;cases r0;refine⟨p,c,u,λh' k hs=>⟨.ref s.heap.objs.size,_,?_,rfl,q2⟩⟩;have hz:(oh [] kvs).length<=sizeLine:=by have h1:=lB kvs [];rw[length_nil]at h1;rw[eW];omega
 have he:∃q,h'.get? s.heap.objs.size=al q:=let⟨q,_,_,hq,_⟩:=k;⟨q,hq⟩;exact vM I2 (by rw[e];exact kF) hs he (J7 hz hd (r.merge .nil) k)
structure M2(X:Cx)(o:df)(m:Str)(apos:Pos)(e f:df)(cpos:Pos):Prop where
 base:iq o m X.env (eu o X.env)=eu o X.env
 few:((iA cpos (cw [e,f] X.env)).all (λx=>!x.1)&&(ol cpos (lj [] X.env)).all (λx=>x.1.isSome)&&decide (([e,f]:List df).length+([]:List kG).length+(if([]:List kG).isEmpty then 0 else 1)<30))=bx
 line:(apos.endLine==cpos.line)=bx
 trees:iA cpos (cw [e,f] X.env)=[(a7,eu e X.env),(a7,eu f X.env)]
noncomputable def IsD(H:Hp)(a:b_):Prop:=(∃kvs,Rd H a (.dK kvs))\/∃kvs,Rd H a (.dT kvs)
theorem UL{f:List (b_×Obj)}{σ:St}{s:bZ}{a:b_}(I:Inv X f σ H s)(d:IsD H a):s.TypeIs (.ref a) "dict"/\(∀b,dS a=.ref b->∃c,s.heap.get? b=al c/\c.dict=bdq)/\(a==hQ)=a7:=by
 rcases d with⟨kvs,e⟩|⟨kvs,e⟩;.obtain⟨_,hd,vs,_,g⟩:=qd I.hok e;refine⟨g.typeIs,λb q=>?_,hd⟩;cases q;obtain⟨c,_,_,h1,h,_⟩:=g;exact⟨c,h1,h.2.1⟩
 .obtain⟨_,hd,xs,_,g⟩:=rW I.hok e;refine⟨g.typeIs,λb q=>?_,hd⟩;cases q;obtain⟨c,_,_,h1,h,_⟩:=g;exact⟨c,h1,h.2.1⟩
section
variable{X:Cx}{pins:List (b_×Obj)}{σ:St}{H:Hp}{s:bZ}{a:b_}{y d:V}{u r:bw}{o:Option V}{A:ej}{E:bw->bZ->Prop}
theorem Sw(q:A.units+1<fT)(I:Inv X pins σ H s)(g:n6 H a y o)(j:RelV y u)(m:RelV d r)(h:∀n p,Inv X pins σ H p->RelV (o.getD d) n->Q n p):cy (cE X.prog X.w) A (call (.builtin "dict.get") [.ref a,u,r]) Q E s:=by
 rcases g with⟨kvs,k,e,i,l⟩|⟨kvs,k,b,e,i,t,l⟩;.subst i;obtain⟨z,hd,vs,c,f⟩:=qd I.hok e;refine rd PySem.F.slot_dict_get f.typeIs PySem.F.entry_dict_get (PySem.F.args_dict_get_3 _ _ _) (meets_dict_get_default (aZ X.prog X.w) a (qY j) hd r) ⟨_,f.mapOf,h _ _ (I.tok _) ?_⟩;rw[l];exact(c.val k).getD m
 .subst i;cases(show u=dS b from j);obtain⟨z,hd,xs,c,f⟩:=rW I.hok e;refine rd PySem.F.slot_dict_get f.typeIs PySem.F.entry_dict_get (PySem.F.args_dict_get_3 _ _ _) (meetsH_dict_get_default (lI (aZ X.prog X.w)) a b hd r) ⟨iu q,k,xs,nW I.hok t,f,h _ _ (I.tok _) ?_⟩;rw[l];exact(c.val k).getD m
end
noncomputable def VN(e ty f:TE):TE:=λσ H Q=>e σ H λx b=>∃a,x=.ref a/\IsD b a/\ty σ b λy g=>f σ g λz c=>∃o,n6 c a y o/\Q (o.getD z) c
section
variable{X:Cx}{o e f:df}{apos cpos:Pos}{td ty tx:TE}
theorem KQ(c:X.A.units+1<fT)(ho:PE X o td)(he:PE X e ty)(i:PE X f tx)(m:M2 X o "get" apos e f cpos):PE X (.Call (.Attribute o "get" apos) [e,f] [] cpos) (VN td ty tx):=by intro b s σ H Q I h;refine wpAny_Call_method m.base m.few m.line PySem.F.plainAttrs_dict PySem.F.slot_dict_get PySem.F.type_dict_get (cB (ho b s σ H _ I h) λu s1⟨x,H1,I1,rx,a,ex,d,q1⟩=>?_);subst ex;obtain rfl:u=dS a:=rx;obtain⟨t1,t2,_⟩:=UL I1 d;refine⟨t1,t2,?_⟩;rw[m.trees];refine kA rfl (oQ (jx (cB (he b s1 σ H1 _ I1 q1) λiv s2⟨y,H2,I2,ry,q2⟩=>jx (cB (i b s2 σ H2 _ I2 q2) λl s3⟨z,H3,I3,rz,ov,g,q3⟩=>ly ?_))));exact Sw c I3 g ry rz λn s4 j k=>⟨_,H3,j,k,q3⟩
end
end _L
namespace _H
open PySem _L Spec PyProof.Rows
variable{kvs:List (Int×D)}{es:List (Key×V)}{k:Int}{i:Nat}
inductive KR(K:PySem.W.Frag)(F:Hp):List (Int×D)->List (Key×V)->Prop where|nil:KR K F [] []|cons{k:Int}{d:D}{v:V}{kvs:List (Int×D)}{es:List (Key×V)}(h:Rep K F v d)(t:KR K F kvs es):KR K F ((k,d)::kvs) ((dJ k,v)::es)
section
variable{K:PySem.W.Frag}{F F':Hp}
noncomputable def ent(ks:List Int)(vs:List V):List (Key×V):=(ks.zip vs).map λp=>(dJ p.1,p.2)
theorem KR.of:∀{kvs:List (Int×D)}{vs:List V},aF K F vs (kvs.map (·.2))->KR K F kvs (ent (kvs.map (·.1)) vs)|[],vs,h=>by rw[mN]at h;rw[h.fu];exact .nil|(k,d)::kvs,vs,h=>by obtain⟨v,r,rfl,h1,a⟩:=h.cF;exact .cons h1 (KR.of a)
theorem KR.to(h:KR K F kvs es):∃vs,es=ent (kvs.map (·.1)) vs/\aF K F vs (kvs.map (·.2)):=by induction h with|nil=>exact⟨[],rfl,.nil⟩|@cons k d v kvs es h t a=>obtain⟨vs,rfl,r⟩:=a;exact⟨v::vs,rfl,.cons h r⟩
theorem KR.oc(h:KR K F kvs es):lF K F (.dK es) (.v kvs):=by obtain⟨vs,rfl,r⟩:=h.to;exact⟨vs,rfl,r⟩
theorem KR.Wi{o:HO}(h:lF K F o (.v kvs)):∃es,o=.dK es/\KR K F kvs es:=by obtain⟨vs,rfl,r⟩:=h;exact⟨_,rfl,.of r⟩
theorem KR.len(h:KR K F kvs es):es.length=kvs.length:=by induction h with|nil=>rfl|cons h t a=>simp[a]
theorem KR.get{d:D}(h:KR K F kvs es)(e:lJ kvs k=al d):∃v,jB es (dJ k:Key)=al v/\Rep K F v d:=by induction h with|nil=>cases e|@cons j d' v kvs es h t a=>
   unfold lJ at e a;rw[gl]at e;by_cases c:j=k;.simp[c]at e;subst e;exact⟨v,mX (by rw[c]),h⟩
   .simp[c]at e;obtain⟨b,h1,f⟩:=a (by simpa using e);exact⟨b,by rw[mV (by simpa using c)];exact h1,f⟩
theorem KR.any{kvs:List (Int×D)}{es:List (Key×V)}(k:Int)(h:KR K F kvs es):(es.any λa=>decide (a.1=(dJ k:Key)))=kvs.any λp=>decide (p.1=k):=by induction h with|nil=>rfl|cons h t b=>simp[b]
theorem KR.has(k:Int)(h:KR K F kvs es):(jB es (dJ k:Key)).isSome=(kvs.map (·.1)).contains k:=by rw[<-sr,h.any k];induction h with|nil=>rfl|@cons j d v kvs es h t a=>rw[jp,a,dc,List.contains_cons];congr 1;exact Bool.eq_iff_iff.mpr ⟨λz=>by simp at z ⊢;exact z.symm,λz=>by simp at z ⊢;exact z.symm⟩
theorem KR.repl{d:D}{v:V}(r:Rep K F v d)(h:KR K F kvs es):KR K F (kvs.map λp=>if p.1=k then(p.1,d)else p) (es.map λa=>if a.1=(dJ k:Key)then(a.1,v)else a):=by induction h with|nil=>exact .nil|@cons j d' e kvs es h t b=>
   by_cases c:j=k;.subst c;simp;exact .cons r b
   . have:¬(dJ j:Key)=dJ k:=by simpa using c
     simp[c,this];exact .cons h b
theorem KR.snoc{d:D}{v:V}(r:Rep K F v d)(h:KR K F kvs es):KR K F (kvs++[(k,d)]) (es++[(dJ k,v)]):=by induction h with|nil=>exact .cons r .nil|cons h t a=>exact .cons h a
theorem KR.put{d:D}{v:V}(r:Rep K F v d)(h:KR K F kvs es):KR K F (gn kvs k d) (putK es (dJ k:Key) v):=by
 unfold gn putK;rw[h.any k];split;.exact h.repl r
 .exact h.snoc r
theorem KR.zip{ks:List Int}{a:List D}{vs:List V}(h:aF K F vs a)(b:ks.length=a.length):KR K F (ks.zip a) (ent ks vs):=by induction a generalizing ks vs with
 |nil=>rw[h.fu];cases ks with|nil=>exact .nil|cons _ _=>simp at b
 |cons d a c=>obtain⟨v,r,rfl,h1,e⟩:=h.cF;cases ks with|nil=>simp at b|cons k ks=>exact .cons h1 (c e (by simpa using b))
end
section
variable{K:PySem.W.Frag}{F F1 H H1:Hp}{ρ ρ1 ρ2:List Sl}{σ σ1:_L.St}
theorem GS.adM{x:Nat}{m p:Dc}{a:b_}(g:GS K F ρ σ H)(e:ρ[x]?=al (.gY m))(r:σ[x]?=al (al (.ref a))):az K F ρ σ H F (ρ.set x (.gY p)) σ (upd H a p.ho):=by
 have hi:x<ρ.length:=(dX e).1;have v:aX ρ σ x a:=⟨⟨_,_,e,rfl⟩,r⟩;obtain⟨I,J,h1,L,w,M⟩:=g.own x _ _ e rfl;rw[r]at h1;cases h1;have f:∀{j:Nat}{c:b_},aX (ρ.set x (.gY p)) σ j c->aX ρ σ j c:=λ{j c}⟨⟨t,dt,h,s⟩,q3⟩=>by
  by_cases b:j=x;.subst b;exact⟨⟨_,_,e,rfl⟩,q3⟩
  .rw[fj b]at h;exact⟨⟨t,dt,h,s⟩,q3⟩
 refine⟨⟨λc o q=>?_,by simp[g.len],λj z d q=>?_,λj t dt q u=>?_,λj k c h s=>g.dis j k c (f h) (f s)⟩,.refl _,λc n A=>absurd n A,λc o q n=>?_,λc⟨j,q⟩=>.inl ⟨j,f q⟩,by simp,λj t q l=>⟨rfl,?_⟩⟩
 . have:c≠a:=by rintro rfl;rw[w]at q;cases q
   rw[ao this];exact g.sub c o q
 . by_cases b:j=x;.subst b;rw[cp hi]at q;cases q
   .rw[fj b]at q;exact g.val j z d q
 . by_cases b:j=x;.subst b;rw[cp hi]at q;cases q;cases u;exact⟨a,_,r,aC,w,rfl⟩
   . rw[fj b]at q;obtain⟨c,B,y,C,E,G⟩:=g.own j t dt q u;have:c≠a:=by rintro rfl;exact b (g.dis j x c ⟨⟨t,dt,q,u⟩,y⟩ v)
     exact⟨c,B,y,by rw[ao this];exact C,E,G⟩
 . have:c≠a:=by rintro rfl;exact n ⟨x,v⟩
   rw[ao this];exact q
 . by_cases b:j=x;.subst b;rw[e]at q;cases q;cases l
   .exact⟨t,by rw[fj b];exact q,.refl t⟩
theorem GS.newD{m:Dc}{a:b_}(g:GS K F ρ σ H)(e:ρ[i]?=al .aN)(s:H a=bdq):az K F ρ σ H F (ρ.set i (.gY m)) (σ.set i (al (.ref a))) (upd H a m.ho):=by
 have hi:i<ρ.length:=(dX e).1;have u:i<σ.length:=by rw[<-g.len];exact hi
 have x:F a=bdq:=by cases q:F a with|none=>rfl|some o=>rw[g.sub a o q]at s;cases s
 have f:∀{j:Nat}{c:b_},j≠i->aX (ρ.set i (.gY m)) (σ.set i (al (.ref a))) j c->aX ρ σ j c:=λ{j c}b⟨⟨t,ds,e1,e2⟩,e3⟩=>by rw[fj b]at e1 e3;exact⟨⟨t,ds,e1,e2⟩,e3⟩
 have h:∀{c:b_},aX (ρ.set i (.gY m)) (σ.set i (al (.ref a))) i c->c=a:=λ{c}⟨_,e3⟩=>by rw[cp u]at e3;cases e3;rfl
 have no:∀{j:Nat},¬ aX ρ σ j a:=λ{j}⟨⟨t,ds,e1,e2⟩,e3⟩=>by obtain⟨c,o,p,r,_⟩:=g.own j t ds e1 e2;rw[e3]at p;cases p;rw[s]at r;cases r
 refine⟨⟨λc o q=>?_,by simp[g.len],λj z d q=>?_,λj t dt q y=>?_,λj k c p r=>?_⟩,.refl _,λc n A=>absurd n A,λc o q n=>?_,λc⟨j,q⟩=>?_,by simp,λj t q l=>?_⟩
 . have:c≠a:=by rintro rfl;rw[x]at q;cases q
   rw[ao this];exact g.sub c o q
 . by_cases b:j=i;.subst b;rw[cp hi]at q;cases q
   .rw[fj b]at q ⊢;exact g.val j z d q
 . by_cases b:j=i;.subst b;rw[cp hi]at q;cases q;cases y;exact⟨a,_,cp u,aC,x,rfl⟩
   . rw[fj b]at q ⊢;obtain⟨c,o,B,w,C,E⟩:=g.own j t dt q y;have:c≠a:=by rintro rfl;rw[s]at w;cases w
     exact⟨c,o,B,by rw[ao this];exact w,C,E⟩
 . by_cases b:j=i
   . by_cases v:k=i;.rw[b,v]
     .subst b;rw[h p]at r;exact absurd (f v r) no
   . by_cases v:k=i;.subst v;rw[h r]at p;exact absurd (f b p) no
     .exact g.dis j k c (f b p) (f v r)
 . have:c≠a:=by rintro rfl;rw[s]at q;cases q
   rw[ao this];exact q
 . by_cases b:j=i;.subst b;rw[h q];exact .inr s
   .exact .inl ⟨j,f b q⟩
 . have b:j≠i:=by rintro rfl;rw[e]at q;cases q;cases l
   exact⟨by rw[fj b],t,by rw[fj b];exact q,.refl t⟩
end
noncomputable def tK(p:Int×Int):Key×V:=(dJ p.1,V.int p.2)
theorem Jw(i:Int):∀kvs:List (Int×Int),jB (kvs.map tK) (dJ i:Key)=((kvs.find? λb=>decide (b.1=i)).map (·.2)).map V.int
 |[]=>rfl|p::kvs=>by
   have a:=Jw i kvs;unfold jB at a ⊢;rw[dc,gl,gl];by_cases h:p.1=i
   . have e:decide ((tK p).1=(dJ i:Key))=bx:=by simp[tK,h]
     rw[e];simp[h,tK]
   . have e:decide ((tK p).1=(dJ i:Key))=a7:=by simp[tK,h]
     rw[e];simp only[h,decide_false];exact a
theorem Tu(i v:Int)(kvs:List (Int×Int)):putK (kvs.map tK) (dJ i:Key) (V.int v)=(putD kvs i v).map tK:=by
 have e:((kvs.map tK).any λa=>decide (a.1=(dJ i:Key)))=kvs.any λa=>decide (a.1=i):=by rw[List.any_map];congr 1;funext p;simp[tK]
 unfold putK putD;rw[e];split
 . rw[ec,ec];refine gi λp _=>?_;by_cases h:p.1=i;.simp[tK,h]
   .simp[tK,h]
 .rw[gI];rfl
section
variable{X:Cx}{c:Call}{n:Nat}{a b e:df}{pa pb p:P}{pos:Pos}
theorem JF{H:Hp}{q:b_}{m:Dc}{i:Int}{o:Option Int}(h:Rd H q m.ho)(e:m.get (.int i)=al o):n6 H q (.int i) (o.map V.int):=by cases m with|k kvs=>cases e;exact .inl ⟨kvs.map tK,dJ i,h,rfl,(Jw i kvs).symm⟩|t kvs=>cases e
theorem pH(hu:X.A.units+8<fT)(M:SX X c a pa)(N:SX X c b pb)(hs:Qo b):SX X c (.Subscript a b pos) (.bin .Bx pa pb):=by refine wG (f:=Dr) (λh1 O=>?_) M N (λρ=>rfl) rfl;intro l s σ H Q I h;refine Dq PySem.F.slot_dict_getitem.lookup hs (cB (h1 l s σ H _ I h) λu s1⟨x,H1,I1,rx,q1⟩=>cB (O l s1 σ H1 _ I1 q1) λiv s2⟨y,H2,I2,ry,q2⟩=>?_);obtain⟨F,d,e,r,sm,G,J,he,k⟩:=q2;cases d with
 |dz m=>have U:=cC (show(m.get e).bind (λo=>o.map λv=>R.val (.int v))=al r from he);clear he;obtain⟨o,w,he⟩:=U;cases o with|none=>cases he|some v=>
     cases he;obtain⟨i,rfl⟩:∃i,e=.int i:=by cases m with|t kvs=>cases e<;>cases w|k kvs=>cases e<;>first|exact⟨_,rfl⟩|cases w
     obtain⟨q,z,rfl,B⟩:=G.dz sm;rw[J.int]at ry;obtain rfl:u=dS q:=rx;have g:=JF (.inr ⟨z,B⟩) w;exact⟨jR I2 g,nZ (by omega) I2 g ry λW s3 C E=>⟨.int v,H2,C,E,cH.cY sm (cu _) k⟩⟩
 |dv ks Y=>cases e with|int j=>obtain⟨d',Z,he⟩:=map_some (show(lJ (ks.zip Y) j).map R.val=al r from he);subst he;obtain⟨q,z,vs,rfl,B,rs,hl⟩:=G.dv sm;obtain⟨L,g1,g2⟩:=(KR.zip rs hl).get Z;rw[J.int]at ry;obtain rfl:u=dS q:=rx;have g:n6 H2 q (.int j) (al L):=.inl ⟨_,dJ j,.inr ⟨z,B⟩,rfl,g1.symm⟩;exact⟨jR I2 g,nZ (by omega) I2 g ry λW s3 C E=>⟨L,H2,C,E,cH.cY sm g2 k⟩⟩|_=>cases he
 |_=>cases he
theorem Qd{x:Str}{f p2:Pos}(h:X.N.Nodup)(hi:X.N[i]?=al x)(j:Loc X.env.scope x)(hs:gd (.Dict [] [] p2) (al (.Name x f)) pos.line X.env=eS a7:=by rfl)(l:X.fn x=bx\/X.env.scope.names.lookup x=al .local:=by first|(left;rfl)|(right;rfl)|assumption):SS X c n (.Assign [.Name x f] (.Dict [] [] p2) pos) (.LR i a7):=by
 refine dH (qe h hi j yC hs l) ?_;rintro D σ H⟨F,ρ,fl,o,g,e,k⟩;rw[_H.X18]at e;split at e;.rename_i q;cases e;exact λa r=>k F _ _ (g.newD (m:=.k []) q r)
 .cases e
theorem Ss{x:Str}{C f l:Pos}{pk E:P}(hu:X.A.units+8<fT)(W:X.N[i]?=al x)(Y:vC X.env.scope x)(Z:SX X c a pk)(hb:SX X c b E)(m:M2 X (.Name x C) "get" f a b l)(hd:(x==("__debug__":Str))=a7:=by decide)(u:(x==("__classdict__":Str))=a7:=by decide):SX X c (.Call (.Attribute (.Name x C) "get" f) [a,b] [] l) (.Y5 i pk E):=by
 obtain⟨ta,h1,h2⟩:=Z.cN;obtain⟨tb,h3,h4⟩:=hb.cN;refine⟨dG (KQ (by omega) (eU W Y hd u) h1 h3 m) ?_,λi h=>by cases h⟩;rintro σ H Q⟨F,ρ,r,ac,g,e,k⟩;rw[_H.E23]at e;split at e
 . rename_i m0 q;obtain⟨y,ae,e1,G⟩:=aa e;clear e;obtain⟨dd,ρ2,e2,s⟩:=aa G;clear G;obtain⟨I,o0,J,L,w3,w4⟩:=g.own i _ _ q rfl;refine⟨.ref I,J,I,rfl,?_,?_⟩;.cases(show o0=m0.ho from w4);cases m0 with|k kvs=>exact .inl ⟨_,.inl L⟩|t kvs=>exact .inr ⟨_,.inl L⟩
   . refine h2 g e1 λv F1 H1 s1 pv=>h4 s1.gs e2 λz F2 H2 s2 M=>?_;split at s
     . rename_i m1 q1;obtain⟨O,e3⟩:=aD s;clear s;subst e3;obtain⟨o,B,eD⟩:=cC O;clear O;obtain⟨w,e5,e6⟩:=map_some eD;subst e6;obtain⟨a1,o1,U,y2,y3,y4⟩:=s2.gs.own i _ _ q1 rfl;rw[J]at U;cases U;cases(show o1=m1.ho from y4);obtain⟨j,rfl⟩:∃j,y=.int j:=by cases m1 with|t kvs=>cases y<;>cases B|k kvs=>cases y<;>first|exact⟨_,rfl⟩|cases B
       rw[dg e5]at M;rw[pv.int,M.int];refine⟨o.map V.int,JF (.inl y2) B,?_⟩;have:(o.map V.int).getD (V.int w)=V.int (o.getD w):=by cases o<;>rfl
       rw[this];exact k _ F2 H2 (s1.trans s2) (show Rep X.K F2 _ _ from cu _)
     .cases s
 .cases e
theorem O3{x:Str}{C f:Pos}{pk:P}(hu:X.A.units+8<fT)(J:X.N[i]?=al x)(L:vC X.env.scope x)(M:SX X c a pk)(he:SX X c e p)(hs:gd e (al (.Subscript (.Name x C) a f)) pos.line X.env=eS a7:=by rfl)(hd:(x==("__debug__":Str))=a7:=by decide)(s:(x==("__classdict__":Str))=a7:=by decide):SS X c n (.Assign [.Subscript (.Name x C) a f] e pos) (.dput i pk p):=by
 obtain⟨ta,h1,O⟩:=M.cN;refine dH (Ce (by omega) (eU J L hd s) h1 he.ev hs) ?_;rintro D σ H⟨F,ρ,fl,Q,g,e,k⟩;rw[_H.X19]at e;obtain⟨r,u,U,o⟩:=aa e;clear e;refine⟨F,ρ,r,u,g,U,λv F1 H1 s1 W=>?_⟩;split at o
 . rename_i m0 Y;obtain⟨E,ρ2,Z,h⟩:=aa o;clear o;obtain⟨z,o0,B,w2,w3,w4⟩:=s1.gs.own i _ _ Y rfl;refine⟨.ref z,B,O s1.gs Z λy F2 H2 s2 py=>?_⟩;split at h
   . rename_i m w q;split at h;.rename_i G l;cases h;obtain⟨a1,o1,I,y2,y3,y4⟩:=s2.gs.own i _ _ q rfl;rw[B]at I;cases I;cases(show o1=m.ho from y4);cases(show v=.int w by have:Rep X.K F1 v (.int w):=W;rwa[Rep]at this);refine⟨z,upd H2 z G.ho,rfl,?_,k F2 σ _ ((s1.trans s2).trans (s2.gs.adM q B))⟩;cases m with|t kvs=>cases E<;>cases l|k kvs=>cases E with|int j=>obtain⟨hl,l⟩:=bf (show(if kvs.length<lim then al (Dc.k (putD kvs j w))else bdq)=al G from l);subst l;rw[py.int];refine .inl ⟨kvs.map tK,dJ j,y2,rfl,by rw[dQ,eW];exact hl,?_⟩;rw[Tu];rfl|_=>cases l
     .cases h
   .cases h
 .cases o
end
end _H
namespace _L
open PySem Spec PyProof.Rows
noncomputable def Itk(a:b_)(b:Obj)(kvs:List (Key×V)):It:=⟨λi H=>H a=al (.cQ b (.dK kvs))/\i<kvs.length,λi H x c=>c=H/\∃p,kvs[i]?=al p/\x=kV p.1,λi H=>H a=al (.cQ b (.dK kvs))/\kvs.length<=i⟩
theorem KV.get:∀{κ:Type}{kvs:List (κ×V)}{vs:List (κ×bw)}{i:Nat}{p:κ×V},KV kvs vs->kvs[i]?=al p->∃v,vs[i]?=al (p.1,v)|_,_,_,_,_,.nil,e=>by simp at e|_,_,_,0,_,.cons r _,e=>by simp at e;subst e;exact⟨_,by rw[List.getElem?_cons_zero,r.1]⟩|_,_,_,i+1,p,.cons _ t,e=>by obtain⟨v,h⟩:=KV.get (i:=i) (p:=p) t (by simpa using e);exact⟨v,by simpa using h⟩
theorem tX{X:Cx}{b:List (b_×Obj)}{σ:St}{H:Hp}{s:bZ}{a:b_}{c:Obj}{kvs:List (Key×V)}{es:Array DictEntry}{ep:Nat}(I:Inv X b σ H s)(h:H a=al (.cQ c (.dK kvs)))(hd:c.data=.dict es ep):(a==hQ)=a7/\∃vs,KV kvs vs/\s.heap.DictAt (aZ X.prog X.w) a vs ep:=by obtain⟨ho,hz,f,vs,r,g⟩:=(show bI X.prog X.w H s.heap a (.cQ c (.dK kvs))from I.hok a _ h);obtain⟨o,i,j,h1,k,e,l⟩:=g;rw[ho]at h1;cases h1;rw[hd]at e;cases e;exact⟨f,vs,r,⟨c,es,ho,k,hd,l⟩⟩
theorem WM{P:da}{w:eg}{k:Key}{u:bw}(h:(aZ P w).is k u=bx):RelV (kV k) u:=by
 rcases bG h with⟨i,t,rfl,rfl⟩|⟨x,t,rfl,rfl⟩;.exact⟨t,rfl⟩
 .exact⟨t,rfl⟩
theorem Gu{P:da}{w:eg}{K:PySem.W.Frag}{C:df}(a it:b_)(B:Obj)(kvs:List (Key×V))(es:Array DictEntry)(ep:Nat)(hd:B.data=.dict es ep):Turn P w K C (Itk a B kvs) [it] it (λi h=>h.IsKeyIter it a i kvs.length ep)where
 mem:=by simp
 obj:=λi h st b g=>by
  have e:b=it:=by simpa using g
  subst e;obtain⟨o,e,c,d⟩:=st;exact⟨o,e,λv z=>by rw[d]at z;cases z⟩
 keep:=λi h h' st k=>st.at λo e=>k it (by simp) o e;item:=by intro X n p q hc i f s σ H E I m st t;subst n p q;obtain⟨x,hi⟩:=t;obtain⟨G,vs,r,y⟩:=tX I x hd;have l:vs.length=kvs.length:=(Paired.length r).symm;obtain⟨v,J⟩:=KV.get r (show kvs[i]?=al kvs[i]by simp[hi]);obtain⟨f0,f1,f2,f3,f4,f5⟩:=m it (by simp);refine wpAny_pyNext_dict_item (by rw[l];exact st) y J λu h' L j M=>?_;have N:Inv X f σ H {s with heap:=h'}:=I.turned (t':=s.toks) (λb o g e=>(M.2 b g).trans e) f0 f1 f3 f4 f5;rw[l]at j;obtain⟨o,e,c,d⟩:=id j;exact⟨u,rfl,Cq (s:={s with heap:=h'}) e c d (by decide) ⟨_,H,N,WM L,⟨rfl,_,by simp[hi],rfl⟩,j,λb g=>(m b g).1⟩⟩
 done:=by intro X n p q hc i f s σ H E I m st t;subst n p q;obtain⟨x,hi⟩:=t;obtain⟨G,vs,r,y⟩:=tX I x hd;have l:vs.length=kvs.length:=(Paired.length r).symm;obtain⟨f0,f1,f2,f3,f4,f5⟩:=m it (by simp);refine wpAny_pyNext_dict_end (I.ok.hd hc) (by rw[l];exact st) y (by simp[l,hi]) λh' he=>⟨rfl,?_⟩;exact I.turned (t':=s.toks) (λb o g e=>he b o g e) f0 f1 f3 f4 f5
 self:=λA i s Q E st O=>wpAny_pyIter_keyiter st O
section
variable{X:Cx}{tg:df}
theorem Qk{l:df}{k:TE}(n:PE X l k):PI X tg l (λσ H R=>k σ H λx f=>∃a c kvs,x=.ref a/\f a=al (.cQ c (.dK kvs))/\R (Itk a c kvs) f):=by
 intro g s σ H R I h;refine cB (n g s σ H _ I h) ?_;rintro v s1⟨x,f,j,r1,a,c,kvs,e,p,q⟩;subst e;cases r1;obtain⟨ho,hz,t,vs,r,u⟩:=(show bI X.prog X.w f s1.heap a (.cQ c (.dK kvs))from j.hok a _ p);obtain⟨o,es,ep,h1,y,m,z⟩:=id u;rw[ho]at h1;cases h1;have i:vs.length=kvs.length:=(Paired.length r).symm;refine wpAny_pyIter_dict (knd:=aZ X.prog X.w) (kvs:=vs) (ep:=ep) t ⟨c,es,ho,y,m,z⟩ ?_;refine⟨s1.heap.objs.size,[s1.heap.objs.size],_,_,f,rfl,j.kept (t':=s1.toks) λb o e=>dB e,Gu a _ c kvs es ep m,⟨_,cv _ rfl,rfl,by rw[i];rfl⟩,λb A=>?_,q⟩;have e:b=s1.heap.objs.size:=by simpa using A
 subst e;exact j.Ah (dq) (j.hok.fresh (dq))
end
end _L
namespace _H
open PySem _L Spec PyProof.Rows
section
variable{X:Cx}{c:Call}{tg e:df}{p:P}
theorem Qi{ks:List Int}{es:List (Key×V)}{j:Nat}{p:Key×V}{i:Int}(h:es.map (·.1)=ks.map (dJ:Int->Key))(a:es[j]?=al p)(b:ks[j]?=al i):p.1=dJ i:=by
 have:(es.map (·.1))[j]?=(ks.map (dJ:Int->Key))[j]?:=by rw[h]
 rw[er,er,a,b]at this;exact eA this
theorem qW:∀{ks:List Int}{vs:List V},ks.length=vs.length->(ent ks vs).map (·.1)=ks.map (dJ:Int->Key)|[],[],_=>rfl|k::ks,v::vs,h=>by have:=qW (ks:=ks) (vs:=vs) (by simpa using h);unfold ent at this ⊢;simpa using this|[],_::_,h=>by simp at h|_::_,[],h=>by simp at h
theorem NK(h:SX X c e p):SI X c tg e (.blt .keys [p]):=by
 unfold SI;obtain⟨ta,h1,Q⟩:=h.cN;refine lA (Qk h1) ?_;rintro σ H R⟨F,ρ,y,A,g,U,k⟩;obtain⟨r,ρ2,G,W⟩:=aa (show((_H.ev c (.blt .keys [p]) ρ).bind λr ρ=>lift (items r.d) ρ)=.ok y A from U);obtain⟨I,Y⟩:=aD W;subst Y;rw[_H.E16]at G;obtain⟨d,Z,e1,eE⟩:=aa G;obtain⟨w,e4⟩:=aD eE;subst e4;refine Q g e1 λv F' J s L=>?_;have hd:∃(ks:List Int)(es:List (Key×V))(a:b_)(b:Obj),y=ks.map D.int/\v=.ref a/\J a=al (.cQ b (.dK es))/\es.map (·.1)=ks.map (dJ:Int->Key):=by cases d with
  |dz m=>cases m with|k kvs=>cases w;cases I;obtain⟨a,b,rfl,f⟩:=L.dz s.gs.sub;exact⟨kvs.map (·.1),kvs.map tK,a,b,by rw[ec];rfl,rfl,f,by rw[ec,ec];rfl⟩|t kvs=>cases w
  |dv ks ac=>cases w;cases I;obtain⟨a,b,vs,rfl,f,rs,hl⟩:=L.dv s.gs.sub;exact⟨ks,ent ks vs,a,b,rfl,rfl,f,qW (by rw[rs.length];exact hl)⟩|_=>cases w
 obtain⟨ks,es,a,b,rfl,rfl,f,o⟩:=hd;have B:es.length=ks.length:=by have:=congrArg kN o;simpa using this
 refine⟨a,b,es,rfl,f,k _ F' J ⟨s.gs,λn j F2 ρ2 C H2 s2=>?_,λF2 ρ2 C H2 s2=>⟨s.trans s2,λv r rr=>rr.later s⟩⟩⟩;have gm:=s.gs.more (n:=n) (τ:=cq n bdq) (by simp);have u:=s2.keep a _ f λ⟨j,⟨t,dt,q1,q2⟩,q3⟩=>by obtain⟨a',o',M,N,z3,E⟩:=gm.own j t dt q1 q2;rw[q3]at M;cases M;rw[f]at N;cases N;cases dt with|l y=>obtain⟨xs,z,_⟩:=E;cases z|d m=>cases m<;>cases E|v kvs=>obtain⟨xs,z,_⟩:=E;cases z
 refine⟨λd hd=>?_,λO=>⟨u,by rw[B];simpa using O⟩⟩;have O:j<ks.length:=by have:=(dX hd).1;simpa using this
 refine⟨⟨u,by omega⟩,λx lr⟨e5,q,e6,e7⟩=>?_⟩;subst e5;refine⟨F2,.refl s2.gs.sub,?_⟩;rw[er]at hd;obtain⟨i,e8,e9⟩:=map_some hd;rw[e7,Qi o e6 e8,<-e9];exact cu _
end
end _H
namespace _H
open PySem _L Spec PyProof.Rows Calls W
section
variable{X:Cx}{c:Call}{a:df}{pa:P}{pos:Pos}
theorem lZ:∀{ns:List Int}{b:List bw},gS b ns->Vals (ns.map V.int) b|_,_,.nil=>.nil|_,_,.cons n t r=>.cons ⟨t,rfl⟩ (lZ r)
theorem uw{K:PySem.W.Frag}{F:Hp}:∀ns:List Int,aF K F (ns.map V.int) (ns.map D.int)|[]=>.nil|n::ns=>.cons (cu n) (uw ns)
end
end _H
namespace _H
open PySem _L Spec PyProof.Rows
theorem Inv.agb{X:Cx}{c:List (b_×Obj)}{σ:_L.St}{H:Hp}{s:bZ}{a:b_}{kvs:List (List Key×V)}(I:_L.Inv X c σ H s)(h:H a=al (.dT kvs)):∃o,_L.Inv X c σ (upd H a (.cQ o (.dT kvs))) s:=by obtain⟨z,y,xs,r,o,es,ep,h1,f,g,i,j⟩:=(show bI X.prog X.w H s.heap a (.dT kvs)from I.hok a _ h);refine⟨o,I.write (h':=s.heap) (t':=s.toks) (by rw[h];exact trivial) (.inl rfl) (λb u _ e=>e) ⟨o,h1⟩ ⟨h1,z,y,xs,KT.keeps r λb ys q=>?_,o,es,ep,h1,f,g,i,j⟩⟩;rw[ao (by rintro rfl;rw[h]at q;cases q)];exact q
section
variable{X:Cx}{c:Call}{n:Nat}{a b e:df}{p pa pb:P}{pos:Pos}{es:List df}{ps:List P}{x1:Nat}{tpos:Pos}
theorem HY{i:Nat}{x:Str}{A:Pos}(B:X.N[i]?=al x)(C:vC X.env.scope x)(hd:(x==("__debug__":Str))=a7:=by decide)(w:(x==("__classdict__":Str))=a7:=by decide):SX X c (.Name x A) (.vw i):=by
 have h:=eU (X:=X) (pos:=A) B C hd w;refine⟨?_,λi h=>by cases h⟩;rintro f s σ H Q I⟨F,ρ,r,E,g,e,k⟩;rw[_H.E24]at e;split at e
 . rename_i m q;cases e;obtain⟨a,h1,j,l⟩:=g.Em q;refine cB (h f s σ H (λv y=>v=.ref a/\y=H) I ⟨.ref a,h1,rfl,rfl⟩) λu s1⟨v,H1,I1,r1,e1,e2⟩=>?_;subst e1 e2;have G:∃o,_L.Inv X f σ (upd H1 a (.cQ o m.ho)) s1:=by cases m with|k kvs=>exact Inv.Hj I1 j|t kvs=>exact Inv.agb I1 j
   obtain⟨o,z⟩:=G;exact⟨.ref a,_,z,r1,k _ _ _ (l o).1 (l o).2⟩
 .rename_i kvs q;cases e;obtain⟨a,vs,h1,j,l⟩:=g.CV q;refine cB (h f s σ H (λv y=>v=.ref a/\y=H) I ⟨.ref a,h1,rfl,rfl⟩) λu s1⟨v,H1,I1,r1,e1,e2⟩=>?_;subst e1 e2;obtain⟨o,z⟩:=Inv.Hj I1 j;exact⟨.ref a,_,z,r1,k _ _ _ (l o).1 (l o).2⟩
 .rename_i b L q;cases e;obtain⟨v,J,h1,j,l⟩:=g.freeze q;exact h f s σ H Q I ⟨v,h1,k v J H j l⟩
 .rename_i b d q;cases e;obtain⟨v,h1,j⟩:=g.val i b d q;exact h f s σ H Q I ⟨v,h1,k v F H (.refl g) j⟩
 .cases e
end
end _H
namespace _H
open PySem _L Spec PyProof.Rows
section
variable{K:PySem.W.Frag}{F H F' H':Hp}{ρ ρ':List Sl}{σ σ':_L.St}
noncomputable def Kp(ρ:List Sl)(σ:_L.St)(H:Hp)(a:b_)(o:HO):Prop:=H a=al o/\¬ Own ρ σ a
theorem Kp.stp{a:b_}{o:HO}(h:Kp ρ σ H a o)(s:az K F ρ σ H F' ρ' σ' H'):Kp ρ' σ' H' a o:=⟨s.keep a o h.1 h.2,λz=>(s.wY a z).elim h.2 λe=>by rw[h.1]at e;cases e⟩
structure Wt(K:PySem.W.Frag)(F:Hp)(ρ:List Sl)(σ:_L.St)(H:Hp)(a:b_)(ds:List D):Prop where
 ex:∃xs,Kp ρ σ H a (.lst xs)/\aF K F xs ds
 fr:F a=bdq
theorem Wt.stp{a:b_}{b:List D}(h:Wt K F ρ σ H a b)(s:az K F ρ σ H F' ρ' σ' H'):Wt K F' ρ' σ' H' a b:=by obtain⟨⟨xs,h1,c⟩,e⟩:=h;refine⟨⟨xs,h1.stp s,c.mono s.bT⟩,?_⟩;cases q:F' a with|none=>rfl|some o=>
   rcases s.wR a e (by rw[q];simp)with z|z;.exact absurd z h1.2
   .rw[h1.1]at z;cases z
end
end _H
namespace _H
open PySem _L Spec PyProof.Rows
section
variable{X:Cx}{c:Call}{n:Nat}{e a b d elt tg:df}{p pa pb pe:P}{pos:Pos}{elts:List df}{x1:Nat}{tp:Pos}
noncomputable def aao(K:PySem.W.Frag)(i:Nat)(f:Ev):TI:=λσ H R=>∃F ρ j g h,GS K F ρ σ H/\Lq i f ρ=.ok (j,g) h/\∀J F1 k,Walk K F ρ σ H (aU g (al i)) J j F1 h k->R J k
theorem Ea{x:Str}{p':Pos}{i:Nat}(hx:x="zip")(hg:Gl X x)(hm:X.mg x=bdq)(hv:isVar pb=al i)(ha:SX X c a pa)(hb:SX X c b pb)(hs:cw [a,b] X.env=[(a7,eu a X.env),(a7,eu b X.env)]:=by rfl)(j:cw [b] X.env=[(a7,eu b X.env)]:=by rfl):PI X (.Tuple elts x1 tp) (.Call (.Name x p') [a,b] [] pos) (aao X.K i (_H.ev c pa)):=by
 subst hx;refine lA (JS hg hm (bu ha.ev (bu (hb.var i hv) di j) (by rw[hs,j])) hs j) ?_;rintro σ H R⟨F,ρ,ds,l,ac,g,e,k⟩;obtain⟨r,ρ2,e1,e⟩:=aa e;obtain⟨es,m,J,e⟩:=aa e;have M:=aD J;clear J;obtain⟨J,e3⟩:=M;subst e3;refine⟨F,ρ,r,ρ2,g,e1,λu N A s o=>?_⟩;obtain⟨F2,s2,_,ru⟩:=s.cQ o;obtain⟨t2,O,ys,rfl,z,Q⟩:=vG ru J;split at e;.rename_i bb d' q;obtain⟨f,ae,L,e⟩:=aa e;have M:=aD L;clear L;obtain⟨L,e5⟩:=M;subst e5;cases e;obtain⟨v',h1,rv⟩:=s2.gs.val i bb d' q;obtain⟨t1,w,xs,rfl,q1,r1⟩:=vG rv L;refine⟨_,h1,t2,t1,O,w,rfl,⟨ys,aB.sq s2.gs.sub z⟩,⟨xs,aB.sq s2.gs.sub q1⟩,k _ _ _ ⟨s2.gs,λn k N B C A h=>p6 (aB.sq h.gs.sub (aB.sq h.bT z)) (aB.sq h.gs.sub (aB.sq h.bT q1)) (Q.mono h.bT) (r1.mono h.bT) h.gs.sub k,λF3 m E H3 s3=>?_⟩⟩;unfold aU;dsimp only;rw[q];exact⟨s2.trans s3,λv r o=>o.later s2⟩
 . rename_i bb f q;cases e;have hi:i<l.length:=(dX q).1;have U:=s2.gs.lend q;have ql:(l.set i (.lent f))[i]?=al (.lent f):=cp hi;obtain⟨w,xs,h1,W,w3,w4⟩:=U.mW i _ f ql rfl;refine⟨_,h1,t2,a7,O,w,rfl,⟨ys,aB.sq s2.gs.sub z⟩,⟨xs,dF.of W⟩,k _ _ _ ⟨U,λn k N B C A h=>?_,λF3 m E H3 s3=>?_⟩⟩;.obtain⟨G,t,Y,Z⟩:=h.lk i _ (by rw[dr (by simpa using hi)];exact ql) rfl;cases(show t=.lent f from Z);rw[dr (by rw[<-U.len];simpa using hi),h1]at G;obtain⟨a',y,I,u2,u3,u4⟩:=h.gs.mW i _ f Y rfl;rw[G]at I;cases I;exact p6 (aB.sq h.gs.sub (aB.sq h.bT z)) (show Sq a7 X.K A w y from dF.of u2) (Q.mono h.bT) u4 h.gs.sub k
   .unfold aU;dsimp only;rw[q];obtain⟨y1,y2⟩:=az.aU s2.gs q s3;exact⟨s2.trans y1,λv r o=>(y2 v r o).later s2⟩
 . rename_i f q;cases e;have hi:i<l.length:=(dX q).1;obtain⟨w,xs,h1,W,w3,w4⟩:=s2.gs.mW i _ f q rfl;refine⟨_,h1,t2,a7,O,w,rfl,⟨ys,aB.sq s2.gs.sub z⟩,⟨xs,dF.of W⟩,k _ _ _ ⟨s2.gs,λn k N B C A h=>?_,λF3 m E H3 s3=>?_⟩⟩;.obtain⟨G,t,Y,Z⟩:=h.lk i _ (by rw[dr hi];exact q) rfl;cases(show t=.lent f from Z);rw[dr (by rw[<-s2.gs.len];exact hi),h1]at G;obtain⟨a',y,I,u2,u3,u4⟩:=h.gs.mW i _ f Y rfl;rw[G]at I;cases I;exact p6 (aB.sq h.gs.sub (aB.sq h.bT z)) (show Sq a7 X.K A w y from dF.of u2) (Q.mono h.bT) u4 h.gs.sub k
   .unfold aU;dsimp only;rw[q];exact⟨s2.trans s3,λv r o=>o.later s2⟩
 .cases e
variable{scope:jt}{N':List Str}{ifs:List df}{iter:df}
theorem wZ{g:TG}{i:Nat}{is:List Nat}{one:Bool}{t:Option P}(hc:X.calm=bx)(ok:fY X scope N' n)(hi:PI X tg iter (aao X.K i (_H.ev c pb)))(o:∀cl C s₀ H₀ ex,PG (ug X scope N' cl C s₀ H₀ ex) tg g)(j:oV X.K X.N.length is one g)(ht:∀cl C s₀ H₀ ex,SQ (ug X scope N' cl C s₀ H₀ ex) c ifs t)(he:∀cl C s₀ H₀ ex,SX (ug X scope N' cl C s₀ H₀ ex) c elt pe)(hs:∀x,fm iter X.env x=eS x:=by intro _;rfl):SX X c (.ListComp elt [⟨tg,iter,ifs,0⟩] scope pos) (.sG i pb n is one t pe):=by
 refine⟨J1 (Ep (tt:=Ld X.K (tL c t)) (te:=uW X.K (_H.ev c pe)) hc ok hi o ht (λcl C s₀ H₀ ex=>(he cl C s₀ H₀ ex).ev) hs) ?_,λi h=>by cases h⟩;rintro σ H Q q⟨F,ρ,r,s,u,e,k⟩;rw[_H.E28]at e;obtain⟨⟨v,l⟩,m,w,e⟩:=aa e;dsimp only at e;split at e;.rename_i f;obtain⟨xs,ρ2,y,e⟩:=aa e;cases e;exact yI q j (λR h=>⟨F,ρ,v,l,m,u,w,h⟩) f y k
 .cases e
end
end _H
namespace _H
open PySem PyProof.Rows
section
variable{M:r_}{A:ej}{E:bw->bZ->Prop}{s:bZ}{κ:iP}{ok:gc->Prop}{K:gc->Int}
theorem GP(R:Rk M A E s κ ok K){st b:iG}{xs:Array gc}{lo n:Nat}{Q:Option Nat->iG->Prop}(h:Sx κ ok st xs b)(f:lo+n<=xs.size)(h1:1<=n)(sg:Seg K xs lo (lo+n))(q:Q (al n) b):wpS M A E s (countRun' lo n) Q b:=by
 have one:∀ys:Array gc,Seg K ys lo (lo+1):=λys i j k l o=>by rw[show i=j by omega];exact eT _
 show wpS M A E s (_>>=_) Q b;refine hV (Tf (a:=1) (n:=n) R h f (le_refl 1) h1 (one xs) λm m1 p sm e=>?_);dsimp only;have c1:m=n:=by
  by_cases c:m=n;.exact c
  .have g:=e.resolve_left c;have:=sg (lo+m-1) (lo+m) (by omega) (by omega) (by omega);omega
 subst c1;rw[if_pos (by simp)];exact kj q
theorem SR.Zi{x0 ys:Array gc}{l:List Rn}{lo n:Nat}{st:iG}(h:SR κ ok K x0 ys l lo st)(h1:1<=n)(a:lo+n<=ys.size)(hs:Seg K ys lo (lo+n)):SR κ ok K x0 ys (l++[(lo,n,0)]) (lo+n) (setPending st ((kf st).push (lo,n,0))):=⟨h.kind,h.arr,h.fail,by show((kf st).push (lo,n,0)).toList=_;rw[Array.toList_push,h.pend],h.perm,h.ok,wH.mpr ⟨lo,h.rns,rfl,h1,hs,rfl⟩,a⟩
theorem uK:∀(f n r:Nat),r<=1->n<64\/n<=f->qV f n r<=n+r/\(64<=n->qV f n r<=n)
 |0,n,r,hr,h=>by have e:qV 0 n r=n+r:=rfl;rw[e];exact⟨dq,λz=>by omega⟩|f+1,n,r,hr,h=>by
   rw[minRun'_succ];by_cases c:n<64;.rw[if_pos c];exact⟨dq,λz=>by omega⟩
   .rw[if_neg c];have a:=uK f (n/2) (max r (n%2)) (by omega) (by omega);exact⟨by omega,λ_=>by omega⟩
theorem Ky(R:Rk M A E s κ ok K){x0:Array gc}{Q:Unit->iG->Prop}{st:iG}(h:SR κ ok K x0 x0 [] 0 st)(sg:Seg K x0 0 x0.size)(h1:1<=x0.size)(q:∀a,r9 a=x0->rX a=bdq->Q () a):wpS M A E s sortRuns' Q st:=by
 rw[sortRuns'_eq];refine hV (qc ?_);dsimp only;simp only[h.arr];have j:qV x0.size x0.size 0<=x0.size:=(uK x0.size x0.size 0 (by omega) (.inr (dq))).1;generalize qV x0.size x0.size 0=o at j;refine hV (wpS_mono (qf (I:=λx c a=>(c=(bdq,0)/\SR κ ok K x0 x0 [] 0 a/\x=0)\/(c=(bdq,x0.size)/\SR κ ok K x0 x0 [(0,x0.size,0)] x0.size a)) (Q:=λc a=>c=(bdq,x0.size)/\SR κ ok K x0 x0 [(0,x0.size,0)] x0.size a) ?_ ?_ (.inl ⟨rfl,h,rfl⟩)) ?_)
 . rintro x c f _ k(⟨rfl,b,rfl⟩|⟨rfl,b⟩)
   . dsimp only;rw[if_neg (by omega)];refine hV (GP R b.sx (lo:=0) (n:=x0.size-0) (by omega) (by omega) (by simpa using sg) ?_);dsimp only;rw[if_neg (by omega)];refine hV (qc ?_);have l:(kf f).back?=bdq:=by have:kf f=#[]:=l9.mp b.pend;rw[this];rfl
     rw[l];dsimp only;refine hV (wpS_modify (kj (.inr ⟨by simp,?_⟩)));have:=b.Zi (n:=x0.size-0) (by omega) (by omega) (by simpa using sg);simpa using this
   .dsimp only;rw[if_pos (dq)];exact kj ⟨rfl,b⟩
 . rintro c f(⟨rfl,b,e⟩|⟨rfl,b⟩);.omega
   .exact⟨rfl,b⟩
 . rintro c f⟨rfl,b⟩;dsimp only;refine hV (wpS_mono (qf (I:=λx c a=>c=(bdq,())/\SR κ ok K x0 x0 [(0,x0.size,0)] x0.size a) (Q:=λc a=>c=(bdq,())/\SR κ ok K x0 x0 [(0,x0.size,0)] x0.size a) ?_ (λ_ _ h=>h) ⟨rfl,b⟩) ?_)
   . rintro x c g _ k⟨rfl,i⟩;refine hV (qc ?_);try dsimp only
     have m:(kf g).size<=1:=by rw[<-ja,i.pend];simp
     rw[if_pos m];exact kj ⟨rfl,i⟩
   .rintro c g⟨rfl,i⟩;dsimp only;exact kj (q g i.arr i.fail)
end
end _H
namespace _H
open PySem W PyProof.Rows Calls _L Spec
section
variable{prog:da}{w:eg}{A:ej}{E:bw->bZ->Prop}{s:bZ}{vs:List bw}{κ:iP}{P:bw->D->Prop}{ds:List D}
theorem KJ{a:b_}{n:Nat}{O:PySem.Fin->bZ->Prop}(ho:s.heap.get? a=al (qA "list" vs.toArray n))(so:sortable ds=bx)(hz:vs.length<=16777216)(J:Paired P vs ds)(fn:∀u d e,P u d->P u e->cZ d=cZ e)(z:ds.Pairwise λa b=>mR a b=bx)(M:∀h',(∀b o,b≠a->s.heap.get? b=al o->h'.get? b=al o)->∀C:iP->bZ->Prop,C κ {s with heap:=h'}->2<=vs.length->cy (cE prog w) A (keyKind' vs.toArray) C (λ_ _=>False) {s with heap:=h'})(hl:∀h',(∀b o,b≠a->s.heap.get? b=al o->h'.get? b=al o)->∀u v d e,P u d->P v e->∀C:Bool->bZ->Prop,C (bA (cZ d) (cZ e)) {s with heap:=h'}->cy (cE prog w) A (keyLt' κ u v) C (λ_ _=>False) {s with heap:=h'})(h:∀h' c p,(∀b o,b≠a->s.heap.get? b=al o->h'.get? b=al o)->p.Perm (dy vs.length)->pick .non p ds=Q4 ds->h'.get? a=al (qA "list" (pick .none p vs).toArray c)->O (.done (.ret .none)) {s with heap:=h'}):cy (cE prog w) A (io.«list.sort» ⟨[.ref a],[]⟩) O E s:=by
 have ha:a<s.heap.objs.size:=de ho;have B:vs.length=ds.length:=Paired.length J;obtain⟨l,G⟩:∃l,(s.heap.update a (f_ λ_=>(#[]:Array bw))).get? a=al (qA "list" #[] l):=⟨_,get?_update_seq ho λ_=>#[]⟩;rw[list_sort_plain];refine a_ (listItems_at ho rfl ?_);refine a_ (pS ho rfl ?_ (by rw[cx,eW];omega) (uY));refine a_ (rq G rfl ?_);refine a_ (wpAny_newTuple ?_ (by show vs.length<=_;rw[eW];omega));refine a_ (wpAny_newList ?_ (uY));refine h9 ?_;generalize hH:(((s.heap.update a (f_ λ_=>(#[]:Array bw))).push {cls:=.type "tuple",data:=.seq vs.toArray}).push {cls:=.type "list",data:=.seq #[]}:ew)=m;have g:m.get? a=al (qA "list" #[] l):=by rw[<-hH];exact dB (dB G)
 have keep:∀b o,b≠a->s.heap.get? b=al o->m.get? b=al o:=λb o L e=>by rw[<-hH];exact dB (dB ((ic _ _ (fE L)).trans e))
 have fin:∀p:List Nat,p.Perm (dy vs.length)->pick .non p ds=Q4 ds->O (.done (.ret .none)) {s with heap:=m.update a (f_ λ_=>qq (pick .none p vs))}:=by intro p h1 f;obtain⟨c2,N⟩:∃c2,(m.update a (f_ λ_=>qq (pick eL p vs))).get? a=al (qA "list" (pick eL p vs).toArray c2):=⟨_,get?_update_seq g λ_=>qq (pick eL p vs)⟩;exact h _ c2 p (λb o L e=>(ic _ _ (fE L)).trans (keep b o L e)) h1 f N
 show cy (cE prog w) A _ O E {s with heap:=m};dsimp only;by_cases f:vs.toArray.size<2
 . rw[if_pos f,if_pos f];refine a_ (cr ?_);rw[StateT.run_pure];refine a_ (cr ?_);dsimp only;have eo:(r9 (SortSt.mk' general' (vs.toArray.zip vs.toArray) #[] 7 bdq)).map (·.2)=qq (pick eL (dy vs.length) vs):=by rw[mH];apply l9.mp;show((vs.toArray.zip vs.toArray).map (·.2)).toList=vs;simp[List.map_snd_zip]
   rw[eo];refine a_ (rq g rfl ?_);refine a_ (pS g rfl ?_ (uY) (by rw[cx,qD (.refl _),eW];omega));simp only[bne_self_eq_false,ip,if_false];refine cr (fin _ (.refl _) ?_);rw[B,mH];refine qw so (.refl _) ?_;match ds,(show ds.length<2 by simp at f;omega)with|[],_=>exact .nil|[_],_=>exact List.pairwise_singleton ..|_::_::_,f=>simp at f;omega
 . rw[if_neg f,if_neg f];have U:2<=vs.length:=by simpa using f
   refine a_ (M m keep _ ?_ U|>λq=>ei q (λ_ _ x=>x) λ_ _ x=>x.elim);have BR:(vs.toArray.zip vs.toArray).toList=(dy vs.length).map λi=>(vs.getD i eL,vs.getD i eL):=by
    refine nK (by simp) λi h1 f=>?_;have:i<vs.length:=by simpa using f
    simp[this]
   have W:∀x∈(vs.toArray.zip vs.toArray).toList,∃d,d∈ds/\P x.1 d:=λx hx=>by rw[BR]at hx;obtain⟨i,hi,rfl⟩:=cK.mp hx;have:=kO J i (ib.mp hi);exact⟨_,this.2,this.1⟩
   have R:Rk (cE prog w) A E {s with heap:=m} κ (λx=>∃d,d∈ds/\P x.1 d) (rkK P ds):=⟨by rintro x y Q st⟨d,d1,d2⟩⟨e,l,t⟩X hq;rw[Cv fn d1 d2,Cv fn l t,Lp d1]at hq;rw[lt'_eq];refine hV (qc ?_);rw[X];refine hV (wpS_lift (pp (ei (hl m keep x.1 y.1 d e d2 t (λb Y=>Y={s with heap:=m}/\b=bA (cZ d) (cZ e)) ⟨rfl,rfl⟩) ?_ λ_ _ h=>h.elim)));rintro b Y⟨rfl,rfl⟩;exact⟨rfl,kj hq⟩⟩;have at':∀k,k<vs.length->it (vs.toArray.zip vs.toArray) k=(vs.getD k .none,vs.getD k .none):=λk M=>by rw[O2,BR];simp[M]
   have hsz:(vs.toArray.zip vs.toArray).size=vs.length:=by simp
   have sg:Seg (rkK P ds) (vs.toArray.zip vs.toArray) 0 (vs.toArray.zip vs.toArray).size:=λi j _ ij Z=>by
    rw[hsz]at Z;rw[at' i (by omega),at' j Z];have a1:=kO J i (by omega);have a2:=kO J j Z;rw[Cv fn a1.2 a1.1,Cv fn a2.2 a2.1];by_cases e:i=j;.rw[e];exact eT _
    . have H:=List.pairwise_iff_getElem.mp z i j (by omega) (by omega) (by omega);simp only[mR,mI]at H;have l:ds.getD i .non=ds[i]'(by omega):=by simp[show i<ds.length by omega]
      have t:ds.getD j .non=ds[j]'(by omega):=by simp[show j<ds.length by omega]
      rw[<-l,<-t,<-Lp a2.2,decide_eq_false_iff_not]at H;omega
   have run:=Ky R (x0:=vs.toArray.zip vs.toArray) (st:=SortSt.mk' κ (vs.toArray.zip vs.toArray) #[] 7 bdq) (Q:=λ_ r=>∃p:List Nat,p.Perm (dy vs.length)/\pick .non p ds=Q4 ds/\(r9 r).map (·.2)=(pick eL p vs).toArray/\rX r=bdq) ⟨rfl,rfl,rfl,rfl,.refl _,W,rfl,uY⟩ sg (by rw[hsz];omega) λr l t=>by
     refine⟨dy vs.length,.refl _,?_,?_,t⟩;.rw[B,mH];exact qw so (.refl _) z
     .rw[l,mH];apply l9.mp;simp[List.map_snd_zip]
   refine a_ (ei run ?_ λ_ _ e=>e);rintro⟨⟨⟩,r⟩Y⟨rfl,p,p1,p2,I,hf⟩;dsimp only;rw[I];refine a_ (rq g rfl ?_);refine a_ (pS g rfl ?_ (uY) (by rw[cx,qD p1,eW];omega));rw[hf];simp only[bne_self_eq_false,ip,if_false];exact cr (fin _ p1 p2)
end
end _H
namespace _H
open PySem _L Spec PyProof.Rows Calls W
noncomputable def zm(nw:b_->Option HO)(H:Hp):Hp:=λa=>match nw a with|some o=>al o|none=>H a
theorem vU{nw:b_->Option HO}{H:Hp}{a:b_}{o:HO}(h:nw a=al o):zm nw H a=al o:=by unfold zm;rw[h]
theorem ie{nw:b_->Option HO}{H:Hp}{a:b_}(h:nw a=bdq):zm nw H a=H a:=by unfold zm;rw[h]
theorem Z3{X:Cx}{g:List (b_×Obj)}{σ:_L.St}{H:Hp}{s:bZ}{h':ew}{t':Nat}{nw:b_->Option HO}(I:_L.Inv X g σ H s)(k:∀b u,s.heap.get? b=al u->h'.get? b=al u)(i:∀a o,nw a=al o->s.heap.objs.size<=a)(h:∀a o,nw a=al o->bI X.prog X.w (zm nw H) h' a o):_L.Inv X g σ (zm nw H) {s with heap:=h',toks:=t'}:=by
 have no:∀a,a<s.heap.objs.size->nw a=bdq:=λa j=>by cases q:nw a with|none=>rfl|some o=>exact absurd (i a o q) (Nat.not_le_of_lt j)
 have f:∀a o,H a=al o->zm nw H a=al o:=λa o e=>by rw[ie (no a (I.hok.lt e))];exact e
 refine I.un ⟨λb u q _ _ _=>k b u q,λb u q _ _ _=>⟨u.slots,k b u q⟩,λb u q n _=>?_,λb u q _=>⟨u,k b u q⟩,λb xs q=>f b _ q,λb u xs q=>f b _ q,λb ps q=>⟨#[],by rw[f b _ q];simp⟩⟩ λb u e=>?_;.rw[ie (no b (de q))];exact n
 .cases q:nw b with|some o=>rw[vU q]at e;cases e;exact h b _ q|none=>rw[ie q]at e;exact(I.hok b u e).stay (λc v _ z=>k c v z) (λc z=>f c _ z) λc xs z=>f c _ z
noncomputable def iv(l d:b_):ew->Prop:=λh=>h.IsItemsView l d
noncomputable def Lf:V->List V->Hp->VK->Prop:=λx xs H Q=>∃q a kvs,x=.ref q/\xs=[]/\H q=al (.cQ a (.dK (map tK kvs)))/\∀l,H l=bdq->Q (.ref l) (upd H l (.ext (iv l q)))
noncomputable def rIt(X:Cx):List V->Hp->VK->Prop:=λxs H Q=>∃l q f kvs,xs=[.ref l]/\H l=al (.ext (iv l q))/\H q=al (.cQ f (.dK (map tK kvs)))/\(kvs.length<=16777216/\kvs.Pairwise (λa b=>a.1<b.1))/\∃F,aB F H/\∀v e c,Ext F H e c->cH X.K e c H v (.own (kvs.map mJ))->Q v c
theorem yj{P:da}{w:eg}{h:ew}:∀{kvs:List (Int×Int)}{vs:List (Key×bw)}{as:List b_},KV (kvs.map tK) vs->as.length=vs.length->(∀(j:Nat)(a:b_),as[j]?=al a->∃key k x,vs[j]?=al (k,x)/\(aZ P w).is k key=bx/\h.get? a=al {cls:=.type "tuple",data:=.seq #[key,x]})->∀(j:Nat)(a:b_),as[j]?=al a->∃p,kvs[j]?=al p/\∃t u,h.get? a=al {cls:=.type "tuple",data:=.seq #[fR p.1 t,fR p.2 u]}
 |[],_,as,.nil,f,_,j,a,e=>by cases as with|nil=>cases e|cons _ _=>simp at f
 |p::kvs,_,as,.cons (b:=q) r t,f,hk,j,a,e=>by cases as with|nil=>cases e|cons b as=>cases j with
     |zero=>
       obtain⟨key,k,x,g,m,n⟩:=hk 0 a e;simp at g;have o:k=dJ p.1:=by have z:=r.1;rw[g]at z;exact z.symm
       have s:∃u,x=fR p.2 u:=by have z:=r.2;rw[g]at z;exact z
       subst o;obtain⟨u,rfl⟩:=s;obtain⟨i,tk,l,rfl⟩|⟨_,_,l,_⟩:=bG (show oO (dJ p.1) key=bx from m);.cases l;exact⟨p,rfl,tk,u,n⟩
       .cases l|succ j=>exact yj t (by simpa using f) (λi c z=>by simpa using hk (i+1) c (by simpa using z)) j a (by simpa using e)
noncomputable def tpV(p:Int×Int):HO:=.tup [.int p.1,.int p.2]
noncomputable def pQ:List b_->List (Int×Int)->b_->Option HO|a::as,p::ps,b=>if b=a then al (tpV p)else pQ as ps b|_,_,_=>bdq
theorem pI:∀{as:List b_}{ps:List (Int×Int)}{b:b_}{o:HO},pQ as ps b=al o->∃(j:Nat)(p:Int×Int),as[j]?=al b/\ps[j]?=al p/\o=tpV p
 |a::as,p::ps,b,o,h=>by
   unfold pQ at h;split at h;.rename_i e;cases h;subst e;exact⟨0,p,rfl,rfl,rfl⟩
   .obtain⟨j,q,h1,c,f⟩:=pI h;exact⟨j+1,q,by simpa using h1,by simpa using c,f⟩|[],_,_,_,h=>by simp[pQ]at h|_::_,[],_,_,h=>by simp[pQ]at h
theorem CT:∀{as:List b_}{ps:List (Int×Int)},as.Pairwise (·<·)->∀{j:Nat}{b:b_}{p:Int×Int},as[j]?=al b->ps[j]?=al p->pQ as ps b=al (tpV p)|[],_,_,_,_,_,h,_=>by simp at h|_::_,[],_,_,_,_,_,h=>by simp at h|a::as,q::ps,c,j,b,p,h1,f=>by unfold pQ;cases j with|zero=>cases h1;cases f;rw[if_pos rfl]|succ j=>
     have h1:as[j]?=al b:=by simpa using h1
     have:=(jI.mp c).1 b (du h1);rw[if_neg (λe=>by rw[e]at this;exact ia _ this)];exact CT (jI.mp c).2 h1 (by simpa using f)
theorem qH:∀as:List b_,Vals (as.map V.ref) (as.map dS)|[]=>.nil|_::as=>.cons rfl (qH as)
theorem Dz{K:PySem.W.Frag}{F:Hp}:∀{as:List b_}{ps:List (Int×Int)},as.length=ps.length->(∀(j:Nat)(b:b_)(p:Int×Int),as[j]?=al b->ps[j]?=al p->F b=al (tpV p))->aF K F (as.map V.ref) (ps.map mJ)|[],[],_,_=>.nil|a::as,p::ps,c,h=>.cons (by have:=h 0 a p rfl rfl;rw[show mJ p=.tup [.int p.1,.int p.2]from rfl,Rep];refine⟨a,_,rfl,.inl (.inl this),.cons (by rw[Rep]) (.cons (by rw[Rep]) .nil)⟩) (Dz (by simpa using c) λj b q h1 e=>h (j+1) b q (by simpa using h1) (by simpa using e))|[],_::_,c,_=>by simp at c|_::_,[],c,_=>by simp at c
theorem DN{h:ew}:∀{as:List b_}{ps:List (Int×Int)},as.length=ps.length->(∀(j:Nat)(b:b_),as[j]?=al b->∃p,ps[j]?=al p/\∃t u,h.get? b=al {cls:=.type "tuple",data:=.seq #[fR p.1 t,fR p.2 u]})->Paired (oZ h) (as.map dS) (ps.map mJ)|[],[],_,_=>.nil|a::as,p::ps,c,h=>.cons (by obtain⟨q,e,t,u,g⟩:=h 0 a rfl;cases e;exact⟨a,[fR p.1 t,fR p.2 u],[p.1,p.2],rfl,⟨_,g,rfl,0,rfl⟩,.cons _ _ (.cons _ _ .nil),by simp,rfl⟩) (DN (by simpa using c) λj b h1=>by simpa using h (j+1) b (by simpa using h1))|[],_::_,c,_=>by simp at c|_::_,[],c,_=>by simp at c
theorem xO{prog:da}{w:eg}{A:ej}{E:bw->bZ->Prop}{s:bZ}{v d:b_}{kvs:List (Key×bw)}{ep:Nat}{Q:List bw->bZ->Prop}(m:A.handled=bdq)(h:s.heap.IsItemsView v d)(i:s.heap.DictAt (aZ prog w) d kvs ep)(n:kvs.length<=sizeLine)(p:∀(h':ew)(tk:Nat)(as:List b_),(∀b o,s.heap.get? b=al o->h'.get? b=al o)->s.heap.objs.size<h'.objs.size->as.length=kvs.length->KdxG (aZ prog w) kvs s.heap.objs.size h' as->Q (as.map dS) {s with heap:=h',toks:=tk}):cy (cE prog w) A (collect (.ref v)) Q E s:=by
 have f:v<s.heap.objs.size:=let⟨_,h1,_⟩:=h;de h1;have g:d<s.heap.objs.size:=i.lt_size;unfold collect;refine a_ (wpAny_runValue (k5 F.entry_proto_collect ?_));rw[iN F.plain_proto_collect _];show cy _ A.in1 (newList []>>=λl=>again (.builtin "list.__iadd__" ⟨[l,.ref v],[]⟩)) _ _ s;refine a_ (ek (cr ⟨me F.plain_list_iadd _,k5 F.entry_list_iadd ?_⟩));rw[iN F.plain_list_iadd _];show cy _ A.in1 (lc (.ref s.heap.objs.size) (.ref v) (.ref s.heap.objs.size)) _ _ _;refine kdx_extend (A:=A) (R:=λr j=>match r with
  |.ok (.ret v)=>cy (cE prog w) A (match v with
   |.ref a=>do let o<-load a match o.data with|.seq xs _=>eS xs.toList|_=>nz "internal:collect"
   |_=>nz "internal:collect") Q E j|.ok _=>False|.error e=>E e j) (s:={s with heap:=s.heap.push {cls:=.type "list",data:=.seq #[]}}) m (let⟨o,h1,q⟩:=h;⟨o,dB h1,q⟩) (i.at' λo e=>dB e) s.heap.objs.size (rL f) (dP g) _ 0 (cv _ rfl) (λh' tk t z as u k x y c=>?_) n;refine a_ (wpAny_load k (cr ?_));rw[c];exact p h' tk as (λb o e=>u b o (dP (de e)) (dB e)) (de k) x (y.low (by rw[size_push'];exact le_succ _))
section
variable{X:Cx}{c:Call}{a:df}{pa:P}{pos:Pos}
theorem Hm:MtR X "dict.items" Lf:=by rintro f s σ H x xs v u Q I h i⟨q,j,kvs,rfl,rfl,l,k⟩;cases h;cases i;obtain⟨ho,hz,m,vs,r,g⟩:=(show bI X.prog X.w H s.heap q (.cQ j (.dK (kvs.map tK)))from I.hok q _ l);refine rd PySem.F.slot_dict_items g.typeIs PySem.F.entry_dict_items (PySem.F.args_dict_items_1 _) (meets_dict_items _ q m) ⟨⟨vs,g⟩,?_⟩;have n:(s.heap.push {cls:=.type "dict_items",data:=.fields #[.ref q]}).IsItemsView s.heap.objs.size q:=⟨_,cv _ rfl,rfl,rfl⟩;refine⟨.ref s.heap.objs.size,_,I.laid (t':=s.toks) (o:=.ext (iv s.heap.objs.size q)) (λb o e=>dB e) (dq) ⟨n,⟨_,cv _ rfl⟩,λh1 y z k=>?_⟩,rfl,k _ (I.hok.fresh (dq))⟩;obtain⟨o,p,t⟩:=z;exact⟨o,k o p,t⟩
theorem VP(hc:X.calm=bx):eY X (.builtin "sorted") (rIt X):=by
 rintro am s σ H xs us Q I r⟨l,q,ob,kvs,hx,hl,hq,⟨ap,ac⟩,F,sm,k⟩;subst hx;have so:sortable (kvs.map mJ)=bx:=by
  have:(kvs.map mJ).all yx=bx:=by rw[eh];intro x hx;obtain⟨p,_,rfl⟩:=cK.mp hx;rfl
  simp only[sortable,dQ,this,Bool.or_true,nN,decide_eq_true_eq];omega
 have J:(kvs.map mJ).Pairwise λa b=>mR a b=bx:=by rw[lT];refine ac.imp λ{a b}h=>?_;show(!bA [b.1,b.2] [a.1,a.2])=bx;simp[bA];omega
 have ae:Q4 (kvs.map mJ)=kvs.map mJ:=(qw so (.refl _) J).symm;rw[<-ae]at k;obtain⟨u,rfl,rx⟩:=r.one;cases rx;obtain⟨af,_,_⟩:=(show bI X.prog X.w H s.heap l (.ext (iv l q))from I.hok l _ hl);obtain⟨ho,hz,hS,vs,rv,dd⟩:=(show bI X.prog X.w H s.heap q (.cQ ob (.dK (kvs.map tK)))from I.hok q _ hq);have L:vs.length=kvs.length:=by rw[<-Paired.length rv,dQ]
 obtain⟨f,es,ep,d1,d2,d3,d4⟩:=dd;have dat:s.heap.DictAt (aZ X.prog X.w) q vs ep:=⟨f,es,d1,d2,d3,d4⟩;refine Calls.call_function_entry kind_sorted plain_sorted entry_sorted (args_sorted1 _) ?_;unfold io.«sorted»;refine a_ (m:=checkCount "sorted" 1 1 _) (cr ?_);refine a_ (xO (A:=X.A.in1) (I.ok.hd hc) af dat (by rw[L,eW];omega) λh1 tk as kp hsz M hG=>?_);have hsz:=li hsz;have g:as.length=kvs.length:=M.trans L;have pr:=yj rv M hG.pairs;have tt:Paired (oZ h1) (as.map dS) (kvs.map mJ):=DN g pr;have N:∀a o,pQ as kvs a=al o->s.heap.objs.size<=a:=λa o e=>by obtain⟨j,p,O,_,_⟩:=pI e;exact li (hG.above a (du O))
 have i:∀a o,pQ as kvs a=al o->H a=bdq:=λa o e=>I.hok.fresh (N a o e);have B:aB H (zm (pQ as kvs) H):=λb o e=>by cases z:pQ as kvs b with|none=>rw[ie z];exact e|some f=>rw[i b f z]at e;cases e
 have e0:Ext F H (zm (pQ as kvs) F) (zm (pQ as kvs) H):=by
  refine⟨B,λb o e=>?_,λb o e=>?_,λb n n'=>?_⟩;.cases z:pQ as kvs b with|none=>rw[ie z];exact e|some f=>have n0:=i b f z;rw[sm b o e]at n0;cases n0
  .cases z:pQ as kvs b with|none=>rw[ie z]at e ⊢;exact sm b o e|some f=>rw[vU z]at e ⊢;exact e
  .cases z:pQ as kvs b with|none=>rw[ie z]at n';exact absurd n n'|some f=>rw[i b f z];rfl
 have rs:aF X.K (zm (pQ as kvs) F) (as.map V.ref) (kvs.map mJ):=Dz g λj b p h1 h2=>vU (CT hG.rise h1 h2);have vv:=qH as;have ag:∀b∈as,b<h1.objs.size:=λb hb=>hG.there hb;have U:(as.map dS).length=kvs.length:=by rw[dQ];exact g
 refine a_ (wpAny_newList ?_ (by rw[U,eW];omega));generalize W:(h1.push {cls:=.type "list",data:=.seq (as.map dS).toArray}:ew)=G;have Y:G.get? h1.objs.size=al (qA "list" (as.map dS).toArray 0):=by rw[<-W];exact cv _ rfl
 have Mi:∀b o,h1.get? b=al o->G.get? b=al o:=λb o e=>by rw[<-W];exact dB e
 have E:∀b o,h1.get? b=al o->b≠h1.objs.size:=λb o e=>dP (de e);show cy _ _ _ _ _ {s with heap:=G,toks:=tk};refine a_ (h9 (gX slot_list_sort ⟨_,Y,rfl⟩ entry_list_sort ?body (args_list_sort _)));case body=>
  refine KJ (s:={s with heap:=G,toks:=tk}) (κ:=tuples' (fq "int"!=fq "tuple")) Y so (by omega) tt Pu J (λh' Z C hC h2=>?_) (λh' Z u v d e hd he C hC=>?_) λh' cc p Z p1 p2 e=>?_;.exact FQ (s:={s with heap:=h',toks:=tk}) (tY (λb o z=>Z b o (E b o z) (Mi b o z)) tt) h2 hC
  .have kk:∀b o,h1.get? b=al o->h'.get? b=al o:=λb o z=>Z b o (E b o z) (Mi b o z);exact Oe (s:={s with heap:=h',toks:=tk}) (oE kk hd) (oE kk he) hC
  . refine⟨_,rfl,cr ⟨_,rfl,?_⟩⟩;have kk:∀b o,h1.get? b=al o->h'.get? b=al o:=λb o z=>Z b o (E b o z) (Mi b o z);have hL:pQ as kvs h1.objs.size=bdq:=by cases z:pQ as kvs h1.objs.size with|none=>rfl|some o=>obtain⟨j,p,O,_,_⟩:=pI z;exact absurd (ag _ (du O)) (ia _)
    have ah:upd (zm (pQ as kvs) H) h1.objs.size (.lst (pick .non p (as.map V.ref)))=zm (λb=>if b=h1.objs.size then al (.lst (pick .non p (as.map V.ref)))else pQ as kvs b) H:=by
     funext b;unfold upd zm;by_cases z:b=h1.objs.size;.rw[if_pos z];simp only[if_pos z]
     .rw[if_neg z];simp only[if_neg z]
    have I':=Z3 (t':=tk) (h':=h') (nw:=λb=>if b=h1.objs.size then al (.lst (pick .non p (as.map V.ref)))else pQ as kvs b) I (λb o z=>kk b o (kp b o z)) (λa o z=>by
     by_cases y:a=h1.objs.size;.rw[y];exact hsz
     .simp only[if_neg y]at z;exact N a o z) (λa o z=>by
     by_cases y:a=h1.objs.size;.simp only[if_pos y]at z;cases z;subst y;exact⟨by rw[qD p1,U,eW];omega,pick .none p (as.map dS),cc,K3 vv,e⟩
     .simp only[if_neg y]at z;obtain⟨j,p',O,e2,rfl⟩:=pI z;obtain⟨ar,e3,t,u,e4⟩:=pr j a O;rw[e2]at e3;cases e3;exact⟨by rw[eW];simp,[fR p'.1 t,fR p'.2 u],.cons ⟨t,rfl⟩ (.cons ⟨u,rfl⟩ .nil),⟨_,kk _ _ e4,rfl,0,rfl⟩⟩);rw[<-ah]at I';refine⟨.ref h1.objs.size,_,I',rfl,?_⟩;have ai:aF X.K (zm (pQ as kvs) F) (pick .non p (as.map V.ref)) (Q4 (kvs.map mJ)):=by rw[<-p2];exact Jm rs
    refine Bl e0.sub ai (by rw[ie hL];exact I.hok.fresh hsz) λv F2 G x rn=>k v F2 G ⟨e0.hs.trans x.hs,e0.fs.trans x.fs,x.sub,λc n n'=>?_⟩ ?_
    . by_cases e:zm (pQ as kvs) F c=bdq;.have:=x.gr c e n';cases z:H c with|none=>rfl|some o=>rw[B c o z]at this;exact this
      .exact e0.gr c n e
    obtain⟨b,xs,q1,q2,q3,q4,q5⟩:=rn;refine⟨b,xs,q1,q2,q3,q4,?_⟩;cases z:H b with|none=>rfl|some o=>rw[B b o z]at q5;cases q5
theorem Ih{o:df}{to:TE}{f g:Pos}(ho:PE X o to)(j:iq o "items" X.env (eu o X.env)=eu o X.env:=by rfl)(l:(f.endLine==g.line)=bx:=by rfl):PE X (.Call (.Attribute o "items" f) [] [] g) (λσ H Q=>to σ H λx m=>Lf x [] m Q):=by intro i s σ H Q I h;refine wpAny_Call_method0_late j l (cB (ho i s σ H _ I h) λv s1⟨x,m,I1,r1,q1⟩=>?_);obtain⟨q,u,kvs,rfl,_,y,k⟩:=id q1;cases r1;obtain⟨ho,hz,z,vs,r,n,es,ep,p,t,A⟩:=(show bI X.prog X.w m s1.heap q (.cQ u (.dK (kvs.map tK)))from I1.hok q _ y);refine⟨"dict","dict.items",PySem.F.plainAttrs_dict,PySem.F.slot_dict_items,PySem.F.type_dict_items,⟨n,p,t.1⟩,λb e=>?_,kA rfl (PySem.evalArgs_none (Hm i s1 σ m (.ref q) [] _ [] Q I1 rfl .nil q1))⟩;cases e;exact⟨n,p,t.2.1⟩
theorem Oq{x:Str}{O f j:Pos}{o:df}(U:x="sorted")(hc:X.calm=bx)(W:Gl X x)(Y:X.mg x=bdq)(p:(f.endLine==j.line)=bx)(Z:SX X c o pa)(s:iq o "items" X.env (eu o X.env)=eu o X.env:=by rfl):SX X c (.Call (.Name x O) [.Call (.Attribute o "items" f) [] [] j] [] pos) (.blt .LK [pa]):=by
 subst U;obtain⟨ta,h1,h3⟩:=Z.cN;refine⟨dG (fW (VP hc) W Y boot_sorted (bu (Ih h1 s p) di)) ?_,λi h=>by cases h⟩;rintro σ H Q⟨F,ρ,r,C,g,e,k⟩;have e:((cN (isVar pa) (_H.ev c pa) ρ).bind λx ρ=>lift (blt .LK [x]) ρ)=.ok r C:=e;obtain⟨d,ac,e1,u⟩:=aa e;have zz:=aD u;clear u;obtain⟨u,e3⟩:=zz;subst e3;refine h3 g e1 λv I y st pv=>?_;obtain⟨kvs,rfl⟩:∃kvs,d=.dz (.k kvs):=by cases d with
  |dz m=>cases m with|k kvs=>exact⟨kvs,rfl⟩|t kvs=>cases u
  |_=>cases u
 obtain⟨so,he⟩:=bf (show(if kvs.length<=16777216/\kvs.Pairwise (λa b=>a.1<b.1)then al (R.own (kvs.map mJ))else bdq)=al r from u);subst he;obtain⟨q,J,rfl,L⟩:=pv.dz st.gs.sub;refine⟨q,J,kvs,rfl,rfl,L,λl A=>⟨l,q,J,kvs,rfl,aC,aB.bF A q _ L,so,I,λb o e=>aB.bF A b o (st.gs.sub b o e),λw F2 E B rn=>?_⟩⟩;have sm:aB y (upd y l (.ext (iv l q))):=aB.bF A;have x3:Ext I y F2 E:=⟨sm.trans B.hs,B.fs,B.sub,λb n n'=>by
  have:=B.gr b n n';by_cases M:b=l;.subst M;rw[A];rfl
  .rw[ao M]at this;exact this⟩;have G:cH X.K F2 E y w (.own (kvs.map mJ)):=by obtain⟨b,xs,q1,q2,q3,q4,N⟩:=rn;refine⟨b,xs,q1,q2,q3,q4,?_⟩;cases z:y b with|none=>rfl|some o=>rw[sm b o z]at N;cases N
 exact k w F2 E (st.trans (x3.stp st.gs)) (.later st (G.pD st.gs))
end
end _H
namespace _H
open PySem _L Spec PyProof.Rows
variable{o:Option V}{rows:List (List D)}
section
variable{K:PySem.W.Frag}{F F' F1 H H' H1 F0 H0:Hp}{ρ ρ' ρ1 ρ0:List Sl}{σ σ' σ1 σ0:_L.St}{x:Nat}{q:b_}{as:List b_}{rows oY:List (List D)}
noncomputable def Lg:Sl->Bool|.aN=>bx|.hold _=>bx|_=>a7
theorem gD{s:Sl}{i:Nat}{b:b_}(g:Lg s=bx)(h:aX (ρ.set x s) (σ.set x o) i b):aX ρ σ i b/\i≠x:=by
 obtain⟨⟨t,j,e,a⟩,f⟩:=h;by_cases c:x=i
 . subst c;rw[mP]at e;rw[if_pos rfl]at e;split at e;.cases e;cases s<;>first|(cases a;done)|(cases g;done)
   .cases e
 .rw[ez c]at e f;exact⟨⟨⟨t,j,e,a⟩,f⟩,λz=>c z.symm⟩
theorem GS.Dv{s:Sl}(f:Lg s=bx)(g:GS K F ρ σ H):GS K F (ρ.set x s) (σ.set x o) H:=by
 refine⟨g.sub,by simp[g.len],λi b d e=>?_,λi t k e h=>?_,λi j a h1 l=>g.dis i j a (gD f h1).1 (gD f l).1⟩
 . by_cases c:x=i
   . subst c;rw[mP,if_pos rfl]at e;split at e;.cases e;cases f
     .cases e
   .rw[ez c]at e ⊢;exact g.val i b d e
 . by_cases c:x=i
   . subst c;rw[mP,if_pos rfl]at e;split at e;.cases e;cases s<;>first|(cases h;done)|(cases f;done)
     .cases e
   .rw[ez c]at e ⊢;exact g.own i t k e h
theorem az.Dv{s:Sl}{o:Option V}(a:Lg s=bx)(t:az K F ρ σ H F1 ρ1 σ1 H1)(f:∀s0,ρ[x]?=al s0->uO s0=a7):az K F ρ σ H F1 (ρ1.set x s) (σ1.set x o) H1:=by
 refine⟨t.gs.Dv a,t.bT,t.wR,t.keep,λb⟨i,h⟩=>t.wY b ⟨i,(gD a h).1⟩,by simp[t.len],λi g e l=>?_⟩;have c:x≠i:=by rintro rfl;rw[f _ e]at l;cases l
 obtain⟨j,s2,k,m⟩:=t.lk i g e l;exact⟨by rw[ez c];exact j,s2,by rw[ez c];exact k,m⟩
theorem az.free{i:Nat}{s1:Sl}(t:az K F ρ σ H F1 ρ1 σ1 H1)(h:ρ1[i]?=al s1)(a:uO s1=a7):∀s0,ρ[i]?=al s0->uO s0=a7:=λs0 e=>by cases z:uO s0 with|false=>rfl|true=>obtain⟨_,s2,b,c⟩:=t.lk i s0 e z;rw[h]at b;cases b;rw[c.uO z]at a;cases a
structure Wq(F:Hp)(ρ:List Sl)(σ:_L.St)(H:Hp)(a:b_)(xs:List V):Prop where kp:Kp ρ σ H a (.lst xs)fr:F a=bdq
theorem Wq.stp{a:b_}{xs:List V}(h:Wq F ρ σ H a xs)(s:az K F ρ σ H F' ρ' σ' H'):Wq F' ρ' σ' H' a xs:=by refine⟨h.kp.stp s,?_⟩;cases z:F' a with|none=>rfl|some o=>
   rcases s.wR a h.fr (by rw[z];simp)with y|y;.exact absurd y h.kp.2
   .rw[h.kp.1]at y;cases y
structure Nw(K:PySem.W.Frag)(x:Nat)(q:b_)(as:List b_)(F:Hp)(ρ:List Sl)(σ:_L.St)(H:Hp)(rows:List (List D)):Prop where
 slot:ρ[x]?=al (.hold rows)val:σ[x]?=al (al (.ref q))out:Wq F ρ σ H q (as.map V.ref)nd:(q::as).Nodup
 len:as.length=rows.length
 row:∀(k:Nat)(a:b_)(ds:List D),as[k]?=al a->rows[k]?=al ds->Wt K F ρ σ H a ds
theorem Nw.stp(w:Nw K x q as F ρ σ H rows)(s:az K F ρ σ H F' ρ' σ' H'):Nw K x q as F' ρ' σ' H' rows:=by obtain⟨b,s2,c,e⟩:=s.lk x _ w.slot rfl;cases(show s2=.hold rows from e);exact⟨c,b.trans w.val,w.out.stp s,w.nd,w.len,λk a f h1 g=>(w.row k a f h1 g).stp s⟩
structure NB(K:PySem.W.Frag)(x:Nat)(q:b_)(as:List b_)(F0:Hp)(ρ0:List Sl)(σ0:_L.St)(H0:Hp)(F:Hp)(ρ:List Sl)(σ:_L.St)(H:Hp)(rows:List (List D)):Prop where
 stp:az K F0 ρ0 σ0 H0 F ρ σ H
 fresh:∀b,b∈q::as->Own ρ0 σ0 b\/H0 b=bdq
 free:∀s0,ρ0[x]?=al s0->uO s0=a7
 nw:Nw K x q as F ρ σ H rows
theorem NB.step(b:NB K x q as F0 ρ0 σ0 H0 F ρ σ H rows)(s:az K F ρ σ H F' ρ' σ' H'):NB K x q as F0 ρ0 σ0 H0 F' ρ' σ' H' rows:=⟨b.stp.trans s,b.fresh,b.free,b.nw.stp s⟩
theorem Ef{s:Sl}{a:b_}{b:HO}(c:Lg s=bx)(h:Kp ρ σ H a b):Kp (ρ.set x s) (σ.set x o) H a b:=⟨h.1,λ⟨i,z⟩=>h.2 ⟨i,(gD c z).1⟩⟩
theorem NT{s:Sl}{a:b_}{b:List D}(c:Lg s=bx)(h:Wt K F ρ σ H a b):Wt K F (ρ.set x s) (σ.set x o) H a b:=by obtain⟨⟨xs,h1,e⟩,f⟩:=h;exact⟨⟨xs,Ef c h1,e⟩,f⟩
theorem az.afO{Da:b_}{o:HO}(s:az K F ρ σ H F1 ρ1 σ1 H1)(h:Own ρ σ Da\/H Da=bdq)(j:F1 Da=bdq)(ho:¬ Own ρ1 σ1 Da):az K F ρ σ H F1 ρ1 σ1 (upd H1 Da o):=by
 refine⟨⟨λb u e=>?_,s.gs.len,s.gs.val,λi t c e f=>?_,s.gs.dis⟩,s.bT,s.wR,λb u e n=>?_,s.wY,s.len,s.lk⟩
 . have:b≠Da:=by rintro rfl;rw[j]at e;cases e
   rw[ao this];exact s.gs.sub b u e
 . obtain⟨a,xs,g,k,l,m⟩:=s.gs.own i t c e f;have:a≠Da:=by rintro rfl;exact ho ⟨i,⟨t,c,e,f⟩,g⟩
   exact⟨a,xs,g,by rw[ao this];exact k,l,m⟩
 . have:b≠Da:=by
    rintro rfl;rcases h with h|h;.exact n h
    .rw[h]at e;cases e
   rw[ao this];exact s.keep b u e n
theorem NB.mut{r:Nat}{a:b_}{row e:List D}{ys:List V}(b:NB K x q as F0 ρ0 σ0 H0 F ρ σ H rows)(g:as[r]?=al a)(hr:rows[r]?=al row)(n:aF K F ys e):NB K x q as F0 ρ0 σ0 H0 F (ρ.set x (.hold (rows.set r e))) σ (upd H a (.lst ys)) (rows.set r e):=by
 have w:=b.nw.row r a row g hr;obtain⟨⟨xs,l,r1⟩,f1⟩:=w;have p:x<ρ.length:=(dX b.nw.slot).1;have sx:σ.set x (al (.ref q))=σ:=by have:=b.nw.val;obtain⟨h1,f⟩:=dX this;rw[<-f];simp
 have mem:a∈q::as:=dA _ (du g);have s1:=(b.stp.afO (o:=.lst ys) (b.fresh a mem) f1 l.2).Dv (x:=x) (s:=.hold (rows.set r e)) (o:=al (.ref q)) rfl b.free;rw[sx]at s1;have t:q≠a:=by have:=(eI.mp b.nw.nd).1;rintro rfl;exact this (du g)
 have own:∀{c:b_},¬ Own ρ σ c->¬ Own (ρ.set x (.hold (rows.set r e))) σ c:=λ{c}h⟨i,z⟩=>h ⟨i,by have:=gD (x:=x) (s:=.hold (rows.set r e)) (o:=al (.ref q)) (σ:=σ) (ρ:=ρ) rfl (b:=c) (i:=i) (by rw[sx];exact z);exact this.1⟩;refine⟨s1,b.fresh,b.free,⟨cp p,b.nw.val,⟨⟨by rw[ao t];exact b.nw.out.kp.1,own b.nw.out.kp.2⟩,b.nw.out.fr⟩,b.nw.nd,by simp[b.nw.len],λk c u h1 f=>?_⟩⟩;by_cases j:k=r;.subst j;rw[g]at h1;cases h1;have v:k<rows.length:=(dX hr).1;rw[cp v]at f;cases f;exact⟨⟨ys,⟨aC,own l.2⟩,n⟩,f1⟩
 . rw[ez (λz=>j z.symm)]at f;obtain⟨⟨y,m,A⟩,f2⟩:=b.nw.row k c u h1 f;have nc:c≠a:=by rintro rfl;have nd:=(eI.mp b.nw.nd).2;obtain⟨E,B⟩:=dX h1;obtain⟨l2,C⟩:=dX g;exact j ((List.getElem_inj nd).mp (B.trans C.symm))
   exact⟨⟨y,⟨by rw[ao nc];exact m.1,own m.2⟩,A⟩,f2⟩
noncomputable def Fz(F H:Hp)(bs:List b_):Hp:=λb=>if b∈bs then H b else F b
theorem uf{G:Hp}:∀{as:List b_}{rows:List (List D)},as.length=rows.length->(∀(k:Nat)(a:b_)(c:List D),as[k]?=al a->rows[k]?=al c->Rep K G (.ref a) (.lst c))->aF K G (as.map V.ref) (rows.map D.lst)|[],[],_,_=>.nil|a::as,c::rows,h,k=>.cons (k 0 a c rfl rfl) (uf (by simpa using h) λj b es h1 e=>k (j+1) b es (by simpa using h1) (by simpa using e))|[],_::_,h,_=>by simp at h|_::_,[],h,_=>by simp at h
theorem Nw.Rv(w:Nw K x q as F ρ σ H rows){b:b_}(hb:b∈q::as):F b=bdq/\¬ Own ρ σ b:=by
 rcases cS.mp hb with rfl|hb;.exact⟨w.out.fr,w.out.kp.2⟩
 . obtain⟨k,a⟩:=j_ hb;have c:k<rows.length:=by rw[<-w.len];exact(dX a).1
   obtain⟨⟨xs,e,_⟩,f1⟩:=w.row k b rows[k] a (by simp[c]);exact⟨f1,e.2⟩
theorem Nw.fz(w:Nw K x q as F ρ σ H rows)(sm:aB F H):aB F (Fz F H (q::as))/\aB (Fz F H (q::as)) H/\Rep K (Fz F H (q::as)) (.ref q) (.lst (rows.map D.lst)):=by
 have s1:aB F (Fz F H (q::as)):=λb o e=>by unfold Fz;rw[if_neg λc=>by rw[(w.Rv c).1]at e;cases e];exact e
 refine⟨s1,λb o e=>?_,?_⟩
 . unfold Fz at e;split at e;.exact e
   .exact sm b o e
 .rw[Rep];refine⟨q,as.map V.ref,rfl,dF.of (by unfold Fz;rw[if_pos h_];exact w.out.kp.1),uf w.len λk a f h1 g=>?_⟩;obtain⟨⟨xs,h,r1⟩,f1⟩:=w.row k a f h1 g;rw[Rep];exact⟨a,xs,rfl,dF.of (by unfold Fz;rw[if_pos (dA _ (du h1))];exact h.1),r1.mono s1⟩
theorem NB.cQ(b:NB K x q as F0 ρ0 σ0 H0 F ρ σ H rows):az K F0 ρ0 σ0 H0 (Fz F H (q::as)) (ρ.set x (.val a7 (.lst (rows.map D.lst)))) σ H:=by
 obtain⟨s1,s2,w⟩:=b.nw.fz b.stp.gs.sub;have g:=b.stp.gs;have s:x<ρ.length:=(dX b.nw.slot).1;have k:∀{j:Nat}{c:b_},aX (ρ.set x (.val a7 (.lst (rows.map D.lst)))) σ j c->aX ρ σ j c/\x≠j:=λ{j c}⟨⟨t,r,e,m⟩,e1⟩=>by
  by_cases f:x=j;.subst f;rw[cp s]at e;cases e;cases m
  .rw[ez f]at e;exact⟨⟨⟨t,r,e,m⟩,e1⟩,f⟩
 refine⟨⟨s2,by simp[g.len],λi y d e=>?_,λi t r e m=>?_,λi j c h1 p=>g.dis i j c (k h1).1 (k p).1⟩,b.stp.bT.trans s1,λc n u=>?_,b.stp.keep,λc⟨j,h⟩=>b.stp.wY c ⟨j,(k h).1⟩,by simp[b.stp.len],λi t e l=>?_⟩
 . by_cases f:x=i;.subst f;rw[cp s]at e;cases e;exact⟨_,b.nw.val,w⟩
   .rw[ez f]at e;obtain⟨v,h1,p⟩:=g.val i y d e;exact⟨v,h1,p.mono s1⟩
 . by_cases f:x=i;.subst f;rw[cp s]at e;cases e;cases m
   .rw[ez f]at e;obtain⟨a,o,h1,p,z,A⟩:=g.own i t r e m;refine⟨a,o,h1,p,?_,A.mono s1⟩;unfold Fz;rw[if_neg λB=>(b.nw.Rv B).2 ⟨i,⟨t,r,e,m⟩,h1⟩];exact z
 . by_cases hc:c∈q::as;.exact(b.fresh c hc).imp id gw
   . have:Fz F H (q::as) c=F c:=by unfold Fz;rw[if_neg hc]
     rw[this]at u;exact b.stp.wR c n u
 . have c:x≠i:=by rintro rfl;rw[b.free _ e]at l;cases l
   obtain⟨C,s3,E,G⟩:=b.stp.lk i t e l;exact⟨C,s3,by rw[ez c];exact E,G⟩
end
inductive Ui(K:PySem.W.Frag)(x:Nat)(f:List Sl->Res Fl)(E:Ends)(σ:_L.St)(H:Hp):Prop where|mk(F0:Hp)(ρ0:List Sl)(σ0:_L.St)(H0 F:Hp)(ρ:List Sl)(q:b_)(as:List b_)(rows:List (List D))(fl:Fl)(ρ':List Sl)(b:NB K x q as F0 ρ0 σ0 H0 F ρ σ H rows)(e:f ρ=.ok fl ρ')(k:∀F' σ' H',az K F0 ρ0 σ0 H0 F' ρ' σ' H'->aB F F'->((∀r,fl≠.ret r)->∃oY,NB K x q as F0 ρ0 σ0 H0 F' ρ' σ' H' oY)->Jx K E F' ρ' σ' H' ρ0 σ0 H0 fl)
inductive aai(K:PySem.W.Frag)(x:Nat)(f:List Sl->Res Fl)(E:Ends)(σ:_L.St)(H:Hp):Prop where|mk(F0:Hp)(ρ0:List Sl)(σ0:_L.St)(H0 F:Hp)(ρ:List Sl)(q:b_)(as:List b_)(rows:List (List D))(fl:Fl)(ρ':List Sl)(b:NB K x q as F0 ρ0 σ0 H0 F ρ σ H rows)(e:f ρ=.ok fl ρ')(k:∀F' σ' H',az K F0 ρ0 σ0 H0 F' ρ' σ' H'->Jx K E F' ρ' σ' H' ρ0 σ0 H0 fl)
structure SSN(X:Cx)(c:Call)(n x:Nat)(st:eM)(s:S):Prop where p:PS X st (Ui X.K x (ex c n s))
structure Yq(X:Cx)(c:Call)(n x:Nat)(st:List eM)(s:List S):Prop where p:rG X st (Ui X.K x (gj c n s))
structure SBT(X:Cx)(c:Call)(n x:Nat)(st:List eM)(s:List S):Prop where p:rG X st (aai X.K x (gj c n s))
section
variable{X:Cx}{c:Call}{n x:Nat}{e a b d tg iter:df}{p pa pb pd:P}{pos:Pos}{body:List eM}{ss:List S}{st:eM}{s:S}{sts:List eM}
theorem pJ:Yq X c n x [] []:=⟨lO CW λD σ H⟨f,ρ0,σ0,H0,F,ρ,q,as,rows,fl,ρ',nb,e,k⟩=>by rw[xs0]at e;cases e;exact k F σ H nb.stp (.refl _) λ_=>⟨rows,nb⟩⟩
theorem qC(h1:SSN X c n x st s)(w:Yq X c n x sts ss):Yq X c n x (st::sts) (s::ss):=by refine⟨lO (fU h1.p w.p) ?_⟩;rintro D σ H⟨h,f,g,i,F,ρ,q,as,rows,fl,t,l,e,k⟩;rw[M6]at e;obtain⟨f1,j,m,e⟩:=aa e;cases f1 with|next=>refine⟨h,f,g,i,F,ρ,q,as,rows,.next,j,l,m,λF1 y G s1 sm nn=>?_⟩;obtain⟨A,B⟩:=nn (λr z=>by cases z);exact⟨h,f,g,i,F1,j,q,as,A,fl,t,B,e,λF2 u C s2 E v=>k F2 u C s2 (sm.trans E) v⟩|brk=>cases e;exact⟨h,f,g,i,F,ρ,q,as,rows,.brk,_,l,m,k⟩|cont=>cases e;exact⟨h,f,g,i,F,ρ,q,as,rows,.cont,_,l,m,k⟩|ret r=>cases e;exact⟨h,f,g,i,F,ρ,q,as,rows,.ret r,_,l,m,k⟩
theorem Hy(h1:SSN X c n x st s)(w:SBT X c n x sts ss):SBT X c n x (st::sts) (s::ss):=by refine⟨lO (fU h1.p w.p) ?_⟩;rintro D σ H⟨j,g,h,l,F,ρ,q,as,rows,fl,v,t,e,k⟩;rw[M6]at e;obtain⟨f1,m,u,e⟩:=aa e;cases f1 with|next=>refine⟨j,g,h,l,F,ρ,q,as,rows,.next,m,t,u,λF1 f i s1 sm nn=>?_⟩;obtain⟨y,A⟩:=nn (λr z=>by cases z);exact⟨j,g,h,l,F1,m,q,as,y,fl,v,A,e,k⟩|brk=>cases e;exact⟨j,g,h,l,F,ρ,q,as,rows,.brk,_,t,u,λF1 f i s1 _ _=>k F1 f i s1⟩|cont=>cases e;exact⟨j,g,h,l,F,ρ,q,as,rows,.cont,_,t,u,λF1 f i s1 _ _=>k F1 f i s1⟩|ret r=>cases e;exact⟨j,g,h,l,F,ρ,q,as,rows,.ret r,_,t,u,λF1 f i s1 _ _=>k F1 f i s1⟩
theorem Ow(h:SB X c n sts ss):SBT X c n x sts (.cQ x::ss):=by refine⟨lO h ?_⟩;rintro D σ H⟨B,l,m,C,F,ρ,q,as,rows,fl,f,i,e,k⟩;rw[M6]at e;obtain⟨f1,u,j,e⟩:=aa e;rw[_H.X23,i.nw.slot]at j;cases j;have t:=i.cQ;refine⟨_,_,fl,f,t.gs,e,λw g y s=>?_⟩;have z:=k w g y (t.trans s);cases fl with|next=>exact z|brk=>exact z|cont=>exact z|ret r=>exact λv A=>z v (A.later t)
theorem Ur{r u:List eM}{v w:List S}(hc:ST X c e p)(z:Yq X c n x r v)(A:Yq X c n x u w):SSN X c n x (.If e r u pos) (.ifs p v w):=by refine⟨dH (RM hc z.p A.p) ?_⟩;rintro D σ H⟨B,j,l,C,F,ρ,q,as,rows,fl,i,y,e,k⟩;rw[_H.X13]at e;obtain⟨t,g,E,e⟩:=aa e;refine⟨F,ρ,t,g,y.stp.gs,E,λF1 G s1=>?_⟩;have go:∀{f:List Sl->Res Fl},f g=.ok fl i->Ui X.K x f D σ G:=λ{f}h=>⟨B,j,l,C,F1,g,q,as,rows,fl,i,y.step s1,h,λF2 m I s2 sm nn=>k F2 m I s2 (s1.bT.trans sm) nn⟩;cases t with|true=>rw[if_pos rfl]at e;exact go e|false=>rw[if_neg c_]at e;exact go e
theorem Hu{ρ:List Sl}(h:jw ρ x=al rows):ρ[x]?=al (.hold rows):=by
 unfold jw at h;split at h;.rename_i z;cases h;exact z
 .cases h
noncomputable def WalkN(K:PySem.W.Frag)(J:It)(i:List D)(F1:Hp):Prop:=∀(k:Nat)(h f:Hp),aB F1 h->aB h f->(∀d,i[k]?=al d->J.go k f/\∀x j,J.LC k f x j->∃g,Ext h f g j/\Rep K g x d)/\(i.length<=k->J.stop k f)
inductive afs(K:PySem.W.Frag)(f:Ev)(σ:_L.St)(H:Hp)(R:It->Hp->Prop):Prop where|mk(F:Hp)(ρ:List Sl)(r:_H.R)(ρ1:List Sl)(ds:List D)(g:GS K F ρ σ H)(e:f ρ=.ok r ρ1)(e2:items r.d=al ds)(k:∀J F1 H1,az K F ρ σ H F1 ρ1 σ H1->WalkN K J ds F1->R J H1)
structure SIN(X:Cx)(c:Call)(tg e:df)(p:P):Prop where p:PI X tg e (afs X.K (_H.ev c p))
theorem OD(h:SX X c e p):SIN X c tg e p:=by refine⟨lA (Ay h.ev) ?_⟩;rintro σ H R⟨F,ρ,r,m,y,g,e,f,k⟩;refine⟨F,ρ,r,m,g,e,λv z A s t=>?_⟩;obtain⟨F2,s2,_,i⟩:=s.cQ t;cases hd:r.d with|tup es=>rw[hd]at i f;cases f;rw[Rep]at i;obtain⟨a,xs,rfl,h1,q⟩:=i;exact⟨a,rfl,.inr ⟨⟨xs,aB.gU s2.gs.sub h1⟩,k _ _ _ s2 λk u w j l=>Cj (aB.gU l (aB.gU j h1)) (q.mono j) l k⟩⟩|lst es=>rw[hd]at i f;cases f;rw[Rep]at i;obtain⟨a,xs,rfl,h1,q⟩:=i;exact⟨a,rfl,.inl ⟨⟨xs,s2.gs.sub.seq h1⟩,k _ _ _ s2 λk u w j l=>qO (l.seq (j.seq h1)) (q.mono j) l k⟩⟩|_=>rw[hd]at f;cases f
theorem Fp{K:PySem.W.Frag}{F1:Hp}(i j:Int):WalkN K (Xx i (j-i).toNat) ((dy (j-i).toNat).map λ(k:Nat)=>D.int (i+(k:Int))) F1:=by
 refine λk g u _ sm=>⟨λd hd=>?_,λh=>?_⟩;.rw[er]at hd;obtain⟨m,l,q⟩:=map_some hd;obtain⟨h1,f⟩:=dX l;rw[List.getElem_range]at f;subst f;subst q;rw[kU]at h1;refine⟨h1,?_⟩;rintro x v⟨r,t⟩;subst r;subst t;exact⟨g,.refl sm,cu _⟩
 .rw[dQ,kU]at h;exact h
theorem Jd{x:Str}{q:Pos}(t:x="range")(u:Gl X x)(w:X.mg x=bdq)(y:SX X c a pa)(hs:cw [a] X.env=[(a7,eu a X.env)]:=by rfl):SIN X c tg (.Call (.Name x q) [a] [] pos) (.wX (.con (.int 0)) pa):=by
 subst t;obtain⟨O,h1,z⟩:=y.cN;refine⟨lA (uM u w (bu h1 di hs) hs) ?_⟩;rintro σ H R⟨F,ρ,r,A,Q,g,l,B,k⟩;rw[_H.E20]at l;obtain⟨U,C,E,f⟩:=aa l;have G:=aD f;clear f;obtain⟨f,I⟩:=G;subst I;obtain⟨W,J,L,h⟩:=aa E;cases h;obtain⟨i,f1,f⟩:=cC f;obtain⟨j,f2,f⟩:=cC f;obtain⟨⟨b1,b2,b3,b4⟩,f⟩:=bf f;have f1:i=0:=by cases f1;rfl
 subst f1;subst f;cases B;cases dg f2;refine z g L λv m M s N=>⟨j,by rw[N.int],by omega,by omega,?_⟩;have:=Fp (K:=X.K) (F1:=m) 0 j;rw[mx]at this;refine k _ m M s ?_;rw[mx];exact this
theorem Cr{g:TG}{is:List Nat}{one:Bool}(hp:lS (cE X.prog X.w) X.A X.env X.xe)(hc:X.calm=bx)(hi:SIN X c tg iter p)(hg:PG X tg g)(ag:La X.K (λρ d=>cJ ρ is one d) g)(hb:Yq X c n x body ss)(hs:∀x,fm iter X.env x=eS x:=by intro _;rfl):SSN X c n x (.For tg iter body [] pos) (.G7 p is one ss):=by
 refine⟨dH (KD hp hc hi.p hg hb.p hs) ?_⟩;rintro D σ H⟨F0,G,I,H0,F,ρ,q,as,rows,fl,U,nb,e,k⟩;rw[_H.X22]at e;obtain⟨r,W,e1,e⟩:=aa e;obtain⟨j,ap,e9,e2⟩:=aa e;have zz:=aD e9;clear e9;obtain⟨e9,ah⟩:=zz;subst ah;refine⟨F,ρ,r,W,j,nb.stp.gs,e1,e9,λJ F1 H1 s1 w=>?_⟩;refine⟨λi m u Hi=>∃E f Q,NB X.K x q as F0 G I H0 E f u Hi Q/\aB F1 E/\m=j.length-i/\i<=j.length/\jf is one (gj c n ss) (j.drop i) f=.ok fl U,⟨_,F1,W,rows,nb.step s1,.refl _,rfl,uY,e2⟩,?_⟩;rintro i m u Hi⟨E,f,Q,t,L,rfl,ar,l⟩;obtain⟨w1,w2⟩:=w i E Hi L t.stp.gs.sub;by_cases B:i<j.length
 . right;have hd:j[i]?=al j[i]:=by simp[B]
   obtain⟨go,step⟩:=w1 _ hd;refine⟨go,λY Z=>∃m',m'<j.length-i/\∃E f Q,NB X.K x q as F0 G I H0 E f Y Z Q/\aB F1 E/\m'=j.length-(i+1)/\i+1<=j.length/\jf is one (gj c n ss) (j.drop (i+1)) f=.ok fl U,λY Z z=>z,λy Z yy=>?_⟩;obtain⟨F2,ext,rx⟩:=step y Z yy;have t2:=ext.stp t.stp.gs;rw[fy B,zX]at l;cases hbd:cJ f is one j[i]with|none=>rw[hbd]at l;cases l|some ac=>rw[hbd]at l;obtain⟨ae,M,eb,l⟩:=aa l;refine ag y _ F2 f ac u Z _ t2.gs rx hbd λav sb=>?_;have t3:=t2.trans sb;refine⟨F0,G,I,H0,F2,ac,q,as,Q,ae,M,t.step t3,eb,λF4 af H4 s4 ai N=>?_⟩;have C:aB F1 F4:=L.trans (ext.fs.trans ai);cases ae with|next=>obtain⟨Ml,O⟩:=N (λr z=>by cases z);exact⟨_,by omega,F4,M,Ml,O,C,rfl,B,l⟩|cont=>obtain⟨Ml,O⟩:=N (λr z=>by cases z);exact⟨_,by omega,F4,M,Ml,O,C,rfl,B,l⟩|brk=>cases l;exact k F4 af H4 s4 (s1.bT.trans C) λ_=>N (λr z=>by cases z)|ret r=>cases l;exact λv rr=>k F4 af H4 s4 (s1.bT.trans C) (λh=>(h r rfl).elim) v rr
 . left;have am:j.drop i=[]:=by rw[k4];omega
   rw[am,JW]at l;cases l;exact⟨w2 (by omega),k E u Hi t.stp (s1.bT.trans L) λ_=>⟨Q,t⟩⟩
end
section
variable{X:Cx}{c:Call}{n:Nat}{e a b d i j:df}{p pa pb pd pi pj:P}{pos:Pos}
theorem O4{ρ f:List Sl}{x:Nat}{o:Option (List (List D))}{fl:Fl}(h:GX ρ x o=.ok fl f):∃rows,o=al rows/\fl=.next/\f=ρ.set x (.hold rows):=by cases o with|none=>cases h|some rows=>cases h;exact⟨rows,rfl,rfl,rfl⟩
section
variable{K:PySem.W.Frag}{F H F0 H0:Hp}{ρ ρ0:List Sl}{σ σ0:_L.St}{x:Nat}{q:b_}{as:List b_}{rows oY:List (List D)}
theorem NB.hold(f:NB K x q as F0 ρ0 σ0 H0 F ρ σ H rows)(h:jw ρ x=al oY):oY=rows:=by have:=Hu h;rw[f.nw.slot]at this;cases this;rfl
theorem NB.at{k:Int}{r:Nat}{row:List D}(f:NB K x q as F0 ρ0 σ0 H0 F ρ σ H rows)(h1:_H.iI rows.length k=al r)(h:rows[r]?=al row):∃a ys,as[r]?=al a/\K4 (as.map V.ref) k=al (.ref a)/\H a=al (.lst ys)/\aF K F ys row:=by
 have g:r<as.length:=by rw[f.nw.len];exact(dX h).1
 obtain⟨⟨ys,l,r1⟩,_⟩:=f.nw.row r as[r] row (by simp[g]) h;refine⟨as[r],ys,by simp[g],?_,l.1,r1⟩;unfold K4;rw[dQ,f.nw.len];rw[show _L.iI rows.length k=al r from h1];simp[g]
theorem NB.vZ{g:D}{row:List D}(l:NB K x q as F0 ρ0 σ0 H0 F ρ σ H rows)(h:_H.vZ ρ x g=al row):∃k a,(∃r:Nat,as[r]?=al a)/\K4 (as.map V.ref) k=al (.ref a)/\g=.int k/\∃ys,H a=al (.lst ys)/\aF K F ys row:=by unfold _H.vZ at h;obtain⟨f,h1,h⟩:=cC h;cases l.hold h1;obtain⟨k,m,h⟩:=cC h;obtain⟨r,s,t⟩:=cC h;obtain⟨a,ys,u,v,w,y⟩:=l.at s t;exact⟨k,a,⟨r,u⟩,v,dg m,ys,w,y⟩
end
theorem Gi{l:List (List D)}{k:Int}{f:List D->Option (List D)}(h:jW rows k f=al l):∃r row g,_H.iI rows.length k=al r/\rows[r]?=al row/\f row=al g/\l=rows.set r g:=by unfold jW at h;obtain⟨r,h1,h⟩:=cC h;obtain⟨row,m,h⟩:=cC h;obtain⟨g,q,h⟩:=map_some h;exact⟨r,row,g,h1,m,q,h.symm⟩
theorem Hs{x:Str}{k:Nat}{u f h g:Pos}(hN:X.N[k]?=al x)(hv:vC X.env.scope x)(hi:SX X c i pi)(he:SX X c e p)(I:vN i:=by intro _ _;rfl)(l:(h.endLine==g.line)=bx:=by rfl)(hs:cw [e] X.env=(a7,eu e X.env)::cw [] X.env:=by rfl)(s:iq (.Subscript (.Name x u) i f) "append" X.env (eu (.Subscript (.Name x u) i f) X.env)=eu (.Subscript (.Name x u) i f) X.env:=by rfl)(w:((iA g (cw [e] X.env)).all (λx=>!x.1)&&(ol g (lj [] X.env)).all (λx=>x.1.isSome)&&decide ([e].length+([]:List kG).length+(if([]:List kG).isEmpty then 0 else 1)<30))=bx:=by rfl)(J:gd (.Call (.Attribute (.Subscript (.Name x u) i f) "append" h) [e] [] g) bdq pos.line X.env=eS a7:=by rfl)(hd:(x==("__debug__":Str))=a7:=by decide)(L:(x==("__classdict__":Str))=a7:=by decide):SSN X c n k (.Expr (.Call (.Attribute (.Subscript (.Name x u) i f) "append" h) [e] [] g) pos) (.Mf k pi p):=by obtain⟨ti,M,O⟩:=hi.cN;refine⟨dH (v5 (Kh plainAttrs_list PySem.F.slot_list_append PySem.F.type_list_append kY (QS Dh (eU hN hv hd L) M I) (bu he.ev di hs) s w l hs) J) ?_⟩;rintro E σ H⟨F0,ai,am,H0,F,ρ,q,as,rows,fl,ap,Q,e,kk⟩;rw[_H.X21]at e;obtain⟨dk,ρ2,e2,e⟩:=aa e;obtain⟨ag,ah,C,e⟩:=aa e;have zz:=aD C;clear C;obtain⟨C,U⟩:=zz;subst U;obtain⟨r,W,e3,e⟩:=aa e;obtain⟨rs,y,rfl,rfl⟩:=O4 e;refine⟨.ref q,Q.nw.val,O Q.stp.gs e2 λvi F1 H1 s1 pi=>?_⟩;have G:=Q.step s1;obtain⟨k0,a,g1,g2,g0,ys,g3,g4⟩:=G.vZ C;rw[g0]at pi;refine⟨q,_,k0,_,rfl,pi.int,dF.of G.nw.out.kp.1,g2,.inl ⟨rfl,ys,dF.of g3⟩,F1,ρ2,r,W,G.stp.gs,e3,λv F2 H2 s2 rr=>?_⟩;obtain⟨F3,s3,_,rp⟩:=s2.cQ rr;have t:=G.step s3;obtain⟨Y,e5,y⟩:=cC y;cases t.hold e5;obtain⟨k1,e6,y⟩:=cC y;obtain⟨m,row,lz,f1,f2,f3,rfl⟩:=Gi y;obtain⟨Z,rfl⟩:=bf f3;have:=dg e6;rw[g0]at this;cases this;obtain⟨a',ac,ae,z,af,A⟩:=t.at f1 f2;rw[g2]at z;cases z;have B:=t.mut ae f2 (A.append (.cons rp .nil));exact⟨a,ac,v,rfl,rfl,af,by rw[A.length];exact Z,kk F3 σ _ B.stp (s1.bT.trans s3.bT) λ_=>⟨_,B⟩⟩
end
section
variable{K:PySem.W.Frag}{F H F1 H1:Hp}{ρ ρ1:List Sl}{σ σ1:_L.St}
theorem az.since{b:b_}(s:az K F ρ σ H F1 ρ1 σ1 H1)(h:H1 b=bdq):Own ρ σ b\/H b=bdq:=by
 by_cases ho:Own ρ σ b;.exact .inl ho
 .right;cases e:H b with|none=>rfl|some o=>rw[s.keep b o e ho]at h;cases h
theorem NB.mk'{x:Nat}{q:b_}{as:List b_}{s1:Sl}(s:az K F ρ σ H F1 ρ1 σ1 H1)(e:ρ1[x]?=al s1)(g:uO s1=a7)(h:Wq F1 ρ1 σ1 H1 q (as.map V.ref))(nd:(q::as).Nodup)(len:as.length=rows.length)(row:∀(k:Nat)(a:b_)(c:List D),as[k]?=al a->rows[k]?=al c->Wt K F1 ρ1 σ1 H1 a c)(fr:∀b,b∈q::as->Own ρ σ b\/H b=bdq):NB K x q as F ρ σ H F1 (ρ1.set x (.hold rows)) (σ1.set x (al (.ref q))) H1 rows:=by
 have hi:x<ρ1.length:=(dX e).1;have f:x<σ1.length:=by rw[<-s.gs.len];exact hi
 exact⟨s.Dv rfl (s.free e g),fr,s.free e g,⟨cp hi,cp f,⟨Ef rfl h.kp,h.fr⟩,nd,len,λk a c h1 i=>NT rfl (row k a c h1 i)⟩⟩
end
theorem IV{K:PySem.W.Frag}{F H:Hp}{ρ e ρ2:List Sl}{σ:_L.St}{ul:List Sl->List Sl}{ti:TI}{is:List Nat}{one:Bool}{c:Call}{el:Ev}{g:TG}{Q:VK}{f:List D}{m n:Nat}(hm:σ.length=m)(ay:oV K m is one g)(aE:∀R:It->Hp->Prop,(∀J F1 X,Walk K F ρ σ H ul J f F1 e X->R J X)->ti σ H R)(bm:f.length<=lim)(e2:gK is one el f [] (e++cq n .aN)=.ok rows ρ2)(k:∀ q as F' H',az K F ρ σ H F' (ul (ρ2.take e.length)) σ H'->Wq F' (ul (ρ2.take e.length)) σ H' q (as.map V.ref)->(q::as).Nodup->as.length=rows.length->(∀(k:Nat)(a:b_)(f:List D),as[k]?=al a->rows[k]?=al f->Wt K F' (ul (ρ2.take e.length)) σ H' a f)->(∀b,b∈q::as->Own ρ σ b\/H b=bdq)->Q (.ref q) H'):uA n ti g (Ld K (tL c bdq)) (uW K el) σ H Q:=by
 refine aE _ λJ F1 X w Da Z=>?_;have aI:e.length=σ.length:=w.gs.len;have gm:=w.gs.more (n:=n) (τ:=cq n bdq) (by simp);have fD:F1 Da=bdq:=by cases q:F1 Da with|none=>rfl|some o=>rw[w.gs.sub Da o q]at Z;cases Z
 have nO:¬ Own (e++cq n .aN) (σ++cq n bdq) Da:=λ⟨i,⟨t,dt,q1,q2⟩,q3⟩=>by obtain⟨a,ys,z1,z2,_⟩:=gm.own i t dt q1 q2;rw[q3]at z1;cases z1;rw[Z]at z2;cases z2
 refine⟨λi mm ys j M=>∃N l u as,az K F1 (e++cq n .aN) (σ++cq n bdq) X N l j M/\j.take m=σ/\ys=as.map V.ref/\M Da=al (.lst ys)/\N Da=bdq/\¬ Own l j Da/\(Da::as).Nodup/\as.length=u.length/\(∀(k:Nat)(a:b_)(f:List D),as[k]?=al a->u[k]?=al f->Wt K N l j M a f/\(Own (e++cq n .aN) (σ++cq n bdq) a\/X a=bdq))/\u.length<=i/\mm=f.length-i/\i<=f.length/\gK is one el (f.drop i) u l=.ok rows ρ2,⟨_,F1,_,[],[],(az.refl gm).vY Z fD nO,by rw[mu (by omega),n7 (by omega)],rfl,aC,fD,nO,by simp,rfl,λk a f h=>by simp at h,uY,rfl,uY,e2⟩,?_⟩;rintro i mm ys j M⟨N,l,u,as,si,ar,ac,hD,hF,hO,ae,B,G,bn,rfl,bo,E⟩;refine⟨hD,?_⟩;have stay:∀{F2 H2:Hp}{af:List Sl}{I:_L.St},az K N l j M F2 af I H2->H2 Da=al (.lst ys)/\F2 Da=bdq/\¬ Own af I Da:=λ{F2 H2 af I}s=>by have:=(Wq.stp (xs:=ys) ⟨⟨hD,hO⟩,hF⟩ s);exact⟨this.kp.1,this.fr,this.kp.2⟩
 obtain⟨s1,s2⟩:=w.src n i N l j M si;by_cases ag:i<f.length
 . right;have hd:f[i]?=al f[i]:=by simp[ag]
   obtain⟨go,step⟩:=s1 _ hd;refine⟨go,λx H2 y=>?_⟩;obtain⟨F2,ext,rx⟩:=step x H2 y;have t2:=ext.stp si.gs;rw[fy ag,Jt]at E;cases hbd:cJ l is one f[i]with|none=>rw[hbd]at E;cases E|some U=>rw[hbd]at E;obtain⟨re,ah,ee,E⟩:=aa E;cases re with|val _=>cases E|own ai=>
     replace E:gK is one el (f.drop (i+1)) (u++[ai]) ah=.ok rows ρ2:=E;refine ay x _ F2 l U j H2 _ t2.gs rx hbd λI sb aS=>?_;have t3:=t2.trans sb;refine⟨F2,U,bx,U,t3.gs,by rw[tL],λF4 H4 s4=>?_⟩;have t4:=t3.trans s4;refine(show uW K el I H4 _ from⟨F4,U,.own ai,ah,t4.gs,ee,λv F5 H5 s5 rr=>?_⟩);have t6:=t4.trans s5;obtain⟨y1,y2,y3⟩:=stay t6;obtain⟨z1,z2,z3⟩:=stay t4;have am:ys.length<sizeLine:=by have O:lim=sizeLine:=rfl;rw[ac,dQ];omega
     obtain⟨A,xs,rfl,a1,a2,a3,a4,a5⟩:=rr;have av:A≠Da:=by
      rintro rfl;rcases a5 with z|z;.exact z3 z
      .rw[z1]at z;cases z
     have nA:A∉as:=λhA=>by
      obtain⟨L,C⟩:=j_ hA;have ap:L<u.length:=by rw[<-B];exact(dX C).1
      obtain⟨⟨zs,Y,_⟩,_⟩:=(G L A u[L] C (by simp[ap])).1.stp t4;rcases a5 with z|z;.exact Y.2 z
      .rw[Y.1]at z;cases z
     have fA:Own (e++cq n .aN) (σ++cq n bdq) A\/X A=bdq:=by
      have t:=si.trans t4;rcases a5 with z|z;.exact t.wY A z
      .exact t.since z
     refine⟨y1,am,_,by omega,F5,ah,u++[ai],as++[A],(si.trans t6).vY Z y2 y3,aS.trans ar,by rw[ac];simp,aC,y2,y3,?_,by simp[B],λL a0 aT h1 O=>?_,by simp;omega,rfl,ag,E⟩
     . rw[<-kD,kT];refine⟨ae,by simp,λp hp r hr=>?_⟩;simp at hr;subst hr;rcases cS.mp hp with rfl|hp;.exact λz=>av z.symm
       .rintro rfl;exact nA hp
     . by_cases C:L<as.length
       . rw[dr C]at h1;rw[dr (by omega)]at O;obtain⟨w0,f0⟩:=G L a0 aT h1 O;obtain⟨⟨zs,Y,r1⟩,g1⟩:=w0.stp t6;have na:a0≠Da:=by rintro rfl;exact(eI.mp ae).1 (du h1)
         exact⟨⟨⟨zs,⟨by rw[ao na];exact Y.1,Y.2⟩,r1⟩,g1⟩,f0⟩
       . rw[gx (by omega)]at h1;rw[gx (by omega)]at O;have:L-as.length=0:=by have:=(dX h1).1;simp at this;exact this
         rw[this]at h1;rw[<-B,this]at O;cases h1;cases O;exact⟨⟨⟨xs,⟨by rw[ao av];exact a1,a4⟩,a3⟩,a2⟩,fA⟩
 . left;have a8:f.drop i=[]:=by rw[k4];omega
   rw[a8,Jo]at E;cases E;refine⟨s2 (by omega),?_⟩;have hst:j.take e.length=σ:=by rw[aI,hm];exact ar
   obtain⟨l1,l2⟩:=az.less (m:=e.length) rfl w.gs (by simp) si;rw[hst]at l1;obtain⟨z1,z2⟩:=w.fin _ _ _ _ l1--the outer list:with nothing in it,it is like any new one
   have a9:=si.vY (o:=.lst []) Z hF hO;obtain⟨aw,Y6⟩:=az.less (m:=e.length) rfl w.gs (by simp) a9;rw[hst]at aw;obtain⟨bp,ba⟩:=w.fin _ _ _ _ aw;have rr:cT K N ρ2 j (upd M Da (.lst [])) (e++cq n .aN) (σ++cq n bdq) X (.ref Da) (.own []):=⟨Da,[],rfl,aC,hF,.nil,hO,.inr Z⟩;have R6:=Y6 _ _ rr;rw[hst]at R6;obtain⟨_,_,q0,_,q3,_,q5,q6⟩:=ba _ _ R6;cases q0;have ax:∀(k:Nat)(a:b_)(f:List D),as[k]?=al a->rows[k]?=al f->Wt K N (ul (ρ2.take e.length)) σ M a f/\(Own ρ σ a\/H a=bdq):=λk a f h1 O=>by obtain⟨⟨⟨xs,Y,r1⟩,f1⟩,f2⟩:=G k a f h1 O;have rr:cT K N ρ2 j M (e++cq n .aN) (σ++cq n bdq) X (.ref a) (.own f):=⟨a,xs,rfl,Y.1,f1,r1,Y.2,f2⟩;have R6:=l2 _ _ rr;rw[hst]at R6;obtain⟨a',bi,q0,q2,q3,q4,q5,q6⟩:=z2 _ _ R6;cases q0;exact⟨⟨⟨bi,⟨q2,q5⟩,q4⟩,q3⟩,q6⟩
   refine k Da as N M z1 ⟨⟨by rw[hD,ac],q5⟩,q3⟩ ae B (λk a f h1 O=>(ax k a f h1 O).1) λb hb=>?_;rcases cS.mp hb with rfl|hb;.exact q6
   . obtain⟨L,C⟩:=j_ hb;have ap:L<rows.length:=by rw[<-B];exact(dX C).1
     exact(ax L b rows[L] C (by simp[ap])).2
section
variable{X:Cx}{c:Call}{nn n:Nat}{tg iter elt:df}{ps pe:P}{pos:Pos}{sts:List eM}{ss:List S}{scope:jt}{N':List Str}
theorem Qc{i:Nat}{x:Str}{b f:Pos}{g:TG}{is:List Nat}{one:Bool}(hc:X.calm=bx)(A:X.N.Nodup)(m:X.N[i]?=al x)(B:Loc X.env.scope x)(ok:fY X scope N' n)(hi:SI X c tg iter ps)(E:∀cl C s₀ H₀ ex,PG (ug X scope N' cl C s₀ H₀ ex) tg g)(r:oV X.K X.N.length is one g)(ht:∀cl C s₀ H₀ ex,SQ (ug X scope N' cl C s₀ H₀ ex) c [] bdq)(he:∀cl C s₀ H₀ ex,SX (ug X scope N' cl C s₀ H₀ ex) c elt pe)(G:SBT X c nn i sts ss)(t:gd (.ListComp elt [⟨tg,iter,[],0⟩] scope pos) (al (.Name x b)) f.line X.env=eS bx:=by rfl)(hs:∀x,fm iter X.env x=eS x:=by intro _;rfl)(J:X.fn x=bx\/X.env.scope.names.lookup x=al .local:=by first|(left;rfl)|(right;rfl)|assumption):SB X c nn (.Assign [.Name x b] (.ListComp elt [⟨tg,iter,[],0⟩] scope pos) f::sts) (.Ma i ps n is one pe::ss):=by
 have h0:=Qj (tt:=Ld X.K (tL c bdq)) (te:=uW X.K (_H.ev c pe)) hc A m B ok hi E ht (λcl C s₀ H₀ ex=>(he cl C s₀ H₀ ex).ev) t hs J;refine λj s σ H D I q=>fU h0 G.p j s σ H D I ?_;have L:σ.length=X.N.length:=I.len;obtain⟨F,ρ,fl,u,M,e,O⟩:=q;rw[M6]at e;obtain⟨f1,Q,a,e⟩:=aa e;rw[_H.X20]at a;obtain⟨U,w,W,a⟩:=aa a;split at a;.rename_i k;obtain⟨rows,ρ2,Y,a⟩:=aa a;obtain⟨Z,z,l,a⟩:=aa a;cases a;have zz:=aD l;clear l;obtain⟨l,_⟩:=zz;obtain⟨s1,h1,h2,rfl⟩:=vW l;refine(show uA n (tIt X.K (isVar ps) (_H.ev c ps)) g (Ld X.K (tL c bdq)) (uW X.K (_H.ev c pe)) σ H (λv H1=>ju i v σ H1 (aai X.K i (gj c nn ss) D))from IV (c:=c) (ul:=aU ρ (isVar ps)) L r (λR h=>⟨F,ρ,U,w,M,W,h⟩) k Y λq as F' H' s wq nd len row fr=>?_);exact⟨F,ρ,σ,H,F',_,q,as,rows,fl,u,NB.mk' s h1 h2 wq nd len row fr,e,λF2 y H2 s2=>O F2 y H2 s2⟩
 .cases a
end
end _H
namespace _H
open PySem _L Spec PyProof.Rows Calls W
variable{i:Nat}{x:Str}
section
variable{K:PySem.W.Frag}{F F1 H H1:Hp}{ρ ρ1 ρ2:List Sl}{σ σ1:_L.St}
theorem GS.aeX{x:Nat}{kvs f:List (Int×D)}{a:b_}{w:HO}(g:GS K F ρ σ H)(e:ρ[x]?=al (.cM kvs))(p:σ[x]?=al (al (.ref a)))(r:lF K F w (.v f)):az K F ρ σ H F (ρ.set x (.cM f)) σ (upd H a w):=by
 have hi:x<ρ.length:=(dX e).1;have y:aX ρ σ x a:=⟨⟨_,_,e,rfl⟩,p⟩;obtain⟨L,M,h1,N,z,O⟩:=g.own x _ _ e rfl;rw[p]at h1;cases h1;have h:∀{j:Nat}{c:b_},aX (ρ.set x (.cM f)) σ j c->aX ρ σ j c:=λ{j c}⟨⟨t,dt,m,s⟩,q3⟩=>by
  by_cases b:j=x;.subst b;exact⟨⟨_,_,e,rfl⟩,q3⟩
  .rw[fj b]at m;exact⟨⟨t,dt,m,s⟩,q3⟩
 refine⟨⟨λc o q=>?_,by simp[g.len],λj B d q=>?_,λj t dt q u=>?_,λj k c m s=>g.dis j k c (h m) (h s)⟩,.refl _,λc n C=>absurd n C,λc o q n=>?_,λc⟨j,q⟩=>.inl ⟨j,h q⟩,by simp,λj t q l=>⟨rfl,?_⟩⟩
 . have:c≠a:=by rintro rfl;rw[z]at q;cases q
   rw[ao this];exact g.sub c o q
 . by_cases b:j=x;.subst b;rw[cp hi]at q;cases q
   .rw[fj b]at q;exact g.val j B d q
 . by_cases b:j=x;.subst b;rw[cp hi]at q;cases q;cases u;exact⟨a,_,p,aC,z,r⟩
   . rw[fj b]at q;obtain⟨c,E,A,G,I,J⟩:=g.own j t dt q u;have:c≠a:=by rintro rfl;exact b (g.dis j x c ⟨⟨t,dt,q,u⟩,A⟩ y)
     exact⟨c,E,A,by rw[ao this];exact G,I,J⟩
 . have:c≠a:=by rintro rfl;exact n ⟨x,y⟩
   rw[ao this];exact q
 . by_cases b:j=x;.subst b;rw[e]at q;cases q;cases l
   .exact⟨t,by rw[fj b];exact q,.refl t⟩
theorem GS.newV{kvs:List (Int×D)}{a:b_}{A:HO}{s0:Sl}(g:GS K F ρ σ H)(e:ρ[i]?=al s0)(y:uO s0=a7)(r:lF K F A (.v kvs))(s:H a=bdq):az K F ρ σ H F (ρ.set i (.cM kvs)) (σ.set i (al (.ref a))) (upd H a A):=by
 have hi:i<ρ.length:=(dX e).1;have u:i<σ.length:=by rw[<-g.len];exact hi
 have B:F a=bdq:=by cases q:F a with|none=>rfl|some o=>rw[g.sub a o q]at s;cases s
 have f:∀{j:Nat}{c:b_},j≠i->aX (ρ.set i (.cM kvs)) (σ.set i (al (.ref a))) j c->aX ρ σ j c:=λ{j c}b⟨⟨t,ds,e1,e2⟩,e3⟩=>by rw[fj b]at e1 e3;exact⟨⟨t,ds,e1,e2⟩,e3⟩
 have h:∀{c:b_},aX (ρ.set i (.cM kvs)) (σ.set i (al (.ref a))) i c->c=a:=λ{c}⟨_,e3⟩=>by rw[cp u]at e3;cases e3;rfl
 have no:∀{j:Nat},¬ aX ρ σ j a:=λ{j}⟨⟨t,ds,e1,e2⟩,e3⟩=>by obtain⟨c,o,m,p,_⟩:=g.own j t ds e1 e2;rw[e3]at m;cases m;rw[s]at p;cases p
 refine⟨⟨λc o q=>?_,by simp[g.len],λj E d q=>?_,λj t dt q C=>?_,λj k c m p=>?_⟩,.refl _,λc n G=>absurd n G,λc o q n=>?_,λc⟨j,q⟩=>?_,by simp,λj t q l=>?_⟩
 . have:c≠a:=by rintro rfl;rw[B]at q;cases q
   rw[ao this];exact g.sub c o q
 . by_cases b:j=i;.subst b;rw[cp hi]at q;cases q
   .rw[fj b]at q ⊢;exact g.val j E d q
 . by_cases b:j=i;.subst b;rw[cp hi]at q;cases q;cases C;exact⟨a,_,cp u,aC,B,r⟩
   . rw[fj b]at q ⊢;obtain⟨c,o,I,z,J,L⟩:=g.own j t dt q C;have:c≠a:=by rintro rfl;rw[s]at z;cases z
     exact⟨c,o,I,by rw[ao this];exact z,J,L⟩
 . by_cases b:j=i
   . by_cases w:k=i;.rw[b,w]
     .subst b;rw[h m]at p;exact absurd (f w p) no
   . by_cases w:k=i;.subst w;rw[h p]at m;exact absurd (f b m) no
     .exact g.dis j k c (f b m) (f w p)
 . have:c≠a:=by rintro rfl;rw[s]at q;cases q
   rw[ao this];exact q
 . by_cases b:j=i;.subst b;rw[h q];exact .inr s
   .exact .inl ⟨j,f b q⟩
 . have b:j≠i:=by rintro rfl;rw[e]at q;cases q;rw[y]at l;cases l
   exact⟨by rw[fj b],t,by rw[fj b];exact q,.refl t⟩
end
section
variable{X:Cx}{c:Call}{n:Nat}{a b e:df}{pa pb p:P}{pos:Pos}
theorem CK{f p2:Pos}(m:X.N.Nodup)(hi:X.N[i]?=al x)(o:Loc X.env.scope x)(hs:gd (.Dict [] [] p2) (al (.Name x f)) pos.line X.env=eS a7:=by rfl)(r:X.fn x=bx\/X.env.scope.names.lookup x=al .local:=by first|(left;rfl)|(right;rfl)|assumption):SS X c n (.Assign [.Name x f] (.Dict [] [] p2) pos) (.G8 i):=by
 refine dH (qe m hi o yC hs r) ?_;rintro D σ H⟨F,ρ,fl,h,g,e,k⟩;rw[_H.X24]at e;have go:∀s0,ρ[i]?=al s0->uO s0=a7->fl=.next->h=ρ.set i (.cM [])->∀a,H a=bdq->D.nx (σ.set i (al (.ref a))) (upd H a (.dK [])):=λs0 q s j l a t=>by subst j l;exact k F _ _ (g.newV (kvs:=[]) q s (KR.oc .nil) t)
 split at e;.rename_i q;cases e;exact go _ q rfl rfl rfl
 .rename_i q;cases e;exact go _ q rfl rfl rfl
 .rename_i q;cases e;exact go _ q rfl rfl rfl
 .cases e
theorem pU{w f:Pos}{pk:P}(hu:X.A.units+8<fT)(C:X.N[i]?=al x)(E:vC X.env.scope x)(G:SX X c a pk)(he:SX X c e p)(hs:gd e (al (.Subscript (.Name x w) a f)) pos.line X.env=eS a7:=by rfl)(hd:(x==("__debug__":Str))=a7:=by decide)(m:(x==("__classdict__":Str))=a7:=by decide):SS X c n (.Assign [.Subscript (.Name x w) a f] e pos) (.gn i pk p):=by
 obtain⟨ta,h1,I⟩:=G.cN;refine dH (Ce (by omega) (eU C E hd m) h1 he.ev hs) ?_;rintro D σ H⟨F,ρ,fl,J,g,e,k⟩;rw[_H.X26]at e;obtain⟨r,o,L,l⟩:=aa e;clear e;refine⟨F,ρ,r,o,g,L,λv F1 H1 s1 M=>?_⟩;obtain⟨F2,s2,_,O⟩:=s1.cQ M;split at l
 . rename_i Q U;obtain⟨kd,ρ2,W,h⟩:=aa l;clear l;obtain⟨s,o0,t,w2,w3,w4⟩:=s2.gs.own i _ _ U rfl;refine⟨.ref s,t,I s2.gs W λy Y Z s3 py=>?_⟩;split at h
   . rename_i kvs j q;split at h;.rename_i hl;cases h;obtain⟨a1,o1,z,y2,y3,y4⟩:=s3.gs.own i _ _ q rfl;rw[t]at z;cases z;obtain⟨es,rfl,B⟩:=KR.Wi y4;have u:=B.put (k:=j) (O.mono s3.bT);refine⟨s,upd Z s (.dK (putK es (dJ j:Key) v)),rfl,?_,k Y σ _ ((s2.trans s3).trans (s3.gs.aeX q t u.oc))⟩;rw[py.int];exact .inl ⟨es,dJ j,y2,rfl,by rw[B.len,eW];exact hl,rfl⟩
     .cases h
   .cases h
 .cases l
theorem Af{y:Pos}{pk:P}(hu:X.A.units+8<fT)(z:X.N[i]?=al x)(B:vC X.env.scope x)(C:SX X c a pk)(hs:Qo a)(hd:(x==("__debug__":Str))=a7:=by decide)(l:(x==("__classdict__":Str))=a7:=by decide):SX X c (.Subscript (.Name x y) a pos) (.R1 i pk):=by
 obtain⟨ta,h1,E⟩:=C.cN;refine⟨dG (Oh (by omega) (eU z B hd l) h1 hs) ?_,λi h=>by cases h⟩;rintro σ H Q⟨F,ρ,r,G,g,e,k⟩;rw[_H.E25]at e;split at e
 . rename_i I q;obtain⟨kd,J,L,f⟩:=aa e;clear e;obtain⟨m,o0,o,w2,w3,w4⟩:=g.own i _ _ q rfl;refine⟨.ref m,o,E g L λv F1 M s1 s=>?_⟩;split at f;.rename_i kvs O;obtain⟨t,U⟩:=aD f;clear f;subst U;obtain⟨j,W,Y⟩:=cC t;clear t;obtain⟨d,Z,e6⟩:=map_some Y;subst e6;rw[dg W]at s;obtain⟨a1,o1,u,y2,y3,y4⟩:=s1.gs.own i _ _ O rfl;rw[o]at u;cases u;obtain⟨es,rfl,kr⟩:=KR.Wi y4;obtain⟨w,g1,g2⟩:=kr.get Z;rw[s.int];exact⟨m,w,rfl,.inl ⟨es,dJ j,.inl y2,rfl,g1.symm⟩,k w F1 M s1 (show Rep X.K F1 _ _ from g2)⟩
   .cases f
 .cases e
theorem WD{G:Pos}{pk:P}{neg:Bool}{op:nL}(t:(op=.In/\neg=a7)\/(op=.NotIn/\neg=bx))(hu:X.A.units+8<fT)(w:X.N[i]?=al x)(z:vC X.env.scope x)(J:SX X c a pk)(hd:(x==("__debug__":Str))=a7:=by decide)(m:(x==("__classdict__":Str))=a7:=by decide):PC X op a (.Name x G) (uW X.K (_H.ev c (.R3 i pk neg))):=by
 obtain⟨L,h1,M⟩:=J.cN;have l:∀{σ:_L.St}{H:Hp}{Q:VK},uW X.K (_H.ev c (.R3 i pk neg)) σ H Q->L σ H λy u=>nG i σ u λx B=>∃a o,x=.ref a/\n6 B a y o/\Q (.bl (if neg then !o.isSome else o.isSome)) B:=λ{σ H Q}⟨F,ρ,r,ρ',g,e,k⟩=>by
  rw[_H.E26]at e;obtain⟨kd,O,U,q⟩:=aa e;clear e;refine M g U λv F1 u s1 C=>?_;split at q;.rename_i kvs W;obtain⟨Y,Z⟩:=aD q;clear q;subst Z;obtain⟨j,e4,e5⟩:=map_some Y;subst e5;rw[dg e4]at C;obtain⟨E,o1,y1,y2,y3,y4⟩:=s1.gs.own i _ _ W rfl;obtain⟨es,rfl,kr⟩:=KR.Wi y4;rw[C.int];refine⟨.ref E,y1,E,_,rfl,.inl ⟨es,dJ j,.inl y2,rfl,rfl⟩,?_⟩;rw[kr.has j];exact k _ F1 u s1 (show Rep X.K F1 _ _ from dZ _)
  .cases q
 rcases t with⟨rfl,rfl⟩|⟨rfl,rfl⟩;.exact λf s σ H Q I h=>VM (by omega) h1 (eU w z hd m) f s σ H Q I (l h)
 .exact λf s σ H Q I h=>Gz (by omega) h1 (eU w z hd m) f s σ H Q I (l h)
end
theorem oK{P:da}{w:eg}:∀{ks:List Int}{es:List (Key×V)}{vs:List (Key×bw)}{a:List bw},es.map (·.1)=ks.map (dJ:Int->Key)->KV es vs->a.length=vs.length->(∀(j:Nat)(v:bw),a[j]?=al v->∃(k:Key)(x:bw),vs[j]?=al (k,x)/\(aZ P w).is k v=bx)->gS a ks
 |[],es,_,a,he,r,h,_=>by cases es with
   |nil=>cases r;cases a with|nil=>exact .nil|cons _ _=>simp at h
   |cons _ _=>simp at he
 |i::ks,es,_,a,he,r,h,k=>by cases es with|nil=>simp at he|cons p es=>cases r with|@cons _ q _ _ r t=>rw[dc,dc]at he;cases a with|nil=>simp at h|cons v a=>
         obtain⟨f,x,c,g⟩:=k 0 v rfl;simp at c;have l:f=dJ i:=by have z:=r.1;rw[c]at z;rw[<-(List.cons.inj he).1];exact z.symm
         subst l;obtain⟨m,tk,b,rfl⟩|⟨_,_,b,_⟩:=bG (show oO (dJ i) v=bx from g);.cases b;exact .cons _ tk (oK (List.cons.inj he).2 t (by simpa using h) λj v e=>k (j+1) v (by simpa using e))
         .cases b
section
variable{X:Cx}{c:Call}{n:Nat}{a b e:df}{pa pb p:P}{pos:Pos}
theorem Zb(hc:X.calm=bx):eY X (.type "list") (Rh X.K λx=>blt .Y0 [x]):=by rintro t s σ H xs Z Q I r⟨x,A,F,d,B,sm,C,he,k⟩;cases d with|dv ks ds=>
   obtain⟨E,he⟩:=bf (show(if ks.length<=16777216 then al (R.own (ks.map D.int))else bdq)=al B from he);subst he;obtain⟨q,G,g,rfl,J,L,M⟩:=C.dv sm;subst A;obtain⟨u,rfl,N⟩:=r.one;cases N;obtain⟨ho,hz,O,vs,y,l⟩:=(show bI X.prog X.w H s.heap q (.cQ G (.dK (ent ks g)))from I.hok q _ J);obtain⟨ep,l⟩:=l.dictAt;have z:=qW (ks:=ks) (vs:=g) (by rw[L.length];exact M);have m:vs.length=ks.length:=by rw[<-Paired.length y];have:=congrArg kN z;simpa using this
   refine kdl_call (kdl_dict (knd:=aZ X.prog X.w) (kvs:=vs) (ep:=ep) O) (I.ok.hd hc) l (by rw[m,eW];omega) λh' tk h U kp W f=>?_;have Y:gS h.toList ks:=oK (P:=X.prog) (w:=X.w) z y (by rw[ja];exact f.1) λj v e=>f.2 j v (by rw[<-Array.getElem?_toList];exact e);refine⟨.ref s.heap.objs.size,_,I.laid (t':=tk) (o:=.lst (ks.map V.int)) (h':=h') kp (dq) ⟨by rw[dQ,eW];omega,h.toList,U,lZ Y,by rw[Array.toArray_toList];exact W⟩,rfl,?_⟩;exact Bl sm (uw ks) (I.hok.fresh (dq)) k|_=>cases he
theorem K6{f:Pos}(g:x="list")(hc:X.calm=bx)(j:Gl X x)(k:X.mg x=bdq)(l:SX X c a pa)(hs:cw [a] X.env=(a7,eu a X.env)::cw [] X.env:=by rfl):SX X c (.Call (.Name x f) [a] [] pos) (.blt .Y0 [pa]):=by subst g;exact rY (λh=>iQ (Zb hc) j k (by decide+kernel) h (he:=hs)) l (λρ=>rfl) rfl hs
theorem Np{neg:Bool}{op:nL}(f:(op=.In/\neg=a7)\/(op=.NotIn/\neg=bx))(L:X.A.units+8<fT):fX X (dO op) (rD X.K (xV neg)):=by rintro m s σ H x y v u Q I h t⟨F,d,e,r,sm,w,z,he,k⟩;cases d with
 |int j=>cases e with|dv ks M=>
     cases he;obtain⟨q,B,vs,rfl,C,E,G⟩:=z.dv sm;have J:=KR.zip E G;rw[w.int]at h;obtain rfl:u=dS q:=t;have g:n6 H q (.int j) (jB (ent ks vs) (dJ j:Key)):=.inl ⟨_,dJ j,.inr ⟨B,C⟩,rfl,rfl⟩;have o:(jB (ent ks vs) (dJ j:Key)).isSome=ks.contains j:=by rw[J.has j];congr 1;rw[List.map_fst_zip (by omega)]
     rcases f with⟨rfl,rfl⟩|⟨rfl,rfl⟩;.refine Zk (by omega) I g h λs3 l=>⟨.bl (jB (ent ks vs) (dJ j:Key)).isSome,H,l,rfl,?_⟩;rw[o];exact cH.cY sm (dZ _) k
     .refine CG (by omega) I g h λs3 l=>⟨.bl (!(jB (ent ks vs) (dJ j:Key)).isSome),H,l,rfl,?_⟩;rw[o];exact cH.cY sm (dZ _) k|_=>cases he
 |_=>cases he
end
end _H
namespace PySem
section
variable{prog:da}{w:eg}{A:ej}{E:bw->bZ->Prop}{s:bZ}
theorem wD{Q:List bw->bZ->Prop}{I l:b_}{items:Array bw}(t:A.handled=bdq)(f:s.heap.IsRevIter I l ((items.size:Int)-1))(n:s.heap.IsList l items)(k:l≠I)(g:items.size<=2^24)(u:∀h' tk c,(∀b o,b≠I->s.heap.get? b=al o->h'.get? b=al o)->s.heap.objs.size<h'.objs.size->ItemsOf (λi v=>items[items.size-1-i]?=al v) c items.size->Q c.toList {s with heap:=h',toks:=tk}):
 cy (cE prog w) A (collect (.ref I)) Q E s:=by have h:I<s.heap.objs.size:=let⟨_,ho,_⟩:=f;de ho;have m:l<s.heap.objs.size:=let⟨_,ho,_⟩:=n;de ho;unfold collect;refine a_ (wpAny_runValue (k5 F.entry_proto_collect ?_));rw[iN F.plain_proto_collect _];show cy _ A.in1 (newList []>>=λl=>again (.builtin "list.__iadd__" ⟨[l,.ref I],[]⟩)) _ _ s;refine a_ (ek ?_);refine cr ⟨me F.plain_list_iadd _,k5 F.entry_list_iadd ?_⟩;rw[iN F.plain_list_iadd _];show cy _ A.in1 (lc (.ref s.heap.objs.size) (.ref I) (.ref s.heap.objs.size)) _ _ _;refine mD (A:=A) (R:=λr p=>match r with
  |.ok (.ret v)=>cy (cE prog w) A (match v with
   |.ref a=>do let o<-load a match o.data with|.seq xs _=>eS xs.toList|_=>nz "internal:collect"
   |_=>nz "internal:collect") Q E p|.ok _=>False|.error e=>E e p) (s:={s with heap:=s.heap.push {cls:=.type "list",data:=.seq #[]}}) t (f.at λo e=>dB e) (n.at λo e=>dB e) k g s.heap.objs.size (fE (dP h)) (fE (dP m)) _ 0 (cv _ rfl) λh' tk c z x q j=>?_;refine a_ (wpAny_load q ?_);exact cr (u h' tk c (λb o y e=>x b o (dP (de e)) y (dB e)) (de q) j)
end
theorem j7(I l:b_)(items:Array bw)(i:l≠I)(hsz:items.size<=2^24):m2 (io.«tuple.__new__» ⟨[.type "tuple",.ref I],[]⟩) (λA R s=>A.handled=bdq/\s.heap.IsRevIter I l ((items.size:Int)-1)/\s.heap.IsList l items/\∀(h':ew)(tk:Nat),(∀b o,b≠I->s.heap.get? b=al o->h'.get? b=al o)->s.heap.objs.size<h'.objs.size->∀a:Array bw,a=items.reverse->R (.ok (.ret (.ref h'.objs.size))) {s with heap:=h'.push {cls:=.type "tuple",data:=.seq a},toks:=tk}):=.of_wp λprog w A R s h=>by
  obtain⟨q,f,r,h⟩:=h;have p:=sub_tuple_self;have k:=init_tuple_lookup;have t:=madeHere_tuple;have u:Shared.TypeIs s (.ref I) "list_reverseiterator":=f.typeIs;obtain⟨o,ho,hc,hd⟩:=id f;obtain⟨B,g,d,tk,os⟩:=s;wp_walk using AutoSeq1.wpAny_loadPart' ho,kR u,wD (A:=A.in1) q f r i hsz;intro h' m a x n c;show cy _ _ (i7 a.toList.toArray>>=λv=>ret v) _ _ _;have e:a.toList.toArray=a:=by simp
  have y:a=items.reverse:=by refine Array.ext (by rw[c.1,Array.size_reverse]) λj h1 C=>?_;have:=c.2 j _ (Array.getElem?_eq_getElem h1);rw[Array.getElem_reverse];have z:=Array.getElem?_eq_some_iff.mp this;exact z.2.symm
  rw[e];unfold i7;refine a_ (ek ?_ (by show a.size<=sizeLine;rw[c.1,eW];omega));exact cr ⟨_,rfl,h h' m x n a y⟩
section
variable{prog:da}{w:eg}{A:ej}{E:bw->bZ->Prop}{s:bZ}
theorem o4{I l:b_}{items:Array bw}{Q:bw->bZ->Prop}(g:A.handled=bdq)(a:s.heap.IsRevIter I l ((items.size:Int)-1))(i:s.heap.IsList l items)(c:l≠I)(hsz:items.size<=2^24)(h:∀(h':ew)(tk:Nat),(∀b o,b≠I->s.heap.get? b=al o->h'.get? b=al o)->s.heap.objs.size<h'.objs.size->Q (.ref h'.objs.size) {s with heap:=h'.push {cls:=.type "tuple",data:=.seq items.reverse},toks:=tk}):cy (cE prog w) A (call (.type "tuple") [.ref I]) Q E s:=ke F.called_tuple (by decide) (F.typeCall_tuple_1 _) (F.newCall_tuple_1 _) (λobj=>F.args_object_init_2 obj _) F.entry_tuple_new (j7 I l items c hsz) ⟨g,a,i,λh' tk j f k e=>by subst e;exact⟨⟨_,cv _ rfl,rfl⟩,h h' tk j f⟩⟩
end
end PySem
namespace _L
open PySem Spec PyProof.Rows
section
variable{X:Cx}{pins:List (b_×Obj)}{σ:St}{H:Hp}{s:bZ}{E:bw->bZ->Prop}
theorem Bb{a:df}{B:TE}{p pos p2 g:Pos}(hc:X.calm=bx)(n:Gl X "tuple")(t:X.mg "tuple"=bdq)(J:Gl X "reversed")(L:X.mg "reversed"=bdq)(M:PE X a B)(hs:cw [a] X.env=[(a7,eu a X.env)]:=by rfl)(i:cw [.Call (.Name "reversed" p) [a] [] pos] X.env=[(a7,eu (.Call (.Name "reversed" p) [a] [] pos) X.env)]:=by rfl):PE X (.Call (.Name "tuple" p2) [.Call (.Name "reversed" p) [a] [] pos] [] g) (λσ H Q=>B σ H λx f=>∃ad xs,x=.ref ad/\dF X.K f ad xs/\∀l,f l=bdq->Q (.ref l) (upd f l (.tup xs.reverse))):=by
 intro pins s σ H Q I h;refine Call_ (ji I n t xn (eF ?_ i rfl));rw[i];show cy _ _ (spliced ((a7,eu (.Call (.Name "reversed" p) [a] [] pos) X.env)::[])) _ _ _;refine jx (Call_ (ji I J L rR (eF (cB ((bu M di hs) pos pins s σ H (λvs f=>match vs with|[x]=>∃ad xs,x=.ref ad/\dF X.K f ad xs/\∀l,f l=bdq->Q (.ref l) (upd f l (.tup xs.reverse))|_=>False) I h) ?_) hs rfl)));rintro Y s1⟨vs,f,m,r1,v⟩;obtain⟨ad,xs,N,q,w⟩:∃ad xs,dF X.K f ad xs/\(∀l,f l=bdq->Q (.ref l) (upd f l (.tup xs.reverse)))/\vs=[.ref ad]:=by cases vs with|nil=>cases v|cons x r=>cases r with|nil=>obtain⟨ad,xs,rfl,q,O⟩:=v;exact⟨ad,xs,q,O,rfl⟩|cons _ _=>cases v
 subst w;obtain⟨u,rfl,U⟩:=r1.one;cases U;obtain⟨c,C,y,hz⟩:=m.list N;have hsz:c.toArray.size=xs.length:=by rw[cx,<-C.length]
 refine call_reversed_list y.isList (ly ?_);have z:ad≠s1.heap.objs.size:=dP (let⟨_,ho,_⟩:=y.isList;de ho);have A:(s1.heap.push (revObj ad ((c.toArray.size:Int)-1))).IsList ad c.toArray:=y.isList.at λo e=>dB e;refine o4 (m.ok.hd hc) (I:=s1.heap.objs.size) (l:=ad) (items:=c.toArray) ⟨_,cv _ rfl,rfl,rfl⟩ A z (by rw[hsz];exact g_ hz (by decide)) λh' tk G j=>?_;have k:(s1.heap.push (revObj ad ((c.toArray.size:Int)-1))).objs.size=s1.heap.objs.size+1:=ef ..;dsimp only at G j ⊢;rw[k]at j;have W:c.toArray.reverse=c.reverse.toArray:=by simp
 rw[W];refine⟨.ref h'.objs.size,_,m.laid (t':=tk) (o:=.tup xs.reverse) (h':=h'.push {cls:=.type "tuple",data:=.seq c.reverse.toArray}) (λb o e=>dB (G b o (dP (de e)) (dB e))) (by omega) ?_,rfl,q _ (m.hok.fresh (by omega))⟩;exact⟨by rw[List.length_reverse];exact hz,_,C.reverse,kP _ _⟩
end
end _L
namespace _H
open PySem _L Spec PyProof.Rows
section
variable{X:Cx}{c:Call}{a:df}{pa:P}{pos:Pos}
theorem Ag{x y:Str}{j p b:Pos}(q:y="tuple")(t:x="reversed")(hc:X.calm=bx)(m:Gl X y)(n:X.mg y=bdq)(u:Gl X x)(w:X.mg x=bdq)(z:SX X c a pa)(hs:cw [a] X.env=[(a7,eu a X.env)]:=by rfl)(o:cw [.Call (.Name x j) [a] [] pos] X.env=[(a7,eu (.Call (.Name x j) [a] [] pos) X.env)]:=by rfl):SX X c (.Call (.Name y p) [.Call (.Name x j) [a] [] pos] [] b) (.blt .rvT [pa]):=by subst t q;obtain⟨W,h1,A⟩:=z.cN;refine⟨dG (Bb hc m n u w h1 hs o) ?_,λi h=>by cases h⟩;rintro σ H Q⟨F,ρ,r,B,g,e,k⟩;rw[_H.E16]at e;obtain⟨d,ρ2,C,f⟩:=aa e;have E:=aD f;clear f;obtain⟨f,G⟩:=E;subst G;cases d with|lst Y=>cases f;refine A g C ?_;rintro v Z H' s I;obtain⟨ad,xs,rfl,J,L⟩:=I.lst s.gs.sub;exact⟨ad,xs,rfl,J,λl M=>An s.gs.sub (aF.rev L) M λv F2 N O U=>k v F2 N (s.trans (O.stp s.gs)) (.later s (U.pD s.gs))⟩|_=>cases f
end
end _H
namespace _L
open PySem Spec PyProof.Rows Calls
section
variable{X:Cx}
theorem Hz:Zc X (aaV X.K):=by
 intro a s σ H x y v u Q I g k h;obtain⟨p,xs,i,z,rfl,rfl,l,he,q⟩:=h;cases g;obtain⟨t,rfl⟩:=k;obtain⟨b,r,e,hz⟩:=I.list l;obtain⟨j,h1,m,C,n,o⟩:=wK he;obtain⟨w,f,A⟩:=r.get m;have B:=r.length;have E:=qG;have fin:EP X a σ Q w s:=⟨z,H,I,A,q⟩;by_cases h0:0<=i
 . have c:i.toNat=j:=by rw[nI h0 o]at h1;exact eA h1
   exact wpAny_getItem_list e.isList h0 (by omega) (by rw[c];simpa using f) fin
 . have c:(i+(b.toArray.size:Int)).toNat=j:=by rw[mB (by omega) n]at h1;rw[cx,<-B];exact eA h1
   exact qo e.isList (by omega) (by rw[cx]<;>omega) (by omega) (by rw[c];simpa using f) fin
end
end _L
namespace _H
open PySem _L Spec PyProof.Rows Calls W
section
variable{X:Cx}{c:Call}{n:Nat}{a b e:df}{pa pb p:P}{pos:Pos}
set_option maxHeartbeats 800000 in
theorem DQ{k e:Int}{t1 t2 p1 p2 p3}:SX X c (.Dict [al (.Constant (.int k) t1 p1)] [.Constant (.int e) t2 p2] p3) (.By k e):=by
 refine⟨?_,λi h=>by cases h⟩;intro f s σ H Q I h;obtain⟨F,ρ,r,x,g,m,y⟩:=h;rw[_H.E27]at m;cases m;have A:oh [] [((dJ k:Key),V.int e)]=ent [k] [.int e]:=rfl;have B:=Dn (X:=X) (pos:=p3) (xq (jM (i:=k) (j:=t1) (pos:=p1)) (jM (i:=e) (j:=t2) (pos:=p2)) Dd) rfl rfl (by simp) (by simp);refine cB (B f s σ H (λv C=>∃q,v=.ref q/\H q=bdq/\C=upd H q (Es [k] [.int e])) I ?_) λu s1⟨v,H1,I1,r1,q,e1,hn,e2⟩=>?_;.intro q E;refine⟨aC,[(dJ k,.int e)],rfl,by simp,q,rfl,E,?_⟩;rw[wJ,A];rfl
 subst e1 e2;obtain⟨o,t⟩:=Inv.Hj I1 (a:=q) (kvs:=ent [k] [.int e]) aC;rw[wJ]at t;have G:F q=bdq:=by cases z:F q with|none=>rfl|some o=>rw[g.sub q o z]at hn;cases hn
 have sm:aB F (upd F q (.cQ o (Es [k] [.int e]))):=aB.bF G;refine⟨.ref q,_,t,r1,y _ (upd F q (.cQ o (Es [k] [.int e]))) _ (Ext.stp g ⟨aB.bF hn,sm,λb o e=>?_,λb n w=>?_⟩) ?_⟩
 . by_cases l:b=q;.subst l;rw[aC]at e ⊢;exact e
   .rw[ao l]at e ⊢;exact g.sub b o e
 . by_cases l:b=q;.subst l;exact gw hn
   .rw[ao l]at w;exact absurd n w
 .show Rep X.K _ _ (.dv [k] [.int e]);rw[Rep];exact⟨q,o,[.int e],rfl,aC,.cons (cu _) .nil,rfl⟩
theorem MN{x:Str}{k:Nat}{px o:Pos}{op:lp}{sub:Bool}(ho:Rj X op (YM λi j=>if sub then i-j else i+j))(hN:X.N[k]?=al x)(hv:vC X.env.scope x)(hi:SX X c b pb)(he:SX X c e p)(ha:∀ov iv f,augStore b ov iv f=(do iO [f,ov,iv] (mA ov iv f);qB [f,ov,iv] [];eS .next):=by intros;rfl)(hd:(x==("__debug__":Str))=a7:=by decide)(C:(x==("__classdict__":Str))=a7:=by decide):SS X c n (.AugAssign (.Subscript (.Name x px) b o) op e pos) (.LQ k pb sub p):=by
 obtain⟨ti,E,G⟩:=hi.cN;obtain⟨te,I,J⟩:=he.cN;refine dH (Ob (eU hN hv hd C) E Hz I ho set_list ha) ?_;rintro D σ H⟨F,ρ,fl,ac,g,e,kk⟩;rw[_H.X17]at e;obtain⟨x0,ae,r,Y⟩:=aa e;clear e;obtain⟨e0,G9⟩:=aD r;clear r;subst G9;obtain⟨dk,L,e1,Z⟩:=aa Y;clear Y;obtain⟨l,ρ2,h,eC⟩:=aa Z;clear Z;obtain⟨A,M⟩:=aD h;clear h;subst M;obtain⟨ra,af,s,eD⟩:=aa eC;clear eC;obtain⟨e3,O⟩:=aD s;clear s;subst O;obtain⟨db,ag,e4,t⟩:=aa eD;clear eD;obtain⟨Q,M6,m,_⟩:=Eb g e0;refine⟨.ref Q,m,G g e1 λvi F1 H1 s1 pi=>?_⟩;split at t
 . rename_i u v bb ds kz q;split at t
   . rename_i j hj;cases t;obtain⟨B,f3,f5⟩:=cC e3;have U:B=kz:=by cases f3;rfl
     subst U;have h:pk L k=al (.lst l):=by
      unfold Hh at A;split at A;.rename_i z;cases A;exact z
      .cases A
     obtain⟨o',y,po⟩:=s1.gs.pk h;rw[m]at y;cases y;obtain⟨ad,xs,hr,hL,rs⟩:=po.lst s1.gs.sub;cases hr;obtain⟨j0,h1,h2⟩:=Jp f5;obtain⟨w,h3,h4⟩:=rs.get h2;have W:K4 xs B=al w:=by unfold K4;rw[rs.length,h1];exact h3
     have hw:w=.int u:=by rw[Rep]at h4;exact h4
     subst hw;refine⟨Q,xs,B,.int u,rfl,pi.int,hL,W,J s1.gs e4 λvb F2 H2 s2 pb=>⟨u,v,rfl,pb.int,?_⟩⟩;obtain⟨ah,zs,z1,z2,z3,z4⟩:=s2.gs.mW k _ ds q rfl;rw[m]at z1;cases z1;refine⟨Q,zs,B,j,rfl,pi.int,z2,by rw[z4.length];exact hj,?_⟩;exact kk F2 σ _ ((s1.trans s2).trans (s2.gs.mut q m (z4.set (cu _) j)))
   .cases t
 .cases t
end
section
variable{X:Cx}{c:Call}{n:Nat}{a b e:df}{pa pb p:P}{pos:Pos}
theorem MP{neg:Bool}{o:Op}{op:nL}(h:(op=.In/\neg=a7)\/(op=.NotIn/\neg=bx))(j:tu o=xV neg)(l:X.A.units+8<fT)(m:SX X c a pa)(y:SX X c b pb)(B:ga op b=a7):ST X c (.Compare a [op] [b] pos) (.bin o pa pb):=by obtain⟨C,E,h1,G,I⟩:=m.iR y;refine yd (Cz (Np h l) h1 G B) λσ H Q q=>lG (t:=Uz (rD X.K (xV neg)) C E) (λQ z=>?_) q;obtain⟨F,ρ,r,J,g,e,k⟩:=z;rw[_H.E3]at e;obtain⟨i,L,M,f⟩:=aa e;have N:=aD f;clear f;obtain⟨f,O⟩:=N;subst O;rw[j]at f;refine I g M λv u U H' s W Y=>⟨U,i.1,i.2,r,s.gs.sub,W,Y,f,λw F2 Z x rn=>?_⟩;exact k w F2 Z (s.trans (x.stp s.gs)) (.later s (rn.pD s.gs))
theorem VD(f:X.A.units+8<fT)(g:SX X c a pa)(h:SX X c b pb)(i:ga .In b=a7):ST X c (.Compare a [.In] [b] pos) (.bin .din pa pb):=MP (.inl ⟨rfl,rfl⟩) rfl f g h i
theorem Va{i:Nat}{x:Str}{h:Pos}{pk:P}{neg:Bool}{op:nL}(f:(op=.In/\neg=a7)\/(op=.NotIn/\neg=bx))(j:X.A.units+8<fT)(k:X.N[i]?=al x)(l:vC X.env.scope x)(m:SX X c a pk)(o:ga op (.Name x h)=a7)(hd:(x==("__debug__":Str))=a7:=by decide)(g:(x==("__classdict__":Str))=a7:=by decide):ST X c (.Compare a [op] [.Name x h] pos) (.R3 i pk neg):=yd (Um (WD f j k l m hd g) o) λσ H Q q=>lG (λ_ z=>z) q
end
end _H
namespace _H
open PySem _L Spec PyProof.Rows
section
variable{X:Cx}{c:Call}{n:Nat}{pos:Pos}
noncomputable def afy(k e:Int):TE:=λ_ H Q=>∀p,H p=bdq->Q (.ref p) (upd H p (.dK [(dJ k,.int e)]))
theorem VR{k e:Int}{t1 t2 p1 p2 p3}:PE X (.Dict [al (.Constant (.int k) t1 p1)] [.Constant (.int e) t2 p2] p3) (afy k e):=by refine dG (Dn (X:=X) (pos:=p3) (xq (jM (i:=k) (j:=t1) (pos:=p1)) (jM (i:=e) (j:=t2) (pos:=p2)) Dd) rfl rfl (by simp) (by simp)) ?_;intro σ H Q h q a;refine⟨aC,[(dJ k,.int e)],rfl,by simp,?_⟩;rw[wJ];exact h q a
set_option maxHeartbeats 1000000 in
theorem Qq{i:Nat}{x:Str}{k e:Int}{t1 t2 p1 p2 p3}{b:Pos}(m:X.N.Nodup)(hi:X.N[i]?=al x)(o:Loc X.env.scope x)(hs:gd (.Dict [al (.Constant (.int k) t1 p1)] [.Constant (.int e) t2 p2] p3) (al (.Name x b)) pos.line X.env=eS a7:=by rfl)(p:X.fn x=bx\/X.env.scope.names.lookup x=al .local:=by first|(left;rfl)|(right;rfl)|assumption):SS X c n (.Assign [.Name x b] (.Dict [al (.Constant (.int k) t1 p1)] [.Constant (.int e) t2 p2] p3) pos) (.Mg i k e):=by
 have h0:=qe m hi o (VR (X:=X) (k:=k) (e:=e) (t1:=t1) (t2:=t2) (p1:=p1) (p2:=p2) (p3:=p3)) hs p;show PS X _ _;refine dH h0 ?_;rintro D σ H⟨F,ρ,fl,h,g,f,r⟩;rw[_H.X25]at f;have go:∀s0,ρ[i]?=al s0->uO s0=a7->fl=.next->h=ρ.set i (.cM [(k,.int e)])->∀a,H a=bdq->D.nx (σ.set i (al (.ref a))) (upd H a (.dK [(dJ k,.int e)])):=λs0 q s j l a t=>by subst j l;exact r F _ _ (g.newV (kvs:=[(k,.int e)]) q s (KR.oc (.cons (cu _) .nil)) t)
 split at f;.rename_i q;cases f;exact go _ q rfl rfl rfl
 .rename_i q;cases f;exact go _ q rfl rfl rfl
 .rename_i q;cases f;exact go _ q rfl rfl rfl
 .cases f
end
end _H
namespace _H
open PySem _L Spec PyProof.Rows
noncomputable def lsO(o:Obj):Bool:=match o.cls with|.type n=>n=="list"|_=>a7
noncomputable def SM(K:PySem.W.Frag):Prop:=(K.filter λp=>lsO p.2).map (·.1)=[]
theorem mem_lookup{f g:Type}[BEq f][LawfulBEq f]{a:f}{b:g}:∀{l:List (f×g)},l.lookup a=al b->(a,b)∈l
 |[],h=>by cases h|(c,d)::l,h=>by
   rw[fv]at h;split at h;.rename_i e;have:=eq_of_beq e;cases h;subst this;simp
   .exact dA _ (mem_lookup h)
theorem SM.no{K:PySem.W.Frag}(h:SM K){a:b_}{o:Obj}(e:K.lookup a=al o)(c:o.cls=.type "list"):False:=by have b:a∈(K.filter λp=>lsO p.2).map (·.1):=cK.mpr ⟨(a,o),i4.mpr ⟨mem_lookup e,by unfold lsO;rw[c];rfl⟩,rfl⟩;rw[show(K.filter λp=>lsO p.2).map (·.1)=[]from h]at b;cases b
noncomputable def lfO:Option HO->Option HO|some (.lst _)=>bdq|some (.cQ _ (.lst _))=>bdq|o=>o
noncomputable def lf(F:Hp):Hp:=λb=>lfO (F b)
section
variable{K:PySem.W.Frag}{F F1 H H1:Hp}
theorem xr{o:Option HO}{u:HO}(h:lfO o=al u):o=al u/\(∀xs,u≠.lst xs)/\∀a xs,u≠.cQ a (.lst xs):=by
 unfold lfO at h;split at h;.cases h
 .cases h
 .rename_i h1 b;subst h;exact⟨rfl,λxs z=>h1 xs (by rw[z]),λa xs z=>b a xs (by rw[z])⟩
theorem Br:aB (lf F) F:=λb o e=>(xr e).1
theorem Ds{b:b_}(h:F b=bdq):lf F b=bdq:=by unfold lf;rw[h];rfl
theorem Uy{b:b_}{xs:List V}(h:Rd F b (.tup xs)):Rd (lf F) b (.tup xs):=by
 rcases h with h|⟨o,h⟩;.exact .inl (by unfold lf;rw[h];rfl)
 .exact .inr ⟨o,by unfold lf;rw[h];rfl⟩
theorem aF.of{b:Hp}:∀{a:List D}{vs:List V},(∀d∈a,∀v,Rep K F v d->Rep K b v d)->aF K F vs a->aF K b vs a|[],_,_,h=>by rw[h.fu];exact .nil|d::a,_,k,h=>by obtain⟨v,r,rfl,h1,c⟩:=h.cF;exact .cons (k d (by simp) v h1) (aF.of (λd' hd=>k d' (by simp[hd])) c)
theorem Rep.lf:∀(k:Nat){d:D}{v:V},Fy k d=bx->Rep K F v d->Rep K (lf F) v d:=by intro k;induction k with
 |zero=>intro d v h r;cases d<;>first|(rw[Rep]at r ⊢;exact r)|(cases h;done)
 |succ k b=>
   intro d v h r
   cases d with|tup c=>
     rw[Rep]at r ⊢;obtain⟨a,xs,rfl,h1,e⟩:=r;have h':c.all (Fy k)=bx:=h;refine⟨a,xs,rfl,?_,aF.of (λd hd v=>b (eh.mp h' d hd)) e⟩;rcases h1 with h1|h1;.exact .inl (Uy h1)
     .exact .inr h1|non=>rw[Rep]at r ⊢;exact r|bl _=>rw[Rep]at r ⊢;exact r|int _=>rw[Rep]at r ⊢;exact r|str _=>rw[Rep]at r ⊢;exact r|lst _=>cases h|dz _=>cases h|dv _ _=>cases h
theorem aF.ints{b:Hp}{a:List D}{vs:List V}(h:a.all eZ=bx)(r:aF K F vs a):aF K b vs a:=aF.of (λd hd v r=>by have:=eh.mp h d hd;cases d<;>first|(cases this;done)|(rw[Rep]at r ⊢;exact r)) r
noncomputable def uni(F F1:Hp):Hp:=λb=>match F b with|some o=>al o|none=>lf F1 b
theorem N5:aB F (uni F F1):=λb o e=>by unfold uni;rw[e]
theorem Ub(h:aB F H1)(h1:aB F1 H1):aB (lf F1) (uni F F1):=λb o e=>by unfold uni;cases q:F b with|none=>exact e|some u=>have:=h b u q;rw[h1 b o (Br b o e)]at this;cases this;rfl
end
end _H
namespace _L
open PySem Spec PyProof.Rows
theorem Inv.afN{X:Cx}{f:List (b_×Obj)}{σ:St}{H:Hp}{s:bZ}{a:b_}{o:Obj}{ys:List V}(I:Inv X f σ H s)(e:H a=al (.cQ o (.lst ys)))(h0:∀o u,X.H₀ a≠al (.cQ o u)):Inv X f σ (upd H a (.lst ys)) s:=by
 have ne:∀{b:b_}{u:HO},H b=al u->(∀l m,u≠.cQ l m)->b≠a:=λ{b u}h k z=>by rw[z,e]at h;cases h;exact k _ _ rfl
 have nn:∀{b:b_},H b=bdq->b≠a:=λ{b}h z=>by rw[z,e]at h;cases h
 refine⟨I.ok,I.os,I.bare,⟨I.base.keep,I.base.slot,λb i h n r=>?_,I.base.there,λb xs h=>?_,λb i u h=>?_,λb ps h=>?_⟩,I.loc,I.cell,?_,λx c hc=>?_,λp t=>?_,λb u h=>?_,I.len⟩;.have:=I.base.free b i h n r;rw[ao (nn this)];exact this
 .have:=I.base.tups b xs h;rw[ao (ne this (by intro _ _ z;cases z))];exact this
 . have:=I.base.sE b i u h;have g:b≠a:=by rintro rfl;exact h0 _ _ h
   rw[ao g];exact this
 .obtain⟨more,j⟩:=I.base.wO b ps h;exact⟨more,by rw[ao (ne j (by intro _ _ z;cases z))];exact j⟩
 .rw[ao (nn I.free)];exact I.free
 .rw[ao (nn (I.jz x c hc))];exact I.jz x c hc
 .obtain⟨p1,p2,p3⟩:=I.pin p t;exact⟨p1,by rw[ao (nn p2)];exact p2,p3⟩
 . by_cases g:b=a;.subst g;rw[aC]at h;cases h;obtain⟨_,q⟩:=I.hok b _ e;exact q
   .rw[ao g]at h;exact(I.hok b u h).stay (λc v _ q=>q) (λc q=>by rw[ao (ne q (by intro _ _ z;cases z))];exact q) λc xs q=>by rw[ao (ne q (by intro _ _ z;cases z))];exact q
theorem Df{X:Cx}{st:eM}{t:TS}(h:PS X st t):PS X st (λD σ H=>t D σ H\/∃a o ys,H a=al (.cQ o (.lst ys))/\(∀o u,X.H₀ a≠al (.cQ o u))/\t D σ (upd H a (.lst ys))):=λb s σ H D I q=>q.elim (h b s σ H D I) λ⟨a,o,ys,e,h0,q⟩=>h b s σ _ D (I.afN e h0) q
end _L
namespace _H
open PySem _L Spec PyProof.Rows
noncomputable def Ru(K:PySem.W.Frag):List V->Hp->VK->Prop:=λxs H Q=>∃p ys,xs=[.ref p]/\(dF K H p ys\/iB K H p ys)/\∀l,H l=bdq->Q (.ref l) (upd H l (.lst ys))
theorem Rd.same{F H:Hp}{a:b_}{u:HO}(s:aB F H)(h:Rd F a u):Rd H a u:=by
 rcases h with h|⟨o,h⟩;.exact .inl (s _ _ h)
 .exact .inr ⟨o,s _ _ h⟩
section
variable{K:PySem.W.Frag}{F0 F1 H0 H1:Hp}{ρ0 ρ1:List Sl}{σ0 σ1:_L.St}
theorem nu(a:ρ0.all JN=bx){b:b_}:¬ Own ρ0 σ0 b:=λ⟨i,⟨s,o,e,c⟩,_⟩=>by have:=eh.mp a s (du e);cases s<;>first|(cases c;done)|(cases this;done)
theorem uG(s:Sl):lst? (gJ s)=bdq:=by
 unfold gJ;split;.split<;>rfl
 .rfl
theorem Ey{s:Sl}{b:Bool}{d:D}(h:gJ s=.val b d):s=.val b d/\Fy 9 d=bx:=by
 unfold gJ at h;split at h
 . split at h;.cases h;exact⟨rfl,by assumption⟩
   .cases h
 .cases h
theorem iU{σ:_L.St}{b:b_}:¬ Own (ρ1.map gJ) σ b:=λ⟨i,⟨s,o,e,a⟩,_⟩=>by rw[er]at e;obtain⟨f,_,c⟩:=map_some e;rw[<-c,uG]at a;cases a
theorem aaL(g:GS K F0 ρ0 σ0 H0)(f:ρ0.all JN=bx):GS K (lf F0) ρ0 σ0 H0:=by
 refine⟨Br.trans g.sub,g.len,λi b d e=>?_,λi s o e h=>?_,g.dis⟩;.obtain⟨v,c,j⟩:=g.val i b d e;exact⟨v,c,Rep.lf 9 (eh.mp f _ (du e)) j⟩
 .obtain⟨a,_,c,_⟩:=g.own i s o e h;exact absurd ⟨i,⟨s,o,e,h⟩,c⟩ (nu f)
theorem qI(g:GS K F0 ρ0 σ0 H0)(f:ρ0.all JN=bx)(s:az K (lf F0) ρ0 σ0 H0 F1 ρ1 σ1 H1):az K F0 ρ0 σ0 H0 (uni F0 F1) (ρ1.map gJ) σ1 H1:=by
 have kp:∀b o,H0 b=al o->H1 b=al o:=λb o e=>s.keep b o e (nu f);have c:aB F0 H1:=λb o e=>kp b o (g.sub b o e);refine⟨⟨λb o e=>?_,by rw[dQ];exact s.gs.len,λi b d e=>?_,λi t o e p=>?_,λi j a h _=>absurd ⟨i,h⟩ iU⟩,N5,λb n k=>.inr ?_,λb o e _=>kp b o e,λb h=>absurd h iU,by rw[dQ];exact s.len,λi t h l=>?_⟩
 . unfold uni at e;split at e;.rename_i u q;cases e;exact c b _ q
   .exact s.gs.sub b o (Br b o e)
 .rw[er]at e;obtain⟨t,w,m⟩:=map_some e;obtain⟨rfl,hd⟩:=Ey m;obtain⟨v,x,A⟩:=s.gs.val i b d w;exact⟨v,x,(Rep.lf 9 hd A).mono (Ub c s.gs.sub)⟩
 .rw[er]at e;obtain⟨t',_,m⟩:=map_some e;rw[<-m,uG]at p;cases p
 . have h1:lf F1 b≠bdq:=by unfold uni at k;rw[n]at k;exact k
   rcases s.wR b (Ds n) (λz=>h1 (Ds z))with y|y;.exact absurd y (nu f)
   .exact y
 .obtain⟨B,t',C,r⟩:=s.lk i t h l;refine⟨B,t',?_,r⟩;have ht:=eh.mp f t (du h);cases t with
   |val b d=>cases b with|true=>have:t'=.val bx d:=r;subst this;rw[er,C];show al (if Fy 9 d=bx then Sl.val bx d else .aN)=_;rw[if_pos (show Fy 9 d=bx from ht)]|false=>cases l
   |aN=>cases l|_=>cases ht
theorem uh(i:SM K)(g:ρ0.all JN=bx)(s:az K (lf F0) ρ0 σ0 H0 F1 ρ1 σ1 H1){v:V}{e:List D}(h:Rep K F1 v (.lst e)):∃a ys,v=.ref a/\Rd F1 a (.lst ys)/\H0 a=bdq/\aF K F1 ys e:=by
 obtain⟨a,ys,rfl,b,j⟩:∃a ys,v=.ref a/\dF K F1 a ys/\aF K F1 ys e:=by rw[Rep]at h;exact h
 rcases b with b|⟨o,l,n,m,p,_⟩
 . refine⟨a,ys,rfl,b,?_,j⟩;have r:F1 a≠bdq:=by rcases b with b|⟨o,b⟩<;>rw[b]<;>simp
   have f:lf F0 a=bdq:=by cases q:lf F0 a with|none=>rfl|some u=>
      have c:=s.bT a u q;obtain⟨_,t,w⟩:=xr q;rcases b with b|⟨o,b⟩;.rw[b]at c;cases c;exact absurd rfl (t ys)
      .rw[b]at c;cases c;exact absurd rfl (w o ys)
   rcases s.wR a f r with y|y;.exact absurd y (nu g)
   .cases q:H0 a with|none=>rfl|some u=>
       rw[q]at y;have k:=s.keep a u q (nu g)
       cases u with|tup xs=>
         rcases b with b|⟨o,b⟩;.rw[s.gs.sub a _ b]at k;cases k
         .rw[s.gs.sub a _ b]at k;cases k|_=>cases y
 .exact(i.no m p).elim
end
section
variable{X:Cx}{c:Call}{n:Nat}{st st1 st2 st3:eM}{rest:List eM}{u:TS}{s:S}{B:List S}{y a b:Nat}
noncomputable def ZJ(X:Cx)(c:Call)(n:Nat)(B:List S)(y a b:Nat)(u:TS):TS:=λD σ H=>∃k e f h F1 i fl ρ2,(∀b,h b=bdq->∀o u,X.H₀ b≠al (.cQ o u))/\GS X.K k e f h/\e.all JN=bx/\az X.K (lf k) e f h F1 i σ H/\(gj c n B i).bind (pq y a b)=.ok fl ρ2/\∀ F2 g j,az X.K k e f h F2 ρ2 g j->match fl with|.next=>u D g j|.ret r=>∀v,cT X.K F2 ρ2 g j e f h v r->D.rt v j|_=>False
theorem Qa{K:PySem.W.Frag}{F e:Hp}{v:V}{d:D}(h:scl d=bx)(r:Rep K F v d):Rep K e v d:=by cases d<;>first|(cases h;done)|(rw[Rep]at r ⊢;exact r)
theorem gQ(h1:SS X c n st s)(p:rG X rest (ZJ X c n B y a b u)):rG X (st::rest) (ZJ X c n (s::B) y a b u):=by refine lO (fU h1 p) ?_;rintro D σ H⟨q,i,j,t,F1,l,fl,ρ2,w,m,o,sp,e,k⟩;rw[M6]at e;obtain⟨f1,h,g,e⟩:=aa e;obtain⟨f0,f,x,g⟩:=aa g;refine⟨F1,l,f0,f,sp.gs,x,λF2 z C s2=>?_⟩;cases f0 with|next=>exact⟨q,i,j,t,F2,f,fl,ρ2,w,m,o,sp.trans s2,by rw[show gj c n B f=.ok f1 h from g];exact e,k⟩|brk=>cases g;cases e|cont=>cases g;cases e|ret r=>cases g;intro v A;cases r with|own E=>cases e|val d=>
     have e:(if scl d=bx then Res.ok (Fl.ret (R.val d)) (h.map gJ)else .stuck)=.ok fl ρ2:=e;split at e;.rename_i hd;cases e;exact k _ _ _ (qI m o (sp.trans s2)) v (show Rep X.K _ v d from Qa hd A)
     .cases e
theorem N7{i j:Int}(nl:SM X.K)(p1:PS X st1 (yF (aaH (rP (Ym (Ru X.K) (rP (nG a) Gb)) (rP (Ym (Ru X.K) (rP (nG b) Gb)) Gb))) (ju y)))(p2:PS X st2 (Lr (tBM X.K "list" uX (nG a) (rP (tC (.int i)) Gb))))(p3:PS X st3 (yF (tC (.int j)) (JZ (nG b) (tC (.int 0)) yN)))(J:rG X rest u):rG X (st1::st2::st3::rest) (ZJ X c n [] y a b u):=by
 rintro ac s σ H D I⟨g,L,M,H0,F1,E,fl,ρ2,nf,g0,hl,sp,e,k⟩;refine fU p1 (fU (Df p2) (fU (Df p3) J)) ac s σ H D I ?_;have e:pq y a b .next E=.ok fl ρ2:=e;unfold pq at e;simp only at e;split at e
 . rename_i ds es ha hb;split at e
   . rename_i hc;obtain⟨i1,i2,ae,af,ar,av⟩:=hc;obtain⟨aS,aT,e2,e⟩:=aa e;have zz:=aD e2;clear e2;obtain⟨e2,aw⟩:=zz;subst aw;cases e;obtain⟨va,sa,ra⟩:=sp.gs.val a _ _ ha;obtain⟨vb,sb,rb⟩:=sp.gs.val b _ _ hb;obtain⟨C,ys,rfl,N,na,ag⟩:=uh nl hl sp ra;obtain⟨bl,f,rfl,O,nb,ah⟩:=uh nl hl sp rb;have QG:=qI g0 hl sp;have ax:∀{q:b_}{ws:List V},Rd F1 q (.lst ws)->H0 q=bdq->uni g F1 q=bdq:=λ{q ws}h n=>by
      have:g q=bdq:=by cases w:g q with|none=>rfl|some o=>rw[g0.sub q o w]at n;cases n
      unfold uni;rw[this];show lfO (F1 q)=bdq;rcases h with h|⟨o,h⟩<;>rw[h]<;>rfl
     have Q:∀{q:b_}{ws:List V},Rd F1 q (.lst ws)->H q≠bdq:=λ{q ws}h=>by rcases Rd.same sp.gs.sub h with h|⟨o,h⟩<;>rw[h]<;>simp
     have u2:∀q,H q=bdq->uni g F1 q=bdq:=λq z=>by cases w:uni g F1 q with|none=>rfl|some o=>rw[QG.gs.sub q o w]at z;cases z
     have a8:ys.length<1000:=by rw[ag.length];exact ae
     have BR:0<f.length:=by rw[ah.length];exact af
     refine⟨.ref C,sa,C,ys,rfl,.inl (.inl (Rd.same sp.gs.sub N)),λl G=>?_⟩;have R8:aB H (upd H l (.lst ys)):=aB.bF G;refine⟨.ref bl,sb,bl,f,rfl,.inl (.inl (Rd.same (sp.gs.sub.trans R8) O)),λl2 x=>?_⟩;have U:l2≠l:=by rintro rfl;rw[aC]at x;cases x
     have W4:H l2=bdq:=by rw[ao U]at x;exact x
     have QF:aB (upd H l (.lst ys)) (upd (upd H l (.lst ys)) l2 (.lst f)):=aB.bF x;refine⟨(by decide:2<=sizeLine),λp hp=>?_⟩;have W5:p≠l2:=by rintro rfl;rw[aC]at hp;cases hp
     have A:=hp;rw[ao W5]at A;have hpl:p≠l:=by rintro rfl;rw[aC]at A;cases A
     have W:H p=bdq:=by rw[ao hpl]at A;exact A
     have ay:aB (upd (upd H l (.lst ys)) l2 (.lst f)) (upd (upd (upd H l (.lst ys)) l2 (.lst f)) p (.tup [.ref l,.ref l2])):=aB.bF hp;have aE:aB (uni g F1) (upd (upd (upd (uni g F1) l (.lst ys)) l2 (.lst f)) p (.tup [.ref l,.ref l2])):=((aB.bF (u2 l G)).trans (aB.bF (by rw[ao U];exact u2 l2 W4))).trans (aB.bF (by rw[ao W5,ao hpl];exact u2 p W));have ext:Ext (uni g F1) H (upd (upd (upd (uni g F1) l (.lst ys)) l2 (.lst f)) p (.tup [.ref l,.ref l2])) (upd (upd (upd H l (.lst ys)) l2 (.lst f)) p (.tup [.ref l,.ref l2])):=by
      refine⟨(R8.trans QF).trans ay,aE,λq o w=>?_,λq w w'=>?_⟩
      . by_cases c1:q=p;.subst c1;rw[aC]at w ⊢;exact w
        . rw[ao c1]at w ⊢;by_cases c2:q=l2;.subst c2;rw[aC]at w ⊢;exact w
          . rw[ao c2]at w ⊢;by_cases c3:q=l;.subst c3;rw[aC]at w ⊢;exact w
            .rw[ao c3]at w ⊢;exact QG.gs.sub q o w
      . by_cases c1:q=p;.subst c1;exact gw W
        . rw[ao c1]at w';by_cases c2:q=l2;.subst c2;exact gw W4
          . rw[ao c2]at w';by_cases c3:q=l;.subst c3;exact gw G
            .rw[ao c3]at w';exact absurd w w'
     have ai:=QG.trans (ext.stp QG.gs);have rk:Rep X.K (upd (upd (upd (uni g F1) l (.lst ys)) l2 (.lst f)) p (.tup [.ref l,.ref l2])) (.ref p) (.tup [.lst ds,.lst es]):=by
      rw[Rep];refine⟨p,_,rfl,iB.of aC,.cons ?_ (.cons ?_ .nil)⟩;.rw[Rep];exact⟨l,ys,rfl,dF.of (by rw[ao (fE hpl),ao (fE U),aC]),ag.ints i1⟩
      .rw[Rep];exact⟨l2,f,rfl,dF.of (by rw[ao (fE W5),aC]),ah.ints i2⟩
     have am:∀{q:b_}{ws:List V},Rd F1 q (.lst ws)->H0 q=bdq->upd (upd (upd (uni g F1) l (.lst ys)) l2 (.lst f)) p (.tup [.ref l,.ref l2]) q=bdq/\upd (upd (upd H l (.lst ys)) l2 (.lst f)) p (.tup [.ref l,.ref l2]) q=H q:=λ{q ws}h n=>by
      have n1:q≠l:=by rintro rfl;exact Q h G
      have n2:q≠l2:=by rintro rfl;exact Q h W4
      have n3:q≠p:=by rintro rfl;exact Q h W
      refine⟨?_,?_⟩;.rw[ao n3,ao n2,ao n1];exact ax h n
      .rw[ao n3,ao n2,ao n1]
     obtain⟨fa,ea⟩:=am N na;obtain⟨fb,eb⟩:=am O nb;have aI:=Rd.same sp.gs.sub N;have W6:=Rd.same sp.gs.sub O;generalize upd (upd (upd H l (.lst ys)) l2 (.lst f)) p (.tup [.ref l,.ref l2])=H4 at*;generalize upd (upd (upd (uni g F1) l (.lst ys)) l2 (.lst f)) p (.tup [.ref l,.ref l2])=F3 at*;have sA:(σ.set y (al (.ref p)))[a]?=al (al (.ref C)):=by rw[fj ar];exact sa
     have sB:(σ.set y (al (.ref p)))[b]?=al (al (.ref bl)):=by rw[fj av];exact sb
     have fin:∀t,az X.K g L M H0 F3 (E.map gJ) σ t->u D (σ.set y (al (.ref p))) t:=λt q=>k _ _ _ (q.put (v:=.ref p) (r:=.val (.tup [.lst ds,.lst es])) rk e2);have Y:∀t xs,t bl=al (.lst xs)->0<xs.length->az X.K g L M H0 F3 (E.map gJ) σ t->yF (tC (.int j)) (JZ (nG b) (tC (.int 0)) yN) {D with nx:=u D} (σ.set y (al (.ref p))) t:=λt xs q1 Z q3=>⟨.ref bl,sB,bl,xs,0,0,rfl,rfl,q1,(by simp[_L.iI,Z]),fin _ (q3.vY nb fb iU)⟩;have ap:∀t,t C=al (.lst ys)->Rd t bl (.lst f)->az X.K g L M H0 F3 (E.map gJ) σ t->Lr (tBM X.K "list" uX (nG a) (rP (tC (.int i)) Gb)) {D with nx:=aa0 (λD σ H=>yF (tC (.int j)) (JZ (nG b) (tC (.int 0)) yN) D σ H\/∃a o ys,H a=al (.cQ o (.lst ys))/\(∀o u,X.H₀ a≠al (.cQ o u))/\yF (tC (.int j)) (JZ (nG b) (tC (.int 0)) yN) D σ (upd H a (.lst ys))) u D} (σ.set y (al (.ref p))) t:=λt q1 Z q3=>by
      refine⟨.ref C,sA,.inl ⟨rfl,ys,dF.of q1⟩,C,ys,.int i,rfl,rfl,q1,(by have:sizeLine=16777216:=rfl;omega),?_⟩;have q4:=q3.vY (o:=.lst (ys++[.int i])) na fa iU;by_cases m:bl=C;.subst m;exact .inl (Y _ _ aC (by simp) q4)
      . rcases Z with Z|⟨o,Z⟩;.exact .inl (Y _ f (by rw[ao m];exact Z) BR q4)
        .exact .inr ⟨bl,o,f,by rw[ao m];exact Z,nf bl nb,Y _ f aC BR (q4.vY nb fb iU)⟩
     rcases aI with q|⟨o,q⟩
     . refine .inl (ap H4 (by rw[ea];exact q) ?_ ai);rcases W6 with w|⟨o,w⟩;.exact .inl (by rw[eb];exact w)
       .exact .inr ⟨o,by rw[eb];exact w⟩
     . refine .inr ⟨C,o,ys,by rw[ea];exact q,nf C na,ap _ aC ?_ (ai.vY na fa iU)⟩;by_cases m:bl=C
       . subst m;rcases W6 with w|⟨o',w⟩;.rw[q]at w;cases w
         .rw[q]at w;cases w;exact .inl aC
       . rcases W6 with w|⟨o',w⟩;.exact .inl (by rw[ao m,eb];exact w)
         .exact .inr ⟨o',by rw[ao m,eb];exact w⟩
   .cases e
 .cases e
theorem xN{y a b:Nat}{f g:Fl}{ρ h:List Sl}(e:pq y a b f ρ=.ok g h):g≠.brk/\g≠.cont:=by cases f with
 |brk=>cases e|cont=>cases e|ret r=>cases r with|own i=>cases e|val d=>
     have e:(if scl d=bx then Res.ok (Fl.ret (R.val d)) (ρ.map gJ)else .stuck)=.ok g h:=e;split at e;.cases e;exact⟨nofun,nofun⟩
     .cases e
 |next=>
   unfold pq at e;simp only at e;split at e
   . split at e;.obtain⟨_,_,_,e⟩:=aa e;cases e;exact⟨nofun,nofun⟩
     .cases e
   .cases e
theorem Sy{i:List eM}{ss:List S}(h:rG X i (ZJ X c n B y a b (XQ X.K (gj c n ss)))):SB X c n i (.fsh B y a b::ss):=by
 rintro j s σ H D I⟨F,ρ,fl,l,w,e,k⟩;rw[M6]at e;obtain⟨f1,g,f,e⟩:=aa e;have f:(if ρ.all JN=bx then(gj c n B ρ).bind (pq y a b)else .stuck)=.ok f1 g:=f;split at f
 . rename_i x;refine h j s σ H D I ⟨F,ρ,σ,H,lf F,ρ,f1,g,λq A o u z=>?_,w,x,.refl (aaL w x),f,λF2 m C s2=>?_⟩;.rw[I.base.sE q o u z]at A;cases A
   .cases f1 with
     |next=>refine⟨F2,g,fl,l,s2.gs,e,λE p G s3=>?_⟩;have q:=k E p G (s2.trans s3);cases fl with|next=>exact q|brk=>exact q|cont=>exact q|ret r=>exact λv J=>q v (J.later s2)
     |ret r=>cases e;exact k F2 m C s2|brk=>obtain⟨L,t,_,f⟩:=aa f;exact absurd rfl (xN f).1|cont=>obtain⟨L,t,_,f⟩:=aa f;exact absurd rfl (xN f).2
 .cases f
variable{k:Nat}{ny na nb ln:Str}{q1 q2 q3 q4 q5 q6 q7 q8 q9 q10 q11 q12 q13 q14 W7 W8 W9 q18:Pos}{j1 j2 j3 j4}{i j:Int}
theorem Js{ss:List S}(z:SM X.K)(A:X.N.Nodup)(C:X.N[y]?=al ny)(E:Loc X.env.scope ny)(G:X.N[a]?=al na)(H:vC X.env.scope na)(I:X.N[b]?=al nb)(J:vC X.env.scope nb)(l:ln="list")(f:Gl X ln)(g:X.mg ln=bdq)(e:SB X c n rest ss)(m:(na==("__debug__":Str))=a7:=by rfl)(o:(na==("__classdict__":Str))=a7:=by rfl)(p:(nb==("__debug__":Str))=a7:=by rfl)(r:(nb==("__classdict__":Str))=a7:=by rfl)(s1:gd (.Tuple [.Call (.Name ln q2) [.Name na q3] [] q4,.Call (.Name ln q5) [.Name nb q6] [] q7] j1 q8) (al (.Name ny q1)) q9.line X.env=eS a7:=by rfl)(f1:X.fn ny=bx\/X.env.scope.names.lookup ny=al .local:=by first|(left;rfl)|(right;rfl)|assumption)(b2:iq (.Name na q10) "append" X.env (eu (.Name na q10) X.env)=eu (.Name na q10) X.env:=by rfl)(L:((iA q13 (cw [.Constant (.int i) j2 q12] X.env)).all (λx=>!x.1)&&(ol q13 (lj [] X.env)).all (λx=>x.1.isSome)&&decide ([(.Constant (.int i) j2 q12:df)].length+([]:List kG).length+(if([]:List kG).isEmpty then 0 else 1)<30))=bx:=by rfl)(l2:(q11.endLine==q13.line)=bx:=by rfl)(s2:gd (.Call (.Attribute (.Name na q10) "append" q11) [.Constant (.int i) j2 q12] [] q13) bdq q14.line X.env=eS a7:=by rfl)(M:∀ v,ka (.Subscript (.Name nb W7) (.Constant (.int 0) j3 W8) W9) X.env v=(do
  let ov<-iO [v] (eu (.Name nb W7) X.env)let iv<-iO [v,ov] (eu (.Constant (.int 0) j3 W8) X.env)qv W9
  iO [v,ov,iv] (mA ov iv v)qB [v,ov,iv] []):=by intro _;rfl){h:Pos}(s3:i8 [.Subscript (.Name nb W7) (.Constant (.int 0) j3 W8) W9] (.Constant (.int j) j4 q18) h.line X.env=eS a7:=by rfl)(O:i9 [.Subscript (.Name nb W7) (.Constant (.int 0) j3 W8) W9] (.Constant (.int j) j4 q18) X.env=eS bdq:=by rfl)(Q:(iE [.Subscript (.Name nb W7) (.Constant (.int 0) j3 W8) W9] X.env).map (·.2)=[ka (.Subscript (.Name nb W7) (.Constant (.int 0) j3 W8) W9) X.env]:=by rfl):rG X (.Assign [.Name ny q1] (.Tuple [.Call (.Name ln q2) [.Name na q3] [] q4,.Call (.Name ln q5) [.Name nb q6] [] q7] j1 q8) q9::.Expr (.Call (.Attribute (.Name na q10) "append" q11) [.Constant (.int i) j2 q12] [] q13) q14::.Assign [.Subscript (.Name nb W7) (.Constant (.int 0) j3 W8) W9] (.Constant (.int j) j4 q18) h::rest) (ZJ X c n [] y a b (XQ X.K (gj c n ss))):=by subst l;have t:∀{q:Pos},PE X (.Name na q) (nG a):=λ{q}=>eU G H m o;have w:∀{q:Pos},PE X (.Name nb q) (nG b):=λ{q}=>eU I J p r;exact N7 z (qe A C E (Ig (bu (iQ je f g (by decide+kernel) (bu t di (bC rfl)) (he:=bC rfl)) (bu (iQ je f g (by decide+kernel) (bu w di (bC rfl)) (he:=bC rfl)) di (bC rfl)) (bC rfl))) s1 f1) (v5 (Kh plainAttrs_list PySem.F.slot_list_append PySem.F.type_list_append kY t (bu jM di (bC rfl)) b2 L l2 (bC rfl)) s2) (zW jM (KN w jM set_list M) s3 O Q) e
end
end _H
noncomputable section
set_option maxHeartbeats 4000000
namespace _T
open PySem _L Spec PyProof.Rows _H
local macro_rules|`(term|⇑$n)=>`(P.con (.int $n))
local macro_rules|`(term|↑$n)=>`(P.var $n)
local macro_rules|`(tactic|ac_rfl)=>`(tactic|first|exact eR rfl|exact eN (eR rfl))
set_option hygiene false
local macro_rules|`(term|↥($a,$b,$d))=>`(oA Pg w K mg base Jf (k+1) f fd $a (Qs K $b (λargs=>enter c n $d args)))
local macro_rules|`(term|↥($a,$b,$d,0))=>`(aQ Pg w K mg base k c $a $b $d)
set_option hygiene true
local macro_rules|`(term|⇑($x))=>`(λ_ _ _ _ _=>$x)
local macro_rules|`(tactic|exists$e)=>`(tactic|with_reducible refine$e)
local macro_rules|`(tactic|lia)=>`(tactic|with_reducible refine aO ?_ ?_)
set_option hygiene false
local macro_rules|`(tactic|exists$i,$e)=>`(tactic|((with_reducible refine vy (i:=$i) ?_ ?_ ?_ ?_ ?_ ?_);exact nd;exact rfl;exact oi;rotate_left;rfl;exact oi;exact$e))
local macro_rules|`(tactic|exists$i,$e,0)=>`(tactic|((with_reducible refine vR (i:=$i) ?_ ?_ ?_ ?_ ?_ ?_ ?_ ?_ ?_);exact et;exact hc;exact nd;exact rfl;exact oi;exact$e;rotate_left;(· intro _;rfl);exact oi))
local macro_rules|`(tactic|exists$a,$b,0,0)=>`(tactic|(refine aaP $a $b rfl rfl λcdv A outer s H E hr=>?_;have nd:=($b).nd))
local macro_rules|`(tactic|exists(),$e)=>`(tactic|((with_reducible refine Ws ?_);exact$e))
set_option hygiene true
local macro_rules|`(term|‹$l›)=>`((show(($l):List Str).Nodup by decide+kernel))
theorem hc:bx=bx:=rfl
theorem oi{b:Type}{a:b}{p:Prop}:a=a\/p:=.inl rfl
theorem bj{X:Cx}{c:Call}{a:df}{es:List df}{b:P}{ps:List P}(e:SX X c a b)(hr:SG X c es ps)(h:nst a=bx):SG X c (a::es) (b::ps):=Qh e hr (bC h)
theorem dY{X:Cx}{c:Call}{a:df}{es:List df}{b:P}{ps:List P}(e:SX X c a b)(hr:SA X c es ps)(h:nst a=bx):SA X c (a::es) (b::ps):=pY e hr (bC h)
variable{Pg:da}{w:eg}{K:PySem.W.Frag}{mg:Str->Option bw}{base:ew}{f:b_}{fd:h8}{k n:Nat}{c:Call}{cl:Nat->b_}
noncomputable def top(i:Nat):eM:=PySem.Challenge.pw_hourhaul_k31_light_streams_told.main.body.getD i (.Pass ⟨0,0,0,0⟩)
noncomputable abbrev s0:eM:=top 4
noncomputable def b0:List S:=[.asg 2 (.idx (.idx ↑0 ⇑1) (.idx ↑1 ⇑0)),.ret (.R0 (.idx ↑1 ⇑1) (.tup [.idx ↑2 ⇑0,.idx ↑2 ⇑1]) (.tup [.idx ↑2 ⇑1,.idx ↑2 ⇑0]))]
noncomputable def f0:Fd:=⟨2,3,b0⟩
theorem sc0:aK ["net","step","way"] ["net","step"] (aA s0):={}
include cl in
theorem d0(a:gZ K "step_places" "step_places" s0 f fd):↥(["net","step"],2,f0):=by
 exists a,sc0,0,0;refine aO ?_ ?_;.exists 2,aq (aq (sv 0) aj) (aq (sv 1) aj)
 lia;.exists(),vV (fZ (aq (sv 1) aj)) (fC (dY (aq (sv 2) aj) (dY (aq (sv 2) aj) aR rfl) rfl)) (fC (dY (aq (sv 2) aj) (dY (aq (sv 2) aj) aR rfl) rfl))
 exact au
noncomputable abbrev s1:eM:=top 5
noncomputable def b1:List S:=[.asg 2 (.idx (.idx (.idx ↑0 ⇑1) (.idx ↑1 ⇑0)) ⇑3),.ret (.R0 (.idx ↑1 ⇑1) ↑2 (.neg ↑2))]
noncomputable def f1:Fd:=⟨2,3,b1⟩
theorem sc1:aK ["net","step","hours"] ["net","step"] (aA s1):={}
include cl in
theorem d1(a:gZ K "step_hours" "step_hours" s1 f fd):↥(["net","step"],2,f1):=by
 exists a,sc1,0,0;refine aO ?_ ?_;.exists 2,aq (aq (aq (sv 0) aj) (aq (sv 1) aj)) aj
 lia;.exists(),vV (fZ (aq (sv 1) aj)) (sv 2) (vh (sv 2))
 exact au
noncomputable abbrev s2:eM:=top 6
noncomputable def b2:List S:=[.asg 3 (.idx ↑1 (.idx ↑2 ⇑0)),.ret (.R0 (.idx ↑2 ⇑1) (.bin .sub (.idx (.idx (.idx ↑0 ⇑1) (.idx ↑2 ⇑0)) ⇑2) ↑3) ↑3)]
noncomputable def f2:Fd:=⟨3,4,b2⟩
theorem sc2:aK ["net","stream","step","loads"] ["net","stream","step"] (aA s2):={}
include cl in
theorem d2(a:gZ K "step_room" "step_room" s2 f fd):↥(["net","stream","step"],3,f2):=by
 exists a,sc2,0,0;refine aO ?_ ?_;.exists 3,aq (sv 1) (aq (sv 2) aj)
 lia;.exists(),vV (fZ (aq (sv 2) aj)) (aG fL (aq (aq (aq (sv 0) aj) (aq (sv 2) aj)) aj) (sv 3)) (sv 3)
 exact au
noncomputable abbrev s3:eM:=top 7
noncomputable def b3:List S:=[.ret (.blt .sum [.comp ↑1 1 [2] bx bdq (.call 1 [↑0,↑2])])]
noncomputable def f3:Fd:=⟨2,2,b3⟩
theorem sc3:aK ["net","steps"] ["net","steps"] (aA s3):={}
include cl in
theorem d3(a:gZ K "steps_hours" "steps_hours" s3 f fd)(dC:mg "sum"=bdq)(b:↥(1,"step_hours",2,0)):↥(["net","steps"],2,f3):=by
 exists a,sc3,0,0;refine aO ?_ ?_;.exists(),kh rfl hc (by rfl) dC (cO (N':=["net","steps","step"]) hc (vH rfl (by rfl)) (cW (sv 1)) ⇑(aJ (i:=2) ‹["net","steps","step"]› rfl (eR rfl) (eN rfl)) (dh (dq)) ⇑(cX) ⇑((eX b hr (bj (sv 0) (bj (sv 2) aH rfl) rfl))))
 exact au
noncomputable abbrev s4:eM:=top 8
noncomputable def b4:List S:=[.Ma 2 (.wX ⇑0 (.idx ↑0 ⇑0)) 1 [5] bx (.lst []),.G7 (.wX ⇑0 (.blt .len [.idx ↑0 ⇑1])) [3] bx [.G7 (.tup [.tup [↑3,.con (.bl bx)],.tup [↑3,.con (.bl a7)]]) [4] bx [.ifs (.cmp .gt (.call 2 [↑0,↑1,↑4]) ⇑0) [.Mf 2 (.idx (.call 0 [↑0,↑4]) ⇑0) ↑4] []]],.cQ 2,.ret ↑2]
noncomputable def f4:Fd:=⟨2,5,b4⟩
theorem sc4:aK ["net","stream","steps","number","step"] ["net","stream"] (aA s4):={}
include cl in
theorem d4(a:gZ K "open_steps" "open_steps" s4 f fd)(cA:mg "len"=bdq)(cj:mg "range"=bdq)(b:↥(0,"step_places",2,0))(e:↥(2,"step_room",3,0)):↥(["net","stream"],2,f4):=by exists a,sc4,0,0;exact(by(refine Qc (i:=2) (N':=["net","stream","steps","number","step","place"]) (g:=ju 5) ?_ ?_ ?_ ?_ ?_ ?_ ?_ ?_ ?_ ?_ ?_ ?_ ?_ ?_);exact hc;exact nd;exact rfl;exact oi;exact vH rfl (by rfl);exact pK rfl (by rfl) cj (aq (sv 0) aj);exact ⇑(aJ (i:=5) ‹["net","stream","steps","number","step","place"]› rfl (eR rfl) (eN rfl));exact dh (dq);exact ⇑(cX);exact ⇑((cU aR));(· exists Hy ?_ ?_;(· exists Cr (g:=ju 3) ?_ ?_ ?_ ?_ ?_ ?_ ?_;exact et;exact hc;(· exists Jd ?_ ?_ ?_ ?_ ?_;exact rfl;rfl;exact cj;exact fH rfl (by rfl) cA (aq (sv 0) aj);rfl);exact aJ (i:=3) nd rfl oi oi;(· rw[nH];exact vg 3);(· exists qC ?_ ?_;(· exists Cr (g:=ju 4) ?_ ?_ ?_ ?_ ?_ ?_ ?_;exact et;exact hc;exact OD (fC (dY (fC (dY (sv 3) (dY gh aR rfl) rfl)) (dY (fC (dY (sv 3) (dY gh aR rfl) rfl)) aR rfl) rfl));exact aJ (i:=4) nd rfl oi oi;(· rw[nH];exact vg 4);(· exists qC ?_ ?_;(· exists Ur ?_ ?_ ?_;exact bh jN (eX e hr (bj (sv 0) (bj (sv 1) (bj (sv 4) aH rfl) rfl) rfl)) aj (aW _);(· exists qC ?_ ?_;(· exists Hs (k:=2) ?_ ?_ ?_ ?_ ?_ ?_ ?_ ?_ ?_ ?_ ?_ ?_;exact rfl;(· first|exact eR rfl|exact eN (eR rfl));exact aq (eX b hr (bj (sv 0) (bj (sv 4) aH rfl) rfl)) aj;exact sv 4;(· intro _ _;rfl);rfl;rfl;rfl;rfl;rfl;rfl;rfl);exact pJ);exact pJ);exact pJ);(· intro _;rfl));exact pJ);(· intro _;rfl));(· exists Ow ?_;(· lia;(· exists(),sv 2);exact au)));rfl;(· intro _;rfl);exact oi)
noncomputable abbrev s5:eM:=top 9
noncomputable def b5:List S:=[.asg 3 (.call 4 [↑0,↑1]),.G8 4,.iD (.blt .keys [↑2]) [5] bx [.gn 4 ↑5 (.tup [.bin .Bx ↑2 ↑5,⇑0,.con .non])],.asg 6 (.blt .Y0 [↑2]),.whl (.cmp .gt (.blt .len [↑6]) ⇑0) [.G8 7,.iD ↑6 [5] bx [.iD (.idx ↑3 ↑5) [8] bx [.asg 9 (.idx (.call 0 [↑0,↑8]) ⇑1),.asg 10 (.tup [.bin .add (.idx (.R1 4 ↑5) ⇑0) (.call 1 [↑0,↑8]),.bin .add (.idx (.R1 4 ↑5) ⇑1) ⇑1]),.ifs (.or (.R3 4 ↑9 bx) (.cmp .lt ↑10 (.slice (.R1 4 ↑9) (.con .non) ⇑2))) [.gn 4 ↑9 (.bin .add ↑10 (.tup [↑8])),.gn 7 ↑9 (.con (.bl bx))] []]],.asg 6 (.blt .Y0 [.vw 7])],.ret ↑4]
noncomputable def f5:Fd:=⟨3,11,b5⟩
theorem sc5:aK ["net","stream","begun","steps","come","place","row","changed","step","to","found"] ["net","stream","begun"] (aA s5):={}
include cl in
theorem d5(a:gZ K "shortest_come" "shortest_come" s5 f fd)(cA:mg "len"=bdq)(fJ:mg "list"=bdq)(b:↥(4,"open_steps",2,0))(e:↥(1,"step_hours",2,0))(g:↥(0,"step_places",2,0)):↥(["net","stream","begun"],3,f5):=by
 exists a,sc5,0,0;refine aO ?_ ?_;.exists 3,eX b hr (bj (sv 0) (bj (sv 1) aH rfl) rfl)
 lia;.exact(CK (i:=4) nd rfl oi (by rfl) (eR rfl))
 lia;.exists 5,NK (sv 2),0;(· lia;exact pU (i:=4) (aV hr) rfl (by ac_rfl) (sv 5) (fC (dY (pH (aV hr) (sv 2) (sv 5) (λ_ _=>rfl)) (dY aj (dY wC aR rfl) rfl) rfl)) (by rfl);exact au)
 lia;.exists 6,K6 rfl hc (by rfl) fJ (sv 2)
 lia;.exact(zy et (bh jN (fH rfl (by rfl) cA (sv 6)) aj (aW _)) (by lia;exact CK (i:=7) nd rfl oi (by rfl) (eR rfl);(· lia;(· exists 5,cW (sv 6),0;(· lia;(· exists 8,cW (aq (sv 3) (sv 5)),0;(· lia;(· exists 9,aq (eX g hr (bj (sv 0) (bj (sv 8) aH rfl) rfl)) aj);(· lia;(· exists 10,fC (dY (aG bR (aq (Af (i:=4) (aV hr) rfl (by ac_rfl) (sv 5) (λ_ _=>rfl)) aj) (eX e hr (bj (sv 0) (bj (sv 8) aH rfl) rfl))) (dY (aG bR (aq (Af (i:=4) (aV hr) rfl (by ac_rfl) (sv 5) (λ_ _=>rfl)) aj) aj) aR rfl) rfl));(· lia;(· exists gk ?_ ?_ ?_;exact SW.st (il (Va (i:=4) (eN ⟨rfl,rfl⟩) (aV hr) rfl (by ac_rfl) (sv 9) (by with_unfolding_all rfl)) (gR (bh (nQ (aV hr)) (sv 10) (qj (Af (i:=4) (aV hr) rfl (by ac_rfl) (sv 9) (λ_ _=>rfl)) Cu (pR aj)) (aW _))));(· lia;exact pU (i:=4) (aV hr) rfl (by ac_rfl) (sv 9) (aG bR (sv 10) (fC (dY (sv 8) aR rfl))) (by rfl);(· lia;exact pU (i:=7) (aV hr) rfl (by ac_rfl) (sv 9) gh (by rfl);exact au));exact au);exact au))));exact au));(· lia;(· exists 6,K6 rfl hc (by rfl) fJ (HY (i:=7) rfl (by ac_rfl)));exact au))))
 lia;.exists(),sv 4
 exact au
noncomputable abbrev s6:eM:=top 10
noncomputable def b6:List S:=[.asg 3 (.lst []),.asg 4 ↑2,.whl (.cmp .Qw (.idx (.bin .Bx ↑1 ↑4) ⇑2) (.con .non)) [.asg 5 (.idx (.bin .Bx ↑1 ↑4) ⇑2),.app 3 ↑5,.asg 4 (.idx (.call 0 [↑0,↑5]) ⇑0)],.ret (.blt .rvT [↑3])]
noncomputable def f6:Fd:=⟨3,6,b6⟩
theorem sc6:aK ["net","come","place","steps","here","step"] ["net","come","place"] (aA s6):={}
include cl in
theorem d6(a:gZ K "steps_to" "steps_to" s6 f fd)(lV:mg "reversed"=bdq)(gA:mg "tuple"=bdq)(b:↥(0,"step_places",2,0)):↥(["net","come","place"],3,f6):=by
 exists a,sc6,0,0;refine aO ?_ ?_;.exists 3,cU aR
 lia;.exists 4,sv 2
 lia;.exact(zy et (bh Nm (aq (pH (aV hr) (sv 1) (sv 4) (λ_ _=>rfl)) aj) wC (aW _)) (by lia;(· exists 5,aq (pH (aV hr) (sv 1) (sv 4) (λ_ _=>rfl)) aj);(· lia;exact fP (k:=3) rfl (by ac_rfl) (sv 5);(· lia;(· exists 4,aq (eX b hr (bj (sv 0) (bj (sv 5) aH rfl) rfl)) aj);exact au))))
 lia;.exists(),Ag rfl rfl hc (by rfl) gA (by rfl) lV (sv 3)
 exact au
noncomputable abbrev s7:eM:=top 11
noncomputable def b7:List S:=[.asg 3 (.blt .list [↑0]),.iD ↑1 [4,5] a7 [.LQ 3 ↑4 a7 (.R0 ↑5 ↑2 (.neg ↑2))],.ret ↑3]
noncomputable def f7:Fd:=⟨3,6,b7⟩
theorem sc7:aK ["stream","steps","loads","changed","number","forth"] ["stream","steps","loads"] (aA s7):={}
include cl in
theorem d7(a:gZ K "stream_with" "stream_with" s7 f fd)(fJ:mg "list"=bdq):↥(["stream","steps","loads"],3,f7):=by
 exists a,sc7,0,0;refine aO ?_ ?_;.exists 3,Ot rfl (by rfl) fJ (sv 0)
 lia;.exact(lM et hc (cW (sv 1)) (dR hc (aM (aJ (i:=4) nd rfl oi oi) (aM (aJ (i:=5) nd rfl oi oi) cV))) (jK rfl (cP _ _ (cP _ _ ir 5) 4)) (by lia;exact MN (k:=3) (sub:=a7) Og rfl (by ac_rfl) (sv 4) (vV (fZ (sv 5)) (sv 2) (vh (sv 2)));exact au))
 lia;.exists(),sv 3
 exact au
noncomputable abbrev s8:eM:=top 12
noncomputable def b8:List S:=[.asg 1 (.bin .sub (.idx ↑0 ⇑0) ⇑1),.asg 2 (.bin .mul (.lst [⇑0]) (.blt .len [.idx ↑0 ⇑1])),.asg 3 (.lst []),.asg 4 (.call 5 [↑0,↑2,.By 0 0]),.whl (.bin .din ↑1 ↑4) [.asg 5 (.call 6 [↑0,↑4,↑1]),.asg 6 (.blt .G6 [.comp ↑5 1 [7] bx bdq (.call 2 [↑0,↑2,↑7])]),.app 3 (.tup [↑5,↑6]),.asg 2 (.call 7 [↑2,↑5,↑6]),.asg 4 (.call 5 [↑0,↑2,.By 0 0])],.ret ↑3]
noncomputable def f8:Fd:=⟨1,7,b8⟩
theorem sc8:aK ["net","end","stream","chains","come","steps","loads"] ["net"] (aA s8):={}
include cl in
theorem d8(b:gZ K "chains_to_end" "chains_to_end" s8 f fd)(cA:mg "len"=bdq)(fc:mg "min"=bdq)(a:↥(5,"shortest_come",3,0))(e:↥(2,"step_room",3,0))(g:↥(6,"steps_to",3,0))(h:↥(7,"stream_with",3,0)):↥(["net"],1,f8):=by
 exists b,sc8,0,0;refine aO ?_ ?_;.exists 1,aG fL (aq (sv 0) aj) aj
 lia;.exists vy (i:=2) ?_ ?_ ?_ ?_ ?_ ?_;exact nd;exact rfl;exact eN rfl;rotate_left;rfl;exact oi;exact aG dM (cU (dY aj aR rfl)) (fH rfl (by rfl) cA (aq (sv 0) aj))
 lia;.exists 3,cU aR
 lia;.exists 4,eX a hr (bj (sv 0) (bj (sv 2) (bj DQ aH rfl) rfl) rfl)
 lia;.exact(zy et (VD (aV hr) (sv 1) (sv 4) (by with_unfolding_all rfl)) (by lia;(· exists 5,eX g hr (bj (sv 0) (bj (sv 4) (bj (sv 1) aH rfl) rfl) rfl));(· lia;(· exists 6,Dj rfl hc (by rfl) fc (cO (N':=["net","end","stream","chains","come","steps","loads","step"]) hc (vH rfl (by rfl)) (cW (sv 5)) ⇑(aJ (i:=7) ‹["net","end","stream","chains","come","steps","loads","step"]› rfl (eR rfl) (eN rfl)) (dh (dq)) ⇑(cX) ⇑((eX e hr (bj (sv 0) (bj (sv 2) (bj (sv 7) aH rfl) rfl) rfl)))));(· lia;exact fP (k:=3) rfl (by ac_rfl) (fC (dY (sv 5) (dY (sv 6) aR rfl) rfl));(· lia;(· exists vy (i:=2) ?_ ?_ ?_ ?_ ?_ ?_;exact nd;exact rfl;exact eN rfl;rotate_left;rfl;exact oi;exact eX h hr (bj (sv 2) (bj (sv 5) (bj (sv 6) aH rfl) rfl) rfl));(· lia;(· exists 4,eX a hr (bj (sv 0) (bj (sv 2) (bj DQ aH rfl) rfl) rfl));exact au))))))
 lia;.exists(),sv 3
 exact au
noncomputable abbrev s9:eM:=top 13
noncomputable def b9:List S:=[.asg 2 (.lst []),.asg 3 ↑1,.iD ↑0 [4,5] a7 [.asg 6 (.blt .min2 [↑3,↑5]),.app 2 (.tup [↑4,↑6]),.aug 3 bx ↑6],.ifs (.cmp .gt ↑3 ⇑0) [.bad] [],.ret ↑2]
noncomputable def f9:Fd:=⟨2,7,b9⟩
theorem sc9:aK ["pairs","rate","cut","left","first","loads","taken"] ["pairs","rate"] (aA s9):={}
include cl in
theorem d9(a:gZ K "cut_to_rate" "cut_to_rate" s9 f fd)(fc:mg "min"=bdq):↥(["pairs","rate"],2,f9):=by
 exists a,sc9,0,0;refine aO ?_ ?_;.exists 2,cU aR
 lia;.exists 3,sv 1
 lia;.exact(lM et hc (cW (sv 0)) (dR hc (aM (aJ (i:=4) nd rfl oi oi) (aM (aJ (i:=5) nd rfl oi oi) cV))) (jK rfl (cP _ _ (cP _ _ ir 5) 4)) (by lia;(· exists 6,pW rfl hc (by rfl) fc (dY (sv 3) (dY (sv 5) aR rfl) rfl));(· lia;exact fP (k:=2) rfl (by ac_rfl) (fC (dY (sv 4) (dY (sv 6) aR rfl) rfl));(· lia;exact VB (i:=3) (sub:=bx) Ph nd rfl oi (sv 6) (eR rfl);exact au))))
 lia;.exists gk ?_ ?_ ?_;exact bh jN (sv 3) aj (aW _);(· lia;exact Wn;exact au);exact au
 lia;.exists(),sv 2
 exact au
noncomputable abbrev sW:eM:=top 15
noncomputable def b10:List S:=[.ret (.comp (.Y4 (.idx ↑0 ⇑1)) 2 [2,3] a7 (al (.cmp .eq (.idx ↑3 ⇑0) ↑1)) ↑2)]
noncomputable def f10:Fd:=⟨2,2,b10⟩
theorem afw:aK ["net","place"] ["net","place"] (aA sW):={}
include cl in
theorem d10(a:gZ K "ways_out" "ways_out" sW f fd)(dW:mg "enumerate"=bdq):↥(["net","place"],2,f10):=by
 exists a,afw,0,0;refine aO ?_ ?_;.exists(),cO (N':=["net","place","number","way"]) hc (vH rfl (by rfl)) (Ji rfl (by rfl) dW (aq (sv 0) aj)) ⇑(dR hc (aM (aJ (i:=2) ‹["net","place","number","way"]› rfl (eR rfl) (eN rfl)) (aM (aJ (i:=3) ‹["net","place","number","way"]› rfl (eR rfl) (eN rfl)) cV))) (jh rfl (cI (show 2<=2 by decide) (cI (show 2<=3 by decide) jq))) ⇑(pP (bh (qu (aV hr)) (aq (sv 3) aj) (sv 1) (aW _))) ⇑((sv 2))
 exact au
noncomputable abbrev s11:eM:=top 16
noncomputable def b11:List S:=[.ret (.comp (.Y4 (.idx ↑0 ⇑1)) 2 [2,3] a7 (al (.cmp .eq (.idx ↑3 ⇑1) ↑1)) ↑2)]
noncomputable def f11:Fd:=⟨2,2,b11⟩
theorem adT:aK ["net","place"] ["net","place"] (aA s11):={}
include cl in
theorem d11(a:gZ K "ways_in" "ways_in" s11 f fd)(dW:mg "enumerate"=bdq):↥(["net","place"],2,f11):=by
 exists a,adT,0,0;refine aO ?_ ?_;.exists(),cO (N':=["net","place","number","way"]) hc (vH rfl (by rfl)) (Ji rfl (by rfl) dW (aq (sv 0) aj)) ⇑(dR hc (aM (aJ (i:=2) ‹["net","place","number","way"]› rfl (eR rfl) (eN rfl)) (aM (aJ (i:=3) ‹["net","place","number","way"]› rfl (eR rfl) (eN rfl)) cV))) (jh rfl (cI (show 2<=2 by decide) (cI (show 2<=3 by decide) jq))) ⇑(pP (bh (qu (aV hr)) (aq (sv 3) aj) (sv 1) (aW _))) ⇑((sv 2))
 exact au
noncomputable abbrev s12:eM:=top 18
noncomputable def b12:List S:=[.asg 3 (.blt .sum [.comp (.call 11 [↑0,↑2]) 1 [4] bx bdq (.idx ↑1 ↑4)]),.ret (.bin .sub ↑3 (.blt .sum [.comp (.call 10 [↑0,↑2]) 1 [4] bx bdq (.idx ↑1 ↑4)]))]
noncomputable def f12:Fd:=⟨3,4,b12⟩
theorem afc:aK ["net","stream","place","come"] ["net","stream","place"] (aA s12):={}
include cl in
theorem d12(a:gZ K "stays_at" "stays_at" s12 f fd)(dC:mg "sum"=bdq)(b:↥(11,"ways_in",2,0))(e:↥(10,"ways_out",2,0)):↥(["net","stream","place"],3,f12):=by
 exists a,afc,0,0;refine aO ?_ ?_;.exists 3,kh rfl hc (by rfl) dC (cO (N':=["net","stream","place","come","number"]) hc (vH rfl (by rfl)) (cW (eX b hr (bj (sv 0) (bj (sv 2) aH rfl) rfl))) ⇑(aJ (i:=4) ‹["net","stream","place","come","number"]› rfl (eR rfl) (eN rfl)) (dh (dq)) ⇑(cX) ⇑((aq (sv 1) (sv 4))))
 lia;.exists(),aG fL (sv 3) (kh rfl hc (by rfl) dC (cO (N':=["net","stream","place","come","number"]) hc (vH rfl (by rfl)) (cW (eX e hr (bj (sv 0) (bj (sv 2) aH rfl) rfl))) ⇑(aJ (i:=4) ‹["net","stream","place","come","number"]› rfl (eR rfl) (eN rfl)) (dh (dq)) ⇑(cX) ⇑((aq (sv 1) (sv 4)))))
 exact au
noncomputable abbrev s13:eM:=top 19
noncomputable def b13:List S:=[.ret (.neg (.call 12 [↑0,↑1,⇑0]))]
noncomputable def f13:Fd:=⟨2,2,b13⟩
theorem afM:aK ["net","stream"] ["net","stream"] (aA s13):={}
include cl in
theorem d13(a:gZ K "stream_rate" "stream_rate" s13 f fd)(b:↥(12,"stays_at",3,0)):↥(["net","stream"],2,f13):=by
 exists a,afM,0,0;refine aO ?_ ?_;.exists(),vh (eX b hr (bj (sv 0) (bj (sv 1) (bj aj aH rfl) rfl) rfl))
 exact au
noncomputable abbrev s14:eM:=top 20
noncomputable def b14:List S:=[.ret (.blt .all [.comp (.zip ↑1 (.idx ↑0 ⇑1)) 2 [2,3] a7 bdq (.chain .le .le ⇑0 ↑2 (.idx ↑3 ⇑2))])]
noncomputable def f14:Fd:=⟨2,2,b14⟩
theorem ad4:aK ["net","stream"] ["net","stream"] (aA s14):={}
include cl in
theorem d14(a:gZ K "within_rooms" "within_rooms" s14 f fd)(jA:mg "all"=bdq)(fB:mg "zip"=bdq):↥(["net","stream"],2,f14):=by
 exists a,ad4,0,0;refine aO ?_ ?_;.exists(),vq rfl hc (by rfl) jA (cO (N':=["net","stream","loads","way"]) hc (vH rfl (by rfl)) (vf rfl (by rfl) fB (sv 1) (aq (sv 0) aj)) ⇑(dR hc (aM (aJ (i:=2) ‹["net","stream","loads","way"]› rfl (eR rfl) (eN rfl)) (aM (aJ (i:=3) ‹["net","stream","loads","way"]› rfl (eR rfl) (eN rfl)) cV))) (jh rfl (cI (show 2<=2 by decide) (cI (show 2<=3 by decide) jq))) ⇑(cX) ⇑((JP vX vX aj (sv 2) (aq (sv 3) aj))))
 exact au
noncomputable abbrev s15:eM:=top 21
noncomputable def b15:List S:=[.ifs (.or (.cmp .ne (.blt .len [↑1]) (.blt .len [.idx ↑0 ⇑1])) (.not (.call 14 [↑0,↑1]))) [.ret (.con (.bl a7))] [],.ifs (.cmp .lt (.call 13 [↑0,↑1]) ⇑0) [.ret (.con (.bl a7))] [],.ret (.blt .all [.comp (.wX ⇑1 (.bin .sub (.idx ↑0 ⇑0) ⇑1)) 1 [2] bx bdq (.cmp .eq (.call 12 [↑0,↑1,↑2]) ⇑0)])]
noncomputable def Z0:Fd:=⟨2,2,b15⟩
theorem afa:aK ["net","stream"] ["net","stream"] (aA s15):={}
include cl in
theorem d15(a:gZ K "stream_right" "stream_right" s15 f fd)(jA:mg "all"=bdq)(cA:mg "len"=bdq)(cj:mg "range"=bdq)(b:↥(12,"stays_at",3,0))(e:↥(13,"stream_rate",2,0))(g:↥(14,"within_rooms",2,0)):↥(["net","stream"],2,Z0):=by
 exists a,afa,0,0;refine aO ?_ ?_;.exists gk ?_ ?_ ?_;exact SW.st (il (bh (gP (aV hr)) (fH rfl (by rfl) cA (sv 1)) (fH rfl (by rfl) cA (aq (sv 0) aj)) (aW _)) (gR (j8 (fZ (eX g hr (bj (sv 0) (bj (sv 1) aH rfl) rfl))))));(· lia;(· exists(),gh);exact au);exact au
 lia;.exists gk ?_ ?_ ?_;exact bh (nQ (aV hr)) (eX e hr (bj (sv 0) (bj (sv 1) aH rfl) rfl)) aj (aW _);(· lia;(· exists(),gh);exact au);exact au
 lia;.exists(),vq rfl hc (by rfl) jA (cO (N':=["net","stream","place"]) hc (vH rfl (by rfl)) (vm rfl (by rfl) cj aj (aG fL (aq (sv 0) aj) aj)) ⇑(aJ (i:=2) ‹["net","stream","place"]› rfl (eR rfl) (eN rfl)) (dh (dq)) ⇑(cX) ⇑((lN (qu (aV hr)) (eX b hr (bj (sv 0) (bj (sv 1) (bj (sv 2) aH rfl) rfl) rfl)) aj (aW _))))
 exact au
noncomputable abbrev s16:eM:=top 23
noncomputable def b16:List S:=[.ret (.blt .sum [.comp (.zip ↑1 (.idx ↑0 ⇑1)) 2 [2,3] a7 bdq (.bin .mul ↑2 (.idx ↑3 ⇑3))])]
noncomputable def f16:Fd:=⟨2,2,b16⟩
theorem af1:aK ["net","stream"] ["net","stream"] (aA s16):={}
include cl in
theorem d16(a:gZ K "stream_hours" "stream_hours" s16 f fd)(dC:mg "sum"=bdq)(fB:mg "zip"=bdq):↥(["net","stream"],2,f16):=by
 exists a,af1,0,0;refine aO ?_ ?_;.exists(),kh rfl hc (by rfl) dC (cO (N':=["net","stream","loads","way"]) hc (vH rfl (by rfl)) (vf rfl (by rfl) fB (sv 1) (aq (sv 0) aj)) ⇑(dR hc (aM (aJ (i:=2) ‹["net","stream","loads","way"]› rfl (eR rfl) (eN rfl)) (aM (aJ (i:=3) ‹["net","stream","loads","way"]› rfl (eR rfl) (eN rfl)) cV))) (jh rfl (cI (show 2<=2 by decide) (cI (show 2<=3 by decide) jq))) ⇑(cX) ⇑((aG dM (sv 2) (aq (sv 3) aj))))
 exact au
noncomputable abbrev s17:eM:=top 24
noncomputable def b17:List S:=[.asg 2 (.blt .sum [.comp (.idx ↑0 ⇑1) 1 [6] bx bdq (.idx ↑6 ⇑3)]),.Mg 3 0 0,.iD (.wX ⇑1 (.idx ↑0 ⇑0)) [4] bx [.gn 3 ↑4 ↑2],.asg 5 (.call 5 [↑0,↑1,.vw 3]),.ret (.comp (.wX ⇑0 (.idx ↑0 ⇑0)) 1 [6] bx bdq (.idx (.bin .Bx ↑5 ↑6) ⇑0))]
noncomputable def f17:Fd:=⟨2,6,b17⟩
theorem aea:aK ["net","stream","late","begun","place","come"] ["net","stream"] (aA s17):={}
include cl in
theorem d17(a:gZ K "found_clocks" "found_clocks" s17 f fd)(cj:mg "range"=bdq)(dC:mg "sum"=bdq)(b:↥(5,"shortest_come",3,0)):↥(["net","stream"],2,f17):=by
 exists a,aea,0,0;refine aO ?_ ?_;.exists 2,kh rfl hc (by rfl) dC (cO (N':=["net","stream","late","begun","place","come","way"]) hc (vH rfl (by rfl)) (cW (aq (sv 0) aj)) ⇑(aJ (i:=6) ‹["net","stream","late","begun","place","come","way"]› rfl (eR rfl) (eN rfl)) (dh (dq)) ⇑(cX) ⇑((aq (sv 6) aj)))
 lia;.exact(Qq (i:=3) nd rfl oi (by rfl) (eR rfl))
 lia;.exists 4,vm rfl (by rfl) cj aj (aq (sv 0) aj),0;(· lia;exact pU (i:=3) (aV hr) rfl (by ac_rfl) (sv 4) (sv 2) (by rfl);exact au)
 lia;.exists vy (i:=5) ?_ ?_ ?_ ?_ ?_ ?_;exact nd;exact rfl;exact eN rfl;rotate_left;rfl;exact oi;exact eX b hr (bj (sv 0) (bj (sv 1) (bj (HY (i:=3) rfl (by ac_rfl)) aH rfl) rfl) rfl)
 lia;.exists(),cO (N':=["net","stream","late","begun","place#4","come","place"]) hc (vH rfl (by rfl)) (pK rfl (by rfl) cj (aq (sv 0) aj)) ⇑(aJ (i:=6) ‹["net","stream","late","begun","place#4","come","place"]› rfl (eR rfl) (eN rfl)) (dh (dq)) ⇑(cX) ⇑((aq (pH (aV hr) (sv 5) (sv 6) (λ_ _=>rfl)) aj))
 exact au
noncomputable abbrev s18:eM:=top 25
noncomputable def b18:List S:=[.asg 2 (.bin .mul (.lst [⇑0]) (.blt .len [.idx ↑0 ⇑1])),.iD (.call 9 [.call 8 [↑0],↑1]) [3,4] a7 [.asg 2 (.call 7 [↑2,↑3,↑4])],.ret (.tup [↑2,.call 17 [↑0,↑2]])]
noncomputable def f18:Fd:=⟨2,5,b18⟩
theorem afl:aK ["net","rate","stream","steps","loads"] ["net","rate"] (aA s18):={}
include cl in
theorem d18(a:gZ K "light_stream" "light_stream" s18 f fd)(cA:mg "len"=bdq)(b:↥(8,"chains_to_end",1,0))(e:↥(9,"cut_to_rate",2,0))(g:↥(17,"found_clocks",2,0))(h:↥(7,"stream_with",3,0)):↥(["net","rate"],2,f18):=by
 exists a,afl,0,0;refine aO ?_ ?_;.exists 2,aG dM (cU (dY aj aR rfl)) (fH rfl (by rfl) cA (aq (sv 0) aj))
 lia;.exact(lM et hc (cW (eX e hr (bj (eX b hr (bj (sv 0) aH rfl)) (bj (sv 1) aH rfl) rfl))) (dR hc (aM (aJ (i:=3) nd rfl oi oi) (aM (aJ (i:=4) nd rfl oi oi) cV))) (jK rfl (cP _ _ (cP _ _ ir 4) 3)) (by lia;(· exists 2,eX h hr (bj (sv 2) (bj (sv 3) (bj (sv 4) aH rfl) rfl) rfl));exact au))
 lia;.exists(),fC (dY (sv 2) (dY (eX g hr (bj (sv 0) (bj (sv 2) aH rfl) rfl)) aR rfl) rfl)
 exact au
noncomputable abbrev s19:eM:=top 26
noncomputable def b19:List S:=[.asg 3 (.bin .add (.idx ↑2 (.idx ↑0 ⇑0)) (.idx ↑0 ⇑3)),.ret (.and (.or (.cmp .ge ↑1 (.idx ↑0 ⇑2)) (.cmp .le (.idx ↑2 (.idx ↑0 ⇑1)) ↑3)) (.or (.cmp .le ↑1 ⇑0) (.cmp .ge (.idx ↑2 (.idx ↑0 ⇑1)) ↑3)))]
noncomputable def f19:Fd:=⟨3,4,b19⟩
theorem aec:aK ["way","loads","clocks","come"] ["way","loads","clocks"] (aA s19):={}
include cl in
theorem d19(a:gZ K "clock_holds" "clock_holds" s19 f fd):↥(["way","loads","clocks"],3,f19):=by
 exists a,aec,0,0;refine aO ?_ ?_;.exists 3,aG bR (aq (sv 2) (aq (sv 0) aj)) (aq (sv 0) aj)
 lia;.exists(),vD (Rc (lN Ia (sv 1) (aq (sv 0) aj) (aW _)) (mZ (lN vX (aq (sv 2) (aq (sv 0) aj)) (sv 3) (aW _)))) (mZ (Rc (lN vX (sv 1) aj (aW _)) (mZ (lN Ia (aq (sv 2) (aq (sv 0) aj)) (sv 3) (aW _)))))
 exact au
noncomputable abbrev s20:eM:=top 27
noncomputable def b20:List S:=[.ifs (.or (.not (.call 15 [↑0,↑1])) (.or (.cmp .ne (.blt .len [↑2]) (.idx ↑0 ⇑0)) (.cmp .ne (.idx ↑2 ⇑0) ⇑0))) [.ret (.con (.bl a7))] [],.ret (.blt .all [.sG 1 (.idx ↑0 ⇑1) 2 [3,4] a7 bdq (.call 19 [↑3,↑4,↑2])])]
noncomputable def f20:Fd:=⟨3,3,b20⟩
theorem ad0:aK ["net","stream","clocks"] ["net","stream","clocks"] (aA s20):={}
include cl in
theorem d20(b:gZ K "clocks_right" "clocks_right" s20 f fd)(jA:mg "all"=bdq)(cA:mg "len"=bdq)(fB:mg "zip"=bdq)(a:↥(19,"clock_holds",3,0))(e:↥(15,"stream_right",2,0)):↥(["net","stream","clocks"],3,f20):=by
 exists b,ad0,0,0;refine aO ?_ ?_;.exists gk ?_ ?_ ?_;exact SW.st (il (j8 (fZ (eX e hr (bj (sv 0) (bj (sv 1) aH rfl) rfl)))) (il (bh (gP (aV hr)) (fH rfl (by rfl) cA (sv 2)) (aq (sv 0) aj) (aW _)) (gR (bh (gP (aV hr)) (aq (sv 2) aj) aj (aW _)))));(· lia;(· exists(),gh);exact au);exact au
 lia;.exists(),vq rfl hc (by rfl) jA (wZ (N':=["net","stream","clocks","way","loads"]) hc (vH rfl (by rfl)) (Ea (i:=1) rfl (by rfl) fB rfl (aq (sv 0) aj) (sv 1)) ⇑(dR hc (aM (aJ (i:=3) ‹["net","stream","clocks","way","loads"]› rfl (eR rfl) (eN rfl)) (aM (aJ (i:=4) ‹["net","stream","clocks","way","loads"]› rfl (eR rfl) (eN rfl)) cV))) (jh rfl (cI (show 3<=3 by decide) (cI (show 3<=4 by decide) jq))) ⇑(cX) ⇑((eX a hr (bj (sv 3) (bj (sv 4) (bj (sv 2) aH rfl) rfl) rfl))))
 exact au
noncomputable abbrev s21:eM:=top 29
noncomputable def b21:List S:=[.LR 1 a7,.iD (.call 8 [↑0]) [2,3] a7 [.asg 4 (.call 3 [↑0,↑2]),.dput 1 ↑4 (.bin .add (.Y5 1 ↑4 ⇑0) ↑3)],.ret (.blt .LK [.vw 1])]
noncomputable def f21:Fd:=⟨1,5,b21⟩
theorem ae7:aK ["net","bends","steps","loads","length"] ["net"] (aA s21):={}
include cl in
theorem d21(a:gZ K "bends_of" "bends_of" s21 f fd)(sO:mg "sorted"=bdq)(b:↥(8,"chains_to_end",1,0))(e:↥(3,"steps_hours",2,0)):↥(["net"],1,f21):=by
 exists a,ae7,0,0;refine aO ?_ ?_;.exact(Qd (i:=1) nd rfl oi (by rfl) (eR rfl))
 lia;.exact(lM et hc (cW (eX b hr (bj (sv 0) aH rfl))) (dR hc (aM (aJ (i:=2) nd rfl oi oi) (aM (aJ (i:=3) nd rfl oi oi) cV))) (jK rfl (cP _ _ (cP _ _ ir 3) 2)) (by lia;(· exists 4,eX e hr (bj (sv 0) (bj (sv 2) aH rfl) rfl));(· lia;exact O3 (i:=1) (aV hr) rfl (by ac_rfl) (sv 4) (aG bR (Ss (i:=1) (aV hr) rfl (by ac_rfl) (sv 4) aj ⟨rfl,rfl,rfl,rfl⟩) (sv 3)) (by rfl);exact au)))
 lia;.exists(),Oq rfl hc (by rfl) sO rfl (HY (i:=1) rfl (by ac_rfl))
 exact au
noncomputable abbrev s22:eM:=top 30
noncomputable def b22:List S:=[.ret (.blt .sum [.comp (.call 9 [.call 21 [↑0],↑1]) 2 [2,3] a7 bdq (.bin .mul ↑2 ↑3)])]
noncomputable def f22:Fd:=⟨2,2,b22⟩
theorem afI:aK ["net","rate"] ["net","rate"] (aA s22):={}
include cl in
theorem d22(a:gZ K "least_hours" "least_hours" s22 f fd)(dC:mg "sum"=bdq)(b:↥(21,"bends_of",1,0))(e:↥(9,"cut_to_rate",2,0)):↥(["net","rate"],2,f22):=by
 exists a,afI,0,0;refine aO ?_ ?_;.exists(),kh rfl hc (by rfl) dC (cO (N':=["net","rate","length","loads"]) hc (vH rfl (by rfl)) (cW (eX e hr (bj (eX b hr (bj (sv 0) aH rfl)) (bj (sv 1) aH rfl) rfl))) ⇑(dR hc (aM (aJ (i:=2) ‹["net","rate","length","loads"]› rfl (eR rfl) (eN rfl)) (aM (aJ (i:=3) ‹["net","rate","length","loads"]› rfl (eR rfl) (eN rfl)) cV))) (jh rfl (cI (show 2<=2 by decide) (cI (show 2<=3 by decide) jq))) ⇑(cX) ⇑((aG dM (sv 2) (sv 3))))
 exact au
noncomputable abbrev s23:eM:=top 32
noncomputable def b23:List S:=[.ret (.lst [.blt .max2 [⇑0,.bin .sub ↑0 (.bin .pow ⇑10 ⇑18)],.bin .mod ↑0 (.bin .pow ⇑10 ⇑18),⇑0])]
noncomputable def f23:Fd:=⟨1,1,b23⟩
theorem aga:aK ["cell"] ["cell"] (aA s23):={}
include cl in
theorem d23(a:gZ K "_law_pool" "_law_pool" s23 f fd)(nD:mg "max"=bdq):↥(["cell"],1,f23):=by
 exists a,aga,0,0;refine aO ?_ ?_;.exists(),cU (dY (wF rfl hc (by rfl) nD (dY aj (dY (aG fL (sv 0) (aG pM aj aj)) aR rfl) rfl)) (dY (aG fK (sv 0) (aG pM aj aj)) (dY aj aR rfl) rfl) rfl)
 exact au
noncomputable abbrev s24:eM:=top 33
noncomputable def b24:List S:=[.ifs (.cmp .gt (.idx ↑0 ⇑0) ⇑0) [.asg 2 (.bin .mod (.idx ↑0 ⇑0) ↑1),.za 0 ⇑0 (.bin .fdiv (.idx ↑0 ⇑0) ↑1),.ret ↑2] [],.za 0 ⇑2 (.bin .add (.idx ↑0 ⇑2) ⇑1),.asg 3 (.bin .mod (.bin .add (.idx ↑0 ⇑1) (.bin .mul ⇑7919 (.idx ↑0 ⇑2))) ⇑1000000007),.asg 4 (.bin .mod (.bin .mul (.bin .add ↑3 ⇑11) (.bin .add ↑3 ⇑48271)) ⇑998244353),.ret (.bin .mod (.bin .fdiv (.bin .mod (.bin .mul ↑4 ↑4) ⇑2147483647) ⇑8) ↑1)]
noncomputable def f24:Fd:=⟨2,5,b24⟩
theorem afr:aK ["pool","base","digit","near","stir"] ["pool","base"] (aA s24):={}
include cl in
theorem d24(a:gZ K "_law_next" "_law_next" s24 f fd):↥(["pool","base"],2,f24):=by
 exists a,afr,0,0;refine aO ?_ ?_;.exists gk ?_ ?_ ?_;exact bh jN (aq (sv 0) aj) aj (aW _);(· lia;(· exists 2,aG fK (aq (sv 0) aj) (sv 1));(· lia;exact mC (k:=0) rfl (by ac_rfl) aj (aG xJ (aq (sv 0) aj) (sv 1));(· lia;(· exists(),sv 2);exact au)));exact au
 lia;.exact(mC (k:=0) rfl (by ac_rfl) aj (aG bR (aq (sv 0) aj) aj))
 lia;.exists 3,aG fK (aG bR (aq (sv 0) aj) (aG dM aj (aq (sv 0) aj))) aj
 lia;.exists 4,aG fK (aG dM (aG bR (sv 3) aj) (aG bR (sv 3) aj)) aj
 lia;.exists(),aG fK (aG xJ (aG fK (aG dM (sv 4) (sv 4)) aj) aj) (sv 1)
 exact au
noncomputable abbrev s25:eM:=top 34
noncomputable def b25:List S:=[.ret (.bin .mod (.bin .add (.bin .mul (.call 24 [↑0,⇑100000]) ⇑100000) (.call 24 [↑0,⇑100000])) ↑1)]
noncomputable def f25:Fd:=⟨2,2,b25⟩
theorem ad3:aK ["pool","base"] ["pool","base"] (aA s25):={}
include cl in
theorem d25(b:gZ K "_law_wide" "_law_wide" s25 f fd)(a:↥(24,"_law_next",2,0)):↥(["pool","base"],2,f25):=by
 exists b,ad3,0,0;refine aO ?_ ?_;.exists(),aG fK (aG bR (aG dM (eX a hr (bj (sv 0) (bj aj aH rfl) rfl)) aj) (eX a hr (bj (sv 0) (bj aj aH rfl) rfl))) (sv 1)
 exact au
noncomputable abbrev s26:eM:=top 35
noncomputable def b26:List S:=[.asg 2 (.bin .add ⇑2 (.call 24 [↑0,⇑5])),.asg 3 (.idx (.lst [⇑4,⇑3,⇑8,.bin .add (.bin .pow ⇑10 ⇑9) ⇑1]) (.call 24 [↑0,⇑4])),.asg 4 (.idx (.lst [⇑3,⇑5,⇑4,.bin .pow ⇑10 ⇑6]) (.call 24 [↑0,⇑4])),.asg 5 (.lst []),.iD (.wX ⇑0 (.idx (.lst [↑1,.call 24 [↑0,.bin .add ↑1 ⇑1]]) (.call 24 [↑0,⇑2]))) [6] bx [.asg 7 (.call 24 [↑0,↑2]),.asg 8 (.bin .mod (.bin .add (.bin .add ↑7 ⇑1) (.call 24 [↑0,.bin .sub ↑2 ⇑1])) ↑2),.ifs (.cmp .gt (.call 24 [↑0,⇑4]) ⇑0) [.par 7 8 (.blt .min2 [↑7,↑8]) (.blt .max2 [↑7,↑8])] [],.app 5 (.tup [↑7,↑8,.call 25 [↑0,↑3],.bin .add ⇑1 (.call 25 [↑0,↑4])])],.ret (.tup [↑2,.blt .tuple [↑5]])]
noncomputable def f26:Fd:=⟨2,9,b26⟩
theorem adI:aK ["pool","most","many","rooms","hours","ways","k","one","other"] ["pool","most"] (aA s26):={}
include cl in
theorem d26(e:gZ K "_law_net" "_law_net" s26 f fd)(nD:mg "max"=bdq)(fc:mg "min"=bdq)(cj:mg "range"=bdq)(gA:mg "tuple"=bdq)(a:↥(24,"_law_next",2,0))(b:↥(25,"_law_wide",2,0)):↥(["pool","most"],2,f26):=by
 exists e,adI,0,0;refine aO ?_ ?_;.exists 2,aG bR aj (eX a hr (bj (sv 0) (bj aj aH rfl) rfl))
 lia;.exists 3,aq (cU (vK [4,3,8] rfl (dY (aG bR (aG pM aj aj) aj) aR rfl))) (eX a hr (bj (sv 0) (bj aj aH rfl) rfl))
 lia;.exists 4,aq (cU (vK [3,5,4] rfl (dY (aG pM aj aj) aR rfl))) (eX a hr (bj (sv 0) (bj aj aH rfl) rfl))
 lia;.exists 5,cU aR
 lia;.exists 6,pK rfl (by rfl) cj (aq (cU (dY (sv 1) (dY (eX a hr (bj (sv 0) (bj (aG bR (sv 1) aj) aH rfl) rfl)) aR rfl) rfl)) (eX a hr (bj (sv 0) (bj aj aH rfl) rfl))),0;(· lia;(· exists 7,eX a hr (bj (sv 0) (bj (sv 2) aH rfl) rfl));(· lia;(· exists 8,aG fK (aG bR (aG bR (sv 7) aj) (eX a hr (bj (sv 0) (bj (aG fL (sv 2) aj) aH rfl) rfl))) (sv 2));(· lia;(· exists gk ?_ ?_ ?_;exact bh jN (eX a hr (bj (sv 0) (bj aj aH rfl) rfl)) aj (aW _);(· lia;exact Wv (i:=7) (j:=8) hc nd rfl rfl (by decide) rfl rfl (pW rfl hc (by rfl) fc (dY (sv 7) (dY (sv 8) aR rfl) rfl)) (wF rfl hc (by rfl) nD (dY (sv 7) (dY (sv 8) aR rfl) rfl));exact au);exact au);(· lia;exact fP (k:=5) rfl (by ac_rfl) (fC (dY (sv 7) (dY (sv 8) (dY (eX b hr (bj (sv 0) (bj (sv 3) aH rfl) rfl)) (dY (aG bR aj (eX b hr (bj (sv 0) (bj (sv 4) aH rfl) rfl))) aR rfl) rfl) rfl) rfl));exact au))))
 lia;.exists(),fC (dY (sv 2) (dY (Ir rfl (by rfl) gA (sv 5)) aR rfl) rfl)
 exact au
noncomputable abbrev s27:eM:=top 36
noncomputable def b27:List S:=[.ret (.and (.inst [.int] ↑0) (.not (.inst [.bool] ↑0)))]
noncomputable def f27:Fd:=⟨1,1,b27⟩
theorem aeH:aK ["found"] ["found"] (aA s27):={}
include cl in
theorem d27(a:gZ K "_law_whole" "_law_whole" s27 f fd)(BZ:mg "bool"=bdq)(Mm:mg "int"=bdq)(bU:mg "isinstance"=bdq):↥(["found"],1,f27):=by
 exists a,aeH,0,0;refine aO ?_ ?_;.exists(),vD (mU .int rfl (by rfl) bU (sv 0) (by rfl) Mm (by kernel_rfl) (by decide) (by rfl)) (mZ (Vp (mU .bool rfl (by rfl) bU (sv 0) (by rfl) BZ (by kernel_rfl) (by decide) (by rfl))))
 exact au
noncomputable abbrev s28:eM:=top 37
noncomputable def b28:List S:=[.asg 1 (.lst [.lst [⇑0]]),.iD (.wX ⇑1 (.bin .sub (.idx ↑0 ⇑0) ⇑1)) [2] bx [.asg 1 (.bin .add ↑1 (.comp ↑1 1 [5] bx bdq (.bin .add ↑5 (.lst [↑2]))))],.asg 3 (.lst []),.iD ↑1 [4] bx [.app 3 (.blt .sum [.comp (.idx ↑0 ⇑1) 1 [5] bx (al (.and (.cmp .inn (.idx ↑5 ⇑0) ↑4) (.cmp .Ew (.idx ↑5 ⇑1) ↑4))) (.idx ↑5 ⇑2)])],.ret (.blt .G6 [↑3])]
noncomputable def f28:Fd:=⟨1,5,b28⟩
theorem aeB:aK ["net","sides","place","found","side"] ["net"] (aA s28):={}
include cl in
theorem d28(a:gZ K "_law_most_rate" "_law_most_rate" s28 f fd)(fc:mg "min"=bdq)(cj:mg "range"=bdq)(dC:mg "sum"=bdq):↥(["net"],1,f28):=by
 exists a,aeB,0,0;refine aO ?_ ?_;.exists 1,cU (dY (cU (dY aj aR rfl)) aR rfl)
 lia;.exists vR (i:=2) ?_ ?_ ?_ ?_ ?_ ?_ ?_ ?_ ?_;exact et;exact hc;exact nd;exact rfl;exact eN rfl;exact vm rfl (by rfl) cj aj (aG fL (aq (sv 0) aj) aj);(· lia;(· exists 1,aG bR (sv 1) (cO (N':=["net","sides","place","found","side#4","side"]) hc (vH rfl (by rfl)) (cW (sv 1)) ⇑(aJ (i:=5) ‹["net","sides","place","found","side#4","side"]› rfl (eR rfl) (eN rfl)) (dh (dq)) ⇑(cX) ⇑((aG bR (sv 5) (cU (dY (sv 2) aR rfl))))));exact au);(· intro _;rfl);exact oi
 lia;.exists 3,cU aR
 lia;.exists vR (i:=4) ?_ ?_ ?_ ?_ ?_ ?_ ?_ ?_ ?_;exact et;exact hc;exact nd;exact rfl;exact eN rfl;exact cW (sv 1);(· lia;exact fP (k:=3) rfl (by ac_rfl) (kh rfl hc (by rfl) dC (cO (N':=["net","sides","place","found","side","way"]) hc (vH rfl (by rfl)) (cW (aq (sv 0) aj)) ⇑(aJ (i:=5) ‹["net","sides","place","found","side","way"]› rfl (eR rfl) (eN rfl)) (dh (dq)) ⇑(pP (SW.st (Bw (bh Nz (aq (sv 5) aj) (sv 4) (by with_unfolding_all rfl)) (u6 (bh G5 (aq (sv 5) aj) (sv 4) (by with_unfolding_all rfl)))))) ⇑((aq (sv 5) aj))));exact au);(· intro _;rfl);exact oi
 lia;.exists(),Dj rfl hc (by rfl) fc (sv 3)
 exact au
noncomputable abbrev s29:eM:=top 38
noncomputable def b29:List S:=[.unp [2,3] ↑0,.asg 4 (.bin .mul (.lst [⇑0]) ↑2),.iD (.zip ↑3 ↑1) [5,6] a7 [.ifs (.or (.cmp .lt ↑6 ⇑0) (.cmp .gt ↑6 (.idx ↑5 ⇑2))) [.ret (.con .non)] [],.za 4 (.idx ↑5 ⇑0) (.bin .add (.idx ↑4 (.idx ↑5 ⇑0)) ↑6),.za 4 (.idx ↑5 ⇑1) (.bin .sub (.idx ↑4 (.idx ↑5 ⇑1)) ↑6)],.ifs (.or (.cmp .lt (.idx ↑4 ⇑0) ⇑0) (.cmp .ne (.comp (.slice ↑4 ⇑1 (.neg ⇑1)) 1 [7] bx (al (.cmp .ne ↑7 ⇑0)) ↑7) (.lst []))) [.ret (.con .non)] [],.ret (.idx ↑4 ⇑0)]
noncomputable def f29:Fd:=⟨2,7,b29⟩
theorem aep:aK ["net","stream","many","ways","left","way","loads"] ["net","stream"] (aA s29):={}
include cl in
theorem d29(a:gZ K "_law_rate" "_law_rate" s29 f fd)(fB:mg "zip"=bdq):↥(["net","stream"],2,f29):=by
 exists a,aep,0,0;refine aO ?_ ?_;.exact(Km (sv 0) (dR hc (aM (aJ (i:=2) nd rfl oi oi) (aM (aJ (i:=3) nd rfl oi oi) cV))) (jK rfl (cP _ _ (cP _ _ ir 3) 2)))
 lia;.exists 4,aG dM (cU (dY aj aR rfl)) (sv 2)
 lia;.exact(lM et hc (vf rfl (by rfl) fB (sv 3) (sv 1)) (dR hc (aM (aJ (i:=5) nd rfl oi oi) (aM (aJ (i:=6) nd rfl oi oi) cV))) (jK rfl (cP _ _ (cP _ _ ir 6) 5)) (by lia;(· exists gk ?_ ?_ ?_;exact SW.st (il (bh (nQ (aV hr)) (sv 6) aj (aW _)) (gR (bh jN (sv 6) (aq (sv 5) aj) (aW _))));(· lia;(· exists(),wC);exact au);exact au);(· lia;exact mC (k:=4) rfl (by ac_rfl) (aq (sv 5) aj) (aG bR (aq (sv 4) (aq (sv 5) aj)) (sv 6));(· lia;exact mC (k:=4) rfl (by ac_rfl) (aq (sv 5) aj) (aG fL (aq (sv 4) (aq (sv 5) aj)) (sv 6));exact au))))
 lia;.exists gk ?_ ?_ ?_;exact SW.st (il (bh (nQ (aV hr)) (aq (sv 4) aj) aj (aW _)) (gR (bh (gP (aV hr)) (cO (N':=["net","stream","many","ways","left","way","loads","one"]) hc (vH rfl (by rfl)) (cW (qj (sv 4) (pR aj) (pR (vh aj)))) ⇑(aJ (i:=7) ‹["net","stream","many","ways","left","way","loads","one"]› rfl (eR rfl) (eN rfl)) (dh (dq)) ⇑(pP (bh (gP (aV hr)) (sv 7) aj (aW _))) ⇑((sv 7))) (cU aR) (aW _))));(· lia;(· exists(),wC);exact au);exact au
 lia;.exists(),aq (sv 4) aj
 exact au
noncomputable abbrev s30:eM:=top 39
noncomputable def b30:List S:=[.ret (.blt .sum [.sG 1 (.idx ↑0 ⇑1) 2 [2,3] a7 bdq (.bin .mul (.idx ↑2 ⇑3) ↑3)])]
noncomputable def f30:Fd:=⟨2,2,b30⟩
theorem aeb:aK ["net","stream"] ["net","stream"] (aA s30):={}
include cl in
theorem d30(a:gZ K "_law_hours" "_law_hours" s30 f fd)(dC:mg "sum"=bdq)(fB:mg "zip"=bdq):↥(["net","stream"],2,f30):=by
 exists a,aeb,0,0;refine aO ?_ ?_;.exists(),kh rfl hc (by rfl) dC (wZ (N':=["net","stream","way","loads"]) hc (vH rfl (by rfl)) (Ea (i:=1) rfl (by rfl) fB rfl (aq (sv 0) aj) (sv 1)) ⇑(dR hc (aM (aJ (i:=2) ‹["net","stream","way","loads"]› rfl (eR rfl) (eN rfl)) (aM (aJ (i:=3) ‹["net","stream","way","loads"]› rfl (eR rfl) (eN rfl)) cV))) (jh rfl (cI (show 2<=2 by decide) (cI (show 2<=3 by decide) jq))) ⇑(cX) ⇑((aG dM (aq (sv 2) aj) (sv 3))))
 exact au
noncomputable abbrev s31:eM:=top 40
noncomputable def b31:List S:=[.ifs (.or (.cmp .ne (.blt .len [↑2]) (.idx ↑0 ⇑0)) (.cmp .ne (.idx ↑2 ⇑0) ⇑0)) [.ret (.con (.bl a7))] [],.iD (.zip (.idx ↑0 ⇑1) ↑1) [3,4] a7 [.asg 5 (.bin .sub (.bin .sub (.idx ↑2 (.idx ↑3 ⇑1)) (.idx ↑2 (.idx ↑3 ⇑0))) (.idx ↑3 ⇑3)),.ifs (.or (.and (.cmp .lt ↑4 (.idx ↑3 ⇑2)) (.cmp .gt ↑5 ⇑0)) (.and (.cmp .gt ↑4 ⇑0) (.cmp .lt ↑5 ⇑0))) [.ret (.con (.bl a7))] []],.ret (.con (.bl bx))]
noncomputable def XS:Fd:=⟨3,6,b31⟩
theorem afZ:aK ["net","stream","clocks","way","loads","later"] ["net","stream","clocks"] (aA s31):={}
include cl in
theorem d31(a:gZ K "_law_clocks" "_law_clocks" s31 f fd)(cA:mg "len"=bdq)(fB:mg "zip"=bdq):↥(["net","stream","clocks"],3,XS):=by
 exists a,afZ,0,0;refine aO ?_ ?_;.exists gk ?_ ?_ ?_;exact SW.st (il (bh (gP (aV hr)) (fH rfl (by rfl) cA (sv 2)) (aq (sv 0) aj) (aW _)) (gR (bh (gP (aV hr)) (aq (sv 2) aj) aj (aW _))));(· lia;(· exists(),gh);exact au);exact au
 lia;.exact(lM et hc (vf rfl (by rfl) fB (aq (sv 0) aj) (sv 1)) (dR hc (aM (aJ (i:=3) nd rfl oi oi) (aM (aJ (i:=4) nd rfl oi oi) cV))) (jK rfl (cP _ _ (cP _ _ ir 4) 3)) (by lia;(· exists 5,aG fL (aG fL (aq (sv 2) (aq (sv 3) aj)) (aq (sv 2) (aq (sv 3) aj))) (aq (sv 3) aj));(· lia;(· exists gk ?_ ?_ ?_;exact SW.st (il (SW.st (Bw (bh (nQ (aV hr)) (sv 4) (aq (sv 3) aj) (aW _)) (u6 (bh jN (sv 5) aj (aW _))))) (gR (SW.st (Bw (bh jN (sv 4) aj (aW _)) (u6 (bh (nQ (aV hr)) (sv 5) aj (aW _)))))));(· lia;(· exists(),gh);exact au);exact au);exact au)))
 lia;.exists(),gh
 exact au
noncomputable abbrev s32:eM:=top 41
noncomputable def b32:List S:=[.ret (.and (.inst [.list] ↑0) (.and (.cmp .eq (.blt .len [↑0]) ↑1) (.blt .all [.comp ↑0 1 [2] bx bdq (.call 27 [↑2])])))]
noncomputable def f32:Fd:=⟨2,2,b32⟩
theorem ae1:aK ["found","many"] ["found","many"] (aA s32):={}
include cl in
theorem d32(a:gZ K "_law_row" "_law_row" s32 f fd)(jA:mg "all"=bdq)(bU:mg "isinstance"=bdq)(cA:mg "len"=bdq)(fJ:mg "list"=bdq)(b:↥(27,"_law_whole",1,0)):↥(["found","many"],2,f32):=by
 exists a,ae1,0,0;refine aO ?_ ?_;.exists(),vD (mU .list rfl (by rfl) bU (sv 0) (by rfl) fJ (by kernel_rfl) (by decide) (by rfl)) (SX.ev (vD (lN (qu (aV hr)) (fH rfl (by rfl) cA (sv 0)) (sv 1) (aW _)) (mZ (vq rfl hc (by rfl) jA (cO (N':=["found","many","one"]) hc (vH rfl (by rfl)) (cW (sv 0)) ⇑(aJ (i:=2) ‹["found","many","one"]› rfl (eR rfl) (eN rfl)) (dh (dq)) ⇑(cX) ⇑((eX b hr (bj (sv 2) aH rfl))))))))
 exact au
noncomputable abbrev s33:eM:=top 42
noncomputable def b33:List S:=[.fsh [.asg 2 (.call 18 [↑0,↑1]),.ifs (.or (.not (.inst [.tuple] ↑2)) (.cmp .ne (.blt .len [↑2]) ⇑2)) [.ret (.con (.bl a7))] [],.unp [3,4] ↑2,.ifs (.or (.not (.call 32 [↑3,.blt .len [.idx ↑0 ⇑1]])) (.or (.not (.call 32 [↑4,.idx ↑0 ⇑0])) (.cmp .ne (.call 29 [↑0,↑3]) ↑1))) [.ret (.con (.bl a7))] [],.asg 5 (.call 16 [↑0,↑3]),.ifs (.or (.not (.call 27 [↑5])) (.or (.cmp .ne ↑5 (.call 30 [↑0,↑3])) (.cmp .ne ↑5 (.call 22 [↑0,↑1])))) [.ret (.con (.bl a7))] [],.ifs (.or (.not (.call 31 [↑0,↑3,↑4])) (.cmp .Qx (.call 20 [↑0,↑3,↑4]) (.con (.bl bx)))) [.ret (.con (.bl a7))] []] 6 3 4,.ret (.cmp .eq (.call 18 [↑0,↑1]) ↑6)]
noncomputable def f33:Fd:=⟨2,7,b33⟩
theorem agh:aK ["net","rate","found","stream","clocks","hours","kept"] ["net","rate"] (aA s33):={}
include cl in
theorem d33(h:gZ K "_law_told" "_law_told" s33 f fd)(bU:mg "isinstance"=bdq)(cA:mg "len"=bdq)(fJ:mg "list"=bdq)(gA:mg "tuple"=bdq)(j:↥(31,"_law_clocks",3,0))(l:↥(30,"_law_hours",2,0))(m:↥(29,"_law_rate",2,0))(e:↥(32,"_law_row",2,0))(o:↥(27,"_law_whole",1,0))(p:↥(20,"clocks_right",3,0))(q:↥(22,"least_hours",2,0))(g:↥(18,"light_stream",2,0))(r:↥(16,"stream_hours",2,0))(NL:SM K):↥(["net","rate"],2,f33):=by
 exists h,agh,0,0;refine Sy ?_;refine gQ ?_ ?_;.exists 2,eX g hr (bj (sv 0) (bj (sv 1) aH rfl) rfl)
 exists gQ ?_ ?_;.exists gk ?_ ?_ ?_;exact SW.st (il (j8 (fZ (mU .tuple rfl (by rfl) bU (sv 2) (by rfl) gA (by kernel_rfl) (by decide) (by rfl)))) (gR (bh (gP (aV hr)) (fH rfl (by rfl) cA (sv 2)) aj (aW _))));(· lia;(· exists(),gh);exact au);exact au
 exists gQ ?_ ?_;.exact(Km (sv 2) (dR hc (aM (aJ (i:=3) nd rfl oi oi) (aM (aJ (i:=4) nd rfl oi oi) cV))) (jK rfl (cP _ _ (cP _ _ ir 4) 3)))
 exists gQ ?_ ?_;.exists gk ?_ ?_ ?_;exact SW.st (il (j8 (fZ (eX e hr (bj (sv 3) (bj (fH rfl (by rfl) cA (aq (sv 0) aj)) aH rfl) rfl)))) (il (j8 (fZ (eX e hr (bj (sv 4) (bj (aq (sv 0) aj) aH rfl) rfl)))) (gR (bh (gP (aV hr)) (eX m hr (bj (sv 0) (bj (sv 3) aH rfl) rfl)) (sv 1) (aW _)))));(· lia;(· exists(),gh);exact au);exact au
 exists gQ ?_ ?_;.exists 5,eX r hr (bj (sv 0) (bj (sv 3) aH rfl) rfl)
 exists gQ ?_ ?_;.exists gk ?_ ?_ ?_;exact SW.st (il (j8 (fZ (eX o hr (bj (sv 5) aH rfl)))) (il (bh (gP (aV hr)) (sv 5) (eX l hr (bj (sv 0) (bj (sv 3) aH rfl) rfl)) (aW _)) (gR (bh (gP (aV hr)) (sv 5) (eX q hr (bj (sv 0) (bj (sv 1) aH rfl) rfl)) (aW _)))));(· lia;(· exists(),gh);exact au);exact au
 exists gQ ?_ ?_;.exists gk ?_ ?_ ?_;exact SW.st (il (j8 (fZ (eX j hr (bj (sv 0) (bj (sv 3) (bj (sv 4) aH rfl) rfl) rfl)))) (gR (bh Il (eX p hr (bj (sv 0) (bj (sv 3) (bj (sv 4) aH rfl) rfl) rfl)) gh (aW _))));(· lia;(· exists(),gh);exact au);exact au
 exact(Js (y:=6) (a:=3) (b:=4) NL nd rfl (.inl rfl) rfl (by ac_rfl) rfl (by ac_rfl) rfl (by rfl) fJ (by lia;(· exists(),lN (qu (aV hr)) (eX g hr (bj (sv 0) (bj (sv 1) aH rfl) rfl)) (sv 6) (aW _));exact au))
noncomputable abbrev s34:eM:=top 43
noncomputable def b34:List S:=[.asg 2 (.bin .mul (.lst [⇑0]) ↑1),.iD (.wX ⇑0 (.blt .len [↑0])) [3] bx [.za 2 (.bin .mod ↑3 ↑1) (.bin .add (.bin .mul (.idx ↑2 (.bin .mod ↑3 ↑1)) ⇑1000003) (.idx ↑0 ↑3))],.ret (.slice ↑2 (.con .non) (.blt .max2 [⇑1,.blt .min2 [.blt .len [↑0],↑1]]))]
noncomputable def f34:Fd:=⟨2,4,b34⟩
theorem afH:aK ["script","most","cells","k"] ["script","most"] (aA s34):={}
include cl in
theorem d34(a:gZ K "_law_folded" "_law_folded" s34 f fd)(cA:mg "len"=bdq)(nD:mg "max"=bdq)(fc:mg "min"=bdq)(cj:mg "range"=bdq):↥(["script","most"],2,f34):=by
 exists a,afH,0,0;refine aO ?_ ?_;.exists 2,aG dM (cU (dY aj aR rfl)) (sv 1)
 lia;.exists 3,pK rfl (by rfl) cj (fH rfl (by rfl) cA (sv 0)),0;(· lia;exact mC (k:=2) rfl (by ac_rfl) (aG fK (sv 3) (sv 1)) (aG bR (aG dM (aq (sv 2) (aG fK (sv 3) (sv 1))) aj) (aq (sv 0) (sv 3)));exact au)
 lia;.exists(),qj (sv 2) Cu (pR (wF rfl hc (by rfl) nD (dY aj (dY (pW rfl hc (by rfl) fc (dY (fH rfl (by rfl) cA (sv 0)) (dY (sv 1) aR rfl) rfl)) aR rfl) rfl)))
 exact au
noncomputable abbrev s35:eM:=top 44
noncomputable def b35:List S:=[.iD (.call 34 [↑0,⇑8]) [1] bx [.asg 2 (.call 23 [↑1]),.asg 3 (.call 26 [↑2,⇑12]),.asg 4 (.call 28 [↑3]),.iD (.lst [⇑0,.blt .min2 [⇑1,↑4],.call 25 [↑2,.bin .add ↑4 ⇑1],↑4]) [5] bx [.ifs (.not (.call 33 [↑3,↑5])) [.ret (.con (.bl a7))] []]],.ret (.con (.bl bx))]
noncomputable def f35:Fd:=⟨1,6,b35⟩
theorem afv:aK ["script","cell","pool","net","most","rate"] ["script"] (aA s35):={}
include cl in
theorem d35(a:gZ K "law" "law" s35 f fd)(fc:mg "min"=bdq)(b:↥(34,"_law_folded",2,0))(e:↥(28,"_law_most_rate",1,0))(g:↥(26,"_law_net",2,0))(h:↥(23,"_law_pool",1,0))(i:↥(33,"_law_told",2,0))(j:↥(25,"_law_wide",2,0)):↥(["script"],1,f35):=by
 exists a,afv,0,0;refine aO ?_ ?_;.exists 1,cW (eX b hr (bj (sv 0) (bj aj aH rfl) rfl)),0;(· lia;(· exists 2,eX h hr (bj (sv 1) aH rfl));(· lia;(· exists 3,eX g hr (bj (sv 2) (bj aj aH rfl) rfl));(· lia;(· exists 4,eX e hr (bj (sv 3) aH rfl));(· lia;(· exists 5,cW (cU (dY aj (dY (pW rfl hc (by rfl) fc (dY aj (dY (sv 4) aR rfl) rfl)) (dY (eX j hr (bj (sv 2) (bj (aG bR (sv 4) aj) aH rfl) rfl)) (dY (sv 4) aR rfl) rfl) rfl) rfl)),0;(· lia;(· exists gk ?_ ?_ ?_;exact j8 (fZ (eX i hr (bj (sv 3) (bj (sv 5) aH rfl) rfl)));(· lia;(· exists(),gh);exact au);exact au);exact au));exact au))))
 lia;.exists(),gh
 exact au
end _T
end
noncomputable section
namespace _T
open PySem _L Spec PyProof.Rows _H
noncomputable def Γ:Tab:=λi=>[f0,f1,f2,f3,f4,f5,f6,f7,f8,f9,f10,f11,f12,f13,f14,Z0,f16,f17,f18,f19,f20,f21,f22,f23,f24,f25,f26,f27,f28,f29,f30,XS,f32,f33,f34,f35][i]?
end _T
end
noncomputable section
namespace _T
open _H
variable{w n j N l:Nat}{m a b i g p k:Int}{Q:R->List Sl->Prop}{f:Bool}{ch cl:List Int}{F q:Int->Int}{ρ:List Sl}{kvs r:List (Int×Int)}
local macro_rules|`(tactic|symm)=>`(tactic|first|apply ak|apply GF)
noncomputable abbrev big:Int:=1606938044258990275541962092341162602522202993782792835301376
theorem dI{x y z:Int}(h0:0<m)(c:m<big)(k:∀d x z:Int,0<=d->d<m->Q (.val (.int d)) [.own bx [.int x,.int y,.int z],.val a7 (.int m)]):(run Γ w (n+1) 24 [.own bx [.int x,.int y,.int z],.val a7 (.int m)]).sat Q:=by
 have e:m<1606938044258990275541962092341162602522202993782792835301376:=c;refine aL (d:=f24) rfl rfl (by decide) ?_;symm;simp[f24];constructor;.intro _;symm;simp[h0];apply ak;simp[h0,e,iI];apply ak;simp;exact k _ _ _ (m3 _ (by omega)) (lx _ h0)
 . intro _;symm;simp[iI];apply ak;simp;generalize s:(y+7919*(z+1))%1000000007=q;have t:0<=q/\q<1000000007:=by omega
   have h:-18446744073709551616<q+11/\q+11<18446744073709551616:=by omega
   symm;simp[h];generalize hs:(q+11)*(q+48271)%998244353=st;have o:-18446744073709551616<st/\st<18446744073709551616:=by omega
   symm;simp[o,h0];exact k _ _ _ (m3 _ (by omega)) (lx _ h0)
theorem J3{x:Int}(k:∀a b c:Int,Q (.own [.int a,.int b,.int c]) [.val a7 (.int x)]):(run Γ w (n+1) 23 [.val a7 (.int x)]).sat Q:=by refine aL (d:=f23) rfl rfl (by decide) ?_;symm;simp[f23];exact k _ _ _
structure Wy where(s t r h:Int)
variable{ws:List Wy}{v:Wy}
noncomputable def Wy.d(w:Wy):D:=.tup [.int w.s,.int w.t,.int w.r,.int w.h]
structure Wy.Ok(m:Int)(w:Wy):Prop where
 s0:0<=w.s
 s1:w.s<m
 t0:0<=w.t
 t1:w.t<m
 ne:w.s≠w.t
 r0:0<=w.r
 r1:w.r<=1000000000
 h0:1<=w.h
 h1:w.h<=1000000
theorem other(h1:0<=a)(c:a<m)(o:0<=b)(s:b<m-1):0<=(a+1+b)%m/\(a+1+b)%m<m/\(a+1+b)%m≠a:=by
 by_cases h:a+1+b<m;.rw[Int.emod_eq_of_lt (by omega) h];omega
 . have e:(a+1+b)%m=a+1+b-m:=by rw[<-Int.sub_emod_right,Int.emod_eq_of_lt (by omega) (by omega)]
   rw[e];omega
noncomputable def aP(m:Int)(ws:List Wy):D:=.tup [.int m,.tup (ws.map Wy.d)]
structure dj(m:Int)(ws:List Wy):Prop where
 m0:2<=m
 m1:m<=6
 len:ws.length<=12
 ok:∀w∈ws,w.Ok m
@[simp]theorem ahz{m:Int}{ws:List Wy}:Gj (aP m ws) (.int 0)=al (.val (.int m)):=rfl
@[simp]theorem ahA{m:Int}{ws:List Wy}:Gj (aP m ws) (.int 1)=al (.val (.tup (ws.map Wy.d))):=rfl
theorem jd(h:a<=1000000000000000000000):a<big:=by show _<(1606938044258990275541962092341162602522202993782792835301376:Int);omega
theorem Lx{ns:List Int}{lo hi:Int}(h0:0<=i)(h1:i<(ns.length:Int))(k:∀x∈ns,lo<=x/\x<=hi):∃r,at' (ns.map D.int) i=al (.int r)/\lo<=r/\r<=hi:=by
 have c:i.toNat<ns.length:=by omega
 refine⟨ns[i.toNat],?_,k _ (kC c)⟩;rw[Ak h0 (by simpa using h1)];simp[c]
theorem gF{x y z:Int}(h0:0<m)(c:m<big)(k:∀d x z:Int,0<=d->d<m->Q (.val (.int d)) [.own bx [.int x,.int y,.int z],.val a7 (.int m)]):(run Γ w (n+2) 25 [.own bx [.int x,.int y,.int z],.val a7 (.int m)]).sat Q:=by refine aL (d:=f25) rfl rfl (by decide) ?_;symm;simp[f25];refine dI (by decide) (by decide) λa x z e h=>?_;simp;refine dI (by decide) (by decide) λb x z b0 b1=>?_;simp[h0];exact k _ _ _ (m3 _ (by omega)) (lx _ h0)
theorem IK{c:Type}{xs:List c}{lo hi:Option Int}:(cut xs lo hi).length<=xs.length:=by unfold cut;simp;omega
theorem CP{cs:List Int}{a b:Option Int}:cut (cs.map D.int) a b=(cut cs a b).map D.int:=by unfold cut;simp
theorem agc{c:List D}{b:ZD}{ps:List P}:Nr (.lst c) (part (.con .non) .non) (part (.blt b ps) (.int i))=al (.own (cut c bdq (al i))):=rfl
inductive aaD(y m rr hh:Int)(i:Nat)(ρ:List Sl):Prop where|mk(x z:Int)(ws:List Wy)(s6 s7 s8:Sl)(q0:ρ=[.own bx [.int x,.int y,.int z],.val a7 (.int 12),.val a7 (.int m),.val a7 (.int rr),.val a7 (.int hh),.own a7 (ws.map Wy.d),s6,s7,s8])(q1:A3 (fr s6=bx) (fr s7=bx) (fr s8=bx))(q2:(∀v∈ws,v.Ok m))(q3:ws.length=i)
theorem Ol{x y z:Int}(k:∀(x z m:Int)(ws:List Wy),dj m ws->Q (.val (aP m ws)) [.own bx [.int x,.int y,.int z],.val a7 (.int 12)]):(run Γ w (n+3) 26 [.own bx [.int x,.int y,.int z],.val a7 (.int 12)]).sat Q:=by
 refine aL (d:=f26) rfl rfl (by decide) ?_;symm;simp[f26];refine dI (by decide) (by decide) λb x z b0 b1=>?_;obtain⟨m,L⟩:∃m,2+b=m:=⟨_,rfl⟩;simp[L];apply ak;simp;refine dI (by decide) (by decide) λe x z A B=>?_;obtain⟨p,ep,X,p1⟩:=Lx (ns:=[4,3,8,1000000001]) (lo:=1) (hi:=1000000001) A (by simpa using B) (by simp);simp only[dc,mN]at ep;simp[ep];apply ak;simp;refine dI (by decide) (by decide) λe x z A B=>?_;obtain⟨l,I,Y,Z⟩:=Lx (ns:=[3,5,4,1000000]) (lo:=1) (hi:=1000000) A (by simpa using B) (by simp);simp only[dc,mN]at I;simp[I];apply ak;simp;apply ak;simp;refine dI (by decide) (by decide) λc x z c0 c1=>?_;simp;refine dI (by decide) (by decide) λe x z A B=>?_;obtain⟨N,J,N0,N1⟩:=Lx (ns:=[12,c]) (lo:=0) (hi:=12) A (by simpa using B) (by simp;omega);simp only[dc,mN]at J;simp[J,show N<=1000000000 by omega];refine⟨by omega,?_⟩;refine jU (aaD y m p l) ?_ ?_ ⟨x,z,[],.aN,.aN,.aN,rfl,⟨rfl,rfl,rfl⟩,by simp,rfl⟩
 . rintro i _ hi⟨x,z,ws,s6,s7,s8,rfl,⟨M,O,U⟩,G,W⟩;simp[M];apply ak;simp;refine dI (by omega) (jd (by omega)) λa x z t u=>?_;simp[O];apply ak;simp;refine dI (by omega) (jd (by omega)) λb x z b0 b1=>?_;obtain⟨C,E,o2⟩:=other t u b0 b1;simp[U,show 0<m by omega];generalize(a+1+b)%m=o at*;symm;simp;refine dI (by decide) (by decide) λc x z c0 c1=>?_;have put:∀{x z a o:Int},0<=a->a<m->0<=o->o<m->a≠o->∀r h:Int,0<=r->r<p->0<=h->h<l->aaD y m p l (i+1) [.own bx [.int x,.int y,.int z],.val a7 (.int 12),.val a7 (.int m),.val a7 (.int p),.val a7 (.int l),.own a7 (ws.map Wy.d++[.tup [.int a,.int o,.int r,.int (1+h)]]),.val a7 (.int i),.val a7 (.int a),.val a7 (.int o)]:=λ{x z a o}t u C E ne r h r0 r1 h0 h1=>by
    refine⟨x,z,ws++[⟨a,o,r,1+h⟩],_,_,_,by rw[gI];rfl,⟨rfl,rfl,rfl⟩,λv hv=>?_,by simp;omega⟩;rcases eJ.mp hv with hv|hv;.exact G v hv
    .rw[dV.mp hv];exact⟨t,u,C,E,ne,r0,by show r<=1000000000;omega,by show 1<=1+h;omega,by show 1+h<=1000000;omega⟩
   have s:ws.length<16777216:=by omega
   simp;refine⟨λ_=>?_,λ_=>?_⟩
   . symm;by_cases c:o<a
     . have H:¬ a<o:=by omega
       simp[c,H];apply ak;simp;refine gF (by omega) (jd (by omega)) λr x z r0 r1=>?_;simp;refine gF (by omega) (jd (by omega)) λh x z h0 h1=>?_;simp[s];exact put C E t u (by omega) r h r0 r1 h0 h1
     . have H:a<o:=by omega
       simp[c,H];apply ak;simp;refine gF (by omega) (jd (by omega)) λr x z r0 r1=>?_;simp;refine gF (by omega) (jd (by omega)) λh x z h0 h1=>?_;simp[s];exact put t u C E (by omega) r h r0 r1 h0 h1
   .symm;simp;refine gF (by omega) (jd (by omega)) λr x z r0 r1=>?_;simp;refine gF (by omega) (jd (by omega)) λh x z h0 h1=>?_;simp[s];exact put t u C E (by omega) r h r0 r1 h0 h1
 .rintro _⟨x,z,ws,s6,s7,s8,rfl,_,G,W⟩;symm;simp;exact k x z m ws ⟨by omega,by omega,by omega,G⟩
noncomputable def fO(j:Nat)(f:Bool):D:=.tup [.int j,.bl f]
noncomputable def frm(v:Wy)(f:Bool):Int:=if f then v.s else v.t
noncomputable def too(v:Wy)(f:Bool):Int:=if f then v.t else v.s
theorem lR(e:ws[j]?=al v)(k:Q (.val (.tup [.int (frm v f),.int (too v f)])) [.val a7 (aP m ws),.val a7 (fO j f)]):(run Γ w (n+1) 0 [.val a7 (aP m ws),.val a7 (fO j f)]).sat Q:=by refine aL (d:=f0) rfl rfl (by decide) ?_;symm;simp[f0,fO,gO e];apply ak;cases f with|true=>simp[Wy.d];exact k|false=>simp[Wy.d];exact k
noncomputable def hsp(v:Wy)(f:Bool):Int:=if f then v.h else-v.h
theorem uo(e:ws[j]?=al v)(k:Q (.val (.int (hsp v f))) [.val a7 (aP m ws),.val a7 (fO j f)]):(run Γ w (n+1) 1 [.val a7 (aP m ws),.val a7 (fO j f)]).sat Q:=by refine aL (d:=f1) rfl rfl (by decide) ?_;symm;simp[f1,fO,gO e,Wy.d];apply ak;cases f with|true=>simp;exact k|false=>simp;exact k
noncomputable def QW(s:Sl)(fs:List Int):Prop:=s=.val a7 (.lst (fs.map D.int))\/∃b,s=.own b (fs.map D.int)
noncomputable def oR(v:Wy)(g:Int)(f:Bool):Int:=if f then v.r-g else g
theorem uF{s:Sl}{fs:List Int}(hs:QW s fs)(e:ws[j]?=al v)(c:fs[j]?=al g)(k:Q (.val (.int (oR v g f))) [.val a7 (aP m ws),s,.val a7 (fO j f)]):(run Γ w (n+1) 2 [.val a7 (aP m ws),s,.val a7 (fO j f)]).sat Q:=by refine aL (d:=f2) rfl rfl (by decide) ?_;symm;rcases hs with rfl|⟨b,rfl⟩;all_goals simp[f2,fO,gO c];apply ak;cases f with|true=>simp[gO e,Wy.d];exact k|false=>simp;exact k
@[simp]theorem acy{c:Call}{n x k:Nat}{src o:P}{is:List Nat}{one:Bool}{ρ:List Sl}:ex c n (.Ma x src k is one o) ρ=(srcOf (isVar src) (ev c src) ρ).bind λu e=>if u.length<=lim then(gK is one (ev c o) u [] (e++cq k .aN)).bind λs h=>(lift (put (aU ρ (isVar src) (h.take e.length)) x (.hold s)) ρ).bind λt _=>.ok .next t else .stuck:=(rfl)
@[simp]theorem aca{c:Call}{n:Nat}{src:P}{is:List Nat}{one:Bool}{body:List S}{ρ:List Sl}:ex c n (.G7 src is one body) ρ=(ev c src ρ).bind λr e=>(lift (items r.d) e).bind λh e=>jf is one (gj c n body) h e:=(rfl)
@[simp]theorem afX{c:Call}{n x:Nat}{ρ:List Sl}:ex c n (.cQ x) ρ=match ρ[x]?with|some (.hold e)=>.ok .next (ρ.set x (.val a7 (.lst (e.map D.lst))))|_=>.stuck:=(rfl)
@[simp]theorem acp{c:Call}{n x:Nat}{i e:P}{ρ:List Sl}:ex c n (.Mf x i e) ρ=(cN (isVar i) (ev c i) ρ).bind λk ρ=>(lift (vZ ρ x k) ρ).bind λ_ ρ=>(ev c e ρ).bind λr ρ=>GX ρ x ((jw ρ x).bind λh=>(iJ k).bind λk=>jW h k λrow=>if row.length<lim then al (row++[r.d])else bdq):=(rfl)
@[simp]theorem ac5{a:Sl}{l:List Sl}{x:Nat}:jw (a::l) x=match(a::l)[x]?with|some (.hold c)=>al c|_=>bdq:=rfl
@[simp]theorem Xj{ρ:List Sl}{x:Nat}{c:List (List D)}:GX ρ x (al c)=.ok .next (ρ.set x (.hold c)):=rfl
@[simp]theorem aev{a:Sl}{l:List Sl}{x:Nat}{k:Int}:vZ (a::l) x (.int k)=match(a::l)[x]?with|some (.hold c)=>rowAt c k|_=>bdq:=by unfold vZ jw;cases h:(a::l)[x]?with|none=>rfl|some s=>cases s<;>rfl
theorem rC{is:List Nat}{one:Bool}{s:Ev}(J:List Sl->Prop)(g:D->List D){Q:List (List D)->List Sl->Prop}:∀{u:List D}{c:List (List D)}{ρ:List Sl},J ρ->(∀d,d∈u->∀ρ,J ρ->∃o,cJ ρ is one d=al o/\(s o).sat λr t=>r=.own (g d)/\J t)->(∀ρ,J ρ->Q (c++u.map g) ρ)->(gK is one s u c ρ).sat Q|[],c,ρ,j,h,k=>by rw[Jo];simpa using k ρ j|d::r,c,ρ,j,h,k=>by obtain⟨o,e,h1⟩:=h d (by simp) ρ j;rw[Jt,e];show((s o).bind _).sat Q;rw[cG];refine h1.imp λx t⟨A,j3⟩=>?_;subst A;exact rC J g j3 (λd' y=>h d' (by simp[y])) λz B=>by simpa using k z B
@[simp]theorem aes{c:Call}{x:Nat}{k:P}{ρ:List Sl}:ev c (.R1 x k) ρ=match ρ[x]?with
 |some (.cM _)=>(cN (isVar k) (ev c k) ρ).bind λe ρ=>match ρ[x]?with|some (.cM kvs)=>lift ((iJ e).bind λk=>(lJ kvs k).map .val) ρ|_=>.stuck
 |_=>.stuck:=(rfl)
noncomputable def pF(kvs:List (Int×D))(k:Int):Bool:=(kvs.map (·.1)).contains k
noncomputable def FZ(kvs:List (Int×D)):List Int:=kvs.map (·.1)
noncomputable def dsV(kvs:List (Int×D)):List D:=kvs.map (·.2)
@[simp]theorem afb{c:Call}{x:Nat}{k:P}{neg:Bool}{ρ:List Sl}:ev c (.R3 x k neg) ρ=(cN (isVar k) (ev c k) ρ).bind λe ρ=>match ρ[x]?with|some (.cM kvs)=>lift ((iJ e).map λk=>.val (.bl (if neg then !pF kvs k else pF kvs k))) ρ|_=>.stuck:=(rfl)
@[simp]theorem ace{c:Call}{k e:Int}{ρ:List Sl}:ev c (.By k e) ρ=.ok (.val (.dv [k] [.int e])) ρ:=(rfl)
@[simp]theorem ahY{c:Call}{x:Nat}{ρ:List Sl}:ev c (.vw x) ρ=match ρ[x]?with|some (.gY m)=>.ok (.val (.dz m)) (ρ.set x (.val a7 (.dz m)))|some (.cM kvs)=>.ok (.val (.dv (FZ kvs) (dsV kvs))) (ρ.set x (.val a7 (.dv (FZ kvs) (dsV kvs))))|some (.own b e)=>.ok (.val (.lst e)) (ρ.set x (.val b (.lst e)))|some (.val _ d)=>.ok (.val d) ρ|_=>.stuck:=(rfl)
@[simp]theorem acu{c:Call}{n x:Nat}{ρ:List Sl}:ex c n (.G8 x) ρ=match ρ[x]?with|some .aN=>.ok .next (ρ.set x (.cM []))|some (.cM _)=>.ok .next (ρ.set x (.cM []))|some (.val a7 _)=>.ok .next (ρ.set x (.cM []))|_=>.stuck:=(rfl)
@[simp]theorem ac4{c:Call}{n x:Nat}{k e:P}{ρ:List Sl}:ex c n (.gn x k e) ρ=(ev c e ρ).bind λr ρ=>match ρ[x]?with
 |some (.cM _)=>(cN (isVar k) (ev c k) ρ).bind λh ρ=>match ρ[x]?,h with|some (.cM kvs),.int k=>if kvs.length<lim then .ok .next (ρ.set x (.cM (gn kvs k r.d)))else .stuck|_,_=>.stuck
 |_=>.stuck:=(rfl)
@[simp]theorem ac3{c:Call}{n x:Nat}{i e:P}{sub:Bool}{ρ:List Sl}:ex c n (.LQ x i sub e) ρ=(lift (Hh ρ x) ρ).bind λ_ ρ=>(cN (isVar i) (ev c i) ρ).bind λk ρ=>(lift (Hh ρ x) ρ).bind λl ρ=>(lift ((iJ k).bind λi=>at' l i) ρ).bind λa ρ=>(cN (isVar e) (ev c e) ρ).bind λb ρ=>match a,b,ρ[x]?,k with
 |.int u,.int v,al (.own o h),.int k=>match iI h.length k with|some j=>.ok .next (ρ.set x (.own o (h.set j (.int (if sub then u-v else u+v)))))|none=>.stuck
 |_,_,_,_=>.stuck:=(rfl)
@[simp]theorem Yn{x:Nat}{k:P}:isVar (.R1 x k)=bdq:=rfl
@[simp]theorem Xq{x:Nat}{k:P}{b:Bool}:isVar (.R3 x k b)=bdq:=rfl
@[simp]theorem aaw{x:Nat}:isVar (.vw x)=bdq:=rfl
@[simp]theorem TQ{k e:Int}:isVar (.By k e)=bdq:=rfl
@[simp]theorem aer{kvs:List (Int×D)}:fr (.cM kvs)=a7:=rfl
@[simp]theorem acr{r:List (List D)}:fr (.hold r)=a7:=rfl
@[simp]theorem ZR:tu .Bx=Dr:=rfl
@[simp]theorem acW:tu .din=xV a7:=rfl
@[simp]theorem aaa{ks:List Int}{c:List D}{k:Int}:Dr (.dv ks c) (.int k)=(lJ (ks.zip c) k).map .val:=rfl
@[simp]theorem acG{ks:List Int}{c:List D}{k:Int}:xV a7 (.int k) (.dv ks c)=al (.val (.bl (ks.contains k))):=rfl
@[simp]theorem Yb{ks:List Int}{c:List D}:blt .keys [.dv ks c]=al (.val (.tup (ks.map D.int))):=rfl
@[simp]theorem acj{ks:List Int}{c:List D}:blt .Y0 [.dv ks c]=if ks.length<=16777216 then al (.own (ks.map D.int))else bdq:=rfl
@[simp]theorem ab0{c:List D}:blt .rvT [.lst c]=al (.val (.tup c.reverse)):=rfl
@[simp]theorem Xv{kvs:List (Int×D)}{x:Option Sl}:dU (.cM kvs) x=.cM kvs:=by cases x<;>rfl
@[simp]theorem Tg{r:List (List D)}{x:Option Sl}:dU (.hold r) x=.hold r:=by cases x<;>rfl
structure HN(m:Int)(ws:List Wy):Prop where
 m0:2<=m
 m1:m<=6
 len:ws.length<=12
 ok:∀w∈ws,(0<=w.s/\w.s<m)/\(0<=w.t/\w.t<m)/\0<=w.h
theorem HN.of(h:dj m ws):HN m ws:=⟨h.m0,h.m1,h.len,λw c=>by have:=h.ok w c;exact⟨⟨this.s0,this.s1⟩,⟨this.t0,this.t1⟩,by have:=this.h0;omega⟩⟩
noncomputable abbrev az:=Nat×Bool
variable{s:az}{x:Nat×(Option az×Int)}{o:Option az×Int}{c:List az}{cs:List (List az×Int)}
noncomputable def sD(s:az):D:=fO s.1 s.2
noncomputable def kE(ws:List Wy)(fs:List Int)(p:Int)(s:az):Bool:=match ws[s.1]?,fs[s.1]?with|some v,al g=>decide (frm v s.2=p)&&decide (0<oR v g s.2)|_,_=>a7
theorem jj{fs:List Int}(e:ws[s.1]?=al v)(h:fs[s.1]?=al g):kE ws fs p s=(decide (frm v s.2=p)&&decide (0<oR v g s.2)):=by unfold kE;rw[e,h]
noncomputable def jE(ws:List Wy)(fs:List Int)(M:Nat)(l:List az):List (List az):=(dy M).map λ(p:Nat)=>l.filter (kE ws fs (p:Int))
noncomputable def rD(l:List (List az)):List (List D):=l.map λr=>r.map sD
noncomputable def iw(N:Nat):List az:=(dy N).flatMap λj=>[(j,bx),(j,a7)]
theorem tZ:iw (N+1)=(iw N++[(N,bx)])++[(N,a7)]:=by simp[iw,List.range_succ]
theorem yg:(iw N).length=2*N:=by induction N with|zero=>rfl|succ N e=>rw[tZ];simp[e];omega
theorem Uo(h:HN m ws)(e:ws[j]?=al v)(f:Bool):0<=frm v f/\frm v f<m:=by have:=h.ok v (du e);cases f<;>simp only[frm]<;>simp<;>omega
theorem Jq(h:HN m ws)(e:ws[j]?=al v)(f:Bool):0<=too v f/\too v f<m:=by have:=h.ok v (du e);cases f<;>simp only[too]<;>simp<;>omega
theorem Kz{fs:List Int}{M:Nat}{l:List az}(e:ws[s.1]?=al v)(t:fs[s.1]?=al g)(h:¬ 0<oR v g s.2):jE ws fs M (l++[s])=jE ws fs M l:=by unfold jE;refine gi λp _=>?_;rw[k9];simp[jj e t,h]
theorem Oi{fs:List Int}{l:List az}(e:ws[s.1]?=al v)(u:fs[s.1]?=al g)(h:0<oR v g s.2)(y:0<=frm v s.2/\frm v s.2<m)(C:l.length<1000):(∃row,rowAt (rD (jE ws fs m.toNat l)) (frm v s.2)=al row)/\jW (rD (jE ws fs m.toNat l)) (frm v s.2) (λrow=>if row.length<lim then al (row++[sD s])else bdq)=al (rD (jE ws fs m.toNat (l++[s]))):=by
 have t:(rD (jE ws fs m.toNat l)).length=m.toNat:=by simp[rD,jE]
 have z:iI (rD (jE ws fs m.toNat l)).length (frm v s.2)=al (frm v s.2).toNat:=by unfold iI;rw[t,if_pos y.1,if_pos (by omega)]
 have A:(rD (jE ws fs m.toNat l))[(frm v s.2).toNat]?=al ((l.filter (kE ws fs (frm v s.2))).map sD):=by simp[rD,jE,show(frm v s.2).toNat<m.toNat by omega,qb y.1]
 refine⟨⟨_,by unfold rowAt;rw[z];exact A⟩,?_⟩;unfold jW;rw[z];show((rD (jE ws fs m.toNat l))[(frm v s.2).toNat]?).bind _=_;rw[A];have B:((l.filter (kE ws fs (frm v s.2))).map sD).length<lim:=by have:=oB (kE ws fs (frm v s.2)) l;rw[dQ];show _<16777216;omega
 show Option.map _ (if _ then _ else _)=_;rw[if_pos B];show al _=al _;congr 1;refine nK (by simp[rD,jE]) λi E G=>?_;rw[List.getElem_set];by_cases c:(frm v s.2).toNat=i
 . rw[if_pos c];have:(i:Int)=frm v s.2:=by omega
   simp[rD,jE,this,k9,jj e u,h]
 . rw[if_neg c];have:¬ frm v s.2=(i:Int):=by omega
   simp[rD,jE,k9,jj e u,this]
inductive JOp(m:Int)(ws:List Wy)(fs:List Int)(s:Sl)(i:Nat)(ρ:List Sl):Prop where|mk(s3 s4:Sl)(q0:ρ=[.val a7 (aP m ws),s,.hold (rD (jE ws fs m.toNat (iw i))),s3,s4])(q1:fr s3=bx)(q2:fr s4=bx)
inductive JOq(m:Int)(ws:List Wy)(fs:List Int)(s:Sl)(i:Nat)(r:List D)(ρ:List Sl):Prop where|mk(l us:List az)(s4:Sl)(q0:ρ=[.val a7 (aP m ws),s,.hold (rD (jE ws fs m.toNat l)),.val a7 (.int i),s4])(q1:fr s4=bx)(q2:r=us.map sD)(q3:l++us=iw (i+1))(q4:∀u∈us,u.1=i)
inductive F1n(a b c d e:Sl)(ρ:List Sl):Prop where|mk(s:Sl)(q0:ρ=[a,b,c,d,e,s])(q1:fr s=bx)
theorem Hx{s:Sl}{fs:List Int}(hs:QW s fs)(h:HN m ws)(W:fs.length=ws.length)(k:Q (.val (.lst ((rD (jE ws fs m.toNat (iw ws.length))).map D.lst))) [.val a7 (aP m ws),s]):(run Γ w (n+2) 4 [.val a7 (aP m ws),s]).sat Q:=by
 have X:=h.len;have m0:=h.m0;have m1:=h.m1;refine aL (d:=f4) rfl rfl (by decide) ?_;refine dN (λρ=>ρ=[.val a7 (aP m ws),s,.hold (rD (jE ws fs m.toNat (iw 0))),.aN,.aN]) ?_ ?_
 . simp[f4,show m<=1000000000 by omega,show-1000000000<=m by omega];refine⟨λ_=>?_,by omega⟩;rw[cG];refine rC (F1n _ _ _ _ _) (λ_=>[]) ⟨.aN,rfl,rfl⟩ ?_ ?_;.rintro d hd _⟨L,rfl,y⟩;simp[y];exact⟨_,rfl,rfl⟩
   .rintro _⟨L,rfl,y⟩;simp[rD,jE,iw]
 rintro _ rfl;refine dN (JOp m ws fs s ws.length) ?_ ?_
 . simp[show(ws.length:Int)<=1000000000 by omega];refine jU (JOp m ws fs s) ?_ ?_ ⟨.aN,.aN,rfl,rfl,rfl⟩
   . rintro i _ hi⟨s3,s4,rfl,C,t⟩;have G:i<fs.length:=by omega
     have z:ws[i]?=al ws[i]:=by simp[hi]
     have H:fs[i]?=al fs[i]:=by simp[G]
     generalize ws[i]=v at*;generalize fs[i]=g at*;simp[C];apply ak;simp;refine bW (JOq m ws fs s i) ?_ ?_ ⟨iw i,[(i,bx),(i,a7)],s4,rfl,t,rfl,by rw[tZ];simp,by simp⟩;.rintro d r _⟨l,e,s4,rfl,t,hr,A,E⟩;cases e with|nil=>cases hr|cons u e=>
         obtain⟨rfl,rfl⟩:d=sD u/\r=e.map sD:=by simpa using hr
         obtain rfl:=E u (by simp);have B:(l++[u])++e=iw (u.1+1):=by rw[eP];exact A
         have I:l.length<1000:=by have:=congrArg kN A;rw[yg]at this;simp at this;omega
         simp[t];apply ak;rcases hs with rfl|⟨b,rfl⟩;all_goals
          simp[sD];refine uF (by first|exact .inl rfl|exact .inr ⟨_,rfl⟩) z H ?_;simp;refine⟨λho=>?_,λho=>?_⟩;.obtain⟨⟨row,M⟩,O⟩:=Oi (ws:=ws) (fs:=fs) (l:=l) z H ho (Uo h z u.2) I;symm;simp;refine lR z ?_;simp[M];have U:jW (rD (jE ws fs m.toNat l)) (frm v u.2) (λrow=>if row.length<lim then al (row++[fO u.1 u.2])else bdq)=_:=O;rw[U];simp;exact⟨l++[u],e,_,rfl,rfl,rfl,B,λx J=>E x (by simp[J])⟩
          .exact⟨l++[u],e,_,by rw[Kz z H (by omega)],rfl,rfl,B,λx J=>E x (by simp[J])⟩
     . rintro _⟨l,e,s4,rfl,t,hr,A,E⟩;have:e=[]:=by cases e with|nil=>rfl|cons _ _=>cases hr
       subst this;rw[fo]at A;subst A;simp;exact⟨_,_,rfl,rfl,t⟩
   .rintro _⟨s3,s4,rfl,C,t⟩;exact⟨rfl,_,_,rfl,C,t⟩
 rintro _⟨s3,s4,rfl,C,t⟩;symm;simp;apply ak;simp;exact k
noncomputable abbrev En:=Int×Nat×(Option az×Int)
variable{es uU:List En}
noncomputable def oS:Option az->D|none=>.non|some s=>sD s
noncomputable def Bm(e:En):D:=.tup [.int e.2.2.2,.int (e.2.1:Int),oS e.2.2.1]
noncomputable def en(e:En):Int×D:=(e.1,Bm e)
noncomputable def jH(es:List En):D:=.dv (es.map (·.1)) (es.map Bm)
noncomputable def zY(p:Int):Int×D:=(p,.bl bx)
@[simp]theorem Ux{l:List Int}:FZ (l.map zY)=l:=by simp[FZ,zY,hE]
theorem Am{l:List En}:FZ (l.map en)=l.map (·.1):=by simp[FZ,en,hE]
theorem zR{l:List En}:pF (l.map en) p=bx↔∃n o,(p,n,o)∈l:=by show(FZ (l.map en)).contains p=bx↔_;rw[Am];simp
theorem kin_no{l:List En}(h:¬ ∃n o,(p,n,o)∈l):pF (l.map en) p=a7:=by cases e:pF (l.map en) p with|false=>rfl|true=>exact absurd (zR.mp e) h
theorem vI{u:Type}{p:Int}{x y:u}:∀{l:List (Int×u)},(l.map (·.1)).Nodup->(p,x)∈l->(p,y)∈l->x=y
 |[],_,h,_=>by cases h|e::l,t,h1,h2=>by
   rw[dc,eI]at t;rcases cS.mp h1 with h1|h1<;>rcases cS.mp h2 with h2|h2;.rw[<-h2]at h1;cases h1;rfl
   .exact absurd (cK.mpr ⟨_,h2,by rw[<-h1]⟩) t.1
   .exact absurd (cK.mpr ⟨_,h1,by rw[<-h2]⟩) t.1
   .exact vI t.2 h1 h2
theorem pN{p:Int}{x:Nat×(Option az×Int)}:∀{l:List En},(l.map (·.1)).Nodup->(p,x)∈l->lJ (l.map en) p=al (Bm (p,x))
 |[],_,h=>by cases h|e::l,t,h=>by
   have u:=t;rw[dc,eI]at t;unfold lJ;rw[dc,gl];by_cases c:e.1=p;.obtain⟨q,y⟩:=e;cases c;have:=vI u h (by simp:(q,y)∈(q,y)::l);subst this;simp[en]
   . have h':(p,x)∈l:=by
      rcases cS.mp h with h|h;.exact absurd (by rw[<-h]) c
      .exact h
     simp[en,c];have:=pN t.2 h';unfold lJ at this;simpa[en]using this
theorem mj{kvs:List (Int×D)}{d:D}(h:pF kvs p=a7):gn kvs p d=kvs++[(p,d)]:=by
 unfold gn;rw[if_neg];intro t;obtain⟨x,u,e⟩:=kx.mp t;have:pF kvs p=bx:=by show(kvs.map (·.1)).contains p=bx;rw[hB];exact cK.mpr ⟨x,u,by simpa using e⟩
 rw[this]at h;cases h
theorem yZ{kvs:List (Int×D)}{d:D}(h:pF kvs p=bx):gn kvs p d=kvs.map λe=>if e.1=p then(p,d)else e:=by
 unfold gn;rw[if_pos]
 . refine gi λe _=>?_;by_cases c:e.1=p;.simp[c]
   .simp[c]
 .have h':(kvs.map (·.1)).contains p=bx:=h;rw[hB]at h';obtain⟨x,t,e⟩:=cK.mp h';exact kx.mpr ⟨x,t,by simpa using e⟩
noncomputable def yP(p:Int)(x:Nat×(Option az×Int))(e:En):En:=if e.1=p then(p,x)else e
noncomputable def pB(es:List En)(p:Int)(x:Nat×(Option az×Int)):List En:=if p∈es.map (·.1)then es.map (yP p x)else es++[(p,x)]
noncomputable def qM(ch:List Int)(p:Int):List Int:=if p∈ch then ch else ch++[p]
theorem N6:gn (es.map en) p (Bm (p,x))=(pB es p x).map en:=by
 have h:pF (es.map en) p=bx↔p∈es.map (·.1):=by show(FZ (es.map en)).contains p=bx↔_;rw[Am,hB]
 unfold pB;by_cases c:p∈es.map (·.1)
 . rw[if_pos c,yZ (h.mpr c),ec,ec];refine gi λe _=>?_;show(if e.1=p then _ else _)=en (yP p x e);unfold yP;by_cases z:e.1=p;.rw[if_pos z,if_pos z];rfl
   .rw[if_neg z,if_neg z]
 .rw[if_neg c,mj (by cases e:pF (es.map en) p with|false=>rfl|true=>exact absurd (h.mp e) c)];simp[en]
theorem Pk:gn (ch.map zY) p (.bl bx)=(qM ch p).map zY:=by
 have h:pF (ch.map zY) p=bx↔p∈ch:=by show(FZ (ch.map zY)).contains p=bx↔_;rw[Ux,hB]
 unfold qM;by_cases c:p∈ch
 . rw[if_pos c,yZ (h.mpr c),ec];refine gi λe _=>?_;show(if e=p then _ else _)=zY e;by_cases z:e=p;.rw[if_pos z,z];rfl
   .rw[if_neg z]
 .rw[if_neg c,mj (by cases e:pF (ch.map zY) p with|false=>rfl|true=>exact absurd (h.mp e) c)];simp[zY]
theorem yW{q:Int}:q∈qM ch p↔q∈ch\/q=p:=by
 unfold qM;split;.exact⟨.inl,λh=>h.elim id λe=>by rw[e];assumption⟩
 .simp
theorem Ec(h:ch.Nodup):(qM ch p).Nodup:=by
 unfold qM;split;.exact h
 .rename_i t;rw[kT];exact⟨h,by simp,λa u b y e=>t (by rw[<-dV.mp y,<-e];exact u)⟩
theorem Fq:(pB es p x).map (·.1)=qM (es.map (·.1)) p:=by
 unfold pB qM;split
 . rw[ec];refine gi λe _=>?_;show(yP p x e).1=e.1;unfold yP;split;.rename_i h;exact h.symm
   .rfl
 .simp
theorem gV{q:Int}{y:Nat×(Option az×Int)}:(q,y)∈pB es p x↔(q=p/\y=x)\/(q≠p/\(q,y)∈es):=by
 unfold pB;split
 . rename_i t;obtain⟨C,u,z⟩:=cK.mp t;rw[cK];constructor
   . rintro⟨e,he,h⟩;unfold yP at h;split at h;.cases h;exact .inl ⟨rfl,rfl⟩
     .rename_i A;subst h;exact .inr ⟨A,he⟩
   . rintro(⟨rfl,rfl⟩|⟨h1,B⟩);.exact⟨C,u,by unfold yP;rw[if_pos z]⟩
     .exact⟨_,B,by unfold yP;rw[if_neg h1]⟩
 . rename_i t;rw[eJ,dV];constructor
   . rintro(h|h);.refine .inr ⟨λe=>t ?_,h⟩;rw[<-e];exact cK.mpr ⟨_,h,rfl⟩
     .cases h;exact .inl ⟨rfl,rfl⟩
   . rintro(⟨rfl,rfl⟩|⟨_,B⟩);.exact .inr rfl
     .exact .inl B
theorem m5{h:Type}[BEq h][LawfulBEq h]:∀{l l2:List h},l.Nodup->(∀a∈l,a∈l2)->l.length<=l2.length
 |[],_,_,_=>uY|a::l,l2,z,hs=>by
   have u:=hs a (by simp);have e:=eI.mp z;have:=m5 (l:=l) (l2:=l2.erase a) e.2 λb y=>by
    have t:b≠a:=by rintro rfl;exact e.1 y
    exact(List.mem_erase_of_ne t).mpr (hs b (by simp[y]))
   rw[List.length_erase_of_mem u]at this;have:=List.length_pos_of_mem u;simp only[dL];omega
theorem six{l:List Int}(m1:m<=6)(e:l.Nodup)(h:∀p∈l,0<=p/\p<m):l.length<=6:=by
 have:=m5 (l2:=[0,1,2,3,4,5]) e λq t=>by
  have:=h q t;have:q=0\/q=1\/q=2\/q=3\/q=4\/q=5:=by omega
  simpa using this
 simpa using this
theorem rQ{fs:List Int}(h:kE ws fs p s=bx):∃v g,ws[s.1]?=al v/\fs[s.1]?=al g/\frm v s.2=p/\0<oR v g s.2:=by
 unfold kE at h;split at h;.rename_i v g e t;simp at h;exact⟨v,g,e,t,h.1,h.2⟩
 .cases h
theorem yS(h:s.1<N):s∈iw N:=by unfold iw;rw[List.mem_flatMap];refine⟨s.1,by simp[h],?_⟩;obtain⟨j,f⟩:=s;cases f<;>simp
noncomputable def iy(ws:List Wy)(b:Int):List az->Int->Prop|[],a=>a=b|s::c,a=>∃v,ws[s.1]?=al v/\frm v s.2=a/\iy ws b c (too v s.2)
noncomputable def hst(ws:List Wy)(s:az):Int:=match ws[s.1]?with|some v=>hsp v s.2|none=>0
theorem iC(e:ws[s.1]?=al v):hst ws s=hsp v s.2:=by unfold hst;rw[e]
noncomputable def bV(ws:List Wy):List az->Int|[]=>0|s::c=>hst ws s+bV ws c
theorem lg{ws:List Wy}{c2:List az}:∀{c1:List az},bV ws (c1++c2)=bV ws c1+bV ws c2|[]=>by simp[bV]|s::c=>by rw[kD,bV,lg,bV];omega
noncomputable def tH(ws:List Wy)(fs:List Int)(c:List az):Prop:=∀s∈c,∃v,ws[s.1]?=al v/\kE ws fs (frm v s.2) s=bx
theorem iy.app{ws:List Wy}{b q:Int}{c2:List az}(t:iy ws b c2 q):∀{c1:List az}{a:Int},iy ws q c1 a->iy ws b (c1++c2) a|[],a,h=>by have:a=q:=h;rw[this];exact t|s::c,a,⟨v,e,u,h⟩=>⟨v,e,u,iy.app t h⟩
theorem Cw{ws:List Wy}{b:Int}{c2:List az}:∀{c1:List az}{a:Int},iy ws b (c1++c2) a->∃q,iy ws q c1 a/\iy ws b c2 q|[],a,h=>⟨a,rfl,h⟩|s::c,a,⟨v,e,t,h⟩=>by obtain⟨q,h1,u⟩:=Cw (c1:=c) h;exact⟨q,⟨v,e,t,h1⟩,u⟩
noncomputable def Pt(ws:List Wy)(fs:List Int)(F:Int->Int):Prop:=∀(s:az)(v:Wy),ws[s.1]?=al v->kE ws fs (frm v s.2) s=bx->F (too v s.2)<=F (frm v s.2)+hsp v s.2
theorem lL{ws:List Wy}{fs:List Int}{F:Int->Int}(h:Pt ws fs F){b:Int}:∀{c:List az}{a:Int},iy ws b c a->tH ws fs c->F b<=F a+bV ws c|[],a,t,_=>by have:a=b:=t;rw[this,bV];omega|s::c,a,⟨v,e,z,t⟩,ho=>by have h1:=lL h t λu A=>ho u (dA _ A);obtain⟨C,y,o⟩:=ho s (by simp);rw[e]at y;cases y;have B:=h s v e o;rw[z]at B;rw[bV,iC e];omega
noncomputable def qF(ws:List Wy)(s:az):Int:=match ws[s.1]?with|some v=>too v s.2|none=>0
noncomputable def rN(ws:List Wy):List az->Int->List Int|[],a=>[a]|s::c,a=>a::rN ws c (qF ws s)
theorem DR{ws:List Wy}:∀{c:List az}{a:Int},(rN ws c a).length=c.length+1|[],_=>rfl|s::c,a=>by rw[rN,dL,DR];rfl
theorem KC{m:Int}{ws:List Wy}{b:Int}(t:HN m ws):∀{c:List az}{a:Int},iy ws b c a->0<=a/\a<m->∀q∈rN ws c a,0<=q/\q<m
 |[],a,_,h,q,hq=>by rw[rN,dV]at hq;rw[hq];exact h|s::c,a,⟨v,e,y,u⟩,h,q,hq=>by
   rw[rN,cS]at hq;rcases hq with rfl|hq;.exact h
   . have:qF ws s=too v s.2:=by unfold qF;rw[e]
     rw[this]at hq;exact KC t u (Jq t e s.2) q hq
theorem CQ{ws:List Wy}{b q:Int}:∀{c:List az}{a:Int},iy ws b c a->q∈rN ws c a->∃c1 c2,c=c1++c2/\iy ws q c1 a/\iy ws b c2 q
 |[],a,h,hq=>by rw[rN,dV]at hq;exact⟨[],[],rfl,hq.symm,by rw[hq];exact h⟩|s::c,a,h,hq=>by
   rw[rN,cS]at hq;rcases hq with rfl|hq;.exact⟨[],s::c,rfl,rfl,h⟩
   . obtain⟨v,e,t,u⟩:=h;have:qF ws s=too v s.2:=by unfold qF;rw[e]
     rw[this]at hq;obtain⟨c1,c2,rfl,h1,y⟩:=CQ u hq;exact⟨s::c1,c2,rfl,⟨v,e,t,h1⟩,y⟩
theorem DP{ws:List Wy}{b:Int}:∀{c:List az}{a:Int},iy ws b c a->¬(rN ws c a).Nodup->∃c1 c2 c3 q,c=c1++(c2++c3)/\0<c2.length/\iy ws q c1 a/\iy ws q c2 q/\iy ws b c3 q
 |[],a,_,h=>absurd (by simp[rN]) h|s::c,a,⟨v,e,u,y⟩,h=>by
   have B:qF ws s=too v s.2:=by unfold qF;rw[e]
   rw[rN,B,eI]at h;by_cases A:a∈rN ws c (too v s.2);.obtain⟨c1,c2,rfl,h1,t⟩:=CQ y A;exact⟨[],s::c1,c2,a,rfl,by simp,rfl,⟨v,e,u,h1⟩,t⟩
   .obtain⟨c1,c2,c3,q,rfl,h0,h1,t,C⟩:=DP y λz=>h ⟨A,z⟩;exact⟨s::c1,c2,c3,q,rfl,h0,⟨v,e,u,h1⟩,t,C⟩
noncomputable def Le(h:Int)(n:Nat)(h':Int)(e:Nat):Prop:=h<h'\/(h=h'/\n<=e)
theorem Le.refl{h:Int}:Le h n h n:=.inr ⟨rfl,dq⟩
theorem Le.trans{c:Int}{k:Nat}(h1:Le a k b l)(e:Le b l c n):Le a k c n:=by unfold Le at*;omega
theorem Le.add{k:Nat}(x:Int)(h1:Le a k b l):Le (a+x) (k+1) (b+x) (l+1):=by unfold Le at*;omega
theorem short{fs:List Int}(z:HN m ws)(h:Pt ws fs F)(A:0<=a/\a<m):∀(n:Nat){c:List az},c.length<=n->iy ws b c a->tH ws fs c->∃e,iy ws b e a/\tH ws fs e/\e.length<=5/\Le (bV ws e) e.length (bV ws c) c.length/\(rN ws e a).Nodup:=by
 intro n;have done:∀{c:List az},iy ws b c a->(rN ws c a).Nodup->c.length<=5:=λt u=>by have:=six z.m1 u (KC z t A);rw[DR]at this;omega
 induction n with|zero=>intro c hc t ho;have:c=[]:=gN (by omega);subst this;exact⟨[],t,ho,by simp,.refl,by simp[rN]⟩|succ n B=>
   intro c hc t ho;by_cases u:(rN ws c a).Nodup;.exact⟨c,t,ho,done t u,.refl,u⟩
   .obtain⟨c1,c2,c3,q,rfl,h0,h1,C,E⟩:=DP t u;have y:tH ws fs c2:=λs hs=>ho s (by simp[hs]);have hr:=lL h C y;simp only[eB]at hc;obtain⟨e,G,H,I,J,L⟩:=B (c:=c1++c3) (by simp only[eB];omega) (iy.app E h1) λs hs=>ho s (by rcases eJ.mp hs with hs|hs<;>simp[hs]);refine⟨e,G,H,I,J.trans ?_,L⟩;rw[lg,lg,lg];simp only[eB];unfold Le;omega
structure Fo(m:Int)(ws:List Wy)(fs:List Int)(bs:List (Int×Int))(es:List En):Prop where
 nd:(es.map (·.1)).Nodup
 inm:∀p l o,(p,l,o)∈es->0<=p/\p<m
 z:(0,0,(bdq,0))∈es
 wk:∀p l o,(p,l,o)∈es->∃a b c,(a,b)∈bs/\iy ws p c a/\tH ws fs c/\c.length=l/\b+bV ws c=o.2
 stp:∀p l o,(p,l,o)∈es->(o.1=bdq/\(p,o.2)∈bs/\l=0)\/∃(s:az)(v:Wy)(l':Nat)(o':Option az×Int),o.1=al s/\ws[s.1]?=al v/\too v s.2=p/\kE ws fs (frm v s.2) s=bx/\(frm v s.2,l',o')∈es/\Le (o'.2+hsp v s.2) (l'+1) o.2 l
theorem Fo.len{fs:List Int}{bs:List (Int×Int)}(h:Fo m ws fs bs es)(m1:m<=6):es.length<=6:=by
 have:=six m1 h.nd λp e=>by obtain⟨⟨p,l,o⟩,he,rfl⟩:=cK.mp e;exact h.inm p l o he
 simpa using this
theorem iz{l:List En}{a b:Nat}{u:Option az×Int}(e:(l.map (·.1)).Nodup)(h1:(p,a,o)∈l)(h:(p,b,u)∈l):a=b/\o=u:=by have:=vI e h1 h;cases this;exact⟨rfl,rfl⟩
noncomputable def At(es:List En)(p h:Int)(n:Nat):Prop:=∃l o,(p,l,o)∈es/\Le o.2 l h n
theorem At.le{h h':Int}{e:Nat}(a:At es p h n)(z:Le h n h' e):At es p h' e:=by obtain⟨l,o,h1,t⟩:=a;exact⟨l,o,h1,t.trans z⟩
structure Wh(m:Int)(ws:List Wy)(fs:List Int)(bs:List (Int×Int))(n:Nat)(R:List Int)(es:List En):Prop where
 cm:Fo m ws fs bs es
 row:∀p∈R,∃l o,(p,l,o)∈es
 nr:R.Nodup
 wl:∀a b c p,(a,b)∈bs->iy ws p c a->tH ws fs c->c.length<=n->At es p (b+bV ws c) c.length
 cl:∀l o(s:az)v,ws[s.1]?=al v->frm v s.2∉R->(frm v s.2,l,o)∈es->kE ws fs (frm v s.2) s=bx->At es (too v s.2) (o.2+hsp v s.2) (l+1)few:6<=n->R=[]
structure In(m:Int)(ws:List Wy)(fs:List Int)(bs:List (Int×Int))(n:Nat)(R:List Int)(uU:List En)(K:az->Prop)(es:List En)(ch:List Int):Prop where
 wh:Wh m ws fs bs n R uU
 cm:Fo m ws fs bs es
 le:∀p l o,(p,l,o)∈uU->At es p o.2 l
 out:∀p l o,p∉ch->(p,l,o)∈es->(p,l,o)∈uU
 chg:∀p∈ch,∃l o,(p,l,o)∈es
 nc:ch.Nodup
 dn:∀s,K s->∀v,ws[s.1]?=al v->∀l o,(frm v s.2,l,o)∈uU->At es (too v s.2) (o.2+hsp v s.2) (l+1)few:5<=n->ch=[]
theorem In.row{m:Int}{ws:List Wy}{fs:List Int}{bs:List (Int×Int)}{n:Nat}{R:List Int}{uU:List En}{K:az->Prop}{es:List En}{ch:List Int}(h:In m ws fs bs n R uU K es ch){p:Int}(e:p∈R):∃l o,(p,l,o)∈es:=by obtain⟨l,o,z⟩:=h.wh.row p e;obtain⟨l,o,z,_⟩:=h.le _ _ _ z;exact⟨l,o,z⟩
theorem In.keep{fs:List Int}{bs:List (Int×Int)}{R:List Int}{K:az->Prop}(h:In m ws fs bs n R uU K es ch)(e:ws[s.1]?=al v)(z:(frm v s.2,l,o)∈es)(A:At es (too v s.2) (o.2+hsp v s.2) (l+1)):In m ws fs bs n R uU (λu=>K u\/u=s) es ch:=by
 refine⟨h.wh,h.cm,h.le,h.out,h.chg,h.nc,λu t=>?_,h.few⟩;rcases t with t|rfl;.exact h.dn u t
 .intro E y G H h0;rw[e]at y;cases y;obtain⟨I,J,B,C⟩:=h.le _ _ _ h0;obtain⟨rfl,rfl⟩:=iz h.cm.nd z B;exact A.le (C.add _)
theorem In.put{fs:List Int}{bs:List (Int×Int)}{R:List Int}{K:az->Prop}(h:In m ws fs bs n R uU K es ch)(L:HN m ws)(hF:Pt ws fs F)(hb:∀a b,(a,b)∈bs->0<=a/\a<m)(hZ:∀a b c,(a,b)∈bs->iy ws 0 c a->tH ws fs c->0<=b+bV ws c)(e:ws[s.1]?=al v)(M:(frm v s.2,l,o)∈es)(ho:kE ws fs (frm v s.2) s=bx)(O:¬ At es (too v s.2) (o.2+hsp v s.2) (l+1)):In m ws fs bs n R uU (λu=>K u\/u=s) (pB es (too v s.2) (l+1,(al s,o.2+hsp v s.2))) (qM ch (too v s.2)):=by
 have m0:=L.m0;obtain⟨E,b0,c,c0,c1,c2,c3,c4⟩:=h.cm.wk _ _ _ M;have H:iy ws (too v s.2) (c++[s]) E:=iy.app (c2:=[s]) ⟨v,e,rfl,rfl⟩ c1;have U:tH ws fs (c++[s]):=λu hu=>by
  rcases eJ.mp hu with hu|hu;.exact c2 u hu
  .rw[dV.mp hu];exact⟨v,e,ho⟩
 have w3:(c++[s]).length=l+1:=by simp[c3]
 have W:b0+bV ws (c++[s])=o.2+hsp v s.2:=by rw[lg,<-c4,bV,bV,iC e];omega
 have A:(too v s.2,l+1,(al s,o.2+hsp v s.2))∈pB es (too v s.2) (l+1,(al s,o.2+hsp v s.2)):=gV.mpr (.inl ⟨rfl,rfl⟩);have mono:∀{q l2 t},(q,l2,t)∈es->At (pB es (too v s.2) (l+1,(al s,o.2+hsp v s.2))) q t.2 l2:=λ{q l2 t}z=>by
  by_cases c:q=too v s.2;.subst c;refine⟨_,_,A,?_⟩;have:¬ Le t.2 l2 (o.2+hsp v s.2) (l+1):=λy=>O ⟨_,_,z,y⟩;unfold Le at this ⊢;simp only;omega
  .exact⟨l2,t,gV.mpr (.inr ⟨c,z⟩),.refl⟩
 have R9:∀{q h n},At es q h n->At (pB es (too v s.2) (l+1,(al s,o.2+hsp v s.2))) q h n:=λ⟨l2,t,G,X⟩=>(mono G).le X;refine⟨h.wh,⟨by rw[Fq];exact Ec h.cm.nd,λp l o z=>?_,?_,λp l2 t z=>?_,λp l2 t z=>?_⟩,λp l o z=>R9 (h.le p l o z),λp l o hc z=>?_,λp hc=>?_,Ec h.nc,λu hu=>?_,λh5=>?_⟩
 . rcases gV.mp z with⟨rfl,_⟩|⟨_,z⟩;.exact Jq L e s.2
   .exact h.cm.inm p l o z
 .refine gV.mpr (.inr ⟨λz=>O ?_,h.cm.z⟩);have:=hZ E b0 _ c0 (by rw[<-z]at H;exact H) U;rw[W]at this;rw[<-z];exact⟨_,_,h.cm.z,by unfold Le;simp only;omega⟩
 . rcases gV.mp z with⟨rfl,y⟩|⟨_,z⟩;.cases y;exact⟨E,b0,_,c0,H,U,w3,W⟩
   .exact h.cm.wk p l2 t z
 . rcases gV.mp z with⟨rfl,y⟩|⟨_,z⟩;.cases y;obtain⟨l',o',B,C⟩:=mono M;exact .inr ⟨s,v,l',o',rfl,e,rfl,ho,B,C.add _⟩
   . rcases h.cm.stp p l2 t z with z|⟨s',I,l',o',G,z3,z4,z5,z6,z7⟩;.exact .inl z
     .obtain⟨Y,Z,B,C⟩:=mono z6;exact .inr ⟨s',I,Y,Z,G,z3,z4,z5,B,(C.add _).trans z7⟩
 . rw[yW,not_or]at hc;rcases gV.mp z with⟨rfl,_⟩|⟨_,z⟩;.exact absurd rfl hc.2
   .exact h.out p l o hc.1 z
 . rcases yW.mp hc with hc|rfl;.obtain⟨l2,t,z⟩:=h.chg p hc;obtain⟨Y,Z,z,_⟩:=mono z;exact⟨Y,Z,z⟩
   .exact⟨_,_,A⟩
 . rcases hu with hu|rfl;.exact λI J l0 o0 h0=>R9 (h.dn u hu I J l0 o0 h0)
   .intro I J l0 o0 h0;rw[e]at J;cases J;obtain⟨l1,o1,B,C⟩:=h.le _ _ _ h0;obtain⟨rfl,rfl⟩:=iz h.cm.nd M B;exact⟨_,_,A,C.add _⟩
 .obtain⟨c',B,C,q3,q4,_⟩:=short L hF (hb E b0 c0) _ (dq) H U;obtain⟨l1,o1,G,X⟩:=h.wh.wl E b0 c' _ c0 B C (by omega);rw[w3]at q4;refine absurd ((h.le _ _ _ G).le (X.trans ?_)) O;rw[<-W];unfold Le at q4 ⊢;omega
noncomputable def bE(p:Int×Int):En:=(p.1,0,(bdq,p.2))
theorem Wh.start{fs:List Int}{bs:List (Int×Int)}(A:∀a b,(a,b)∈bs->0<=a/\a<m)(h0:(0,0)∈bs)(y:(bs.map (·.1)).Nodup):Wh m ws fs bs 0 (bs.map (·.1)) (bs.map bE):=by
 have B:(bs.map bE).map (·.1)=bs.map (·.1):=by rw[ec];rfl
 have un:∀{p l o},(p,l,o)∈bs.map bE->l=0/\o.1=bdq/\(p,o.2)∈bs:=λ{p l o}z=>by obtain⟨⟨a,b⟩,h1,e⟩:=cK.mp z;cases e;exact⟨rfl,rfl,h1⟩
 have to:∀{a b},(a,b)∈bs->(a,0,(bdq,b))∈bs.map bE:=λh=>cK.mpr ⟨_,h,rfl⟩;refine⟨⟨by rw[B];exact y,λp l o z=>A _ _ (un z).2.2,to h0,λp l o z=>?_,λp l o z=>.inl ⟨(un z).2.1,(un z).2.2,(un z).1⟩⟩,λp t=>?_,y,λa b c p u t _ hc=>?_,λl o s v _ C z=>?_,λh=>by omega⟩;.exact⟨p,o.2,[],(un z).2.2,rfl,λs hs=>(by cases hs),(un z).1.symm,by rw[bV];omega⟩
 .obtain⟨⟨a,b⟩,h1,rfl⟩:=cK.mp t;exact⟨_,_,to h1⟩
 .cases c with|nil=>have:a=p:=t;subst this;exact⟨0,(bdq,b),to u,by unfold Le bV;simp⟩|cons _ _=>simp at hc
 .exact absurd (cK.mpr ⟨_,(un z).2.2,rfl⟩) C
theorem Wh.to{fs:List Int}{bs:List (Int×Int)}{R:List Int}(h:Wh m ws fs bs n R es):In m ws fs bs n R es (λ_=>False) es []:=⟨h,h.cm,λp l o z=>⟨l,o,z,.refl⟩,λp l o _ z=>z,λp e=>(by cases e),.nil,λs hs=>hs.elim,λ_=>rfl⟩
theorem In.out'{fs:List Int}{bs:List (Int×Int)}{R:List Int}(h:In m ws fs bs n R uU (λs=>∃p∈R,kE ws fs p s=bx) es ch):Wh m ws fs bs (n+1) ch es:=by
 have t:∀{p h' k},At uU p h' k->At es p h' k:=λ⟨l,o,A,B⟩=>(h.le _ _ _ A).le B;have G:∀(s:az)v l o,ws[s.1]?=al v->(frm v s.2,l,o)∈uU->kE ws fs (frm v s.2) s=bx->At es (too v s.2) (o.2+hsp v s.2) (l+1):=λs v l o e z ho=>by
  by_cases c:frm v s.2∈R;.exact h.dn s ⟨_,c,ho⟩ v e l o z
  .exact t (h.wh.cl l o s v e c z ho)
 refine⟨h.cm,h.chg,h.nc,λa b c p y H ho hc=>?_,λl o s v e hc z hs=>G s v l o e (h.out _ _ _ hc z) hs,λO=>h.few (by omega)⟩;rcases oC c with rfl|⟨C,s,rfl⟩;.exact t (h.wh.wl a b [] p y H ho (uY))
 . rw[oF]at*;obtain⟨q,h1,v,e,rfl,E⟩:=Cw H;have E:too v s.2=p:=E;subst E;obtain⟨U,I,J⟩:=ho s (by simp);rw[e]at I;cases I;simp only[eB,dL,length_nil]at hc;obtain⟨l,o,A,B⟩:=h.wh.wl a b C _ y h1 (λu L=>ho u (by simp[L])) (by omega);refine(G s v l o e A J).le ?_;have:=B.add (hsp v s.2);have M:bV ws (C++[s])=bV ws C+hsp v s.2:=by rw[lg,bV,bV,iC e];omega
   rw[M,<-Int.add_assoc];simpa using this
structure uC(m:Int)(ws:List Wy)(fs:List Int)(bs:List (Int×Int))(es:List En):Prop where
 cm:Fo m ws fs bs es
 cl:∀l o(s:az)v,ws[s.1]?=al v->(frm v s.2,l,o)∈es->kE ws fs (frm v s.2) s=bx->At es (too v s.2) (o.2+hsp v s.2) (l+1)bg:∀a b,(a,b)∈bs->At es a b 0
theorem Wh.fin{fs:List Int}{bs:List (Int×Int)}(h:Wh m ws fs bs n [] es):uC m ws fs bs es:=⟨h.cm,λl o s v e z ho=>h.cl l o s v e (by simp) z ho,λa b t=>by have:=h.wl a b [] a t rfl (λs hs=>by cases hs) (uY);simpa[bV]using this⟩
noncomputable abbrev Cme(m:Int)(ws:List Wy)(fs:List Int)(es:List En):Prop:=Fo m ws fs [(0,0)] es
noncomputable abbrev jo(m:Int)(ws:List Wy)(fs:List Int)(es:List En):Prop:=uC m ws fs [(0,0)] es
theorem In.imp{fs:List Int}{bs:List (Int×Int)}{R:List Int}{K e:az->Prop}(h:In m ws fs bs n R uU K es ch)(z:∀s,e s->K s):In m ws fs bs n R uU e es ch:=⟨h.wh,h.cm,h.le,h.out,h.chg,h.nc,λs hs=>h.dn s (z s hs),h.few⟩
theorem SN{fs:List Int}{l:List az}(e:0<=p/\p<m):at' ((rD (jE ws fs m.toNat l)).map D.lst) p=al (.lst ((l.filter (kE ws fs p)).map sD)):=by rw[Ak e.1 (by simp[rD,jE];omega)];simp[rD,jE,show p.toNat<m.toNat by omega,qb e.1]
@[simp]theorem cut3{a b c:D}:Nr (.tup [a,b,c]) (part (.con .non) .non) (part (.con (.int 2)) (.int 2))=al (.val (.tup [a,b])):=rfl
theorem Wo{j:Int}:cm .lt (.tup [.int a,.int i]) (.tup [.int b,.int j])=al (bA [a,i] [b,j]):=rfl
theorem lex_lt{i:Nat}:bA [a,(i:Int)] [b,(j:Int)]=bx↔¬ Le b j a i:=by unfold Le;simp[bA];omega
noncomputable def wW(bs:List (Int×Int)):Sl:=.val a7 (.dv (bs.map (·.1)) (bs.map λp=>.int p.2))
noncomputable abbrev bg:Sl:=wW [(0,0)]
inductive JC2(m:Int)(ws:List Wy)(fs:List Int)(bs:List (Int×Int))(a0 a1 a2 a3 a6:Sl)(n:Nat)(R:List Int)(uU:List En)(pre:List Int)(p:Int)(r:List D)(ρ:List Sl):Prop where|mk(es:List En)(ch:List Int)(bz us:List az)(s8 s9 sW:Sl)(q0:ρ=[a0,a1,a2,a3,.cM (es.map en),.val a7 (.int p),a6,.cM (ch.map zY),s8,s9,sW])(q1:A3 (fr s8=bx) (fr s9=bx) (fr sW=bx))(q2:r=us.map sD)(q3:bz++us=(iw ws.length).filter (kE ws fs p))(q4:In m ws fs bs n R uU (λs=>(∃q∈pre,kE ws fs q s=bx)\/s∈bz) es ch)
inductive JC1(m:Int)(ws:List Wy)(fs:List Int)(bs:List (Int×Int))(a0 a1 a2 a3 a6:Sl)(n:Nat)(R:List Int)(uU:List En)(r:List D)(ρ:List Sl):Prop where|mk(es:List En)(ch pre qs:List Int)(s5 s8 s9 sW:Sl)(q0:ρ=[a0,a1,a2,a3,.cM (es.map en),s5,a6,.cM (ch.map zY),s8,s9,sW])(q1:A4 (fr s5=bx) (fr s8=bx) (fr s9=bx) (fr sW=bx))(q2:r=qs.map D.int)(q3:pre++qs=R)(q4:In m ws fs bs n R uU (λs=>∃q∈pre,kE ws fs q s=bx) es ch)
inductive JCw(m:Int)(ws:List Wy)(fs:List Int)(bs:List (Int×Int))(a0 a1 a2 a3:Sl)(M:Nat)(ρ:List Sl):Prop where|mk(n:Nat)(R:List Int)(es:List En)(s5 s7 s8 s9 sW:Sl)(q0:ρ=[a0,a1,a2,a3,.cM (es.map en),s5,.own a7 (R.map D.int),s7,s8,s9,sW])(q1:A4 (fr s5=bx) (fr s8=bx) (fr s9=bx) (fr sW=bx))(q2:(s7=.aN\/∃d,s7=.val a7 d))(q3:Wh m ws fs bs n R es)(q4:7<=n+M)
inductive JC0(a0 a1 a2 a3:Sl)(bs:List (Int×Int))(r:List D)(ρ:List Sl):Prop where|mk(bz us:List (Int×Int))(s5:Sl)(q0:ρ=[a0,a1,a2,a3,.cM ((bz.map bE).map en),s5,.aN,.aN,.aN,.aN,.aN])(q1:fr s5=bx)(q2:r=(us.map (·.1)).map D.int)(q3:bz++us=bs)
theorem CJ{a b:Int}:∀{bs:List (Int×Int)},(bs.map (·.1)).Nodup->(a,b)∈bs->lJ ((bs.map (·.1)).zip (bs.map λp=>D.int p.2)) a=al (.int b)
 |[],_,h=>by cases h|p::bs,e,h=>by
   rw[dc,eI]at e;unfold lJ;rw[dc,dc,l_,gl];rcases cS.mp h with h|h;.subst h;simp
   .have t:p.1≠a:=λz=>e.1 (by rw[z];exact cK.mpr ⟨_,h,rfl⟩);have:=CJ e.2 h;unfold lJ at this;simpa[t]using this
theorem uN{s:Sl}{fs:List Int}{bs:List (Int×Int)}(hw:100<=w)(hF:Pt ws fs F)(hb:∀a b,(a,b)∈bs->0<=a/\a<m)(h0:(0,0)∈bs)(J:(bs.map (·.1)).Nodup)(hZ:∀a b c,(a,b)∈bs->iy ws 0 c a->tH ws fs c->0<=b+bV ws c)(hs:QW s fs)(h:HN m ws)(hf:fs.length=ws.length)(k:∀es,uC m ws fs bs es->Q (.val (jH es)) [.val a7 (aP m ws),s,wW bs]):(run Γ w (n+3) 5 [.val a7 (aP m ws),s,wW bs]).sat Q:=by
 have hn:=h.len;have m0:=h.m0;have m1:=h.m1;refine aL (d:=f5) rfl rfl (by decide) ?_;refine dN (λρ=>ρ=[.val a7 (aP m ws),s,wW bs,.val a7 (.lst ((rD (jE ws fs m.toNat (iw ws.length))).map D.lst)),.aN,.aN,.aN,.aN,.aN,.aN,.aN]) ?_ ?_;.have ax:=hs;rcases hs with rfl|⟨b,rfl⟩;all_goals simp[f5,wW];refine Hx (by first|exact .inl rfl|exact .inr ⟨_,rfl⟩) h hf ?_;simp
 rintro _ rfl;generalize hA:((rD (jE ws fs m.toNat (iw ws.length))).map D.lst)=A;have ay:bs.length<=6:=by
  have:=six m1 J λp hp=>by obtain⟨⟨a,b⟩,h1,rfl⟩:=cK.mp hp;exact hb a b h1
  simpa using this
 apply ak;simp;apply ak;simp[wW];refine bW (JC0 (.val a7 (aP m ws)) s (wW bs) (.val a7 (.lst A)) bs) ?_ ?_ ⟨[],bs,.aN,rfl,rfl,by rw[ec],rfl⟩;.rintro d r _⟨G,C,s5,rfl,U,hr,hd⟩;cases C with|nil=>cases hr|cons u C=>
     obtain⟨rfl,rfl⟩:d=.int u.1/\r=(C.map (·.1)).map D.int:=by simpa using hr
     have am:(G++[u])++C=bs:=by rw[eP];exact hd
     have hg:=CJ (a:=u.1) (b:=u.2) J (by rw[<-hd];simp);have hk:pF ((G.map bE).map en) u.1=a7:=kin_no λ⟨l,o,z⟩=>by obtain⟨⟨a,b⟩,h1,e⟩:=cK.mp z;cases e;rw[<-hd,gI,kT]at J;exact J.2.2 u.1 (cK.mpr ⟨_,h1,rfl⟩) u.1 (by simp) rfl
     have hp:gn ((G.map bE).map en) u.1 (.tup [.int u.2,.int 0,.non])=((G++[u]).map bE).map en:=by rw[mj hk,gI,gI];rfl
     have aE:G.length<=bs.length:=by rw[<-hd];simp
     simp[U];apply ak;rw[ec]at hp;simp[wW,hg];refine⟨λ_=>⟨G++[u],C,.val a7 (.int u.1),by rw[hp],rfl,(ec ..).symm,am⟩,by show _<16777216;omega⟩
 rintro _⟨G,C,s5,rfl,U,hr,hd⟩;have:C=[]:=by cases C with|nil=>rfl|cons _ _=>cases hr
 subst this;rw[fo]at hd;obtain rfl:bs=G:=hd.symm;simp;apply ak;simp[wW,show bs.length<=16777216 by omega];apply ak;simp;rw[show map (en ∘ bE) bs=(bs.map bE).map en from(ec ..).symm,show map (D.int ∘ λx=>x.1) bs=(bs.map (·.1)).map D.int from(ec ..).symm];refine j5 (JCw m ws fs bs _ _ _ _) ?_ (k:=w) (m:=50) (by omega) ⟨0,bs.map (·.1),bs.map bE,s5,.aN,.aN,.aN,.aN,rfl,⟨U,rfl,rfl,rfl⟩,.inl rfl,Wh.start hb h0 J,by omega⟩;rintro M _⟨n',R,es,s5,s7,s8,s9,sW,rfl,⟨U,W,X,E⟩,h7,hW,hM⟩;by_cases hR:R=[];.subst hR;simp;apply ak;simp;have:=k es hW.fin;simp[hE,en];exact this
 . have ap:0<R.length:=by cases R with|nil=>exact absurd rfl hR|cons _ _=>simp
   simp[ap];refine dN (λρ=>ρ=[.val a7 (aP m ws),s,wW bs,.val a7 (.lst A),.cM (es.map en),s5,.own a7 (R.map D.int),.cM [],s8,s9,sW]) ?_ ?_
   . rcases h7 with rfl|⟨d,rfl⟩;.simp[wW]
     .simp[wW]
   rintro _ rfl;symm;simp;refine bW (JC1 m ws fs bs _ _ _ _ _ n' R es) ?_ ?_ ⟨es,[],[],R,s5,s8,s9,sW,rfl,⟨U,W,X,E⟩,rfl,rfl,hW.to.imp λs hs=>by obtain⟨q,hq,_⟩:=hs;cases hq⟩;.rintro d r _⟨t,ch,pre,qs,s5,s8,s9,sW,rfl,⟨U,W,X,E⟩,hr,L,B⟩;cases qs with|nil=>cases hr|cons p qs=>
       obtain⟨rfl,rfl⟩:d=.int p/\r=qs.map D.int:=by simpa using hr
       have af:p∈R:=by rw[<-L];simp
       have ar:0<=p/\p<m:=by obtain⟨l,o,ho⟩:=B.row af;exact B.cm.inm _ _ _ ho
       have Z:=SN (ws:=ws) (fs:=fs) (l:=iw ws.length) ar;rw[hA]at Z;simp[U];apply ak;simp[Z];refine bW (JC2 m ws fs bs _ _ _ _ _ n' R es pre p) ?_ ?_ ⟨t,ch,[],_,s8,s9,sW,rfl,⟨W,X,E⟩,rfl,rfl,B.imp λs hs=>by rcases hs with hs|hs;exact hs;cases hs⟩;.rintro d r _⟨t,ch,G,C,s8,s9,sW,rfl,⟨W,X,E⟩,hr,O,B⟩;cases C with|nil=>cases hr|cons u C=>
           obtain⟨rfl,rfl⟩:d=sD u/\r=C.map sD:=by simpa using hr
           have hu:kE ws fs p u=bx:=by
            have:u∈(iw ws.length).filter (kE ws fs p):=by rw[<-O];simp
            exact(i4.mp this).2
           obtain⟨v,g,e1,e2,e3,e4⟩:=rQ hu;have ag:(G++[u])++C=(iw ws.length).filter (kE ws fs p):=by rw[eP];exact O
           obtain⟨I,op,ac⟩:=B.row af;subst e3;have gp:=pN B.cm.nd ac;have aw:=B.cm.len m1;have av:ch.length<=6:=six m1 B.nc λq hq=>by obtain⟨l,o,z⟩:=B.chg q hq;exact B.cm.inm _ _ _ z
           have ah:∀s,((∃q∈pre,kE ws fs q s=bx)\/s∈G++[u])->((∃q∈pre,kE ws fs q s=bx)\/s∈G)\/s=u:=λs hs=>by
            rcases hs with hs|hs;.exact .inl (.inl hs)
            . rcases eJ.mp hs with hs|hs;.exact .inl (.inr hs)
              .exact .inr (by simpa using hs)
           simp[W];apply ak;simp[sD];refine lR e1 ?_;simp[X];apply ak;simp[gp,Bm];refine uo e1 ?_;simp[gp,Bm,E];apply ak;have keep:At t (too v u.2) (op.2+hsp v u.2) (I+1)->JC2 m ws fs bs (.val a7 (aP m ws)) s (wW bs) (.val a7 (.lst A)) (.lent (R.map D.int)) n' R es pre (frm v u.2) (C.map sD) [.val a7 (aP m ws),s,wW bs,.val a7 (.lst A),.cM (t.map en),.val a7 (.int (frm v u.2)),.lent (R.map D.int),.cM (ch.map zY),.val a7 (fO u.1 u.2),.val a7 (.int (too v u.2)),.val a7 (.tup [.int (op.2+hsp v u.2),.int ((I:Int)+1)])]:=λH=>⟨t,ch,G++[u],C,_,_,_,rfl,⟨rfl,rfl,rfl⟩,rfl,ag,(B.keep e1 ac H).imp ah⟩;have ai:¬ At t (too v u.2) (op.2+hsp v u.2) (I+1)->JC2 m ws fs bs (.val a7 (aP m ws)) s (wW bs) (.val a7 (.lst A)) (.lent (R.map D.int)) n' R es pre (frm v u.2) (C.map sD) [.val a7 (aP m ws),s,wW bs,.val a7 (.lst A),.cM ((pB t (too v u.2) (I+1,(al u,op.2+hsp v u.2))).map en),.val a7 (.int (frm v u.2)),.lent (R.map D.int),.cM ((qM ch (too v u.2)).map zY),.val a7 (fO u.1 u.2),.val a7 (.int (too v u.2)),.val a7 (.tup [.int (op.2+hsp v u.2),.int ((I:Int)+1)])]:=λH=>⟨_,_,G++[u],C,_,_,_,rfl,⟨rfl,rfl,rfl⟩,rfl,ag,(B.put h hF hb hZ e1 ac hu H).imp ah⟩;have p1:gn (t.map en) (too v u.2) (.tup [.int (op.2+hsp v u.2),.int ((I:Int)+1),fO u.1 u.2])=(pB t (too v u.2) (I+1,(al u,op.2+hsp v u.2))).map en:=by rw[<-N6];simp[Bm,oS,sD]
           have p2:gn (ch.map zY) (too v u.2) (.bl bx)=(qM ch (too v u.2)).map zY:=Pk;by_cases hq:∃l o,(too v u.2,l,o)∈t
           . obtain⟨l,o,Y⟩:=hq;have gt:=pN B.cm.nd Y;have kt:pF (t.map en) (too v u.2)=bx:=zR.mpr ⟨l,o,Y⟩;have ae:=lex_lt (a:=op.2+hsp v u.2) (i:=I+1) (b:=o.2) (j:=l);rw[show((I+1:Nat):Int)=(I:Int)+1 by omega]at ae;simp[kt,gt,Bm,Wo];refine⟨λz=>?_,λz=>?_⟩
             . have H:¬ At t (too v u.2) (op.2+hsp v u.2) (I+1):=λ⟨l2,o2,y1,y2⟩=>by obtain⟨rfl,rfl⟩:=iz B.cm.nd Y y1;exact ae.mp z y2
               symm;simp[p1];refine⟨by decide,λ_=>?_,by show _<16777216;omega⟩;symm;simp[p2];refine⟨λ_=>ai H,by show _<16777216;omega⟩
             . have H:At t (too v u.2) (op.2+hsp v u.2) (I+1):=by
                refine⟨l,o,Y,?_⟩;by_cases y:Le o.2 l (op.2+hsp v u.2) (I+1);.exact y
                .rw[ae.mpr y]at z;cases z
               exact keep H
           .have kt:pF (t.map en) (too v u.2)=a7:=kin_no hq;simp[kt];apply ak;simp[p1];refine⟨by decide,λ_=>?_,by show _<16777216;omega⟩;symm;simp[p2];exact⟨λ_=>ai λ⟨l2,o2,y1,_⟩=>hq ⟨l2,o2,y1⟩,by show _<16777216;omega⟩
       . rintro _⟨t,ch,G,C,s8,s9,sW,rfl,⟨W,X,E⟩,hr,O,B⟩;have:C=[]:=by cases C with|nil=>rfl|cons _ _=>cases hr
         subst this;rw[fo]at O;simp;refine⟨t,ch,pre++[p],qs,_,_,_,_,rfl,⟨rfl,W,X,E⟩,rfl,by rw[eP];exact L,B.imp λs hs=>?_⟩;obtain⟨q,hq,hs⟩:=hs;rcases eJ.mp hq with hq|hq;.exact .inl ⟨q,hq,hs⟩
         . obtain rfl:q=p:=by simpa using hq
           refine .inr ?_;rw[O];obtain⟨v,g,e1,_⟩:=rQ hs;exact i4.mpr ⟨yS (dX e1).1,hs⟩
   . rintro _⟨t,ch,pre,qs,s5,s8,s9,sW,rfl,⟨U,W,X,E⟩,hr,L,B⟩;have:qs=[]:=by cases qs with|nil=>rfl|cons _ _=>cases hr
     subst this;rw[fo]at L;subst L;have av:ch.length<=6:=six m1 B.nc λq hq=>by obtain⟨l,o,z⟩:=B.chg q hq;exact B.cm.inm _ _ _ z
     have hO:=B.out';have aI:n'<6:=by
      by_cases c:6<=n';.exact absurd (hW.few c) hR
      .omega
     simp;apply ak;simp[show ch.length<=16777216 by omega];exact⟨M-1,by omega,n'+1,ch,t,_,_,_,_,_,rfl,⟨U,W,X,E⟩,.inr ⟨_,rfl⟩,hO,by omega⟩
theorem yf{s:Sl}{fs:List Int}(u:100<=w)(t:Pt ws fs F)(hs:QW s fs)(h:HN m ws)(y:fs.length=ws.length)(k:∀es,jo m ws fs es->Q (.val (jH es)) [.val a7 (aP m ws),s,bg]):(run Γ w (n+3) 5 [.val a7 (aP m ws),s,bg]).sat Q:=by
 have m0:=h.m0;have one:∀{a b:Int},(a,b)∈[((0:Int),(0:Int))]->a=0/\b=0:=λe=>by have:=dV.mp e;cases this;exact⟨rfl,rfl⟩
 refine uN u t (λa b e=>by obtain⟨rfl,rfl⟩:=one e;omega) (by simp) (by simp) (λa b c e z ho=>?_) hs h y k;obtain⟨rfl,rfl⟩:=one e;have:=lL t z ho;omega
theorem jo.all{m:Int}{ws:List Wy}{fs:List Int}{es:List En}(h:jo m ws fs es){b:Int}:∀{c:List az}{a:Int}{l:Nat}{o:Option az×Int},iy ws b c a->tH ws fs c->(a,l,o)∈es->At es b (o.2+bV ws c) (l+c.length)|[],a,l,o,t,_,z=>by have:a=b:=t;subst this;exact⟨l,o,z,by unfold Le bV;simp⟩|s::c,a,l,o,⟨v,e,A,t⟩,ho,z=>by subst A;obtain⟨J,y,B⟩:=ho s (by simp);rw[e]at y;cases y;obtain⟨L,M,C,O⟩:=h.cl l o s v e z B;obtain⟨l2,E,G,H⟩:=jo.all h t (λu I=>ho u (dA _ I)) C;refine⟨l2,E,G,H.trans ?_⟩;rw[bV,iC e,dL];unfold Le at*;omega
theorem jo.l5{fs:List Int}(h:jo m ws fs es)(t:HN m ws)(u:Pt ws fs F)(z:(p,l,o)∈es):l<=5:=by
 have m0:=t.m0;obtain⟨a,b,c,e,c1,c2,c3,c4⟩:=h.cm.wk p l o z;obtain⟨rfl,rfl⟩:a=0/\b=0:=by have:=dV.mp e;cases this;exact⟨rfl,rfl⟩
 obtain⟨G,y,A,H,B,_⟩:=short t u ⟨by omega,by omega⟩ _ (dq) c1 c2;obtain⟨l2,I,C,E⟩:=h.all y A h.cm.z;obtain⟨rfl,rfl⟩:=iz h.cm.nd z C;rw[Int.zero_add]at c4;rw[c3,c4]at B;unfold Le at*;simp only at E;omega
theorem jo.on{fs:List Int}(h:jo m ws fs es)(z:(p,l,o)∈es):(o=(bdq,0)/\p=0/\l=0)\/∃(s:az)(v:Wy)(t:Nat)(e:Option az×Int),o=(al s,e.2+hsp v s.2)/\l=t+1/\ws[s.1]?=al v/\too v s.2=p/\kE ws fs (frm v s.2) s=bx/\(frm v s.2,t,e)∈es:=by
 rcases h.cm.stp p l o z with⟨h1,u,rfl⟩|⟨s,v,t,e,h1,y,rfl,A,B,E⟩
 . obtain⟨rfl,_⟩:p=0/\o.2=0:=by have:=dV.mp u;exact⟨congrArg Prod.fst this,congrArg Prod.snd this⟩
   exact .inl ⟨(iz h.cm.nd z h.cm.z).2,rfl,rfl⟩
 . obtain⟨l2,G,C,H⟩:=h.cl t e s v y B A;obtain⟨rfl,rfl⟩:=iz h.cm.nd z C;refine .inr ⟨s,v,t,e,?_,?_,y,rfl,A,B⟩;.exact Prod.ext_iff.mpr ⟨h1,by show _=e.2+hsp v s.2;unfold Le at*;omega⟩
   .unfold Le at*;omega
structure RB(ws:List Wy)(fs:List Int)(es:List En)(p:Int)(L:Nat)(H:Int)(a:Int)(l:Nat)(h:Int)(c:List az):Prop where
 Mp:iy ws p c a
 jE:tH ws fs c
 nd:(c.map (·.1)).Nodup
 lv:∀s∈c,∀v,ws[s.1]?=al v->∃l1 o1 o2,(frm v s.2,l1,o1)∈es/\(too v s.2,l1+1,o2)∈es/\l<=l1
 len:c.length+l=L
 hrs:bV ws c+h=H
theorem kI{g:Bool}(h:g≠f):frm v g=too v f/\too v g=frm v f:=by cases f<;>cases g<;>first|exact absurd rfl h|exact⟨rfl,rfl⟩
theorem RB.cons{m:Int}{ws:List Wy}{fs:List Int}{es:List En}{p:Int}{L l:Nat}{H x:Int}{c:List az}{s:az}{v:Wy}{o I:Option az×Int}(hc:Cme m ws fs es)(h:RB ws fs es p L H (too v s.2) (l+1) (x+hsp v s.2) c)(e:ws[s.1]?=al v)(h1:(too v s.2,l+1,o)∈es)(B:(frm v s.2,l,I)∈es)(ho:kE ws fs (frm v s.2) s=bx):RB ws fs es p L H (frm v s.2) l x (s::c):=by
 refine⟨⟨v,e,rfl,h.Mp⟩,λu hu=>?_,?_,λu hu x ex=>?_,by have:=h.len;simp only[dL];omega,by have:=h.hrs;rw[bV,iC e];omega⟩
 . rcases cS.mp hu with rfl|hu;.exact⟨v,e,ho⟩
   .exact h.jE u hu
 . rw[dc,eI];refine⟨λJ=>?_,h.nd⟩;obtain⟨t,ht,M⟩:=cK.mp J;obtain⟨C,E,G,y,A,O⟩:=h.lv t ht v (by rw[M];exact e);by_cases z:t.2=s.2;.rw[z]at y;have:=(iz hc.nd y B).1;omega
   .rw[(kI z).2]at A;have:=(iz hc.nd A B).1;omega
 . rcases cS.mp hu with rfl|hu;.rw[e]at ex;cases ex;exact⟨l,_,_,B,h1,dq⟩
   .obtain⟨C,E,G,y,A,O⟩:=h.lv u hu x ex;exact⟨C,E,G,y,A,by omega⟩
theorem yo(e:(es.map (·.1)).Nodup)(h:(p,x)∈es):lJ ((es.map (·.1)).zip (es.map Bm)) p=al (Bm (p,x)):=by
 have:(es.map (·.1)).zip (es.map Bm)=es.map en:=by rw[List.zip_map'];rfl
 rw[this];exact pN e h
inductive JSt(m:Int)(ws:List Wy)(fs:List Int)(es:List En)(p:Int)(L:Nat)(H:Int)(a0 a1 a2:Sl)(M:Nat)(ρ:List Sl):Prop where|mk(a:Int)(l:Nat)(o:Option az×Int)(c:List az)(s5:Sl)(q0:ρ=[a0,a1,a2,.own a7 (c.reverse.map sD),.val a7 (.int a),s5])(q1:fr s5=bx)(q2:(a,l,o)∈es)(q3:RB ws fs es p L H a l o.2 c)(q4:l<=M)
theorem GJ{L:Nat}{fs:List Int}(G:100<=w)(h:jo m ws fs es)(H:L<=5)(B:(p,L,o)∈es)(k:∀c,RB ws fs es p L o.2 0 0 0 c->Q (.val (.tup (c.map sD))) [.val a7 (aP m ws),.val a7 (jH es),.val a7 (.int p)]):(run Γ w (n+2) 6 [.val a7 (aP m ws),.val a7 (jH es),.val a7 (.int p)]).sat Q:=by
 refine aL (d:=f6) rfl rfl (by decide) ?_;symm;simp[f6];apply ak;simp;apply ak;simp;refine j5 (JSt m ws fs es p L o.2 _ _ _) ?_ (k:=w) (m:=L) (by omega) ⟨p,L,o,[],.aN,rfl,rfl,B,⟨rfl,λs hs=>(by cases hs),by simp,by simp,by simp,by rw[bV];omega⟩,dq⟩;rintro M _⟨a,l,I,c,s5,rfl,C,t,hc,J⟩;have u:=yo h.cm.nd t;rcases h.on t with⟨rfl,rfl,rfl⟩|⟨s,v,z,E,rfl,rfl,e,rfl,ho,A⟩;.simp[jH,u,Bm,oS];symm;simp;exact k c hc
 . simp[jH,u,Bm,oS,sD,fO];symm;simp[u,Bm,oS,C];apply ak;have y:c.length<16777216:=by have:=hc.len;omega
   simp[y];apply ak;simp[sD];refine lR e ?_;simp;exact⟨z,by omega,frm v s.2,z,E,s::c,.val a7 (fO s.1 s.2),by simp[jH,sD],rfl,A,hc.cons h.cm e t A ho,dq⟩
noncomputable def sg(x:Int)(f:Bool):Int:=if f then x else-x
noncomputable def jJ(x:Int)(fs:List Int)(s:az):List Int:=fs.set s.1 ((fs[s.1]?.getD 0)+sg x s.2)
noncomputable def aug(x:Int)(fs:List Int)(c:List az):List Int:=c.foldl (jJ x) fs
@[simp]theorem xH{x:Int}{fs:List Int}{s:az}:(jJ x fs s).length=fs.length:=by simp[jJ]
theorem lX{x:Int}:∀{c:List az}{fs:List Int},(aug x fs c).length=fs.length|[],_=>rfl|s::c,fs=>by show(aug x (jJ x fs s) c).length=_;rw[lX,xH]
theorem mY{x:Int}{j:Nat}:∀{c:List az}{fs:List Int},j∉c.map (·.1)->(aug x fs c)[j]?=fs[j]?|[],_,_=>rfl|s::c,fs,h=>by rw[dc,cS,not_or]at h;show(aug x (jJ x fs s) c)[j]?=_;rw[mY h.2];unfold jJ;rw[ez (λz=>h.1 z.symm)]
theorem wA{x:Int}:∀{c:List az}{fs:List Int}{s:az}{g:Int},(c.map (·.1)).Nodup->s∈c->fs[s.1]?=al g->(aug x fs c)[s.1]?=al (g+sg x s.2)
 |[],_,_,_,_,h,_=>by cases h|t::c,fs,s,g,u,h,e=>by
   rw[dc,eI]at u;show(aug x (jJ x fs t) c)[s.1]?=_;have y:=(dX e).1;rcases cS.mp h with rfl|h;.rw[mY u.1];unfold jJ;rw[cp y,e];rfl
   .refine wA u.2 h ?_;unfold jJ;rw[ez (λz=>u.1 (by rw[z];exact cK.mpr ⟨s,h,rfl⟩))];exact e
inductive JWt(x:Int)(fs:List Int)(c:List az)(a0 a1 a2:Sl)(r:List D)(ρ:List Sl):Prop where|mk(bz us:List az)(s4 s5:Sl)(q0:ρ=[a0,a1,a2,.own a7 ((aug x fs bz).map D.int),s4,s5])(q1:fr s4=bx)(q2:fr s5=bx)(q3:r=us.map sD)(q4:bz++us=c)
theorem xZ{s:Sl}{x:Int}{fs:List Int}(hs:QW s fs)(hc:∀s∈c,s.1<fs.length)(k:Q (.own ((aug x fs c).map D.int)) [s,.val a7 (.tup (c.map sD)),.val a7 (.int x)]):(run Γ w (n+1) 7 [s,.val a7 (.tup (c.map sD)),.val a7 (.int x)]).sat Q:=by
 refine aL (d:=f7) rfl rfl (by decide) ?_;refine dN (λρ=>ρ=[s,.val a7 (.tup (c.map sD)),.val a7 (.int x),.own a7 (fs.map D.int),.aN,.aN]) ?_ ?_;.rcases hs with rfl|⟨b,rfl⟩;all_goals simp[f7]
 rintro _ rfl;symm;simp;refine bW (JWt x fs c _ _ _) ?_ ?_ ⟨[],c,.aN,.aN,rfl,rfl,rfl,rfl,rfl⟩;.rintro d r _⟨e,h,s4,s5,rfl,z,A,hr,hd⟩;cases h with|nil=>cases hr|cons u h=>
     obtain⟨rfl,rfl⟩:d=sD u/\r=h.map sD:=by simpa using hr
     have C:u.1<(aug x fs e).length:=by rw[lX];exact hc u (by rw[<-hd];simp)
     have y:(aug x fs e)[u.1]?=al (aug x fs e)[u.1]:=by simp[C]
     have B:iI (aug x fs e).length (u.1:Int)=al u.1:=by unfold iI;rw[if_pos (by omega),if_pos (by omega)];simp
     have he:aug x fs (e++[u])=(aug x fs e).set u.1 ((aug x fs e)[u.1]+sg x u.2):=by unfold aug;rw[List.foldl_append];show jJ x (aug x fs e) u=_;unfold jJ;rw[y];rfl
     have t:(e++[u])++h=c:=by rw[eP];exact hd
     generalize(aug x fs e)[u.1]=g at*;simp[sD,fO,z,A];apply ak;obtain⟨j,f⟩:=u;cases f with|true=>simp[gO y,B];exact⟨e++[(j,bx)],h,_,_,by rw[he,q_];rfl,rfl,rfl,rfl,t⟩|false=>simp[gO y,B];exact⟨e++[(j,a7)],h,_,_,by rw[he,q_];rfl,rfl,rfl,rfl,t⟩
 . rintro _⟨e,h,s4,s5,rfl,z,A,hr,hd⟩;have:h=[]:=by cases h with|nil=>rfl|cons _ _=>cases hr
   subst this;rw[fo]at hd;subst hd;simp;apply ak;simp;exact k
noncomputable def GZ(F:Int->Int)(D:Int):List En->Int->Int|[],p=>F p+D|e::es,p=>if e.1=p then e.2.2.2 else GZ F D es p
theorem gb{F:Int->Int}{D p:Int}{l:Nat}{o:Option az×Int}:∀{es:List En},(es.map (·.1)).Nodup->(p,l,o)∈es->GZ F D es p=o.2
 |[],_,h=>by cases h|e::es,t,h=>by
   rw[dc,eI]at t;rw[GZ];rcases cS.mp h with rfl|h;.rw[if_pos rfl]
   .rw[if_neg (λz=>t.1 (by rw[z];exact cK.mpr ⟨_,h,rfl⟩))];exact gb t.2 h
theorem pL{F:Int->Int}{D p:Int}:∀{es:List En},(¬ ∃l o,(p,l,o)∈es)->GZ F D es p=F p+D|[],_=>rfl|e::es,h=>by rw[GZ,if_neg (λz=>h ⟨e.2.1,e.2.2,by rw[<-z];simp⟩)];exact pL λ⟨l,o,z⟩=>h ⟨l,o,dA _ z⟩
theorem De(F:Int->Int):∀(es:List En),∃D,∀p l o,(p,l,o)∈es->o.2<=F p+D
 |[]=>⟨0,λ_ _ _ h=>by cases h⟩|e::es=>by
   obtain⟨D,h⟩:=De F es;refine⟨max D (e.2.2.2-F e.1),λp l o z=>?_⟩;rcases cS.mp z with rfl|z;.simp only;omega
   .have:=h p l o z;omega
theorem jo.pt{fs:List Int}{D:Int}(h:jo m ws fs es)(t:Pt ws fs F)(u:∀p l o,(p,l,o)∈es->o.2<=F p+D):Pt ws fs (GZ F D es):=λs v e ho=>by
 by_cases c:∃l o,(frm v s.2,l,o)∈es;.obtain⟨l,o,c⟩:=c;obtain⟨l2,y,c2,c3⟩:=h.cl l o s v e c ho;rw[gb h.cm.nd c,gb h.cm.nd c2];unfold Le at c3;omega
 . rw[pL c];have h1:=t s v e ho;by_cases c2:∃l o,(too v s.2,l,o)∈es;.obtain⟨l2,y,c2⟩:=c2;rw[gb h.cm.nd c2];have:=u _ _ _ c2;omega
   .rw[pL c2];omega
theorem Lk{fs:List Int}{G:Int->Int}(d:Int)(h:Pt ws fs F)(t:Pt ws fs G):Pt ws fs (λp=>min (F p) (G p+d)):=λs v e ho=>by have h1:=h s v e ho;have u:=t s v e ho;simp only;omega
theorem uH{ws:List Wy}{fs:List Int}{F:Int->Int}(h:Pt ws fs F){b:Int}:∀{c:List az}{a:Int},iy ws b c a->tH ws fs c->F b=F a+bV ws c->∀s∈c,∀v,ws[s.1]?=al v->F (too v s.2)=F (frm v s.2)+hsp v s.2
 |[],_,_,_,_,s,hs,_,_=>by cases hs|s::c,a,⟨v,e,y,z⟩,ho,he,u,hu,x,ex=>by
   have t:tH ws fs c:=λu hu=>ho u (dA _ hu);have h1:=lL h z t;obtain⟨C,A,o⟩:=ho s (by simp);rw[e]at A;cases A;have B:=h s v e o;rw[y]at B;rw[bV,iC e]at he;rcases cS.mp hu with rfl|hu;.rw[e]at ex;cases ex;rw[y];omega
   .exact uH h z t (by omega) u hu x ex
theorem qi{fs:List Int}{x:Int}{t:az}(hc:tH ws fs c)(e:ws[t.1]?=al v)(h:kE ws (aug x fs c) (frm v t.2) t=bx):kE ws fs (frm v t.2) t=bx\/∃s∈c,s.1=t.1/\t.2≠s.2:=by
 by_cases z:t.1∈c.map (·.1)
 . obtain⟨s,hs,es⟩:=cK.mp z;by_cases q:t.2=s.2;.have:t=s:=Prod.ext_iff.mpr ⟨es.symm,q⟩;subst this;obtain⟨y,u,o⟩:=hc t hs;rw[e]at u;cases u;exact .inl o
   .exact .inr ⟨s,hs,es,q⟩
 .refine .inl ?_;unfold kE at h ⊢;rwa[mY z]at h
theorem Pt.aug{ws:List Wy}{fs:List Int}{F:Int->Int}(h:Pt ws fs F){a b x:Int}{c:List az}(y:iy ws b c a)(ho:tH ws fs c)(he:F b=F a+bV ws c):Pt ws (aug x fs c) F:=λt v e o=>by
 rcases qi ho e o with o|⟨u,z,A,ne⟩;.exact h t v e o
 . have:=uH h y ho he u z v (by rw[A];exact e);rw[(kI ne).1,(kI ne).2];have:hsp v t.2=-hsp v u.2:=by cases h1:t.2<;>cases h2:u.2<;>simp[hsp]<;>(rw[h1,h2]at ne;exact absurd rfl ne)
   omega
noncomputable def dm(G:Wy->Int):List Wy->List Int->Int|v::ws,g::fs=>G v*g+dm G ws fs|_,_=>0
noncomputable def sy(H:Wy->Int):List Wy->Int|[]=>0|v::ws=>H v+sy H ws
theorem wy{G H:Wy->Int}:∀{ws:List Wy}{fs:List Int},fs.length=ws.length->(∀(j:Nat)v g,ws[j]?=al v->fs[j]?=al g->G v*g<=H v)->dm G ws fs<=sy H ws|[],[],_,_=>eT _|[],_::_,h,_=>by simp at h|_::_,[],h,_=>by simp at h|v::ws,g::fs,h,k=>by have h1:=k 0 v g rfl rfl;have u:=wy (G:=G) (H:=H) (ws:=ws) (fs:=fs) (by simpa using h) λj v g e t=>k (j+1) v g (by simpa using e) (by simpa using t);rw[dm,sy];omega
theorem vp{G H:Wy->Int}:∀{ws:List Wy}{fs:List Int},fs.length=ws.length->(∀(j:Nat)v g,ws[j]?=al v->fs[j]?=al g->H v<=G v*g)->sy H ws<=dm G ws fs|[],[],_,_=>eT _|[],_::_,h,_=>by simp at h|_::_,[],h,_=>by simp at h|v::ws,g::fs,h,k=>by have h1:=k 0 v g rfl rfl;have u:=vp (G:=G) (H:=H) (ws:=ws) (fs:=fs) (by simpa using h) λj v g e t=>k (j+1) v g (by simpa using e) (by simpa using t);rw[dm,sy];omega
theorem Cd{G:Wy->Int}{v:Wy}{g y:Int}:∀{j:Nat}{ws:List Wy}{fs:List Int},ws[j]?=al v->fs[j]?=al g->dm G ws (fs.set j (g+y))=dm G ws fs+G v*y|_,[],_,e,_=>by simp at e|_,_::_,[],_,e=>by simp at e|0,u::ws,f::fs,h,t=>by simp at h t;subst h t;rw[List.set_cons_zero,dm,dm,n5];omega|j+1,u::ws,f::fs,h,t=>by rw[List.set_cons_succ,dm,dm,Cd (j:=j) (by simpa using h) (by simpa using t)];omega
noncomputable def gap(k:Int)(q:Int->Int)(v:Wy):Int:=q v.t-q v.s-k*v.h
theorem Kd{x:Int}:gap k q v*sg x f=x*(q (too v f)-q (frm v f)-k*hsp v f):=by cases f with|true=>show(q v.t-q v.s-k*v.h)*x=x*(q v.t-q v.s-k*v.h);exact hY _ _|false=>show(q v.t-q v.s-k*v.h)*(-x)=x*(q v.s-q v.t-k*(-v.h));rw[qS,qS k,show q v.s-q v.t- -(k*v.h)=-(q v.t-q v.s-k*v.h)by omega,qS,hY]
theorem pX{k x:Int}{q:Int->Int}{ws:List Wy}{b:Int}:∀{c:List az}{fs:List Int}{a:Int},fs.length=ws.length->iy ws b c a->dm (gap k q) ws (aug x fs c)=dm (gap k q) ws fs+x*(q b-q a-k*bV ws c)
 |[],fs,a,_,h=>by have:a=b:=h;subst this;show _=_+x*(q a-q a-k*0);simp;rfl|s::c,fs,a,u,⟨v,e,z,A⟩=>by
   show dm (gap k q) ws (aug x (jJ x fs s) c)=_;have t:s.1<fs.length:=by rw[u];exact(dX e).1
   have y:fs[s.1]?=al fs[s.1]:=by simp[t]
   rw[pX (by rw[xH];exact u) A];have:jJ x fs s=fs.set s.1 (fs[s.1]+sg x s.2):=by unfold jJ;rw[y];rfl
   rw[this,Cd e y,Kd,z,Int.add_assoc,<-n5,bV,iC e,n5 k];congr 2;omega
structure Ko(ws:List Wy)(fs:List Int):Prop where
 len:fs.length=ws.length
 ok:∀(j:Nat)v g,ws[j]?=al v->fs[j]?=al g->0<=g/\g<=v.r
theorem Ko.aug{ws:List Wy}{fs:List Int}{c:List az}{x:Int}(h:Ko ws fs)(B:(c.map (·.1)).Nodup)(C:0<x)(hc:∀s∈c,∃v g,ws[s.1]?=al v/\fs[s.1]?=al g/\x<=oR v g s.2):Ko ws (aug x fs c):=by
 refine⟨by rw[lX];exact h.len,λj v g t e=>?_⟩;by_cases z:j∈c.map (·.1);.obtain⟨s,hs,rfl⟩:=cK.mp z;obtain⟨E,g',u,y,A⟩:=hc s hs;rw[t]at u;cases u;rw[wA B hs y]at e;cases e;have:=h.ok _ _ _ t y;cases hf:s.2<;>rw[hf]at A<;>simp[oR,sg]at A ⊢<;>omega
 .rw[mY z]at e;exact h.ok _ _ _ t e
noncomputable def JX(q:Int->Int)(v:Wy):Int:=v.r*max 0 (q v.t-q v.s-v.h)
noncomputable def M8(q:Int->Int)(ws:List Wy):Int:=sy (JX q) ws
theorem aaj:gap 1 q v=q v.t-q v.s-v.h:=by unfold gap;omega
theorem vz{fs:List Int}(h:Ko ws fs):dm (gap 1 q) ws fs<=M8 q ws:=wy h.len λj v g e u=>by
 have:=h.ok _ _ _ e u;rw[aaj];unfold JX;generalize q v.t-q v.s-v.h=y;by_cases c:0<=y;.rw[Int.max_eq_right c,hY];exact iS this.2 c
 .rw[Int.max_eq_left (by omega),mM];exact Int.mul_nonpos_of_nonpos_of_nonneg (by omega) this.1
theorem OJ{fs:List Int}(h:Ko ws fs)(A:Pt ws fs q):M8 q ws=dm (gap 1 q) ws fs:=by
 refine Int.le_antisymm (vp h.len λj v g e u=>?_) (vz h);have E:=h.ok _ _ _ e u;have C:0<v.r-g->q v.t<=q v.s+v.h:=λz=>A (j,bx) v e (by rw[jj (s:=(j,bx)) e u];simp[frm,oR];omega);have B:0<g->q v.s<=q v.t+-v.h:=λz=>A (j,a7) v e (by rw[jj (s:=(j,a7)) e u];simp[frm,oR];omega);rw[aaj];unfold JX;generalize G:q v.t-q v.s-v.h=y;by_cases c:g=v.r
 . subst c;by_cases c0:0<v.r;.have:=B c0;rw[Int.max_eq_right (by omega),hY];exact eT _
   . have:v.r=0:=by omega
     rw[this];simp
 . have:=C (by omega);rw[Int.max_eq_left (by omega),mM];by_cases c0:0<g;.have:=B c0;rw[show y=0 by omega];simp
   .rw[show g=0 by omega];simp
noncomputable def mL(fs:List Int)(x:List az×Int):List Int:=aug x.2 fs x.1
noncomputable def flow(N:Nat)(cs:List (List az×Int)):List Int:=cs.foldl mL (cq N 0)
theorem qU{x:List az×Int}:flow N (cs++[x])=aug x.2 (flow N cs) x.1:=by unfold flow;rw[List.foldl_append];rfl
noncomputable def bY(H:List az×Int->Int):List (List az×Int)->Int|[]=>0|x::cs=>H x+bY H cs
theorem jV{H:List az×Int->Int}{x:List az×Int}:∀{cs:List (List az×Int)},bY H (cs++[x])=bY H cs+H x|[]=>by simp[bY]|y::cs=>by rw[kD,bY,bY,jV];omega
theorem mz{H K:List az×Int->Int}:∀{cs:List (List az×Int)},(∀x∈cs,H x=K x)->bY H cs=bY K cs|[],_=>rfl|x::cs,h=>by rw[bY,bY,h x (by simp),mz λy e=>h y (by simp[e])]
theorem Ii{H:List az×Int->Int}:∀{cs:List (List az×Int)},(∀x∈cs,1<=H x)->(cs.length:Int)<=bY H cs|[],_=>by simp[bY]|x::cs,h=>by have h1:=h x (by simp);have t:=Ii (H:=H) (cs:=cs) λy e=>h y (by simp[e]);rw[bY,dL];omega
noncomputable def Zw(ws:List Wy)(T:Int)(x:List az×Int):Int:=if bV ws x.1<=T then x.2*(T-bV ws x.1+1)else 0
noncomputable def val(ws:List Wy)(T:Int)(cs:List (List az×Int)):Int:=bY (Zw ws T) cs
structure oM(m:Int)(ws:List Wy)(T v:Int):Prop where
 ex:∃q:Int->Int,q 0=0/\q (m-1)=T+1/\M8 q ws=v
 le:∀q:Int->Int,q 0=0->q (m-1)=T+1->v<=M8 q ws
theorem ye{T:Int}{fs:List Int}{G:Int->Int}(fit:Ko ws fs)(dt:∀k q,dm (gap k q) ws fs=bY (λx=>x.2*(q (m-1)-q 0-k*bV ws x.1)) cs)(z:∀x∈cs,bV ws x.1<=T+1)(A:Pt ws fs G)(t:G 0=0)(u:G (m-1)=T+1):oM m ws T (val ws T cs):=by
 have y:∀q:Int->Int,q 0=0->q (m-1)=T+1->dm (gap 1 q) ws fs=val ws T cs:=λq e h=>by
  rw[dt,e,h];refine mz λx B=>?_;have:=z x B;unfold Zw;split;.congr 1;omega
  .rw[show T+1-0-1*bV ws x.1=0 by omega,mM]
 exact⟨⟨G,t,u,by rw[OJ fit A,y G t u]⟩,λq e h=>by rw[<-y q e h];exact vz fit⟩
structure zr(m:Int)(ws:List Wy)(cs:List (List az×Int))(fs:List Int)(F:Int->Int)(d:Int):Prop where
 fit:Ko ws fs
 pt:Pt ws fs F
 z:F 0=0
 e:F (m-1)=d
 d0:0<=d
 nn:(∀v∈ws,1<=v.h)->1<=d/\∀x∈cs,1<=bV ws x.1
 ch:∀x∈cs,bV ws x.1<=d/\0<x.2/\∀s∈x.1,s.1<ws.length
 dt:∀k q,dm (gap k q) ws fs=bY (λx=>x.2*(q (m-1)-q 0-k*bV ws x.1)) cs
 lst:∀T,0<=T->T+1<=d->oM m ws T (val ws T cs)
theorem qz{G:Wy->Int}:∀{ws:List Wy}{n:Nat},dm G ws (cq n 0)=0|[],n=>by unfold dm;rfl|v::ws,0=>rfl|v::ws,n+1=>by rw[g9,dm,qz];simp
theorem wI(h:(cq n (0:Int))[j]?=al g):g=0:=(List.mem_replicate.mp (du h)).2
noncomputable def F01(b p:Int):Int:=if p=0 then 0 else b
theorem zr.zero(m0:2<=m)(A:∀v∈ws,0<=v.h)(hr:∀v∈ws,0<=v.r):∃b,zr m ws [] (cq ws.length 0) (F01 b) b:=by
 have fit:Ko ws (cq ws.length 0):=⟨by simp,λj v g t u=>by rw[wI u];exact⟨eT _,hr v (du t)⟩⟩;have pt:∀b:Int,0<=b->(∀v∈ws,b<=v.h)->Pt ws (cq ws.length 0) (F01 b):=λb b0 B s v e ho=>by obtain⟨E,g,t,u,_,y⟩:=rQ ho;rw[e]at t;cases t;have:=wI u;subst this;have:=B v (du e);cases hf:s.2<;>rw[hf]at y<;>simp[oR,hsp,F01]at y ⊢;split<;>split<;>omega
 have dt:∀k q,dm (gap k q) ws (cq ws.length 0)=bY (λx=>x.2*(q (m-1)-q 0-k*bV ws x.1)) []:=λk q=>by rw[qz];rfl
 have t:∀b,F01 b (m-1)=b:=λb=>by unfold F01;rw[if_neg (by omega)]
 by_cases c:∀v∈ws,1<=v.h;.exact⟨1,fit,pt 1 (by omega) c,rfl,t 1,by omega,λ_=>⟨eT _,by simp⟩,by simp,dt,λT h1 C=>ye fit dt (by simp) (pt 1 (by omega) c) rfl (by rw[t];omega)⟩
 .exact⟨0,fit,pt 0 (by omega) A,rfl,t 0,by omega,λz=>absurd z c,by simp,dt,λT h1 C=>by omega⟩
theorem zr.at{d T:Int}{fs:List Int}{G:Int->Int}(h:zr m ws cs fs F d)(e:d<=T+1)(t:Pt ws fs G)(u:G 0=0)(y:G (m-1)=T+1):oM m ws T (val ws T cs):=ye h.fit h.dt (λx z=>oI (h.ch x z).1 e) t u y
theorem zr.more{d:Int}{fs:List Int}{x:Int}(h:zr m ws cs fs F d)(t:jo m ws fs es)(u:(m-1,l,o)∈es)(hc:RB ws fs es (m-1) l o.2 0 0 0 c)(A:0<x)(hr:∀s∈c,∃v g,ws[s.1]?=al v/\fs[s.1]?=al g/\x<=oR v g s.2):∃G,zr m ws (cs++[(c,x)]) (aug x fs c) G o.2:=by
 obtain⟨D,H⟩:=De F es;have B:=t.pt h.pt H;have J:bV ws c=o.2:=by have:=hc.hrs;omega
 have C:GZ F D es 0=0:=gb t.cm.nd t.cm.z;have E:GZ F D es (m-1)=o.2:=gb t.cm.nd u;have hd:d<=o.2:=by have:=lL h.pt hc.Mp hc.jE;rw[h.e,h.z]at this;omega
 refine⟨GZ F D es,h.fit.aug hc.nd A hr,B.aug hc.Mp hc.jE (by rw[C,E];omega),C,E,by have:=h.d0;omega,λz=>⟨by have:=(h.nn z).1;omega,λy hy=>?_⟩,λy hy=>?_,λk q=>?_,λT h0 h1=>?_⟩
 . rcases eJ.mp hy with hy|hy;.exact(h.nn z).2 y hy
   .rw[dV.mp hy];show 1<=bV ws c;have:=(h.nn z).1;omega
 . rcases eJ.mp hy with hy|hy;.have:=h.ch y hy;exact⟨by omega,this.2⟩
   .rw[dV.mp hy];refine⟨by show bV ws c<=_;omega,A,λs hs=>?_⟩;obtain⟨v,g,e,_⟩:=hr s hs;exact(dX e).1
 .rw[pX h.fit.len hc.Mp,jV,h.dt]
 . have I:val ws T (cs++[(c,x)])=val ws T cs:=by unfold val;rw[jV];show _+(if bV ws c<=T then _ else 0)=_;rw[if_neg (by omega)];omega
   rw[I];by_cases q:T+1<=d;.exact h.lst T h0 q
   . refine h.at (by omega) (Lk (T+1-d) B h.pt) ?_ ?_;.have:=h.z;omega
     .have:=h.e;omega
theorem zr.least{d T:Int}{fs:List Int}(h:zr m ws cs fs F d)(t:jo m ws fs es)(u:¬ ∃l o,(m-1,l,o)∈es)(h0:0<=T):oM m ws T (val ws T cs):=by
 by_cases q:T+1<=d;.exact h.lst T h0 q
 . obtain⟨D,y⟩:=De F es;have A:=t.pt (D:=max D (T+1-d)) h.pt λp l o z=>by have:=y p l o z;omega
   have B:GZ F (max D (T+1-d)) es 0=0:=gb t.cm.nd t.cm.z;have C:GZ F (max D (T+1-d)) es (m-1)=F (m-1)+max D (T+1-d):=pL u;refine h.at (by omega) (Lk (T+1-d) A h.pt) ?_ ?_;.have:=h.z;omega
   .have:=h.e;omega
noncomputable def Hf(v:Wy)(f:Bool):Int:=7*hsp v f+1
noncomputable def Rz(ws:List Wy)(fs:List Int)(P:Int->Int):Prop:=∀(s:az)(v:Wy),ws[s.1]?=al v->kE ws fs (frm v s.2) s=bx->P (too v s.2)<=P (frm v s.2)+Hf v s.2
noncomputable def zq(ws:List Wy)(c:List az):Int:=7*bV ws c+c.length
theorem rZ(e:ws[s.1]?=al v):zq ws (s::c)=Hf v s.2+zq ws c:=by unfold zq Hf;rw[bV,iC e,dL];omega
theorem zZ{ws:List Wy}{fs:List Int}{P:Int->Int}(h:Rz ws fs P){b:Int}:∀{c:List az}{a:Int},iy ws b c a->tH ws fs c->P b<=P a+zq ws c|[],a,t,_=>by have:a=b:=t;rw[this];simp[zq,bV]|s::c,a,⟨v,e,z,t⟩,ho=>by have h1:=zZ h t λu A=>ho u (dA _ A);obtain⟨C,y,o⟩:=ho s (by simp);rw[e]at y;cases y;have B:=h s v e o;rw[z]at B;rw[rZ e];omega
theorem uJ{ws:List Wy}{fs:List Int}{P:Int->Int}(h:Rz ws fs P){b:Int}:∀{c:List az}{a:Int},iy ws b c a->tH ws fs c->P b=P a+zq ws c->∀s∈c,∀v,ws[s.1]?=al v->P (too v s.2)=P (frm v s.2)+Hf v s.2
 |[],_,_,_,_,s,hs,_,_=>by cases hs|s::c,a,⟨v,e,y,z⟩,ho,he,u,hu,x,ex=>by
   have t:tH ws fs c:=λu hu=>ho u (dA _ hu);have h1:=zZ h z t;obtain⟨C,A,o⟩:=ho s (by simp);rw[e]at A;cases A;have B:=h s v e o;rw[y]at B;rw[rZ e]at he;rcases cS.mp hu with rfl|hu;.rw[e]at ex;cases ex;rw[y];omega
   .exact uJ h z t (by omega) u hu x ex
noncomputable def tgt(ws:List Wy)(fs:List Int)(P:Int->Int)(s:az):Bool:=match ws[s.1]?with|some v=>kE ws fs (frm v s.2) s&&decide (P (too v s.2)=P (frm v s.2)+Hf v s.2)|none=>a7
theorem Kg{fs:List Int}{P:Int->Int}(e:ws[s.1]?=al v):tgt ws fs P s=(kE ws fs (frm v s.2) s&&decide (P (too v s.2)=P (frm v s.2)+Hf v s.2)):=by unfold tgt;rw[e]
noncomputable def Jh(ws:List Wy)(fs:List Int)(P:Int->Int):Nat:=((iw ws.length).filter (tgt ws fs P)).length
theorem Dt{fs:List Int}{P:Int->Int}(h:ws.length<=12):Jh ws fs P<=24:=by have:=oB (tgt ws fs P) (iw ws.length);rw[yg]at this;unfold Jh;omega
theorem Jk{p q:az->Bool}(h:∀t,q t=bx->p t=bx):∀(l:List az),(l.filter q).length<=(l.filter p).length|[]=>dq|t::l=>by have e:=Jk h l;cases hq:q t with|true=>simp[hq,h t hq,e]|false=>cases hp:p t with|true=>simp[hq,hp];omega|false=>simp[hq,hp,e]
theorem J8{p q:az->Bool}{s:az}(h:∀t,q t=bx->p t=bx)(e:p s=bx)(u:q s=a7):∀{l:List az},s∈l->(l.filter q).length<(l.filter p).length
 |[],hs=>by cases hs|t::l,hs=>by
   have le:=Jk h l;rcases cS.mp hs with rfl|hs;.simp[e,u];omega
   .have y:=J8 h e u hs;cases hq2:q t with|true=>simp[hq2,h t hq2,y]|false=>cases hp2:p t with|true=>simp[hq2,hp2];omega|false=>simp[hq2,hp2,y]
theorem Ke{fs:List Int}(h:(c.map (·.1)).Nodup)(hs:s∈c)(e:ws[s.1]?=al v)(t:fs[s.1]?=al g):kE ws (aug (oR v g s.2) fs c) p s=a7:=by
 rw[jj e (wA h hs t)];have:oR v (g+sg (oR v g s.2) s.2) s.2=0:=by cases s.2<;>simp[oR,sg]<;>omega
 rw[this];simp
theorem Rz.aug{ws:List Wy}{fs:List Int}{P:Int->Int}(h:Rz ws fs P){a b:Int}{c:List az}{s:az}{v:Wy}{g:Int}(E:iy ws b c a)(ho:tH ws fs c)(G:(c.map (·.1)).Nodup)(he:P b=P a+zq ws c)(hs:s∈c)(e:ws[s.1]?=al v)(H:fs[s.1]?=al g):Rz ws (aug (oR v g s.2) fs c) P/\Jh ws (aug (oR v g s.2) fs c) P<Jh ws fs P:=by
 have A:=uJ h E ho he;have back:∀(t u:az)(x:Wy),u∈c->u.1=t.1->t.2≠u.2->ws[t.1]?=al x->P (too x t.2)<P (frm x t.2)+Hf x t.2:=λt u x y z ne ex=>by
  have h1:=A u y x (by rw[z];exact ex);rw[(kI ne).1,(kI ne).2];have B:hsp x t.2=-hsp x u.2:=by cases h1:t.2<;>cases B:u.2<;>simp[hsp]<;>(rw[h1,B]at ne;exact absurd rfl ne)
  unfold Hf at*;omega
 refine⟨λt x ex o=>?_,?_⟩
 . rcases qi ho ex o with o|⟨u,y,z,ne⟩;.exact h t x ex o
   .have:=back t u x y z ne ex;omega
 . obtain⟨I,C,o⟩:=ho s hs;rw[e]at C;cases C;refine J8 (s:=s) (λt ht=>?_) (by rw[Kg e,o,A s hs v e];simp) (by rw[Kg e,Ke G hs e H];rfl) (yS (dX e).1);unfold tgt at ht ⊢;split at ht
   . rename_i x ex;simp only[ey,decide_eq_true_eq]at ht ⊢;refine⟨?_,ht.2⟩;rcases qi ho ex ht.1 with o|⟨u,y,z,ne⟩;.exact o
     .have:=back t u x y z ne ex;omega
   .cases ht
noncomputable abbrev Rq:=List (Option Bool)
noncomputable def lu:List Wy->Rq->Int|v::ws,al f::es=>Hf v f+lu ws es|_::ws,bdq::es=>lu ws es|_,_=>0
noncomputable def Gy(N:Nat):List az->Rq|[]=>cq N bdq|s::c=>(Gy N c).set s.1 (al s.2)
theorem wu{N:Nat}:∀{c:List az},(Gy N c).length=N|[]=>by simp[Gy]|s::c=>by rw[Gy,length_set,wu]
theorem Dw{N j:Nat}:∀{c:List az},j<N->j∉c.map (·.1)->(Gy N c)[j]?=al bdq|[],h,_=>by simp[Gy,h]|s::c,h,e=>by rw[dc,cS,not_or]at e;rw[Gy,ez (λz=>e.1 z.symm)];exact Dw h e.2
theorem yz{v:Wy}{f:Bool}:∀{j:Nat}{ws:List Wy}{es:Rq},ws[j]?=al v->es[j]?=al bdq->lu ws (es.set j (al f))=lu ws es+Hf v f|_,[],_,e,_=>by simp at e|_,_::_,[],_,e=>by simp at e|0,u::ws,x::es,h,t=>by simp at h t;subst h t;rw[List.set_cons_zero,lu,lu];omega|j+1,u::ws,x::es,h,t=>by have y:=yz (f:=f) (j:=j) (ws:=ws) (es:=es) (by simpa using h) (by simpa using t);rw[List.set_cons_succ];cases x with|none=>rw[lu,lu,y]|some g=>rw[lu,lu,y];omega
theorem uP:∀{ws:List Wy}{n:Nat},lu ws (cq n bdq)=0|[],n=>by unfold lu;rfl|v::ws,0=>rfl|v::ws,n+1=>by rw[g9,lu,uP]
theorem wj{ws:List Wy}{b:Int}:∀{c:List az}{a:Int},iy ws b c a->(c.map (·.1)).Nodup->lu ws (Gy ws.length c)=zq ws c|[],_,_,_=>by rw[Gy,uP];simp[zq,bV]|s::c,a,⟨v,e,_,t⟩,h=>by rw[dc,eI]at h;rw[Gy,yz e (Dw (dX e).1 h.1),wj t h.2,rZ e];omega
noncomputable def sZ:Nat->List Rq|0=>[[]]|n+1=>(sZ n).map (bdq::·)++((sZ n).map (al bx::·)++(sZ n).map (al a7::·))
theorem rA:∀{n:Nat},(sZ n).length=3^n|0=>rfl|n+1=>by rw[sZ,eB,eB,dQ,dQ,dQ,rA,Nat.pow_succ];omega
theorem qN:∀{e:Rq},e∈sZ e.length|[]=>by simp[sZ]|x::e=>by have h:=qN (e:=e);rw[dL,sZ,eJ,eJ];cases x with|none=>exact .inl (cK.mpr ⟨e,h,rfl⟩)|some f=>cases f with|true=>exact .inr (.inl (cK.mpr ⟨e,h,rfl⟩))|false=>exact .inr (.inr (cK.mpr ⟨e,h,rfl⟩))
structure Nt(m:Int)(ws:List Wy)(k:Nat)(fs:List Int)(P:Int->Int)(lam:Int)(seen:List Rq):Prop where
 pt:Rz ws fs P
 z:P 0=0
 e:P (m-1)=lam
 nd:seen.Nodup
 sl:∀e∈seen,e.length=ws.length/\lu ws e<=lam
 cnt:k+Jh ws fs P<=25*(seen.length+1)
theorem Nt.few{t:Int}{k:Nat}{fs:List Int}{P:Int->Int}{seen:List Rq}(h:Nt m ws k fs P t seen)(u:ws.length<=12):k<=13286050:=by
 have h1:=m5 (l2:=sZ ws.length) h.nd λe he=>by rw[<-(h.sl e he).1];exact qN
 rw[rA]at h1;have y:3^ws.length<=3^12:=iX (by decide) u;have z:(3:Nat)^12=531441:=by decide
 have:=h.cnt;omega
theorem Nt.zero(y:ws.length<=12)(z:∀v∈ws,0<=v.h):Nt m ws 0 (cq ws.length 0) (λ_=>0) 0 []:=by refine⟨λs v e ho=>?_,rfl,rfl,.nil,by simp,by have:=Dt (fs:=cq ws.length 0) (P:=λ_=>0) y;simp;omega⟩;obtain⟨B,g,t,A,_,u⟩:=rQ ho;rw[e]at t;cases t;have:=wI A;subst this;have:=z v (du e);cases hf:s.2<;>rw[hf]at u<;>simp[oR,Hf,hsp]at u ⊢;omega
noncomputable def Mz(F:Int->Int)(D:Int):List En->Int->Int|[],p=>F p+D|e::es,p=>if e.1=p then 7*e.2.2.2+(e.2.1:Int)else Mz F D es p
theorem nU{F:Int->Int}{D p:Int}{l:Nat}{o:Option az×Int}:∀{es:List En},(es.map (·.1)).Nodup->(p,l,o)∈es->Mz F D es p=7*o.2+l
 |[],_,h=>by cases h|e::es,t,h=>by
   rw[dc,eI]at t;rw[Mz];rcases cS.mp h with rfl|h;.rw[if_pos rfl]
   .rw[if_neg (λz=>t.1 (by rw[z];exact cK.mpr ⟨_,h,rfl⟩))];exact nU t.2 h
theorem v7{F:Int->Int}{D p:Int}:∀{es:List En},(¬ ∃l o,(p,l,o)∈es)->Mz F D es p=F p+D|[],_=>rfl|e::es,h=>by rw[Mz,if_neg (λz=>h ⟨e.2.1,e.2.2,by rw[<-z];simp⟩)];exact v7 λ⟨l,o,z⟩=>h ⟨l,o,dA _ z⟩
theorem Kq(F:Int->Int):∀(es:List En),∃D,∀p l o,(p,l,o)∈es->7*o.2+(l:Int)<=F p+D
 |[]=>⟨0,λ_ _ _ h=>by cases h⟩|e::es=>by
   obtain⟨D,h⟩:=Kq F es;refine⟨max D (7*e.2.2.2+(e.2.1:Int)-F e.1),λp l o z=>?_⟩;rcases cS.mp z with rfl|z;.simp only;omega
   .have:=h p l o z;omega
theorem jo.pts{fs:List Int}{P:Int->Int}{D:Int}(h:jo m ws fs es)(t:HN m ws)(u:Pt ws fs F)(y:Rz ws fs P)(z:∀p l o,(p,l,o)∈es->7*o.2+(l:Int)<=P p+D):Rz ws fs (Mz P D es):=λs v e ho=>by
 by_cases c:∃l o,(frm v s.2,l,o)∈es;.obtain⟨l,o,c⟩:=c;obtain⟨l2,A,c2,c3⟩:=h.cl l o s v e c ho;rw[nU h.cm.nd c,nU h.cm.nd c2];have:=h.l5 t u c2;unfold Le at c3;unfold Hf;omega
 . rw[v7 c];have h1:=y s v e ho;by_cases c2:∃l o,(too v s.2,l,o)∈es;.obtain⟨l2,A,c2⟩:=c2;rw[nU h.cm.nd c2];have:=z _ _ _ c2;omega
   .rw[v7 c2];omega
theorem Nt.more{t:Int}{k:Nat}{fs:List Int}{P:Int->Int}{seen:List Rq}(h:Nt m ws k fs P t seen)(B:HN m ws)(I:Pt ws fs F)(u:jo m ws fs es)(y:(m-1,l,o)∈es)(hc:RB ws fs es (m-1) l o.2 0 0 0 c)(hs:s∈c)(e:ws[s.1]?=al v)(C:fs[s.1]?=al g):∃J L M,Nt m ws (k+1) (aug (oR v g s.2) fs c) J L M:=by
 have O:bV ws c=o.2:=by have:=hc.hrs;omega
 have U:c.length=l:=by have:=hc.len;omega
 have W:zq ws c=7*o.2+l:=by unfold zq;rw[O,U]
 have X:t<=zq ws c:=by have:=zZ h.pt hc.Mp hc.jE;rw[h.e,h.z]at this;omega
 by_cases q:t=zq ws c;.have A:=h.pt.aug hc.Mp hc.jE hc.nd (by rw[h.e,h.z];omega) hs e C;exact⟨P,t,seen,A.1,h.z,h.e,h.nd,h.sl,by have:=h.cnt;omega⟩
 . obtain⟨D,Y⟩:=Kq P es;have Z:=u.pts B I h.pt Y;have E:Mz P D es 0=0:=by rw[nU u.cm.nd u.cm.z];rfl
   have G:Mz P D es (m-1)=zq ws c:=by rw[nU u.cm.nd y,W]
   have A:=Z.aug hc.Mp hc.jE hc.nd (by rw[E,G];omega) hs e C;have H:=wj hc.Mp hc.nd;refine⟨Mz P D es,zq ws c,seen++[Gy ws.length c],A.1,E,G,?_,λx hx=>?_,?_⟩;.rw[kT];refine⟨h.nd,by simp,λa ha b hb ab=>?_⟩;have:=(h.sl a ha).2;rw[ab,dV.mp hb,H]at this;omega
   . rcases eJ.mp hx with hx|hx;.have:=h.sl x hx;exact⟨this.1,by omega⟩
     .rw[dV.mp hx];exact⟨wu,by rw[H];exact eT _⟩
   .have h1:=Dt (fs:=fs) (P:=Mz P D es) B.len;have h2:=h.cnt;rw[eB,oy];omega
noncomputable def cD(x:List az×Int):D:=.tup [.tup (x.1.map sD),.int x.2]
theorem Hv{ns:List Int}(h:ns≠[]):∃i,ns.min?=al i/\i∈ns/\∀j∈ns,i<=j:=by cases e:ns.min? with|none=>rw[List.min?_eq_none_iff]at e;exact absurd e h|some i=>have:=ox.mp e;exact⟨i,rfl,this.1,this.2⟩
noncomputable def ZP:D->az|.tup [.int j,.bl f]=>(j.toNat,f)|_=>(0,bx)
@[simp]theorem Kf{s:az}:ZP (sD s)=s:=rfl
noncomputable def Q5(ws:List Wy)(fs:List Int)(s:az):Int:=match ws[s.1]?,fs[s.1]?with|some v,al g=>oR v g s.2|_,_=>0
noncomputable def rmD(ws:List Wy)(fs:List Int)(d:D):D:=.int (Q5 ws fs (ZP d))
@[simp]theorem aa4{es:List En}{p:Int}:xV a7 (.int p) (jH es)=al (.val (.bl (pF (es.map en) p))):=by show al (R.val (.bl ((es.map (·.1)).contains p)))=al (R.val (.bl ((FZ (es.map en)).contains p)));rw[Am]
noncomputable def Chk(m:Int)(ws:List Wy)(x:List az×Int):Prop:=x.1.length<=5/\(∀s∈x.1,s.1<ws.length)/\iy ws (m-1) x.1 0/\(x.1.map (·.1)).Nodup
structure Stg(m:Int)(ws:List Wy)(bz:List (List az×Int))(x:List az×Int):Prop where
 iv:∃F d,zr m ws bz (flow ws.length bz) F d
 ht:∃F,Pt ws (flow ws.length bz) F/\F 0=0/\F (m-1)=bV ws x.1
 op:tH ws (flow ws.length bz) x.1
 rm:∀s∈x.1,∃v g,ws[s.1]?=al v/\(flow ws.length bz)[s.1]?=al g/\x.2<=oR v g s.2
theorem zr.ht{d:Int}{fs:List Int}(h:zr m ws cs fs F d)(t:jo m ws fs es)(u:(m-1,l,o)∈es)(hc:RB ws fs es (m-1) l o.2 0 0 0 c):(∃F,Pt ws fs F/\F 0=0/\F (m-1)=bV ws c)/\d<=bV ws c:=by
 obtain⟨D,y⟩:=De F es;have A:bV ws c=o.2:=by have:=hc.hrs;omega
 refine⟨⟨GZ F D es,t.pt h.pt y,gb t.cm.nd t.cm.z,by rw[gb t.cm.nd u,A]⟩,?_⟩;have:=lL h.pt hc.Mp hc.jE;rw[h.e,h.z]at this;omega
noncomputable def Ga(m:Int)(ws:List Wy)(cs:List (List az×Int)):Prop:=cs.Pairwise (λa b=>bV ws a.1<=bV ws b.1)/\∀h x e,cs=h++x::e->Stg m ws h x
theorem Ga.snoc{y:List az×Int}(h:Ga m ws cs)(h1:∀x∈cs,bV ws x.1<=bV ws y.1)(A:Stg m ws cs y):Ga m ws (cs++[y]):=by
 refine⟨?_,λu x t e=>?_⟩;.rw[kM];exact⟨h.1,by simp,λa B b C=>by rw[dV.mp C];exact h1 a B⟩
 . rcases oC t with rfl|⟨r,z,rfl⟩;.obtain⟨E,G⟩:=List.append_inj' e rfl;cases G;subst E;exact A
   . rw[oF]at e;have H:cs++[y]=(u++x::r)++[z]:=by rw[e];simp
     exact h.2 u x r (List.append_inj' H rfl).1
structure Ends(m:Int)(ws:List Wy)(cs:List (List az×Int))(fs:List Int)(F:Int->Int)(d:Int)(es:List En):Prop where
 fl:fs=flow ws.length cs
 iv:zr m ws cs fs F d
 cm:jo m ws fs es
 no:¬ ∃l o,(m-1,l,o)∈es
 ck:∀x∈cs,Chk m ws x
 st:Ga m ws cs
inductive FcE(a0 a1 a2 a3 a4 a5 a6:Sl)(ρ:List Sl):Prop where|mk(s:Sl)(q0:ρ=[a0,a1,a2,a3,a4,a5,a6,s])(q1:fr s=bx)
inductive JE(m:Int)(ws:List Wy)(M:Nat)(ρ:List Sl):Prop where|mk(cs:List (List az×Int))(fs:List Int)(es:List En)(F:Int->Int)(d:Int)(s5 s6:Sl)(q0:ρ=[.val a7 (aP m ws),.val a7 (.int (m-1)),.own a7 (fs.map D.int),.own a7 (cs.map cD),.val a7 (jH es),s5,s6])(q1:(fr s5=bx/\fr s6=bx))(q2:fs=flow ws.length cs)(q3:zr m ws cs fs F d)(q4:jo m ws fs es)(q5:(∃P lam seen,Nt m ws cs.length fs P lam seen))(q6:cs.length+M=13286050)(q7:(∀x∈cs,Chk m ws x))(q8:Ga m ws cs)
theorem xM(hw:13286250<=w)(h:HN m ws)(hr:∀v∈ws,0<=v.r)(k:∀cs fs F d es,cs.length<=13286050->Ends m ws cs fs F d es->Q (.own (cs.map cD)) [.val a7 (aP m ws)]):(run Γ w (n+4) 8 [.val a7 (aP m ws)]).sat Q:=by
 have hn:=h.len;have m0:=h.m0;have m1:=h.m1;refine aL (d:=f8) rfl rfl (by decide) ?_;symm;simp[f8];refine dN (λρ=>ρ=[.val a7 (aP m ws),.val a7 (.int (m-1)),.own a7 ((flow ws.length []).map D.int),.aN,.aN,.aN,.aN]) ?_ ?_;.simp[flow];show _<=16777216;omega
 rintro _ rfl;have hh:∀v∈ws,0<=v.h:=λv hv=>(h.ok v hv).2.2;obtain⟨b0,I0⟩:∃b,zr m ws [] (flow ws.length []) (F01 b) b:=zr.zero m0 hh hr;symm;simp;apply ak;simp;refine yf (by omega) I0.pt (.inr ⟨bx,rfl⟩) h I0.fit.len λes t=>?_;simp;apply ak;simp;refine j5 (JE m ws) ?_ (k:=w) (m:=13286050) (by omega) ⟨[],flow ws.length [],es,F01 b0,b0,.aN,.aN,rfl,⟨rfl,rfl⟩,rfl,I0,t,⟨_,_,_,Nt.zero hn hh⟩,by simp,by simp,by simp,λbz x ay e=>by cases bz<;>cases e⟩;rintro M _⟨cs,fs,es,F,d,s5,s6,rfl,⟨h5,h6⟩,E,G,t,⟨P,aE,seen,hS⟩,hM,L,hst⟩;have ac:=G.fit.len;by_cases hq:∃l o,(m-1,l,o)∈es
 . obtain⟨l,o,z⟩:=hq;have kt:pF (es.map en) (m-1)=bx:=zR.mpr ⟨l,o,z⟩;have ae:=t.l5 h G.pt z;simp[kt];apply ak;simp;refine GJ (by omega) t ae z λc hc=>?_;simp[h5];apply ak;have af:c.length<=5:=by have:=hc.len;omega
   have Z:∀s∈c,∃v g,ws[s.1]?=al v/\fs[s.1]?=al g/\0<oR v g s.2:=λs hs=>by obtain⟨v,e,o⟩:=hc.jE s hs;obtain⟨v',g,A,C,_,e4⟩:=rQ o;exact⟨v',g,A,C,e4⟩
   simp[show c.length<=16777216 by omega];refine cg (FcE _ _ _ _ _ _ _) (rmD ws fs) ⟨.aN,rfl,rfl⟩ ?_ ?_;.rintro d hd _⟨s',rfl,O⟩;obtain⟨s,hs,rfl⟩:=cK.mp hd;obtain⟨v,g,A,C,_⟩:=Z s hs;simp[O,sD];refine uF (.inr ⟨bx,rfl⟩) A C ?_;simp;refine⟨?_,_,rfl,rfl⟩;show D.int (Q5 ws fs (ZP (sD s)))=_;rw[Kf];unfold Q5;rw[A,C]
   rintro _⟨s',rfl,O⟩;have U:(c.map sD).map (rmD ws fs)=(c.map (Q5 ws fs)).map D.int:=by rw[ec,ec];rfl
   rw[U];have ag:c≠[]:=by rintro rfl;have:(0:Int)=m-1:=hc.Mp;omega
   obtain⟨x,ah,ai,am⟩:=Hv (ns:=c.map (Q5 ws fs)) (by simpa using ag);obtain⟨s,hs,ap⟩:=cK.mp ai;obtain⟨v,g,A,C,e3⟩:=Z s hs;have ar:oR v g s.2=x:=by rw[<-ap];unfold Q5;rw[A,C]
   have av:0<x:=by omega
   have H:∀s∈c,∃v g,ws[s.1]?=al v/\fs[s.1]?=al g/\x<=oR v g s.2:=λu J=>by obtain⟨v,g,A,C,_⟩:=Z u J;refine⟨v,g,A,C,?_⟩;have:=am _ (cK.mpr ⟨u,J,rfl⟩);unfold Q5 at this;rw[A,C]at this;exact this
   have W:∀s∈c,s.1<ws.length:=λu J=>by obtain⟨v,g,A,_⟩:=Z u J;exact(dX A).1
   obtain⟨F',I⟩:=G.more t z hc av H;have X:Ga m ws (cs++[(c,x)]):=by obtain⟨g1,g2⟩:=G.ht t z hc;refine hst.snoc (λy hy=>oI (G.ch y hy).1 g2) ?_;have Y:=G;rw[E]at Y g1 H;exact⟨⟨_,_,Y⟩,g1,by rw[<-E];exact hc.jE,H⟩
   have B:=hS.more h G.pt t z hc hs A C;rw[ar]at B;obtain⟨P',Xa,Mq,B⟩:=B;have aI:=B.few hn;generalize c.map (Q5 ws fs)=ns at*;simp[eO,ah,h6];apply ak;simp[show cs.length<16777216 by omega];apply ak;simp;refine xZ (.inr ⟨bx,rfl⟩) (λu J=>by rw[ac];exact W u J) ?_;simp;apply ak;have aw:aug x fs c=flow ws.length (cs++[(c,x)]):=by rw[qU,<-E]
   simp;refine yf (by omega) I.pt (.inr ⟨bx,rfl⟩) h I.fit.len λax Xb=>?_;simp;refine⟨M-1,by omega,cs++[(c,x)],aug x fs c,ax,F',o.2,.val a7 (.tup (c.map sD)),.val a7 (.int x),by simp[cD],⟨rfl,rfl⟩,aw,I,Xb,⟨P',Xa,Mq,by rw[eB];exact B⟩,by simp;omega,λy hy=>?_,X⟩;rcases eJ.mp hy with hy|hy;.exact L y hy
   . obtain rfl:y=(c,x):=by simpa using hy
     exact⟨af,W,hc.Mp,hc.nd⟩
 .have kt:pF (es.map en) (m-1)=a7:=kin_no hq;simp[kt];apply ak;simp;exact k cs fs F d es (by omega) ⟨E,G,t,hq,L,hst⟩
noncomputable def cL(m:Int)(ws:List Wy)(cs:List (List az×Int)):Prop:=(∀v∈ws,1<=v.h)/\∃fs F d es,Ends m ws cs fs F d es
noncomputable def sX(cs:List (List az×Int)):Int:=bY (λx=>x.2) cs
theorem Uq{c:Call}{x:Nat}{k d:P}:ev c (.Y5 x k d) ρ=match ρ[x]?with
 |some (.gY _)=>(cN (isVar k) (ev c k) ρ).bind λe ρ=>(cN (isVar d) (ev c d) ρ).bind λh ρ=>match ρ[x]?with|some (.gY m)=>lift ((m.get e).bind λo=>(iJ h).map λv=>.val (.int (o.getD v))) ρ|_=>.stuck
 |_=>.stuck:=(rfl)
theorem Px{c:Call}{x:Nat}:ex c n (.LR x a7) ρ=match ρ[x]?with|some .aN=>.ok .next (ρ.set x (.gY (.k [])))|_=>.stuck:=(rfl)
theorem M4{c:Call}{x:Nat}{k e:P}:ex c n (.dput x k e) ρ=(ev c e ρ).bind λr ρ=>match ρ[x]?with
 |some (.gY _)=>(cN (isVar k) (ev c k) ρ).bind λh ρ=>match ρ[x]?,r with
   |some (.gY m),.val (.int v)=>match m.put h v with|some t=>.ok .next (ρ.set x (.gY t))|none=>.stuck
   |_,_=>.stuck
 |_=>.stuck:=(rfl)
@[simp]theorem Xe{x:Nat}{k d:P}:isVar (.Y5 x k d)=bdq:=rfl
@[simp]theorem ZK{kvs:List (Int×Int)}:blt .LK [.dz (.k kvs)]=if kvs.length<=16777216/\kvs.Pairwise (λa b=>a.1<b.1)then al (.own (kvs.map mJ))else bdq:=rfl
theorem Uw:(Dc.get (.k kvs) (.int i))=al ((kvs.find? λe=>decide (e.1=i)).map (·.2)):=rfl
theorem ZM{v:Int}(h:kvs.length<lim):Dc.put (.k kvs) (.int i) v=al (.k (putD kvs i v)):=by show(if _ then _ else _)=_;rw[if_pos h]
noncomputable def hsD(ws:List Wy)(d:D):D:=.int (hst ws (ZP d))
theorem Ci{ws:List Wy}:∀{c:List az},(c.map (hst ws)).sum=bV ws c|[]=>rfl|s::c=>by rw[dc,km,Ci,bV]
inductive F2s(a b:Sl)(ρ:List Sl):Prop where|mk(s:Sl)(q0:ρ=[a,b,s])(q1:fr s=bx)
theorem zL(hc:∀s∈c,s.1<ws.length)(A:c.length<=1000)(k:Q (.val (.int (bV ws c))) [.val a7 (aP m ws),.val a7 (.tup (c.map sD))]):(run Γ w (n+2) 3 [.val a7 (aP m ws),.val a7 (.tup (c.map sD))]).sat Q:=by
 refine aL (d:=f3) rfl rfl (by decide) ?_;symm;simp[f3,show c.length<=16777216 by omega];refine cg (F2s _ _) (hsD ws) ⟨.aN,rfl,rfl⟩ ?_ ?_
 . rintro d hd _⟨z,rfl,h⟩;obtain⟨s,hs,rfl⟩:=cK.mp hd;have y:=hc s hs;have e:ws[s.1]?=al ws[s.1]:=by simp[y]
   simp[h,sD];refine uo e ?_;simp;refine⟨?_,_,rfl,rfl⟩;show D.int (hst ws (ZP (sD s)))=_;rw[Kf,iC e]
 rintro _⟨z,rfl,h⟩;have t:(c.map sD).map (hsD ws)=(c.map (hst ws)).map D.int:=by rw[ec,ec];rfl
 rw[t];have u:=Ci (ws:=ws) (c:=c);generalize c.map (hst ws)=ns at*;simp[eO,u];exact k
noncomputable def gv(kvs:List (Int×Int))(k:Int):Int:=((kvs.find? λe=>decide (e.1=k)).map (·.2)).getD 0
noncomputable def Yc(W:Int->Int->Int):Prop:=∀k a b,W k (a+b)=W k a+W k b
noncomputable def jD(W:Int->Int->Int):List (Int×Int)->Int|[]=>0|kv::r=>W kv.1 kv.2+jD W r
theorem Er{W:Int->Int->Int}{b:List (Int×Int)}:∀{a:List (Int×Int)},jD W (a++b)=jD W a+jD W b|[]=>by simp[jD]|x::a=>by rw[kD,jD,jD,Er];omega
theorem Di{k v:Int}:∀{r:List (Int×Int)},k∉r.map (·.1)->(r.map λe=>if e.1=k then(e.1,v)else e)=r|[],_=>rfl|x::r,h=>by rw[dc,cS,not_or]at h;rw[dc,Di h.2,if_neg (λz=>h.1 z.symm)]
theorem DG{W:Int->Int->Int}(z:Yc W){k x:Int}:∀{r:List (Int×Int)},(r.map (·.1)).Nodup->k∈r.map (·.1)->jD W (r.map λe=>if e.1=k then(e.1,gv r k+x)else e)=jD W r+W k x
 |[],_,h=>by cases h|y::r,t,h=>by
   rw[dc,eI]at t;by_cases c:y.1=k
   . have u:gv (y::r) k=y.2:=by unfold gv;rw[gl];simp[c]
     rw[u,dc,if_pos c,Di (by rw[<-c];exact t.1),jD,jD];show W y.1 (y.2+x)+_=_;rw[z,c];omega
   . have u:gv (y::r) k=gv r k:=by unfold gv;rw[gl];simp[c]
     have A:k∈r.map (·.1):=by
      rcases cS.mp h with h|h;.exact absurd h.symm c
      .exact h
     rw[u,dc,if_neg c,jD,jD,DG z t.2 A];omega
theorem Te(h:k∉r.map (·.1)):gv r k=0:=by
 unfold gv;rw[List.find?_eq_none.mpr];.rfl
 .intro x t;simp;intro e;exact h (cK.mpr ⟨x,t,e⟩)
theorem aaN(h:∀t∈r,0<t.2):0<=gv r k:=by unfold gv;cases e:r.find? λt=>decide (t.1=k)with|none=>simp|some x=>have:=h x (List.mem_of_find?_eq_some e);simp;omega
theorem vW{x:Int}(u:(r.map (·.1)).Nodup):((putD r k (gv r k+x)).map (·.1)).Nodup/\(putD r k (gv r k+x)).length<=r.length+1/\(∀h∈putD r k (gv r k+x),h=(k,gv r k+x)\/h∈r)/\∀W,Yc W->jD W (putD r k (gv r k+x))=jD W r+W k x:=by
 have B:(r.any λh=>decide (h.1=k))=bx↔k∈r.map (·.1):=by rw[kx,cK];exact⟨λ⟨y,h1,A⟩=>⟨y,h1,by simpa using A⟩,λ⟨y,h1,A⟩=>⟨y,h1,by simpa using A⟩⟩
 unfold putD;by_cases c:k∈r.map (·.1)
 . rw[if_pos (B.mpr c)];have e:(r.map λh=>if h.1=k then(h.1,gv r k+x)else h).map (·.1)=r.map (·.1):=by rw[ec];refine gi λy _=>?_;show(if y.1=k then _ else _:Int×Int).1=y.1;split<;>rfl
   refine⟨by rw[e];exact u,by simp,λh t=>?_,λW C=>DG C u c⟩;obtain⟨y,E,rfl⟩:=cK.mp t;by_cases z:y.1=k;.rw[if_pos z,z];exact .inl rfl
   .rw[if_neg z];exact .inr E
 . rw[if_neg λz=>c (B.mp z),Te c,Int.zero_add];refine⟨?_,by simp,λh t=>?_,λW _=>?_⟩;.rw[gI,kT];exact⟨u,by simp,λa G b H e=>c (by
      have:b=k:=by simpa using H
      rw[<-this,<-e];exact G)⟩
   . rcases eJ.mp t with hj|hj;.exact .inr hj
     .exact .inl (dV.mp hj)
   .rw[Er];simp[jD]
theorem We{v:Int}(h:r.Pairwise (λa b=>a.1<b.1))(u:∀y∈r,y.1<=k):(putD r k v).Pairwise (λa b=>a.1<b.1):=by
 unfold putD;split;.rw[lT];refine h.imp λ{a b}e=>?_;split<;>split<;>exact e
 .rename_i A;rw[kM];refine⟨h,by simp,λa t b B=>?_⟩;have h1:=u a t;have C:a.1≠k:=λz=>A (kx.mpr ⟨a,t,by simpa using z⟩);rw[dV.mp B];show a.1<k;omega
noncomputable def Yy:D->Int×Int|.tup [.int a,.int b]=>(a,b)|_=>(0,0)
@[simp]theorem ahG{a b:Int}:Yy (.tup [.int a,.int b])=(a,b):=rfl
structure Ra(ws:List Wy)(cs:List (List az×Int))(kvs:List (Int×Int)):Prop where
 nd:(kvs.map (·.1)).Nodup
 len:kvs.length<=cs.length
 nn:∀kv∈kvs,1<=kv.1/\0<kv.2
 key:∀kv∈kvs,∃x∈cs,kv.1=bV ws x.1
 so:kvs.Pairwise (λa b=>a.1<b.1)sm:∀W,Yc W->jD W kvs=bY (λx=>W (bV ws x.1) x.2) cs
theorem Ra.put(h:Ra ws cs kvs){x:List az×Int}(h0:1<=bV ws x.1)(h1:0<x.2)(B:∀y∈cs,bV ws y.1<=bV ws x.1):Ra ws (cs++[x]) (putD kvs (bV ws x.1) (gv kvs (bV ws x.1)+x.2)):=by
 obtain⟨p1,p2,p3,C⟩:=vW (k:=bV ws x.1) (x:=x.2) h.nd;have E:=h.len;refine⟨p1,by simp;omega,λu t=>?_,λu t=>?_,We h.so λu t=>?_,λW A=>?_⟩
 . rcases p3 u t with e|e;.have:=aaN (k:=bV ws x.1) λu t=>(h.nn u t).2;rw[e];exact⟨h0,by show 0<_+_;omega⟩
   .exact h.nn u e
 . rcases p3 u t with e|e;.exact⟨x,by simp,by rw[e]⟩
   .obtain⟨y,z,e⟩:=h.key u e;exact⟨y,by simp[z],e⟩
 .obtain⟨y,z,e⟩:=h.key u t;rw[e];exact B y z
 .rw[C W A,h.sm W A,jV]
theorem HF{ws:List Wy}{b:Int}(h0:∀v∈ws,0<=v.h)(t:∀v∈ws,v.h<=1000000):∀{c:List az}{a:Int},iy ws b c a->bV ws c<=1000000*(c.length:Int)
 |[],_,_=>by simp[bV]|s::c,a,⟨v,e,_,u⟩=>by
   have h1:=HF h0 t u;have y:=t v (du e);have z:=h0 v (du e);have A:hst ws s<=1000000:=by rw[iC e];unfold hsp;split<;>omega
   rw[bV,dL];omega
theorem Ra.few(h:Ra ws cs kvs)(y:∀x∈cs,Chk m ws x)(z:ws.length<=12):kvs.length<=531441:=by
 have h1:=m5 (l2:=(sZ ws.length).map λe=>lu ws e/7) h.nd λk t=>by obtain⟨A,u,rfl⟩:=cK.mp t;obtain⟨x,B,e⟩:=h.key A u;obtain⟨c1,c2,c3,c4⟩:=y x B;refine cK.mpr ⟨Gy ws.length x.1,by have:=qN (e:=Gy ws.length x.1);rwa[wu]at this,?_⟩;rw[wj c3 c4,e];unfold zq;omega
 rw[dQ,dQ,rA]at h1;have C:3^ws.length<=3^12:=iX (by decide) z;have E:(3:Nat)^12=531441:=by decide
 omega
inductive JBn(m:Int)(ws:List Wy)(cs:List (List az×Int))(r:List D)(ρ:List Sl):Prop where|mk(bz us:List (List az×Int))(kvs:List (Int×Int))(s2 s3 s4:Sl)(q0:ρ=[.val a7 (aP m ws),.gY (.k kvs),s2,s3,s4])(q1:A3 (fr s2=bx) (fr s3=bx) (fr s4=bx))(q2:r=us.map cD)(q3:bz++us=cs)(q4:Ra ws bz kvs)
theorem Fj(Y:13286250<=w)(h:dj m ws)(k:∀cs fs F d es kvs,kvs.length<=531441->Ends m ws cs fs F d es->Ra ws cs kvs->kvs.Pairwise (λa b=>a.1<b.1)->(∀G∈kvs,G.1<=5000000)->Q (.own (kvs.map mJ)) [.val a7 (aP m ws)]):(run Γ w (n+5) 21 [.val a7 (aP m ws)]).sat Q:=by
 refine aL (d:=f21) rfl rfl (by decide) ?_;symm;simp[f21,Px];apply ak;simp;refine xM Y (HN.of h) (λv B=>(h.ok v B).r0) λcs fs F d es hl z=>?_;simp;refine bW (JBn m ws cs) ?_ ?_ ⟨[],cs,[],.aN,.aN,.aN,rfl,⟨rfl,rfl,rfl⟩,rfl,rfl,⟨by simp,by simp,by simp,by simp,by simp,λW _=>rfl⟩⟩;.rintro d r _⟨C,A,kvs,s2,s3,s4,rfl,⟨H,O,U⟩,hr,hd,t⟩;cases A with|nil=>cases hr|cons u A=>
     obtain⟨rfl,rfl⟩:d=cD u/\r=A.map cD:=by simpa using hr
     have I:u∈cs:=by rw[<-hd];simp
     have E:=z.ck u I;have Z:C.length<=cs.length:=by rw[<-hd];simp
     have J:=t.len;have L:(C++[u])++A=cs:=by rw[eP];exact hd
     simp[cD,H,O];apply ak;simp;refine zL E.2.1 (by have:=E.1;omega) ?_;simp[U];apply ak;simp[M4,Uq,Uw];rw[ZM (by show _<16777216;omega)];simp;refine⟨C++[u],A,_,_,_,_,rfl,⟨rfl,rfl,rfl⟩,rfl,L,t.put ((z.iv.nn λv B=>(h.ok v B).h0).2 u I) (z.iv.ch u I).2.1 λy hy=>?_⟩;have hst:=z.st.1;rw[<-hd,kM]at hst;exact hst.2.2 y hy u (by simp)
 . rintro _⟨C,A,kvs,s2,s3,s4,rfl,⟨H,O,U⟩,hr,hd,t⟩;have:A=[]:=by cases A with|nil=>rfl|cons _ _=>cases hr
   subst this;rw[fo]at hd;subst hd;have J:=t.len;simp;apply ak;simp[show kvs.length<=16777216 by omega,t.so];refine k C fs F d es kvs (t.few z.ck (HN.of h).len) z t t.so λG M=>?_;obtain⟨x,X,e⟩:=t.key G M;have h1:=HF (λv B=>((HN.of h).ok v B).2.2) (λv B=>(h.ok v B).h1) (z.ck x X).2.2.1;have H:=(z.ck x X).1;rw[e];omega
noncomputable def vt(T k v:Int):Int:=if k<=T then v*(T-k+1)else 0
noncomputable def gt(T k v:Int):Int:=if k<=T then v else 0
theorem Wf{T:Int}:Yc (vt T):=λk a b=>by
 unfold vt;split;.exact p0 ..
 .rfl
theorem ae4{T:Int}:Yc (gt T):=λk a b=>by unfold gt;split<;>rfl
theorem UG:Yc λ_ v=>v:=λ_ _ _=>rfl
noncomputable def Rt(ws:List Wy)(cs:List (List az×Int))(T:Int):Int:=bY (λx=>gt T (bV ws x.1) x.2) cs
theorem oM.uniq{T v e:Int}(h:oM m ws T v)(h':oM m ws T e):v=e:=by obtain⟨q,t,u,y⟩:=h.ex;obtain⟨r,r0,r1,z⟩:=h'.ex;have:=h.le r r0 r1;have:=h'.le q t u;omega
theorem cL.least{m:Int}{ws:List Wy}{cs:List (List az×Int)}(h:cL m ws cs){T:Int}(h0:0<=T):oM m ws T (val ws T cs):=by obtain⟨t,fs,F,d,es,e⟩:=h;exact e.iv.least e.cm e.no h0
theorem ym{H K:List az×Int->Int}:∀{cs:List (List az×Int)},bY (λx=>H x-K x) cs=bY H cs-bY K cs|[]=>rfl|x::cs=>by rw[bY,bY,bY,ym];omega
theorem vO{H K:List az×Int->Int}:∀{cs:List (List az×Int)},(∀x∈cs,H x<=K x)->bY H cs<=bY K cs|[],_=>eT _|x::cs,h=>by have h1:=h x (by simp);have t:=vO (H:=H) (K:=K) (cs:=cs) λy e=>h y (by simp[e]);rw[bY,bY];omega
theorem Ac{T:Int}:Rt ws cs T=val ws T cs-val ws (T-1) cs:=by
 unfold Rt val;rw[<-ym];refine mz λx _=>?_;show gt T (bV ws x.1) x.2=vt T (bV ws x.1) x.2-vt (T-1) (bV ws x.1) x.2;unfold gt vt;by_cases c:bV ws x.1<=T-1;.rw[if_pos (by omega),if_pos (by omega),if_pos c,<-i3,show T-bV ws x.1+1-(T-1-bV ws x.1+1)=1 by omega,mul_one]
 . by_cases c2:bV ws x.1<=T;.rw[if_pos c2,if_pos c2,if_neg c,show T-bV ws x.1+1=1 by omega,mul_one];omega
   .rw[if_neg c2,if_neg c2,if_neg c];rfl
theorem cL.nn{m:Int}{ws:List Wy}{cs:List (List az×Int)}(h:cL m ws cs):∀x∈cs,1<=bV ws x.1/\0<x.2:=by obtain⟨e,fs,F,d,es,t⟩:=h;exact λx u=>⟨(t.iv.nn e).2 x u,(t.iv.ch x u).2.1⟩
theorem cL.cY(h:cL m ws cs){T:Int}(h0:T<=0):val ws T cs=0:=by
 have:val ws T cs=bY (λ_=>0) cs:=mz λx e=>by have:=(h.nn x e).1;show vt T (bV ws x.1) x.2=0;unfold vt;rw[if_neg (by omega)]
 rw[this];clear this h;induction cs with|nil=>rfl|cons x cs t=>rw[bY,t];rfl
theorem cL.val_eq{e:List (List az×Int)}(h:cL m ws cs)(h':cL m ws e)(T:Int):val ws T cs=val ws T e:=by
 by_cases c:0<=T;.exact(h.least c).uniq (h'.least c)
 .rw[h.cY (by omega),h'.cY (by omega)]
theorem cL.ahC{e:List (List az×Int)}(h:cL m ws cs)(h':cL m ws e)(T:Int):Rt ws cs T=Rt ws e T:=by rw[Ac,Ac,h.val_eq h',h.val_eq h']
theorem cL.mono(h:cL m ws cs){T U:Int}(t:T<=U):Rt ws cs T<=Rt ws cs U:=vO λx e=>by have:=(h.nn x e).2;unfold gt;split<;>split<;>omega
theorem cL.ahg(h:cL m ws cs){T:Int}:Rt ws cs T<=sX cs:=vO λx e=>by have:=(h.nn x e).2;unfold gt;split<;>omega
theorem cL.ahE(h:cL m ws cs){T:Int}:0<=Rt ws cs T:=by
 have h1:=h.mono (T:=min T 0) (U:=T) (by omega);have:Rt ws cs (min T 0)=0:=by rw[Ac,h.cY (by omega),h.cY (by omega)];rfl
 omega
noncomputable def moD(T:Int)(d:D):Option D:=if(Yy d).1<=T then al (.int ((Yy d).2*(T-(Yy d).1+1)))else bdq
theorem Wm{T:Int}:∀(kvs:List (Int×Int)),∃ns:List Int,(kvs.map mJ).filterMap (moD T)=ns.map D.int/\ns.sum=jD (vt T) kvs
 |[]=>⟨[],rfl,rfl⟩|kv::r=>by
   obtain⟨ns,h1,h⟩:=Wm (T:=T) r;have e:moD T (mJ kv)=if kv.1<=T then al (.int (kv.2*(T-kv.1+1)))else bdq:=rfl;rw[dc,gu,h1,jD,<-h,e];unfold vt;by_cases c:kv.1<=T;.rw[if_pos c,if_pos c];exact⟨_::ns,rfl,by rw[km]⟩
   .rw[if_neg c,if_neg c];exact⟨ns,rfl,by omega⟩
inductive F2t(a b:Sl)(ρ:List Sl):Prop where|mk(s:Sl)(t:Sl)(q0:ρ=[a,b,s,t])(q1:fr s=bx)(q2:fr t=bx)
noncomputable def tk:List (Int×Int)->Int->List (Int×Int)|[],_=>[]|kv::r,q=>(kv.1,min q kv.2)::tk r (q-min q kv.2)
noncomputable def Q3:List (Int×Int)->Int->Int|[],q=>q|kv::r,q=>Q3 r (q-min q kv.2)
noncomputable def lh:List (Int×Int)->Int->Int|[],_=>0|kv::r,q=>kv.1*min q kv.2+lh r (q-min q kv.2)
noncomputable def vs:List (Int×Int)->Int|[]=>0|kv::r=>kv.2+vs r
theorem JM:∀{l:List (Int×Int)},(∀kv∈l,1<=kv.1/\0<kv.2)->0<=vs l|[],_=>eT _|kv::r,h=>by have h1:=h kv (by simp);have t:=JM (l:=r) λx e=>h x (by simp[e]);rw[vs];omega
theorem RT:∀{l:List (Int×Int)}{q:Int},(∀kv∈l,1<=kv.1/\0<kv.2)->0<=q->q<=vs l->Q3 l q=0|[],q,_,h0,h1=>by rw[vs]at h1;rw[Q3];omega|kv::r,q,h,h0,h1=>by have t:=h kv (by simp);have hr:∀x∈r,1<=x.1/\0<x.2:=λx e=>h x (by simp[e]);have u:=JM hr;rw[vs]at h1;rw[Q3];exact RT hr (by omega) (by omega)
theorem Gs:∀{l:List (Int×Int)},(∀kv∈l,1<=kv.1/\0<kv.2)->lh l 0=0|[],_=>rfl|kv::r,h=>by have t:=h kv (by simp);rw[lh,show min 0 kv.2=0 by omega,mM,mx,Gs λx e=>h x (by simp[e])];rfl
theorem Q6{T:Int}:∀{l:List (Int×Int)}{q:Int},(∀kv∈l,1<=kv.1/\0<kv.2)->0<=q->q<=vs l->(T+1)*q-jD (vt T) l<=lh l q
 |[],q,_,h0,h1=>by
   rw[vs]at h1;have:q=0:=by omega
   subst this;simp[jD,lh]|kv::r,q,h,h0,h1=>by
   have u:=h kv (by simp);have hr:∀x∈r,1<=x.1/\0<x.2:=λx e=>h x (by simp[e]);have y:=JM hr;rw[vs]at h1;have z:=Q6 (T:=T) (l:=r) (q:=q-min q kv.2) hr (by omega) (by omega);rw[jD,lh];have A:(T+1)*q=(T+1)*min q kv.2+(T+1)*(q-min q kv.2):=by rw[<-n5];congr 1;omega
   have B:(T+1)*min q kv.2-vt T kv.1 kv.2<=kv.1*min q kv.2:=by
    unfold vt;by_cases c:kv.1<=T
    . rw[if_pos c];have t:min q kv.2*(T-kv.1+1)<=kv.2*(T-kv.1+1):=iS (by omega) (by omega);have C:(T+1)*min q kv.2=kv.1*min q kv.2+min q kv.2*(T-kv.1+1):=by rw[hY (min q kv.2),<-p0];congr 1;omega
      omega
    .rw[if_neg c];have t:(T+1)*min q kv.2<=kv.1*min q kv.2:=iS (by omega) (by omega);omega
   omega
theorem Hw{W:Int->Int->Int}:∀{l:List (Int×Int)},(∀kv∈l,W kv.1 kv.2=0)->jD W l=0|[],_=>rfl|kv::r,h=>by rw[jD,h kv (by simp),Hw λx e=>h x (by simp[e])];rfl
theorem Ri:∀{l:List (Int×Int)}{q:Int},(∀kv∈l,1<=kv.1/\0<kv.2)->l.Pairwise (λa b=>a.1<b.1)->0<q->q<=vs l->∃kv∈l,kv.1*q-jD (vt (kv.1-1)) l=lh l q
 |[],q,_,_,h0,h1=>by rw[vs]at h1;omega|kv::r,q,h,u,h0,h1=>by
   have A:=h kv (by simp);have hr:∀x∈r,1<=x.1/\0<x.2:=λx t=>h x (by simp[t]);have u:=jI.mp u;rw[vs]at h1;by_cases c:q<=kv.2;.refine⟨kv,by simp,?_⟩;rw[lh,show min q kv.2=q by omega,l8,Gs hr,jD,Hw λx t=>by have:=u.1 x t;unfold vt;rw[if_neg (by omega)]];unfold vt;rw[if_neg (by omega)];omega
   . obtain⟨x,t,e⟩:=Ri (l:=r) (q:=q-kv.2) hr u.2 (by omega) (by omega);have y:=u.1 x t;refine⟨x,by simp[t],?_⟩;rw[lh,show min q kv.2=kv.2 by omega,<-e,jD];have z:vt (x.1-1) kv.1 kv.2=kv.2*x.1-kv.2*kv.1:=by unfold vt;rw[if_pos (by omega),<-i3];congr 1;omega
     rw[z,i3,hY x.1 kv.2,hY kv.1 kv.2];omega
theorem zM:∀{l:List (Int×Int)},jD (λ_ v=>v) l=vs l|[]=>rfl|kv::r=>by rw[jD,vs,zM]
inductive JCv(a0 a1:Sl)(N:Nat)(out:List (Int×Int))(z:Int)(r:List D)(ρ:List Sl):Prop where|mk(us bz:List (Int×Int))(q:Int)(s4 s5 s6:Sl)(q0:ρ=[a0,a1,.own a7 (bz.map mJ),.val a7 (.int q),s4,s5,s6])(q1:A3 (fr s4=bx) (fr s5=bx) (fr s6=bx))(q2:r=us.map mJ)(q3:bz++tk us q=out)(q4:Q3 us q=z)(q5:bz.length+us.length=N)
theorem Hn{q:Int}(C:kvs.length<=16000000)(hz:Q3 kvs q=0)(k:Q (.own ((tk kvs q).map mJ)) [.own a7 (kvs.map mJ),.val a7 (.int q)]):(run Γ w (n+1) 9 [.own a7 (kvs.map mJ),.val a7 (.int q)]).sat Q:=by
 refine aL (d:=f9) rfl rfl (by decide) ?_;symm;simp[f9];apply ak;simp;apply ak;simp;refine bW (JCv _ _ kvs.length (tk kvs q) 0) ?_ ?_ ⟨kvs,[],q,.aN,.aN,.aN,rfl,⟨rfl,rfl,rfl⟩,rfl,rfl,hz,by simp⟩;.rintro d r _⟨e,h,q,s4,s5,s6,rfl,⟨t,y,z⟩,hr,ho,hz,A⟩;cases e with|nil=>cases hr|cons u e=>
     obtain⟨rfl,rfl⟩:d=mJ u/\r=e.map mJ:=by simpa using hr
     rw[tk]at ho;rw[Q3]at hz;rw[dL]at A;simp[mJ,t,y];apply ak;simp[z];apply ak;simp[show h.length<16777216 by omega];apply ak;simp;have B:(if u.2<q then u.2 else q)=min q u.2:=by split<;>omega
     rw[B];exact⟨e,h++[(u.1,min q u.2)],q-min q u.2,.val a7 (.int u.1),.val a7 (.int u.2),.val a7 (.int (min q u.2)),by rw[gI];rfl,⟨rfl,rfl,rfl⟩,rfl,by rw[eP];exact ho,hz,by simp;omega⟩
 . rintro _⟨e,h,q,s4,s5,s6,rfl,⟨t,y,z⟩,hr,ho,hz,A⟩;have:e=[]:=by cases e with|nil=>rfl|cons _ _=>cases hr
   subst this;rw[tk,fo]at ho;rw[Q3]at hz;subst ho;subst hz;simp;apply ak;simp;apply ak;simp;exact k
theorem Hl:∀{l:List (Int×Int)}{q:Int},(tk l q).length=l.length|[],_=>rfl|kv::r,q=>by rw[tk,dL,Hl,dL]
theorem KZ:∀{l:List (Int×Int)}{q:Int}{x:Int×Int},x∈tk l q->∃kv∈l,x.1=kv.1
 |[],_,_,h=>by cases h|kv::r,q,x,h=>by
   rw[tk,cS]at h;rcases h with rfl|h;.exact⟨kv,by simp,rfl⟩
   .obtain⟨y,t,e⟩:=KZ h;exact⟨y,by simp[t],e⟩
theorem Jg:∀{l:List (Int×Int)}{q:Int},((tk l q).map λx=>x.1*x.2).sum=lh l q|[],_=>rfl|kv::r,q=>by rw[tk,lh,dc,km,Jg]
noncomputable def mlD(d:D):D:=.int ((Yy d).1*(Yy d).2)
structure Mu(m:Int)(ws:List Wy)(cs:List (List az×Int))(kvs:List (Int×Int)):Prop where
 e:cL m ws cs
 b:Ra ws cs kvs
 so:kvs.Pairwise (λa b=>a.1<b.1)le:∀kv∈kvs,kv.1<=5000000
 len:kvs.length<=531441
theorem Mu.vs{m:Int}{ws:List Wy}{cs:List (List az×Int)}{kvs:List (Int×Int)}(h:Mu m ws cs kvs):_T.vs kvs=sX cs:=by rw[<-zM];exact h.b.sm _ UG
theorem Mu.vt{m:Int}{ws:List Wy}{cs:List (List az×Int)}{kvs:List (Int×Int)}(h:Mu m ws cs kvs)(U:Int):jD (_T.vt U) kvs=val ws U cs:=h.b.sm _ Wf
theorem Ai{q:Int}(G:13286250<=w)(h:dj m ws)(H:0<=q)(I:∀cs kvs,Mu m ws cs kvs->q<=_T.vs kvs)(k:∀cs kvs,Mu m ws cs kvs->Q (.val (.int (lh kvs q))) [.val a7 (aP m ws),.val a7 (.int q)]):(run Γ w (n+6) 22 [.val a7 (aP m ws),.val a7 (.int q)]).sat Q:=by
 refine aL (d:=f22) rfl rfl (by decide) ?_;symm;simp[f22];refine Fj G h λcs fs F d es kvs z J A B u=>?_;have C:Mu m ws cs kvs:=⟨⟨λv L=>(h.ok v L).h0,fs,F,d,es,J⟩,A,B,u,z⟩;simp;have z:=z;refine Hn (by omega) (RT A.nn H (I cs kvs C)) ?_;simp[Hl,show kvs.length<=16777216 by omega];refine cg (F2t _ _) mlD ⟨.aN,.aN,rfl,rfl,rfl⟩ ?_ ?_
 . rintro d hd _⟨s,t,rfl,hs,ht⟩;obtain⟨x,M,rfl⟩:=cK.mp hd;obtain⟨E,y,e⟩:=KZ M;have h1:=u E y;have W:=(A.nn E y).1;have O:lC (.int x.1) (.int x.2)=al (.val (.int (x.1*x.2))):=by show(if _ then _ else _)=_;rw[if_pos];left;omega
   simp[hs,ht,mJ,mlD,O];exact⟨_,_,rfl,rfl,rfl⟩
 . rintro _⟨s,t,rfl,hs,ht⟩;have e:((tk kvs q).map mJ).map mlD=((tk kvs q).map λx=>x.1*x.2).map D.int:=by rw[ec,ec];rfl
   rw[e];have U:=Jg (l:=kvs) (q:=q);generalize((tk kvs q).map λx=>x.1*x.2)=ns at*;simp[eO,U];exact k cs kvs C
noncomputable def jC(S:List Int):List Wy->Int|[]=>0|w::ws=>(if w.s∈S/\w.t∉S then w.r else 0)+jC S ws
noncomputable def SdP(m:Int)(S:List Int):Prop:=0∈S/\m-1∉S
theorem uB{m:Int}{S T:List Int}:∀{ws:List Wy},(∀w∈ws,(0<=w.s/\w.s<m)/\(0<=w.t/\w.t<m))->(∀x,0<=x->x<m->(x∈S↔x∈T))->jC S ws=jC T ws|[],_,_=>rfl|w::ws,h,e=>by have u:=h w (by simp);rw[jC,jC,uB (ws:=ws) (λv y=>h v (by simp[y])) e];simp only[e w.s u.1.1 u.1.2,e w.t u.2.1 u.2.2]
theorem zU(h:dj m ws):∀w∈ws,(0<=w.s/\w.s<m)/\(0<=w.t/\w.t<m):=λw e=>by have:=h.ok w e;exact⟨⟨this.s0,this.s1⟩,⟨this.t0,this.t1⟩⟩
noncomputable def O8(S:List Int)(v:Wy):Int:=if v.s∈S/\v.t∉S then v.r else 0
theorem qT{S:List Int}:∀{ws:List Wy},sy (O8 S) ws=jC S ws|[]=>rfl|v::ws=>by rw[sy,jC,qT];rfl
noncomputable def nS(S:List Int)(p:Int):Int:=if p∈S then 0 else 1
theorem cL.cut(h:cL m ws cs):∃S,SdP m S/\jC S ws<=sX cs:=by
 obtain⟨_,fs,F,d,es,u⟩:=h;have E:∀S,SdP m S->sX cs=dm (gap 0 (nS S)) ws fs:=λS B=>by rw[u.iv.dt];refine mz λx _=>?_;show x.2=x.2*((if m-1∈S then 0 else 1)-(if 0∈S then 0 else 1)-0*bV ws x.1);rw[if_neg B.2,if_pos B.1];simp
 refine⟨es.map (·.1),?_,?_⟩;.exact⟨cK.mpr ⟨_,u.cm.cm.z,rfl⟩,λz=>by obtain⟨⟨p,l,o⟩,he,e⟩:=cK.mp z;have e:p=m-1:=e;exact u.no ⟨l,o,e▸he⟩⟩
 . have B:SdP m (es.map (·.1)):=⟨cK.mpr ⟨_,u.cm.cm.z,rfl⟩,λz=>by obtain⟨⟨p,l,o⟩,he,e⟩:=cK.mp z;have e:p=m-1:=e;exact u.no ⟨l,o,e▸he⟩⟩;rw[E _ B,<-qT];have step:∀(j:Nat)(v:Wy)(g:Int),ws[j]?=al v->fs[j]?=al g->∀f:Bool,frm v f∈es.map (·.1)->too v f∉es.map (·.1)->¬ 0<oR v g f:=λj v g y A f h1 G H=>by obtain⟨⟨p,l,o⟩,he,e⟩:=cK.mp h1;have e:p=frm v f:=e;subst e;obtain⟨l2,I,C,_⟩:=u.cm.cl l o (j,f) v y he (by rw[jj (s:=(j,f)) y A];simp[H]);exact G (cK.mpr ⟨_,C,rfl⟩)
   refine vp u.iv.fit.len λj v g y A=>?_;have J:=u.iv.fit.ok _ _ _ y A;have s1:=step j v g y A bx;have s2:=step j v g y A a7;generalize es.map (·.1)=S at*;have s1:v.s∈S->v.t∉S->¬ 0<v.r-g:=s1;have s2:v.t∈S->v.s∉S->¬ 0<g:=s2;unfold gap nS O8;by_cases a:v.s∈S<;>by_cases b:v.t∈S;.simp[a,b]
   .have:=s1 a b;simp[a,b];omega
   .have:=s2 b a;simp[a,b];omega
   .simp[a,b]
theorem Eo{S:List Int}:∀{ws:List Wy},(∀v∈ws,0<=v.r/\v.r<=1000000000)->0<=jC S ws/\jC S ws<=1000000000*(ws.length:Int)|[],_=>⟨eT _,eT _⟩|v::ws,h=>by have h1:=h v (by simp);have t:=Eo (S:=S) (ws:=ws) λu e=>h u (by simp[e]);rw[jC,dL];split<;>exact⟨by omega,by omega⟩
noncomputable def Mt(S:List Int):D:=.lst (S.map D.int)
structure YB(i:Nat)(SS:List (List Int)):Prop where
 z:∀S∈SS,0∈S/\(∀x∈S,x<=(i:Int))/\S.length<=i+1
 len:SS.length<=2^i
 all:∀P:Int->Bool,∃S∈SS,∀x:Int,x∈S↔x=0\/(1<=x/\x<=(i:Int)/\P x=bx)
theorem YB.zero:YB 0 [[0]]:=⟨by simp,by simp,λP=>⟨[0],by simp,λx=>by simp;omega⟩⟩
theorem YB.succ{i:Nat}{SS:List (List Int)}(h:YB i SS):YB (i+1) (SS++SS.map λS=>S++[1+(i:Int)]):=by
 refine⟨λS hS=>?_,?_,λP=>?_⟩
 . rcases eJ.mp hS with hS|hS;.have:=h.z S hS;exact⟨this.1,λx hx=>by have:=this.2.1 x hx;omega,by omega⟩
   . obtain⟨R,u,rfl⟩:=cK.mp hS;have:=h.z R u;refine⟨by simp[this.1],λx hx=>?_,by simp;omega⟩;rcases eJ.mp hx with hx|hx;.have:=this.2.1 x hx;omega
     .rw[dV.mp hx];omega
 .have:=h.len;rw[eB,dQ,Nat.pow_succ];omega
 . obtain⟨S,hS,t⟩:=h.all P;by_cases c:P (1+(i:Int))=bx
   . refine⟨S++[1+(i:Int)],eJ.mpr (.inr (cK.mpr ⟨S,hS,rfl⟩)),λx=>?_⟩;rw[eJ,t,dV];constructor
     . rintro((h|h)|h);.exact .inl h
       .exact .inr ⟨h.1,by omega,h.2.2⟩
       .exact .inr ⟨by omega,by omega,by rw[h];exact c⟩
     . rintro(h|h);.exact .inl (.inl h)
       . by_cases e:x=1+(i:Int);.exact .inr e
         .exact .inl (.inr ⟨h.1,by omega,h.2.2⟩)
   . refine⟨S,eJ.mpr (.inl hS),λx=>?_⟩;rw[t];constructor
     . rintro(h|h);.exact .inl h
       .exact .inr ⟨h.1,by omega,h.2.2⟩
     . rintro(h|h);.exact .inl h
       .refine .inr ⟨h.1,?_,h.2.2⟩;have:x≠1+(i:Int):=λe=>c (by rw[<-e];exact h.2.2);omega
inductive af4(a0:Sl)(i:Nat)(ρ:List Sl):Prop where|mk(SS:List (List Int))(s2:Sl)(q0:ρ=[a0,.own a7 (SS.map Mt),s2,.aN,.aN])(q1:fr s2=bx)(q2:YB i SS)
noncomputable def adD(i:Int):D->D|.lst e=>.lst (e++[.int i])|d=>d
inductive FL(a b c d e:Sl)(ρ:List Sl):Prop where|mk(s:Sl)(q0:ρ=[a,b,c,d,e,s])(q1:fr s=bx)
noncomputable def cuD(S:List Int):D->Option D|.tup [.int s,.int t,.int r,.int _]=>if(S.contains s&&!S.contains t)=bx then al (.int r)else bdq|_=>bdq
theorem Li{S:List Int}:∀{ws:List Wy},∃ns:List Int,(ws.map Wy.d).filterMap (cuD S)=ns.map D.int/\ns.sum=jC S ws
 |[]=>⟨[],rfl,rfl⟩|v::ws=>by
   obtain⟨ns,h1,h⟩:=Li (S:=S) (ws:=ws);have e:cuD S v.d=if(S.contains v.s&&!S.contains v.t)=bx then al (.int v.r)else bdq:=rfl;rw[dc,gu,h1,jC,e];by_cases c:v.s∈S/\v.t∉S;.rw[if_pos c,if_pos (by simp[c.1,c.2])];exact⟨v.r::ns,rfl,by rw[km,h]⟩
   .rw[if_neg c,if_neg (by simpa using c)];exact⟨ns,rfl,by rw[h];omega⟩
inductive ad1(a0:Sl)(ws:List Wy)(SS:List (List Int))(s2:Sl)(r:List D)(ρ:List Sl):Prop where|mk(bz us:List (List Int))(s4:Sl)(q0:ρ=[a0,.lent (SS.map Mt),s2,.own a7 ((bz.map λS=>jC S ws).map D.int),s4])(q1:fr s4=bx)(q2:r=us.map Mt)(q3:bz++us=SS)
theorem Lw(h:dj m ws)(k:∀A:Int,0<=A->A<=12000000000->(∀S,SdP m S->A<=jC S ws)->Q (.val (.int A)) [.val a7 (aP m ws)]):(run Γ w (n+1) 28 [.val a7 (aP m ws)]).sat Q:=by
 have m0:=h.m0;have m1:=h.m1;have hn:=h.len;refine aL (d:=f28) rfl rfl (by decide) ?_;symm;simp[f28];apply ak;simp[show m-1<=1000000000 by omega,show-1000000000<=m-1 by omega];refine jU (af4 (.val a7 (aP m ws))) ?_ ?_ ⟨[[0]],.aN,rfl,rfl,.zero⟩
 . rintro i _ hi⟨SS,s2,rfl,M,y⟩;have Y:=y.len;have H:2^i<=16:=iX (n:=2) (by decide) (show i<=4 by omega);simp[M];apply ak;simp[show SS.length<=16777216 by omega];refine cg (FL _ _ _ _ _) (adD (1+(i:Int))) ⟨.aN,rfl,rfl⟩ ?_ ?_;.rintro d hd _⟨s,rfl,hs⟩;obtain⟨S,E,rfl⟩:=cK.mp hd;have:=(y.z S E).2.2;simp[hs,Mt,adD];exact⟨by show _<=16777216;omega,_,rfl,rfl⟩
   rintro _⟨s,rfl,hs⟩;have e:(SS.map Mt).map (adD (1+(i:Int)))=(SS.map λS=>S++[1+(i:Int)]).map Mt:=by rw[ec,ec];refine gi λS _=>?_;show adD _ (.lst (S.map D.int))=.lst ((S++[1+(i:Int)]).map D.int);rw[gI];rfl
   rw[e];have u:=y.succ;have Z:(SS.map λS=>S++[1+(i:Int)]).length<=16:=by simp;omega
   generalize(SS.map λS=>S++[1+(i:Int)])=TT at*;simp[show SS.length+TT.length<=16777216 by omega];rw[<-gI];exact⟨_,_,rfl,rfl,u⟩
 . rintro _⟨SS,s2,rfl,M,y⟩;have Y:=y.len;have hj:m.toNat-1-1<=4:=by omega
   have H:2^(m.toNat-1-1)<=16:=iX (n:=2) (by decide) hj;symm;simp;apply ak;simp;refine bW (ad1 (.val a7 (aP m ws)) ws SS s2) ?_ ?_ ⟨[],SS,.aN,rfl,rfl,rfl,rfl⟩;.rintro d r _⟨B,C,s4,rfl,O,hr,hd⟩;cases C with|nil=>cases hr|cons S C=>
       obtain⟨rfl,rfl⟩:d=Mt S/\r=C.map Mt:=by simpa using hr
       have ac:B.length<=SS.length:=by rw[<-hd];simp
       simp[O];apply ak;simp[show ws.length<=16777216 by omega];refine kW (FL _ _ _ _ _) (cuD S) ⟨.aN,rfl,rfl⟩ ?_ ?_;.rintro d hd _⟨s,rfl,hs⟩;obtain⟨v,I,rfl⟩:=cK.mp hd;have e:cuD S v.d=if(S.contains v.s&&!S.contains v.t)=bx then al (.int v.r)else bdq:=rfl;rw[e];have U:=T5 (S:=S) (i:=v.s);have W:=FN (S:=S) (i:=v.t);cases c1:S.contains v.s<;>cases c2:S.contains v.t<;>rw[c1]at U<;>rw[c2]at W<;>simp[hs,Wy.d,Mt,U,W]<;>exact⟨_,rfl,rfl⟩
       rintro _⟨s,rfl,hs⟩;obtain⟨ns,X,e2⟩:=Li (S:=S) (ws:=ws);rw[X];simp[eO,e2,show B.length<16777216 by omega];refine⟨B++[S],C,.val a7 (Mt S),?_,rfl,rfl,by rw[eP];exact hd⟩;simp[hE]
   . rintro _⟨B,C,s4,rfl,O,hr,hd⟩;have:C=[]:=by cases C with|nil=>rfl|cons _ _=>cases hr
     subst this;rw[fo]at hd;subst hd;obtain⟨S0,G,_⟩:=y.all λ_=>a7;obtain⟨A,hA,J,L⟩:=Hv (ns:=B.map λS=>jC S ws) (by intro e;rw[List.map_eq_nil_iff]at e;rw[e]at G;cases G);obtain⟨S1,E,X⟩:=cK.mp J;have hb:=Eo (S:=S1) (ws:=ws) λv I=>⟨(h.ok v I).r0,(h.ok v I).r1⟩;have hk:=k A (by omega) (by omega) λS u=>by
      obtain⟨R,hR,hP⟩:=y.all λx=>S.contains x;have:=L _ (cK.mpr ⟨R,hR,rfl⟩);rwa[uB (zU h) (T:=S) λx x0 x1=>?_]at this;rw[hP];constructor
      . rintro(e|e);.rw[e];exact u.1
        .exact hB.mp e.2.2
      . intro e;by_cases z:x=0;.exact .inl z
        .have:x≠m-1:=λz=>u.2 (z▸e);exact .inr ⟨by omega,by omega,hB.mpr e⟩
     have hm:=eO (ns:=B.map λS=>jC S ws);generalize(B.map λS=>jC S ws)=ns at*;simp;apply ak;simp[hm,hA];exact hk
noncomputable def mG(p:Int):List Wy->List Int->Int|w::ws,f::fs=>(if w.t=p then f else 0)+mG p ws fs|_,_=>0
noncomputable def ni(p:Int):List Wy->List Int->Int|w::ws,f::fs=>(if w.s=p then f else 0)+ni p ws fs|_,_=>0
noncomputable def over(p:Int)(ws:List Wy)(fs:List Int):Int:=ni p ws fs-mG p ws fs
theorem uQ{w:Wy}{f:Int}{fs:List Int}:over p (w::ws) (f::fs)=(if w.s=p then f else 0)-(if w.t=p then f else 0)+over p ws fs:=by simp only[over,ni,mG];omega
structure Nk(m:Int)(ws:List Wy)(fs:List Int):Prop where
 fit:Ko ws fs
 r0:0<=over 0 ws fs
 mid:∀p,1<=p->p<m-1->over p ws fs=0
noncomputable def hrs(ws:List Wy)(fs:List Int):Int:=dm (λv=>v.h) ws fs
noncomputable def SP:Nat->(Int->Int)->Int|0,_=>0|n+1,g=>SP n g+g n
theorem Bk{f g:Int->Int}:∀{n:Nat},SP n (λp=>f p+g p)=SP n f+SP n g|0=>rfl|n+1=>by rw[SP,SP,SP,Bk];omega
theorem Ej{q:Int->Int}{s f:Int}:∀{n:Nat},SP n (λp=>q p*(if s=p then f else 0))=if 0<=s/\s<(n:Int)then q s*f else 0
 |0=>by rw[SP,if_neg (by omega)]|n+1=>by
   rw[SP,Ej];by_cases c:s=(n:Int);.subst c;rw[if_neg (by omega),if_pos rfl,if_pos ⟨by omega,by omega⟩];omega
   . rw[if_neg c,mM,oN];by_cases d:0<=s/\s<(n:Int);.rw[if_pos d,if_pos ⟨d.1,by omega⟩]
     .rw[if_neg d,if_neg (by omega)]
theorem S5:∀{n:Nat}{g:Int->Int},(∀p:Int,0<=p->p<(n:Int)->g p=0)->SP n g=0|0,_,_=>rfl|n+1,g,h=>by rw[SP,S5 λp e p1=>h p e (by omega),h n (by omega) (by omega)];rfl
theorem K5:∀{n:Nat}{f g:Int->Int},(∀p:Int,0<=p->p<(n:Int)->f p=g p)->SP n f=SP n g|0,_,_,_=>rfl|n+1,f,g,h=>by rw[SP,SP,K5 λp e p1=>h p e (by omega),h n (by omega) (by omega)]
theorem HD{g:Int->Int}:∀{n:Nat},(∀p:Int,1<=p->p<(n:Int)+1->g p=0)->SP (n+2) g=g 0+g ((n:Int)+1)|0,_=>by show 0+g 0+g 1=g 0+g 1;omega|n+1,h=>by rw[SP,HD (n:=n) λp e p1=>h p e (by omega),h ((n:Int)+1) (by omega) (by omega)];show g 0+0+g ((n+1+1:Nat):Int)=_;rw[show((n+1+1:Nat):Int)=((n+1:Nat):Int)+1 by omega];omega
theorem vJ{M:Nat}{k:Int}{q:Int->Int}:∀{ws:List Wy}{fs:List Int},(∀w∈ws,(0<=w.s/\w.s<(M:Int))/\(0<=w.t/\w.t<(M:Int)))->dm (gap k q) ws fs=-SP M (λp=>q p*over p ws fs)-k*hrs ws fs
 |[],fs,_=>by
   have:SP M (λp=>q p*over p [] fs)=0:=S5 λp _ _=>by show q p*(0-0)=0;simp
   rw[this];unfold hrs;cases fs<;>simp[dm]|v::ws,[],_=>by
   have:SP M (λp=>q p*over p (v::ws) [])=0:=S5 λp _ _=>by show q p*(0-0)=0;simp
   rw[this];unfold hrs;simp[dm]|v::ws,g::fs,h=>by
   have u:=h v (by simp);have y:=vJ (M:=M) (k:=k) (q:=q) (ws:=ws) (fs:=fs) λw z=>h w (by simp[z]);have e:SP M (λp=>q p*over p (v::ws) (g::fs))=q v.s*g-q v.t*g+SP M (λp=>q p*over p ws fs):=by
    have A:SP M (λp=>q p*over p (v::ws) (g::fs))=SP M (λp=>(q p*(if v.s=p then g else 0)+(-q p)*(if v.t=p then g else 0))+q p*over p ws fs):=K5 λp _ _=>by rw[uQ,n5,i3,Int.neg_mul];omega
    rw[A,Bk,Bk,Ej,Ej (q:=λp=>-q p),if_pos ⟨u.1.1,u.1.2⟩,if_pos ⟨u.2.1,u.2.2⟩,Int.neg_mul];omega
   rw[e];show gap k q v*g+dm (gap k q) ws fs=_-k*(v.h*g+hrs ws fs);rw[y];unfold gap;rw[Int.sub_mul,Int.sub_mul,n5,Int.mul_assoc];omega
theorem Nk.dot{fs:List Int}(h:Nk m ws fs)(e:dj m ws):dm (gap k q) ws fs=over 0 ws fs*(q (m-1)-q 0)-k*hrs ws fs:=by
 obtain⟨n,G⟩:∃n:Nat,m=(n:Int)+2:=⟨(m-2).toNat,by have:=e.m0;omega⟩;have u:∀w∈ws,(0<=w.s/\w.s<((n+2:Nat):Int))/\(0<=w.t/\w.t<((n+2:Nat):Int)):=λw y=>by have:=zU e w y;omega
 have two:∀q:Int->Int,SP (n+2) (λp=>q p*over p ws fs)=q 0*over 0 ws fs+q (m-1)*over (m-1) ws fs:=λq=>by rw[HD λp A p1=>by rw[h.mid p A (by omega),mM],show(n:Int)+1=m-1 by omega]
 have B:=vJ (M:=n+2) (k:=0) (q:=λ_=>1) (fs:=fs) u;rw[two (λ_=>1)]at B;have z:dm (gap 0 λ_=>1) ws fs=0:=by
  have:∀(ws:List Wy)(fs:List Int),dm (gap 0 λ_=>1) ws fs=0:=λws=>by induction ws with|nil=>intro fs;cases fs<;>rfl|cons v ws C=>intro fs;cases fs with|nil=>rfl|cons g fs=>show gap 0 (λ_=>1) v*g+dm _ ws fs=0;rw[C];unfold gap;simp
  exact this ws fs
 rw[vJ u,two q];have E:over (m-1) ws fs=-over 0 ws fs:=by omega
 rw[E,i3,hY (q 0),qS,hY (q (m-1))];omega
theorem Vz{fs:List Int}(h:Ko ws fs)(h1:∀v∈ws,1<=v.h):0<=hrs ws fs:=by
 have:=vp (G:=λv=>v.h) (H:=λ_=>0) h.len λj v g e t=>by have a:=h1 v (du e);have b:=(h.ok _ _ _ e t).1;exact Int.mul_nonneg (by omega) b
 have z:∀ws:List Wy,sy (λ_=>0) ws=0:=λws=>by induction ws with|nil=>rfl|cons v ws u=>rw[sy,u];rfl
 rw[z]at this;exact this
theorem Nk.le{fs:List Int}(h:Nk m ws fs)(A:dj m ws)(B:cL m ws cs):over 0 ws fs<=sX cs:=by
 obtain⟨S,z,hc⟩:=B.cut;have e:=h.dot (k:=0) (q:=nS S) A;have u:nS S (m-1)=1:=if_neg z.2;have y:nS S 0=0:=if_pos z.1;rw[u,y]at e;have:=wy (G:=gap 0 (nS S)) (H:=O8 S) h.fit.len λj v g u y=>by have C:=h.fit.ok _ _ _ u y;unfold gap nS O8;by_cases a:v.s∈S<;>by_cases b:v.t∈S<;>simp[a,b]<;>omega
 rw[qT]at this;omega
theorem Nk.least{m:Int}{ws:List Wy}{fs:List Int}{cs:List (List az×Int)}{kvs:List (Int×Int)}(h:Nk m ws fs)(A:dj m ws)(t:Mu m ws cs kvs):lh kvs (over 0 ws fs)<=hrs ws fs:=by
 have u:=h.le A t.e;rw[<-t.vs]at u;by_cases c:over 0 ws fs=0;.rw[c,Gs t.b.nn];exact Vz h.fit t.e.1
 .have r0:=h.r0;obtain⟨y,z,e⟩:=Ri t.b.nn t.so (q:=over 0 ws fs) (by omega) u;have G:=(t.b.nn y z).1;rw[<-e,t.vt];obtain⟨q,B,C,E⟩:=(t.e.least (T:=y.1-1) (by omega)).ex;have:=vz (q:=q) h.fit;rw[h.dot A,B,C,E,show y.1-1+1-0=y.1 by omega,hY (over 0 ws fs)]at this;omega
noncomputable def iZ:List (List az×Int)->Int->List (List az×Int)|[],_=>[]|x::r,q=>(x.1,min q x.2)::iZ r (q-min q x.2)
noncomputable def Mv:List (List az×Int)->Int->Int|[],q=>q|x::r,q=>Mv r (q-min q x.2)
theorem MK:∀{l:List (List az×Int)}{q:Int},(iZ l q).length=l.length|[],_=>rfl|x::r,q=>by rw[iZ,dL,MK,dL]
theorem Dk:∀{l:List (List az×Int)}{q:Int}{y:List az×Int},y∈iZ l q->∃x∈l,y.1=x.1
 |[],_,_,h=>by cases h|x::r,q,y,h=>by
   rw[iZ,cS]at h;rcases h with rfl|h;.exact⟨x,by simp,rfl⟩
   .obtain⟨z,hz,e⟩:=Dk h;exact⟨z,by simp[hz],e⟩
theorem Iv:∀{l:List (List az×Int)}{q:Int},(∀x∈l,0<x.2)->0<=q->q<=sX l->Mv l q=0
 |[],q,_,h0,h1=>by have h1:q<=0:=h1;rw[Mv];omega|x::r,q,h,h0,h1=>by
   have A:=h x (by simp);have h1:q<=x.2+sX r:=h1;have hr:0<=sX r:=by
    have:∀(l:List (List az×Int)),(∀x∈l,0<x.2)->0<=sX l:=λl=>by induction l with|nil=>intro _;exact eT _|cons y l t=>intro e;have B:=t λz hz=>e z (by simp[hz]);have C:=e y (by simp);show 0<=y.2+sX l;omega
    exact this r λz hz=>h z (by simp[hz])
   rw[Mv];exact Iv (λy u=>h y (by simp[u])) (by omega) (by omega)
inductive JCu(a0 a1:Sl)(N:Nat)(out:List (List az×Int))(z:Int)(r:List D)(ρ:List Sl):Prop where|mk(us bz:List (List az×Int))(q:Int)(s4 s5 s6:Sl)(q0:ρ=[a0,a1,.own a7 (bz.map cD),.val a7 (.int q),s4,s5,s6])(q1:A3 (fr s4=bx) (fr s5=bx) (fr s6=bx))(q2:r=us.map cD)(q3:bz++iZ us q=out)(q4:Mv us q=z)(q5:bz.length+us.length=N)
theorem Fw{q:Int}(C:cs.length<=16000000)(hz:Mv cs q=0)(k:Q (.own ((iZ cs q).map cD)) [.own a7 (cs.map cD),.val a7 (.int q)]):(run Γ w (n+1) 9 [.own a7 (cs.map cD),.val a7 (.int q)]).sat Q:=by
 refine aL (d:=f9) rfl rfl (by decide) ?_;symm;simp[f9];apply ak;simp;apply ak;simp;refine bW (JCu _ _ cs.length (iZ cs q) 0) ?_ ?_ ⟨cs,[],q,.aN,.aN,.aN,rfl,⟨rfl,rfl,rfl⟩,rfl,rfl,hz,by simp⟩;.rintro d r _⟨e,h,q,s4,s5,s6,rfl,⟨t,y,z⟩,hr,ho,hz,A⟩;cases e with|nil=>cases hr|cons u e=>
     obtain⟨rfl,rfl⟩:d=cD u/\r=e.map cD:=by simpa using hr
     rw[iZ]at ho;rw[Mv]at hz;rw[dL]at A;simp[cD,t,y];apply ak;simp[z];apply ak;simp[show h.length<16777216 by omega];apply ak;simp;have B:(if u.2<q then u.2 else q)=min q u.2:=by split<;>omega
     rw[B];exact⟨e,h++[(u.1,min q u.2)],q-min q u.2,_,_,_,by rw[gI];rfl,⟨rfl,rfl,rfl⟩,rfl,by rw[eP];exact ho,hz,by simp;omega⟩
 . rintro _⟨e,h,q,s4,s5,s6,rfl,⟨t,y,z⟩,hr,ho,hz,A⟩;have:e=[]:=by cases e with|nil=>rfl|cons _ _=>cases hr
   subst this;rw[iZ,fo]at ho;rw[Mv]at hz;subst ho;subst hz;simp;apply ak;simp;apply ak;simp;exact k
theorem JK{fs:List Int}:∀{c:List az},aug 0 fs c=fs
 |[]=>rfl|s::c=>by
   show aug 0 (jJ 0 fs s) c=fs;have:jJ 0 fs s=fs:=by
    unfold jJ;have h0:sg 0 s.2=0:=by cases s.2<;>rfl
    rw[h0,oN];refine List.ext_getElem? λi=>?_;rw[mP];split
    . rename_i e;subst e;split;.rename_i h;simp[h]
      .rename_i h;simp at h;simp[h]
    .rfl
   rw[this,JK]
structure Xk(m:Int)(ws:List Wy)(ts:List (List az×Int))(fs:List Int):Prop where
 fit:Ko ws fs
 ht:∃F,Pt ws fs F/\F 0=0
 dt:∀k q,dm (gap k q) ws fs=bY (λx=>x.2*(q (m-1)-q 0-k*bV ws x.1)) ts
theorem QT:∀{l:List (List az×Int)}{fs:List Int}{H:List az×Int->Int},(∀x∈l,0<x.2)->(∀c,H (c,0)=0)->(iZ l 0).foldl mL fs=fs/\bY H (iZ l 0)=0
 |[],_,_,_,_=>⟨rfl,rfl⟩|x::r,fs,H,h,t=>by
   have B:=h x (by simp);have u:=QT (l:=r) (fs:=fs) (λy z=>h y (by simp[z])) t;have e:iZ (x::r) 0=(x.1,0)::iZ r 0:=by rw[iZ,show min 0 x.2=0 by omega,l8]
   rw[e,oj,bY,t,u.2];have A:mL fs (x.1,0)=fs:=JK;rw[A];exact⟨u.1,rfl⟩
theorem oJ{H:List az×Int->Int}{b:List (List az×Int)}:∀{a:List (List az×Int)},bY H (a++b)=bY H a+bY H b|[]=>by simp[bY]|x::a=>by rw[kD,bY,bY,oJ];omega
theorem Ends.light{d:Int}{fs:List Int}(B:Ends m ws cs fs F d es):∀(t A:List (List az×Int))(q:Int),A++t=cs->0<=q->Xk m ws (A++iZ t q) ((iZ t q).foldl mL (flow ws.length A)):=by
 have pos:∀x∈cs,0<x.2:=λx I=>(B.iv.ch x I).2.1;have C:∀A t,A++t=cs->Xk m ws A (flow ws.length A):=λA t e=>by cases t with|nil=>rw[fo]at e;subst e;rw[<-B.fl];exact⟨B.iv.fit,⟨F,B.iv.pt,B.iv.z⟩,B.iv.dt⟩|cons x r=>have s:=B.st.2 A x r e.symm;obtain⟨J,d0,iv⟩:=s.iv;exact⟨iv.fit,⟨J,iv.pt,iv.z⟩,iv.dt⟩
 have zero:∀(t E:List (List az×Int))(gs:List Int),(∀x∈t,0<x.2)->Xk m ws E gs->Xk m ws (E++iZ t 0) ((iZ t 0).foldl mL gs):=λt E gs L h=>by have hz:=λH M=>QT (l:=t) (fs:=gs) (H:=H) L M;rw[(hz (λ_=>0) λ_=>rfl).1];refine⟨h.fit,h.ht,λk q=>?_⟩;rw[oJ,(hz (λx=>x.2*(q (m-1)-q 0-k*bV ws x.1)) λc=>by simp).2,h.dt,oN]
 intro t;induction t with|nil=>intro A q e _;rw[iZ,fo];exact C A [] e|cons x r O=>
   intro A q e Y;have I:=pos x (by rw[<-e];simp);have hr:∀y∈r,0<y.2:=λy U=>pos y (by rw[<-e];simp[U]);rw[iZ];by_cases c:x.2<=q
   . have G:min q x.2=x.2:=by omega
     rw[G];have:=O (A++[x]) (q-x.2) (by rw[eP];exact e) (by omega);rw[eP,qU]at this;exact this
   . have G:min q x.2=q:=by omega
     rw[G,l8,oj];have s:=B.st.2 A x r e.symm;have ck:=B.ck x (by rw[<-e];simp);obtain⟨F1,p1,p2,p3⟩:=s.ht;obtain⟨J,d0,iv⟩:=s.iv;have g:Xk m ws (A++[(x.1,q)]) (mL (flow ws.length A) (x.1,q)):=by
      show Xk m ws _ (aug q (flow ws.length A) x.1);refine⟨?_,⟨F1,p1.aug ck.2.2.1 s.op (by rw[p2,p3];omega),p2⟩,λk Z=>?_⟩
      . by_cases z:q=0;.subst z;rw[JK];exact iv.fit
        .refine iv.fit.aug ck.2.2.2 (by omega) λu W=>?_;obtain⟨v,g,h1,X,h3⟩:=s.rm u W;exact⟨v,g,h1,X,by omega⟩
      .rw[pX iv.fit.len ck.2.2.1,iv.dt,jV]
     have:=zero r _ _ hr g;rw[eP]at this;exact this
noncomputable def dl(a:Int)(p:Int):Int:=if p=a then 1 else 0
theorem K7{fs:List Int}(h:dj m ws)(u:0<=a)(B:a<m):dm (gap 0 (dl a)) ws fs=-over a ws fs:=by
 have y:∀w∈ws,(0<=w.s/\w.s<((m.toNat:Nat):Int))/\(0<=w.t/\w.t<((m.toNat:Nat):Int)):=λw A=>by have:=zU h w A;omega
 rw[vJ y];have:SP m.toNat (λp=>dl a p*over p ws fs)=over a ws fs:=by
  have e:SP m.toNat (λp=>dl a p*over p ws fs)=SP m.toNat (λp=>over p ws fs*(if a=p then 1 else 0)):=K5 λp _ _=>by
   unfold dl;by_cases c:p=a;.rw[if_pos c,if_pos c.symm];omega
   .rw[if_neg c,if_neg λz=>c z.symm];omega
  rw[e,Ej (q:=λp=>over p ws fs),if_pos ⟨u,by omega⟩,mul_one]
 rw[this];omega
theorem CN:∀{l:List (List az×Int)}{q:Int},sX (iZ l q)=q-Mv l q|[],q=>by show(0:Int)=q-q;omega|x::r,q=>by rw[iZ,Mv];show min q x.2+sX (iZ r (q-min q x.2))=_;rw[CN];omega
noncomputable def prs(ws:List Wy)(cs:List (List az×Int)):List (Int×Int):=cs.map λx=>(bV ws x.1,x.2)
theorem Iz{ws:List Wy}:∀{l:List (List az×Int)}{q:Int},bY (λx=>bV ws x.1*x.2) (iZ l q)=lh (prs ws l) q|[],_=>rfl|x::r,q=>by rw[iZ,bY,Iz];rfl
theorem uZ{ws:List Wy}{W:Int->Int->Int}:∀{l:List (List az×Int)},jD W (prs ws l)=bY (λx=>W (bV ws x.1) x.2) l|[]=>rfl|x::r=>by show W (bV ws x.1) x.2+jD W (prs ws r)=_;rw[uZ];rfl
theorem JD:∀{l:List (Int×Int)}{q:Int},(∀kv∈l,1<=kv.1/\0<kv.2)->l.Pairwise (λa b=>a.1<=b.1)->0<q->q<=vs l->∃kv∈l,kv.1*q-jD (vt (kv.1-1)) l=lh l q
 |[],q,_,_,h0,h1=>by rw[vs]at h1;omega|kv::r,q,h,u,h0,h1=>by
   have A:=h kv (by simp);have hr:∀x∈r,1<=x.1/\0<x.2:=λx t=>h x (by simp[t]);have u:=jI.mp u;rw[vs]at h1;by_cases c:q<=kv.2;.refine⟨kv,by simp,?_⟩;rw[lh,show min q kv.2=q by omega,l8,Gs hr,jD,Hw λx t=>by have:=u.1 x t;unfold vt;rw[if_neg (by omega)]];unfold vt;rw[if_neg (by omega)];omega
   . obtain⟨x,t,e⟩:=JD (l:=r) (q:=q-kv.2) hr u.2 (by omega) (by omega);have y:=u.1 x t;refine⟨x,by simp[t],?_⟩;rw[lh,show min q kv.2=kv.2 by omega,<-e,jD];have z:vt (x.1-1) kv.1 kv.2=kv.2*x.1-kv.2*kv.1:=by
      unfold vt;by_cases d:kv.1<=x.1-1;.rw[if_pos d,<-i3];congr 1;omega
      .rw[if_neg d,show x.1=kv.1 by omega];omega
     rw[z,i3,hY x.1 kv.2,hY kv.1 kv.2];omega
theorem V0{l:List (List az×Int)}:vs (prs ws l)=sX l:=by rw[<-zM,uZ];rfl
theorem aeF:bY (λ_=>0) cs=0:=by induction cs with|nil=>rfl|cons x cs e=>rw[bY,e];rfl
theorem Ht{q d:Int}{fs:List Int}(A:dj m ws)(C:Ends m ws cs fs F d es)(O:cL m ws cs)(E:0<=q)(U:q<=sX cs):Nk m ws (flow ws.length (iZ cs q))/\over 0 ws (flow ws.length (iZ cs q))=q/\∀t kvs,Mu m ws t kvs->hrs ws (flow ws.length (iZ cs q))=lh kvs q:=by
 have m0:=A.m0;have pos:∀x∈cs,0<x.2:=λx G=>(C.iv.ch x G).2.1;have L:=C.light cs [] q rfl E;rw[mn]at L;rw[show(iZ cs q).foldl mL (flow ws.length [])=flow ws.length (iZ cs q)from rfl]at L;generalize flow ws.length (iZ cs q)=gs at L ⊢;have B:sX (iZ cs q)=q:=by rw[CN,Iv pos E U];omega
 have ov:∀a,0<=a->a<m->-over a ws gs=q*(dl a (m-1)-dl a 0):=λa W X=>by
  rw[<-K7 A W X,L.dt];have:∀(l:List (List az×Int))(z:Int),bY (λx=>x.2*(z-0*bV ws x.1)) l=sX l*z:=λl z=>by induction l with|nil=>show(0:Int)=0*z;simp|cons x l H=>rw[bY,H];show x.2*(z-0*bV ws x.1)+sX l*z=(x.2+sX l)*z;rw[p0,Int.zero_mul,mx]
  rw[this,B]
 have I:over 0 ws gs=q:=by have:=ov 0 (by omega) (by omega);rw[show dl 0 (m-1)=0 from if_neg (by omega),show dl 0 0=1 from if_pos rfl]at this;omega
 have R:Nk m ws gs:=⟨L.fit,by omega,λp Z p1=>by have:=ov p (by omega) (by omega);rw[show dl p (m-1)=0 from if_neg (by omega),show dl p 0=0 from if_neg (by omega)]at this;omega⟩;refine⟨R,I,λt kvs u=>?_⟩;have J:q<=sX t:=by rw[<-I];exact R.le A u.e
 refine Int.le_antisymm ?_ (by rw[<-I];exact R.least A u);have Y:hrs ws gs=lh (prs ws cs) q:=by
  have M:=R.dot (k:=1) (q:=λ_=>0) A;rw[L.dt]at M;rw[<-Iz];have:∀l:List (List az×Int),bY (λx=>x.2*((0:Int)-0-1*bV ws x.1)) l=-bY (λx=>bV ws x.1*x.2) l:=λl=>by induction l with|nil=>rfl|cons x l H=>rw[bY,bY,H,show(0:Int)-0-1*bV ws x.1=-bV ws x.1 by omega,qS,hY];omega
  rw[this]at M;simp at M;omega
 rw[Y];have pn:∀h∈prs ws cs,1<=h.1/\0<h.2:=λh y=>by obtain⟨x,G,rfl⟩:=cK.mp y;exact O.nn x G
 by_cases c:q=0;.subst c;rw[Gs pn,Gs u.b.nn];exact eT _
 . have so:(prs ws cs).Pairwise (λa b=>a.1<=b.1):=by unfold prs;rw[lT];exact C.st.1
   obtain⟨h,y,e⟩:=JD pn so (q:=q) (by omega) (by rw[V0];exact U);have hk:=(pn h y).1;rw[<-e,uZ,show bY (λx=>vt (h.1-1) (bV ws x.1) x.2) cs=jD (vt (h.1-1)) kvs by rw[u.vt];exact O.val_eq u.e _];have:=Q6 (T:=h.1-1) u.b.nn E (by rw[u.vs];exact J);rw[show h.1-1+1=h.1 by omega]at this;exact this
noncomputable def gG(ks:List Nat):List Int:=ks.map λ(k:Nat)=>(k:Int)
noncomputable def tW(ls:List Int):D->D|.int i=>.int (ls.getD i.toNat 0)|d=>d
theorem xF{ls:List Int}{ks:List Nat}:((gG ks).map D.int).map (tW ls)=(ks.map λk=>ls.getD k 0).map D.int:=by simp only[gG,ec];apply gi;intro k _;simp[tW]
noncomputable def mF(p:Int):Nat->List Wy->List Nat|_,[]=>[]|i,w::ws=>if w.t=p then i::mF p (i+1) ws else mF p (i+1) ws
noncomputable def m6(p:Int):Nat->List Wy->List Nat|_,[]=>[]|i,w::ws=>if w.s=p then i::m6 p (i+1) ws else m6 p (i+1) ws
noncomputable def inD(p:Int):D->Option D|.tup [i,.tup (_::.int t::_)]=>if t==p then al i else bdq|_=>bdq
noncomputable def outD(p:Int):D->Option D|.tup [i,.tup (.int s::_)]=>if s==p then al i else bdq|_=>bdq
noncomputable def Bu(ws:List Wy):List D:=(ws.map Wy.d).mapIdx λi d=>D.tup [.int (i:Int),d]
theorem Qg{t:List D}{d:D}(h:d∈t.mapIdx λi d=>D.tup [.int (i:Int),d]):∃(i:Nat)(e:D),d=.tup [.int i,e]/\e∈t:=by rw[List.mem_mapIdx]at h;obtain⟨i,hi,rfl⟩:=h;exact⟨i,_,rfl,kC hi⟩
theorem xW{d:D}(h:d∈Bu ws):∃(i:Nat)(w:Wy),d=.tup [.int i,w.d]/\w∈ws:=by obtain⟨i,e,rfl,he⟩:=Qg h;obtain⟨w,t,rfl⟩:=cK.mp he;exact⟨i,w,rfl,t⟩
theorem qL(f:D->Option D)(h:Nat->List Wy->List Nat)(h0:∀i,h i []=[])(h1:∀(i:Nat)(w:Wy)(ws:List Wy),(match f (.tup [.int (i:Int),w.d])with|some x=>x=.int (i:Int)/\h i (w::ws)=i::h (i+1) ws|none=>h i (w::ws)=h (i+1) ws)):∀(ws:List Wy)(i:Nat),(((ws.map Wy.d).mapIdx λj d=>D.tup [.int ((i+j:Nat):Int),d]).filterMap f)=(gG (h i ws)).map D.int
 |[],i=>by rw[h0];rfl|w::ws,i=>by
   rw[dc,List.mapIdx_cons,gu];have t:=qL f h h0 h1 ws (i+1);have e:(λ(j:Nat)(d:D)=>D.tup [.int ((i+(j+1):Nat):Int),d])=λj d=>D.tup [.int ((i+1+j:Nat):Int),d]:=by funext j d;rw[show i+(j+1)=i+1+j by omega]
   rw[e,t];have:=h1 i w ws;rw[Nat.add_zero];cases hf:f (.tup [.int (i:Int),w.d])with|none=>rw[hf]at this;simp only at this;rw[this]|some x=>rw[hf]at this;simp only at this;rw[this.2,this.1];rfl
theorem Wl:(Bu ws).filterMap (inD p)=(gG (mF p 0 ws)).map D.int:=by have:=qL (inD p) (mF p) (λ_=>rfl) (λi w ws=>by by_cases h:w.t=p<;>simp[inD,Wy.d,mF,h]) ws 0;simpa[Bu]using this
theorem P0:(Bu ws).filterMap (outD p)=(gG (m6 p 0 ws)).map D.int:=by have:=qL (outD p) (m6 p) (λ_=>rfl) (λi w ws=>by by_cases h:w.s=p<;>simp[outD,Wy.d,m6,h]) ws 0;simpa[Bu]using this
inductive F2(a b:Sl)(ρ:List Sl):Prop where|mk(s:Sl)(t:Sl)(q0:ρ=[a,b,s,t])(q1:fr s=bx)(q2:fr t=bx)
theorem N8(h:dj m ws)(k:Q (.own ((gG (m6 p 0 ws)).map D.int)) [.val a7 (aP m ws),.val a7 (.int p)]):(run Γ w (n+1) 10 [.val a7 (aP m ws),.val a7 (.int p)]).sat Q:=by
 refine aL (d:=f10) rfl rfl (by decide) ?_;symm;have u:=h.len;have h1:ws.length<=lim:=by show _<=16777216;omega
 simp[f10,h1];refine kW (F2 _ _) (outD p) ⟨.aN,.aN,rfl,rfl,rfl⟩ ?_ ?_
 . rintro d hd _⟨s,t,rfl,hs,ht⟩;obtain⟨i,w,rfl,y⟩:=xW hd;by_cases e:w.s=p;.simp[hs,ht,Wy.d,outD,e];exact⟨_,_,rfl,rfl,rfl⟩
   .simp[hs,ht,Wy.d,outD,e];exact⟨_,_,rfl,rfl,rfl⟩
 .rintro _⟨s,t,rfl,hs,ht⟩;rw[show((map Wy.d ws).mapIdx λi d=>D.tup [.int (i:Int),d])=Bu ws from rfl,P0];generalize(gG (m6 p 0 ws)).map D.int=L at*;simp;exact k
theorem Ud(h:dj m ws)(k:Q (.own ((gG (mF p 0 ws)).map D.int)) [.val a7 (aP m ws),.val a7 (.int p)]):(run Γ w (n+1) 11 [.val a7 (aP m ws),.val a7 (.int p)]).sat Q:=by
 refine aL (d:=f11) rfl rfl (by decide) ?_;symm;have u:=h.len;have h1:ws.length<=lim:=by show _<=16777216;omega
 simp[f11,h1];refine kW (F2 _ _) (inD p) ⟨.aN,.aN,rfl,rfl,rfl⟩ ?_ ?_
 . rintro d hd _⟨s,t,rfl,hs,ht⟩;obtain⟨i,w,rfl,y⟩:=xW hd;by_cases e:w.t=p;.simp[hs,ht,Wy.d,inD,e];exact⟨_,_,rfl,rfl,rfl⟩
   .simp[hs,ht,Wy.d,inD,e];exact⟨_,_,rfl,rfl,rfl⟩
 .rintro _⟨s,t,rfl,hs,ht⟩;rw[show((map Wy.d ws).mapIdx λi d=>D.tup [.int (i:Int),d])=Bu ws from rfl,Wl];generalize(gG (mF p 0 ws)).map D.int=L at*;simp;exact k
theorem xu{p:Int}{F:List Int}:∀(ws:List Wy)(i:Nat),F.length=i+ws.length->((mF p i ws).map λk=>F.getD k 0).sum=mG p ws (F.drop i)/\∀k∈mF p i ws,k<F.length
 |[],i,_=>by simp[mF,mG]|w::ws,i,h=>by
   simp only[dL]at h;have hi:i<F.length:=by omega
   obtain⟨u,y⟩:=xu (F:=F) ws (i+1) (by omega);rw[fy hi,mF,mG];by_cases e:w.t=p
   . rw[if_pos e,if_pos e];refine⟨?_,λk hk=>?_⟩;.rw[dc,km,u];simp[hi]
     . rcases cS.mp hk with rfl|hk;.exact hi
       .exact y k hk
   .rw[if_neg e,if_neg e];exact⟨by rw[u];omega,y⟩
theorem xm{p:Int}{F:List Int}:∀(ws:List Wy)(i:Nat),F.length=i+ws.length->((m6 p i ws).map λk=>F.getD k 0).sum=ni p ws (F.drop i)/\∀k∈m6 p i ws,k<F.length
 |[],i,_=>by simp[m6,ni]|w::ws,i,h=>by
   simp only[dL]at h;have hi:i<F.length:=by omega
   obtain⟨t,u⟩:=xm (F:=F) ws (i+1) (by omega);rw[fy hi,m6,ni];by_cases e:w.s=p
   . rw[if_pos e,if_pos e];refine⟨?_,λk hk=>?_⟩;.rw[dc,km,t];simp[hi]
     . rcases cS.mp hk with rfl|hk;.exact hi
       .exact u k hk
   .rw[if_neg e,if_neg e];exact⟨by rw[t];omega,u⟩
theorem xg{p:Int}:∀(ws:List Wy)(i:Nat),(mF p i ws).length<=ws.length|[],_=>dq|w::ws,i=>by have:=xg (p:=p) ws (i+1);rw[mF];split<;>simp<;>omega
theorem xG{p:Int}:∀(ws:List Wy)(i:Nat),(m6 p i ws).length<=ws.length|[],_=>dq|w::ws,i=>by have:=xG (p:=p) ws (i+1);rw[m6];split<;>simp<;>omega
inductive F4(a b c d:Sl)(ρ:List Sl):Prop where|mk(s:Sl)(q0:ρ=[a,b,c,d,s])(q1:fr s=bx)
theorem qy{fs:List Int}(h:dj m ws)(E:fs.length=ws.length)(k:Q (.val (.int (mG p ws fs-ni p ws fs))) [.val a7 (aP m ws),.val a7 (.lst (fs.map D.int)),.val a7 (.int p)]):(run Γ w (n+2) 12 [.val a7 (aP m ws),.val a7 (.lst (fs.map D.int)),.val a7 (.int p)]).sat Q:=by
 have G:=h.len;refine aL (d:=f12) rfl rfl (by decide) ?_;symm;simp[f12];refine Ud h ?_;obtain⟨t1,t2⟩:=xu (p:=p) (F:=fs) ws 0 (by omega);have z:=xg (p:=p) ws 0;generalize mF p 0 ws=ks at*;simp[show(gG ks).length<=lim by simp only[gG,dQ];show _<=16777216;omega];refine cg (F4 _ _ _ _) (tW fs) ⟨.aN,rfl,rfl⟩ ?_ ?_;.rintro d hd _⟨u,rfl,e⟩;simp only[gG,ec,cK]at hd;obtain⟨k,y,rfl⟩:=hd;obtain⟨f,t⟩:∃f,fs[k]?=al f:=⟨_,fS (t2 k y)⟩;simp[e,gO t,tW,t];exact⟨_,rfl,rfl⟩
 rintro _⟨u,rfl,e⟩;rw[xF];generalize(ks.map λk=>fs.getD k 0)=ns at*;simp[t1];apply ak;simp;refine N8 h ?_;obtain⟨A,B⟩:=xm (p:=p) (F:=fs) ws 0 (by omega);have C:=xG (p:=p) ws 0;generalize m6 p 0 ws=ks at*;simp[show(gG ks).length<=lim by simp only[gG,dQ];show _<=16777216;omega];refine cg (F4 _ _ _ _) (tW fs) ⟨.aN,rfl,rfl⟩ ?_ ?_;.rintro d hd _⟨u,rfl,e⟩;simp only[gG,ec,cK]at hd;obtain⟨k,y,rfl⟩:=hd;obtain⟨f,t⟩:∃f,fs[k]?=al f:=⟨_,fS (B k y)⟩;simp[e,gO t,tW,t];exact⟨_,rfl,rfl⟩
 rintro _⟨u,rfl,e⟩;rw[xF];generalize(ks.map λk=>fs.getD k 0)=ns at*;simp[A];exact k
theorem EY{fs:List Int}(h:dj m ws)(e:fs.length=ws.length)(k:Q (.val (.int (ni 0 ws fs-mG 0 ws fs))) [.val a7 (aP m ws),.val a7 (.lst (fs.map D.int))]):(run Γ w (n+3) 13 [.val a7 (aP m ws),.val a7 (.lst (fs.map D.int))]).sat Q:=by refine aL (d:=f13) rfl rfl (by decide) ?_;symm;simp[f13];refine qy h e ?_;simp;rw[show-(mG 0 ws fs-ni 0 ws fs)=ni 0 ws fs-mG 0 ws fs by omega];exact k
noncomputable def Within(ws:List Wy)(fs:List Int):Prop:=∀(k:Nat)(w:Wy)(f:Int),ws[k]?=al w->fs[k]?=al f->0<=f/\f<=w.r
noncomputable def qJ(m:Int)(ws:List Wy)(fs:List Int):Prop:=fs.length=ws.length/\Within ws fs/\0<=over 0 ws fs/\∀p,1<=p->p<m-1->over p ws fs=0
noncomputable def wiD:D->D|.tup [.int f,.tup (_::_::.int r::_)]=>.bl (decide (0<=f)&&decide (f<=r))|d=>d
theorem K8:∀(fs:List Int)(ws:List Wy),((fs.map D.int).zip (ws.map Wy.d)).map (λp=>D.tup [p.1,p.2])=(fs.zip ws).map λp=>D.tup [.int p.1,p.2.d]|[],_=>by simp|_::_,[]=>by simp|f::fs,w::ws=>by simp[K8 fs ws]
theorem Uu(e:List (Int×Wy)):(e.map λp=>D.tup [.int p.1,p.2.d]).map wiD=(e.map λp=>(decide (0<=p.1)&&decide (p.1<=p.2.r))).map D.bl:=by rw[ec,ec];rfl
theorem JL:∀{ws:List Wy}{fs:List Int},((fs.zip ws).map λp=>(decide (0<=p.1)&&decide (p.1<=p.2.r))).all id=bx↔Within ws fs
 |[],fs=>by simp[Within]|_::_,[]=>by simp[Within]|w::ws,f::fs=>by
   rw[l_,dc,kq,ey,JL (ws:=ws) (fs:=fs)];constructor;.rintro⟨h1,u⟩k v g e t;cases k with|zero=>simp at e t;subst e t;simpa using h1|succ k=>exact u k v g (by simpa using e) (by simpa using t)
   .intro h;exact⟨by simpa using h 0 w f rfl rfl,λk v g e t=>h (k+1) v g (by simpa using e) (by simpa using t)⟩
inductive FW(b:Sl)(a:Sl)(ρ:List Sl):Prop where|mk(s:Sl)(t:Sl)(q0:ρ=[a,b,s,t])(q1:fr s=bx)(q2:fr t=bx)
theorem zB{fs:List Int}(h:dj m ws)(y:fs.length=ws.length)(k:∀b:Bool,(b=bx↔Within ws fs)->Q (.val (.bl b)) [.val a7 (aP m ws),.val a7 (.lst (fs.map D.int))]):(run Γ w (n+1) 14 [.val a7 (aP m ws),.val a7 (.lst (fs.map D.int))]).sat Q:=by
 have z:=h.len;refine aL (d:=f14) rfl rfl (by decide) ?_;symm;have u:=k _ JL
 . skip;simp[f14,show fs.length<=lim by show _<=16777216;omega];rw[K8];refine⟨λ_=>?_,by show _<=16777216;omega⟩;refine cg (FW _ _) wiD ⟨.aN,.aN,rfl,rfl,rfl⟩ ?_ ?_
   . rintro d hd _⟨s1,s2,rfl,h1,t⟩;obtain⟨⟨f,v⟩,_,rfl⟩:=cK.mp hd;by_cases e:0<=f;.simp[h1,t,Wy.d,wiD,e];exact⟨_,_,rfl,rfl,rfl⟩
     .simp[h1,t,Wy.d,wiD,e];exact⟨_,_,rfl,rfl,rfl⟩
   .rintro _⟨s1,s2,rfl,h1,t⟩;rw[Uu];generalize((fs.zip ws).map λp=>(decide (0<=p.1)&&decide (p.1<=p.2.r)))=bs at u ⊢;simp;simpa using u
noncomputable def stD(ws:List Wy)(fs:List Int):D->D|.int p=>.bl (decide (mG p ws fs-ni p ws fs=0))|d=>d
inductive FO(a b:Sl)(ρ:List Sl):Prop where|mk(s:Sl)(q0:ρ=[a,b,s])(q1:fr s=bx)
theorem Iw{fs:List Int}(m0:2<=m):(((dy (m-1-1).toNat).map λ(k:Nat)=>decide (mG (1+(k:Int)) ws fs-ni (1+(k:Int)) ws fs=0)).all id=bx)↔∀p,1<=p->p<m-1->over p ws fs=0:=by
 rw[all_map,eh];constructor;.intro h p h1 t;have:=h (p-1).toNat (ib.mpr (by omega));simp only[Function.comp,id,decide_eq_true_eq]at this;rw[show 1+((p-1).toNat:Int)=p by omega]at this;unfold over;omega
 .intro h k e;rw[ib]at e;have:=h (1+k) (by omega) (by omega);simp only[Function.comp,id,decide_eq_true_eq];unfold over at this;omega
theorem Lj{fs:List Int}:((dy N).map λ(k:Nat)=>D.int (1+(k:Int))).map (stD ws fs)=((dy N).map λ(k:Nat)=>decide (mG (1+(k:Int)) ws fs-ni (1+(k:Int)) ws fs=0)).map D.bl:=by rw[ec,ec];rfl
theorem GC{fs:List Int}(h:dj m ws)(k:∀b:Bool,(b=bx↔qJ m ws fs)->Q (.val (.bl b)) [.val a7 (aP m ws),.val a7 (.lst (fs.map D.int))]):(run Γ w (n+4) 15 [.val a7 (aP m ws),.val a7 (.lst (fs.map D.int))]).sat Q:=by
 have H:=h.len;have m0:=h.m0;have m1:=h.m1;refine aL (d:=Z0) rfl rfl (by decide) ?_;symm;by_cases e:fs.length=ws.length
 . . simp[Z0,e];refine zB h e λI t=>?_;simp;refine⟨λu=>?_,λu=>?_⟩;.subst u;symm;simp;exact k a7 ⟨λz=>gE z,λz=>gE (t.mpr z.2.1)⟩
     subst u;have y:=t.mp rfl;symm;simp;refine EY h e ?_;simp;refine⟨λC=>?_,λE=>?_⟩;.symm;simp;exact k a7 ⟨λz=>gE z,λz=>by have:=z.2.2.1;unfold over at this;omega⟩
     symm;simp[show m-1<=1000000000 by omega,show-1000000000<=m-1 by omega];refine⟨λ_=>?_,by omega⟩;rw[show m.toNat-1-1=(m-1-1).toNat by omega];refine cg (FO _ _) (stD ws fs) ⟨.aN,rfl,rfl⟩ ?_ ?_;.rintro d hd _⟨s1,rfl,h1⟩;obtain⟨j,_,rfl⟩:=cK.mp hd;simp[h1];refine qy h e ?_;simp[stD];exact⟨rfl,_,rfl,rfl⟩
     .rintro _⟨s1,rfl,h1⟩;have A:=Iw (m:=m) (ws:=ws) (fs:=fs) m0;rw[Lj];generalize((dy (m-1-1).toNat).map λ(k:Nat)=>decide (mG (1+(k:Int)) ws fs-ni (1+(k:Int)) ws fs=0))=bs at A ⊢;simp;have G:=k (bs.all id) ⟨λz=>⟨e,y,by unfold over;omega,A.mp z⟩,λz=>A.mpr z.2.2.2⟩;simpa using G
 . have B:¬(fs.length:Int)=(ws.length:Int):=by omega
   .simp[Z0,B];symm;simp;exact k a7 ⟨λz=>gE z,λz=>absurd z.1 e⟩
@[simp]theorem Rr{i n:Nat}{a h:P}{is:List Nat}{one:Bool}{e:Option P}:isVar (.sG i a n is one e h)=bdq:=rfl
@[simp]theorem aaM{c:Call}{i n:Nat}{a u:P}{is:List Nat}{one:Bool}{h:Option P}{ρ:List Sl}:ev c (.sG i a n is one h u) ρ=(Lq i (ev c a) ρ).bind λy e=>if y.1.length<=lim then(oW c is one h u y.1 (e++cq n .aN)).bind λxs t=>.ok (.own xs) (aU y.2 (al i) (t.take e.length))else .stuck:=(rfl)
theorem Dm{i:Nat}{f:Ev}:Lq i f ρ=(f ρ).bind λr e=>(lift (items r.d) e).bind λes e=>match e[i]?with|some (.val _ d)=>(lift (items d) e).bind λh e=>.ok ((es.zip h).map λp=>D.tup [p.1,p.2],e) e|some (.own _ h)=>.ok ((es.zip h).map λp=>D.tup [p.1,p.2],e) (e.set i (.lent h))|some (.lent h)=>.ok ((es.zip h).map λp=>D.tup [p.1,p.2],e) e|_=>.stuck:=rfl
theorem V8:Gj v.d (.int 0)=al (.val (.int v.s)):=by simp[Wy.d]
theorem Sv:Gj v.d (.int 1)=al (.val (.int v.t)):=by simp[Wy.d]
theorem u9:Gj v.d (.int 2)=al (.val (.int v.r)):=by simp[Wy.d]
theorem Ql:Gj v.d (.int 3)=al (.val (.int v.h)):=by simp[Wy.d]
noncomputable def iW(cl:List Int)(p:Int):Int:=cl.getD p.toNat 0
noncomputable def DY(cl:List Int)(v:Wy)(g:Int):Bool:=(decide (v.r<=g)||decide (iW cl v.t<=iW cl v.s+v.h))&&(decide (g<=0)||decide (iW cl v.s+v.h<=iW cl v.t))
theorem jc(h0:0<=p)(h1:p<(cl.length:Int)):at' (cl.map D.int) p=al (.int (iW cl p)):=by
 obtain⟨j,rfl⟩:∃j:Nat,p=j:=⟨p.toNat,by omega⟩;have e:j<cl.length:=by omega
 rw[gO (x:=cl[j]) (by simp[e])];unfold iW;simp[e]
theorem Fe(e:v.Ok m)(z:(cl.length:Int)=m)(k:Q (.val (.bl (DY cl v g))) [.val a7 v.d,.val a7 (.int g),.val a7 (.lst (cl.map D.int))]):(run Γ w (n+1) 19 [.val a7 v.d,.val a7 (.int g),.val a7 (.lst (cl.map D.int))]).sat Q:=by have u:=jc (cl:=cl) e.s0 (by have:=e.s1;omega);have y:=jc (cl:=cl) e.t0 (by have:=e.t1;omega);refine aL (d:=f19) rfl rfl (by decide) ?_;symm;simp[f19,V8,Ql,u];apply ak;unfold DY at k;by_cases c1:v.r<=g<;>by_cases c2:iW cl v.t<=iW cl v.s+v.h<;>by_cases c3:g<=0<;>simp[c1,c2,c3,y,Sv,u9]<;>simpa[c1,c2,c3]using k
structure Ao(m:Int)(ws:List Wy)(fs cl:List Int):Prop where
 len:(cl.length:Int)=m
 z:iW cl 0=0
 all:∀z∈ws.zip fs,DY cl z.1 z.2=bx
noncomputable def hoD(cl:List Int):D->D|.tup [.tup [.int s,.int t,.int r,.int h],.int g]=>.bl (DY cl ⟨s,t,r,h⟩ g)|d=>d
theorem xX:∀(ws:List Wy)(fs:List Int),((ws.map Wy.d).zip (fs.map D.int)).map (λp=>D.tup [p.1,p.2])=(ws.zip fs).map λp=>D.tup [p.1.d,.int p.2]|[],_=>by simp|_::_,[]=>by simp|w::ws,f::fs=>by simp[xX ws fs]
inductive FC(a b c:Sl)(ρ:List Sl):Prop where|mk(s:Sl)(t:Sl)(q0:ρ=[a,b,c,s,t])(q1:fr s=bx)(q2:fr t=bx)
theorem yO{fs:List Int}(h:dj m ws)(G:fs.length<=1000)(H:cl.length<=1000)(k:∀b:Bool,(b=bx↔qJ m ws fs/\Ao m ws fs cl)->Q (.val (.bl b)) [.val a7 (aP m ws),.val a7 (.lst (fs.map D.int)),.val a7 (.lst (cl.map D.int))]):(run Γ w (n+5) 20 [.val a7 (aP m ws),.val a7 (.lst (fs.map D.int)),.val a7 (.lst (cl.map D.int))]).sat Q:=by have M:=h.len;have m0:=h.m0;refine aL (d:=f20) rfl rfl (by decide) ?_;symm;simp[f20];refine GC h λb t=>?_;have u:(¬(qJ m ws fs/\Ao m ws fs cl))->Q (.val (.bl a7)) [.val a7 (aP m ws),.val a7 (.lst (fs.map D.int)),.val a7 (.lst (cl.map D.int))]:=λz=>k a7 ⟨λy=>gE y,λy=>absurd y z⟩;cases b with|false=>simp;apply ak;simp;exact u λz=>gE (t.mpr z.1)|true=>
   have I:=t.mp rfl;by_cases c1:(cl.length:Int)=m
   . have B:=jc (cl:=cl) (p:=0) (by omega) (by omega);by_cases c2:iW cl 0=0
     . simp[c1,B,c2];symm;have C:(ws.zip fs).length<=16777216:=by rw[i5];omega
       simp[Dm];rw[xX];simp at C;refine⟨λ_=>?_,C⟩;refine cg (FC _ _ _) (hoD cl) ⟨.aN,.aN,rfl,rfl,rfl⟩ ?_ ?_;.rintro d hd _⟨s1,s2,rfl,h1,E⟩;obtain⟨⟨v,g⟩,hz,rfl⟩:=cK.mp hd;have J:=h.ok v (ko hz).1;simp[h1,E];refine Fe J c1 ?_;simp;exact⟨rfl,_,_,rfl,rfl,rfl⟩
       rintro _⟨s1,s2,rfl,h1,E⟩;have e:((ws.zip fs).map λp=>D.tup [p.1.d,.int p.2]).map (hoD cl)=((ws.zip fs).map λp=>DY cl p.1 p.2).map D.bl:=by rw[ec,ec];rfl
       rw[e];have L:=k (((ws.zip fs).map λp=>DY cl p.1 p.2).all id) ⟨λz=>⟨I,c1,c2,λp A=>eh.mp z _ (cK.mpr ⟨p,A,rfl⟩)⟩,λz=>eh.mpr λb t=>by obtain⟨p,A,rfl⟩:=cK.mp t;exact z.2.all p A⟩;generalize((ws.zip fs).map λp=>DY cl p.1 p.2)=bs at*;simp;simpa using L
     .simp[c1,B,c2];symm;simp;exact u λz=>c2 z.2.z
   .simp[c1];symm;simp;exact u λz=>c1 z.2.len
noncomputable def late(ws:List Wy):Int:=sy (λv=>v.h) ws
theorem Cg{ws:List Wy}{b:Int}{t:az}{v:Wy}(e:ws[t.1]?=al v):∀{c:List az}{a:Int},iy ws b c a->t∈c->frm v t.2∈rN ws c a/\too v t.2∈rN ws c a
 |[],_,_,h=>by cases h|s::c,a,⟨y,u,z,A⟩,h=>by
   have B:qF ws s=too y s.2:=by unfold qF;rw[u]
   rw[rN,B];rcases cS.mp h with rfl|h;.rw[e]at u;cases u;refine⟨by rw[z];simp,dA _ ?_⟩;cases c<;>simp[rN]
   .have:=Cg e A h;exact⟨dA _ this.1,dA _ this.2⟩
theorem DX{ws:List Wy}{b:Int}:∀{c:List az}{a:Int},iy ws b c a->(rN ws c a).Nodup->(c.map (·.1)).Nodup
 |[],_,_,_=>by simp|s::c,a,⟨v,e,A,B⟩,h=>by
   have C:qF ws s=too v s.2:=by unfold qF;rw[e]
   rw[rN,C,eI]at h;rw[dc,eI];refine⟨λE=>?_,DX B h.2⟩;obtain⟨t,ht,y⟩:=cK.mp E;have u:=Cg (t:=t) (by rw[y];exact e) B ht;by_cases z:t.2=s.2;.rw[z,A]at u;exact h.1 u.1
   .rw[(kI z).2,A]at u;exact h.1 u.2
theorem Uh(u:∀v∈ws,0<=v.h)(y:iy ws b c a)(A:(c.map (·.1)).Nodup):0<=late ws+bV ws c:=by
 have h1:=pX (k:=1) (x:=1) (q:=λ_=>0) (fs:=cq ws.length 0) (by simp) y;rw[qz]at h1;have E:dm (gap 1 λ_=>0) ws (aug 1 (cq ws.length 0) c)<=late ws:=by
  refine wy (by rw[lX];simp) λj v g t e=>?_;have G:=u v (du t);have B:g=0\/g=1\/g=-1:=by
   by_cases z:j∈c.map (·.1);.obtain⟨s,hs,rfl⟩:=cK.mp z;have C:s.1<ws.length:=(dX t).1;rw[wA A hs (g:=0) (by simp[C])]at e;cases e;cases s.2<;>simp[sg]
   .rw[mY z]at e;exact .inl (wI e)
  unfold gap;rcases B with rfl|rfl|rfl<;>simp<;>omega
 omega
noncomputable def sY(m:Int)(L:Int)(i:Nat):List (Int×Int):=(0,0)::(dy i).map λ(j:Nat)=>(1+(j:Int),L)
theorem ik{L:Int}{i:Nat}:(a,b)∈sY m L i↔(a=0/\b=0)\/(1<=a/\a<1+(i:Int)/\b=L):=by
 unfold sY;rw[cS,cK];constructor
 . rintro(h|⟨j,e,h⟩);.cases h;exact .inl ⟨rfl,rfl⟩
   .cases h;have:=ib.mp e;exact .inr ⟨by omega,by omega,rfl⟩
 . rintro(⟨rfl,rfl⟩|⟨h1,t,rfl⟩);.exact .inl rfl
   .exact .inr ⟨(a-1).toNat,ib.mpr (by omega),by rw[Prod.mk.injEq];exact⟨by omega,rfl⟩⟩
theorem Ln{L:Int}{i:Nat}:sY m L (i+1)=sY m L i++[(1+(i:Int),L)]:=by unfold sY;rw[List.range_succ,gI];rfl
theorem WN{L:Int}{i:Nat}:((sY m L i).map (·.1)).Nodup:=by
 unfold sY;rw[dc,ec,eI];refine⟨λh=>?_,?_⟩;.obtain⟨j,_,e⟩:=cK.mp h;have e:1+(j:Int)=0:=e;omega
 .refine List.Pairwise.map _ (λa b(h:a≠b)=>?_) List.nodup_range;show 1+(a:Int)≠1+(b:Int);omega
noncomputable def bD(p:Int×Int):Int×D:=(p.1,.int p.2)
theorem Q0{bs:List (Int×Int)}:FZ (bs.map bD)=bs.map (·.1):=by simp[FZ,bD,hE]
theorem aak{bs:List (Int×Int)}:dsV (bs.map bD)=bs.map λp=>.int p.2:=by simp[dsV,bD,hE]
theorem aa8{bs:List (Int×Int)}(h:p∉bs.map (·.1)):pF (bs.map bD) p=a7:=by cases e:pF (bs.map bD) p with|false=>rfl|true=>have e:(FZ (bs.map bD)).contains p=bx:=e;rw[Q0,hB]at e;exact absurd e h
theorem MT{c:Call}{x:Nat}{e:Int}:ex c n (.Mg x k e) ρ=match ρ[x]?with|some .aN=>.ok .next (ρ.set x (.cM [(k,.int e)]))|some (.cM _)=>.ok .next (ρ.set x (.cM [(k,.int e)]))|some (.val a7 _)=>.ok .next (ρ.set x (.cM [(k,.int e)]))|_=>.stuck:=(rfl)
noncomputable def hD4(d:D):D:=match d with|.tup [_,_,_,h]=>h|_=>d
@[simp]theorem ahp{a b c h:D}:hD4 (.tup [a,b,c,h])=h:=rfl
theorem yG:∀{ws:List Wy},(ws.map Wy.h).sum=late ws|[]=>rfl|v::ws=>by rw[dc,km,yG];rfl
inductive F6c(a0 a1 a2 a3 a4 a5:Sl)(ρ:List Sl):Prop where|mk(s:Sl)(q0:ρ=[a0,a1,a2,a3,a4,a5,s])(q1:fr s=bx)
inductive JFc(m:Int)(ws:List Wy)(a0 a1:Sl)(i:Nat)(ρ:List Sl):Prop where|mk(s4:Sl)(q0:ρ=[a0,a1,.val a7 (.int (late ws)),.cM ((sY m (late ws) i).map bD),s4,.aN])(q1:fr s4=bx)
noncomputable def zp(es:List En)(p:Int):Int:=GZ (λ_=>0) 0 es p
noncomputable def lbD(es:List En):D->D|.int p=>.int (zp es p)|d=>d
theorem Be{s:Sl}{fs:List Int}(hw:100<=w)(hs:QW s fs)(h:HN m ws)(E:fs.length=ws.length)(I:Pt ws fs F)(k:∀es,uC m ws fs (sY m (late ws) (m-1).toNat) es->Q (.own (((dy m.toNat).map λ(i:Nat)=>zp es (i:Int)).map D.int)) [.val a7 (aP m ws),s]):(run Γ w (n+4) 17 [.val a7 (aP m ws),s]).sat Q:=by
 have m0:=h.m0;have m1:=h.m1;have hn:=h.len;have X:∀v∈ws,0<=v.h:=λv hv=>(h.ok v hv).2.2;have ac:0<=late ws:=by
  have:∀(l:List Wy),(∀v∈l,0<=v.h)->0<=late l:=λl=>by induction l with|nil=>intro _;exact eT _|cons v l ih=>intro E;have h1:=E v (by simp);have J:=ih λu hu=>E u (by simp[hu]);show 0<=v.h+late l;omega
  exact this ws X
 refine aL (d:=f17) rfl rfl (by decide) ?_;refine dN (λρ=>ρ=[.val a7 (aP m ws),s,.val a7 (.int (late ws)),.aN,.aN,.aN]) ?_ ?_
 . simp[f17,show ws.length<=16777216 by omega];refine cg (F6c _ _ _ _ _ _) hD4 ⟨.aN,rfl,rfl⟩ ?_ ?_;.rintro d hd _⟨B,rfl,t⟩;obtain⟨v,_,rfl⟩:=cK.mp hd;simp[t,Wy.d];exact⟨_,rfl,rfl⟩
   . rintro _⟨B,rfl,t⟩;have e:(ws.map Wy.d).map hD4=(ws.map Wy.h).map D.int:=by rw[ec,ec];rfl
     rw[e];have e2:=yG (ws:=ws);generalize ws.map Wy.h=ns at*;simp[eO,e2]
 rintro _ rfl;symm;simp[MT];refine dN (JFc m ws (.val a7 (aP m ws)) s (m-1).toNat) ?_ ?_
 . simp[show m<=1000000000 by omega,show-1000000000<=m by omega];rw[show m.toNat-1=(m-1).toNat by omega];refine jU (JFc m ws (.val a7 (aP m ws)) s) ?_ ?_ ⟨.aN,rfl,rfl⟩
   . rintro i _ hi⟨s4,rfl,G⟩;have L:pF ((sY m (late ws) i).map bD) (1+(i:Int))=a7:=aa8 λz=>by obtain⟨⟨a,b⟩,y,e⟩:=cK.mp z;have e:a=1+(i:Int):=e;rcases ik.mp y with⟨h1,_⟩|⟨h1,J,_⟩<;>omega
     have H:gn ((sY m (late ws) i).map bD) (1+(i:Int)) (.int (late ws))=(sY m (late ws) (i+1)).map bD:=by rw[mj L,Ln,gI];rfl
     simp[G];apply ak;simp[H];refine⟨λ_=>⟨_,rfl,rfl⟩,?_⟩;have:(sY m (late ws) i).length=i+1:=by simp[sY]
     show _<16777216;omega
   .rintro _⟨s4,rfl,G⟩;exact⟨rfl,_,rfl,G⟩
 rintro _⟨s4,rfl,G⟩;have Y:∀a b,(a,b)∈sY m (late ws) (m-1).toNat->0<=a/\a<m:=λa b y=>by rcases ik.mp y with⟨h1,_⟩|⟨h1,J,_⟩<;>omega
 have hZ:∀a b c,(a,b)∈sY m (late ws) (m-1).toNat->iy ws 0 c a->tH ws fs c->0<=b+bV ws c:=λa b c y H ho=>by
  obtain⟨c',Z,q2,q3,q4,q5⟩:=short h I (Y a b y) _ (dq) H ho;have h1:=Uh X Z (DX Z q5);have J:bV ws c'<=bV ws c:=by unfold Le at q4;omega
  rcases ik.mp y with⟨rfl,rfl⟩|⟨_,_,rfl⟩;.have:=lL I H ho;omega
  .omega
 have M:∀{n:Nat}{Q:R->List Sl->Prop}(B:Sl),QW B fs->(∀es,uC m ws fs (sY m (late ws) (m-1).toNat) es->Q (.val (jH es)) [.val a7 (aP m ws),B,wW (sY m (late ws) (m-1).toNat)])->(run Γ w (n+3) 5 [.val a7 (aP m ws),B,wW (sY m (late ws) (m-1).toNat)]).sat Q:=λB t k'=>uN hw I Y (ik.mpr (.inl ⟨rfl,rfl⟩)) WN hZ t h E k';generalize O:sY m (late ws) (m-1).toNat=bs at*;symm;rcases hs with rfl|⟨b,rfl⟩;all_goals
  simp[Q0,aak];refine M _ (by first|exact .inl rfl|exact .inr ⟨_,rfl⟩) λes A=>?_;simp;apply ak;simp[show m<=1000000000 by omega,show-1000000000<=m by omega];refine⟨λ_=>?_,by show _<=16777216;omega⟩;refine cg (F6c _ _ _ _ _ _) (lbD es) ⟨.aN,rfl,rfl⟩ ?_ ?_
  . rintro d hd _⟨B,rfl,t⟩;obtain⟨i,hi,rfl⟩:=cK.mp hd;have hi:=ib.mp hi;obtain⟨l,o,z,_⟩:∃l o,((i:Int),l,o)∈es/\True:=by
     have C:∃b,((i:Int),b)∈bs:=by
      rw[<-O];by_cases c:i=0;.exact⟨0,ik.mpr (.inl ⟨by omega,rfl⟩)⟩
      .exact⟨late ws,ik.mpr (.inr ⟨by omega,by omega,rfl⟩)⟩
     obtain⟨b,U⟩:=C;obtain⟨l,o,z,_⟩:=A.bg _ _ U;exact⟨l,o,z,trivial⟩
    have gz:=yo A.cm.nd z;have W:zp es (i:Int)=o.2:=gb A.cm.nd z;simp[t,jH,gz,Bm,lbD,W];exact⟨_,rfl,rfl⟩
  . rintro _⟨B,rfl,t⟩;have e:((dy m.toNat).map λ(k:Nat)=>D.int (k:Int)).map (lbD es)=((dy m.toNat).map λ(i:Nat)=>zp es (i:Int)).map D.int:=by rw[ec,ec];rfl
    rw[e];have L:=k es A;generalize((dy m.toNat).map λ(i:Nat)=>zp es (i:Int))=ns at*;simp;exact L
theorem Ng{fs:List Int}(h:uC m ws fs (sY m (late ws) (m-1).toNat) es)(E:HN m ws):Ao m ws fs ((dy m.toNat).map λ(i:Nat)=>zp es (i:Int)):=by
 have m0:=E.m0;have u:∀p,0<=p->p<m->iW ((dy m.toNat).map λ(i:Nat)=>zp es (i:Int)) p=zp es p:=λp O p1=>by unfold iW;rw[fw,er,List.getElem?_range (by omega)];show zp es ((p.toNat:Nat):Int)=_;rw[show((p.toNat:Nat):Int)=p by omega]
 have ex:∀p,0<=p->p<m->∃l o,(p,l,o)∈es/\zp es p=o.2:=λp O p1=>by
  have y:∃b,(p,b)∈sY m (late ws) (m-1).toNat:=by
   by_cases c:p=0;.exact⟨0,ik.mpr (.inl ⟨c,rfl⟩)⟩
   .exact⟨late ws,ik.mpr (.inr ⟨by omega,by omega,rfl⟩)⟩
  obtain⟨b,U⟩:=y;obtain⟨l,o,z,_⟩:=h.bg _ _ U;exact⟨l,o,z,gb h.cm.nd z⟩
 refine⟨by simp;omega,?_,λz hz=>?_⟩;.rw[u 0 (by omega) (by omega)];exact gb h.cm.nd h.cm.z
 . obtain⟨j,G⟩:=j_ hz;rw[kb]at G;obtain⟨A,H⟩:=G;have e:=E.ok z.1 (du A);obtain⟨W,X,I,J⟩:=ex z.1.s e.1.1 e.1.2;obtain⟨l2,Y,L,M⟩:=ex z.1.t e.2.1.1 e.2.1.2;have s1:0<z.1.r-z.2->zp es z.1.t<=zp es z.1.s+z.1.h:=λq=>by obtain⟨Z,o3,C,B⟩:=h.cl W X (j,bx) z.1 A I (by rw[jj (s:=(j,bx)) A H];simp;exact q);obtain⟨_,rfl⟩:=iz h.cm.nd L C;unfold Le at B;have:hsp z.1 bx=z.1.h:=rfl;rw[J,M];simp only at B;omega
   have s2:0<z.2->zp es z.1.s<=zp es z.1.t-z.1.h:=λq=>by obtain⟨Z,o3,C,B⟩:=h.cl l2 Y (j,a7) z.1 A L (by rw[jj (s:=(j,a7)) A H];simp;exact q);obtain⟨_,rfl⟩:=iz h.cm.nd I C;unfold Le at B;have:hsp z.1 a7=-z.1.h:=rfl;rw[J,M];simp only at B;omega
   unfold DY;rw[u _ e.1.1 e.1.2,u _ e.2.1.1 e.2.1.2];simp only[ey,kS,decide_eq_true_eq];omega
noncomputable def YJ(fs:List Int)(cl:List Int):D:=.tup [.lst (fs.map D.int),.lst (cl.map D.int)]
inductive JLi(m q:Int)(ws:List Wy)(ts:List (List az×Int))(r:List D)(ρ:List Sl):Prop where|mk(bz us:List (List az×Int))(s3 s4:Sl)(q0:ρ=[.val a7 (aP m ws),.val a7 (.int q),.own a7 ((flow ws.length bz).map D.int),s3,s4])(q1:(fr s3=bx/\fr s4=bx))(q2:r=us.map cD)(q3:bz++us=ts)
theorem Ie:(flow N cs).length=N:=by
 have:∀(cs:List (List az×Int))(fs:List Int),(cs.foldl mL fs).length=fs.length:=λcs=>by induction cs with|nil=>intro fs;rfl|cons x cs e=>intro fs;rw[oj,e];exact lX
 unfold flow;rw[this];simp
theorem FT{q:Int}(X:13286250<=w)(h:dj m ws)(M:0<=q)(Y:∀cs,cL m ws cs->q<=sX cs)(k:∀(cs:List (List az×Int))fs0 F d es(cl:List Int),Ends m ws cs fs0 F d es->cL m ws cs->Ao m ws (flow ws.length (iZ cs q)) cl->Q (.val (YJ (flow ws.length (iZ cs q)) cl)) [.val a7 (aP m ws),.val a7 (.int q)]):(run Γ w (n+5) 18 [.val a7 (aP m ws),.val a7 (.int q)]).sat Q:=by
 have hn:=h.len;have B:=HN.of h;refine aL (d:=f18) rfl rfl (by decide) ?_;refine dN (λρ=>ρ=[.val a7 (aP m ws),.val a7 (.int q),.own a7 ((flow ws.length []).map D.int),.aN,.aN]) ?_ ?_;.simp[f18,flow];show _<=16777216;omega
 rintro _ rfl;symm;simp;refine xM X B (λv C=>(h.ok v C).r0) λcs fs F d es Z z=>?_;have O:cL m ws cs:=⟨λv C=>(h.ok v C).h0,fs,F,d,es,z⟩;have E:=z.light cs [] q rfl M;have G:(iZ cs q).foldl mL (flow ws.length [])=flow ws.length (iZ cs q):=rfl;rw[G,mn]at E;have H:=z.ck;simp;refine Fw (by omega) (Iv (λx I=>(z.iv.ch x I).2.1) M (Y cs O)) ?_;simp;refine bW (JLi m q ws (iZ cs q)) ?_ ?_ ⟨[],iZ cs q,.aN,.aN,rfl,⟨rfl,rfl⟩,rfl,rfl⟩;.rintro d r _⟨J,t,s3,s4,rfl,⟨U,W⟩,hr,hd⟩;cases t with|nil=>cases hr|cons u t=>
     obtain⟨rfl,rfl⟩:d=cD u/\r=t.map cD:=by simpa using hr
     have L:(J++[u])++t=iZ cs q:=by rw[eP];exact hd
     obtain⟨x,I,e⟩:=Dk (l:=cs) (q:=q) (y:=u) (by rw[<-hd];simp);simp[cD,U,W];apply ak;simp;refine xZ (.inr ⟨bx,rfl⟩) (λs hs=>by rw[Ie];exact(H x I).2.1 s (by rw[<-e];exact hs)) ?_;simp;exact⟨J++[u],t,_,_,by rw[qU],⟨rfl,rfl⟩,rfl,L⟩
 . rintro _⟨J,t,s3,s4,rfl,⟨U,W⟩,hr,hd⟩;have:t=[]:=by cases t with|nil=>rfl|cons _ _=>cases hr
   subst this;rw[fo]at hd;subst hd;obtain⟨F1,p1,p2⟩:=E.ht;simp;apply ak;simp;refine Be (by omega) (.inl rfl) B E.fit.len p1 λA Xb=>?_;have hk:=k cs fs F d es ((dy m.toNat).map λ(i:Nat)=>zp A (i:Int)) z O (Ng Xb B);generalize((dy m.toNat).map λ(i:Nat)=>zp A (i:Int))=ns at*;simp;exact hk
theorem HX{fs:List Int}:Within (v::ws) (g::fs)↔(0<=g/\g<=v.r)/\Within ws fs:=by
 constructor;.intro h;exact⟨h 0 v g rfl rfl,λk u f e t=>h (k+1) u f (by simpa using e) (by simpa using t)⟩
 .rintro⟨h1,y⟩k u f e t;cases k with|zero=>simp at e t;subst e t;exact h1|succ k=>exact y k u f (by simpa using e) (by simpa using t)
noncomputable def neD:D->Option D|.int i=>if i=0 then bdq else al (.int i)|_=>bdq
theorem Dy:∀{l:List Int},(l.map D.int).filterMap neD=(l.filter λi=>decide (i≠0)).map D.int
 |[]=>rfl|i::l=>by
   rw[dc,gu,Dy,List.filter_cons];rw[show neD (.int i)=if i=0 then bdq else al (.int i)from rfl];by_cases c:i=0;.simp[c]
   .simp[c]
structure LsP(m:Int)(ws us:List Wy)(fs gs ls:List Int):Prop where
 len:(ls.length:Int)=m
 ov:∀p,0<=p->p<m->iW ls p+over p us gs=over p ws fs
 wi:Within ws fs↔Within us gs
 fl:gs.length=us.length
 ok:∀v∈us,v.Ok m
inductive JLr(m:Int)(ws:List Wy)(fs:List Int)(a0 a1 a2 a3:Sl)(r:List D)(ρ:List Sl):Prop where|mk(us:List Wy)(gs ls:List Int)(s5 s6:Sl)(q0:ρ=[a0,a1,a2,a3,.own a7 (ls.map D.int),s5,s6])(q1:(fr s5=bx/\fr s6=bx))(q2:r=(us.zip gs).map (λp=>D.tup [p.1.d,.int p.2]))(q3:LsP m ws us fs gs ls)
theorem El{ls:List Int}{x:Int}(e:j<ls.length)(h0:0<=p):iW (ls.set j x) p=if p=j then x else iW ls p:=by
 unfold iW;by_cases c:p=j;.subst c;rw[if_pos rfl];simp[e]
 .rw[if_neg c,fw,ez (by omega),<-fw]
theorem aek{e:List D}:Nr (.lst e) (part (.con (.int 1)) (.int 1)) (part (.neg (.con (.int 1))) (.int (-1)))=al (.own (cut e (al 1) (al (-1)))):=rfl
inductive FLr(a b c d e f g:Sl)(ρ:List Sl):Prop where|mk(s:Sl)(q0:ρ=[a,b,c,d,e,f,g,s])(q1:fr s=bx)
theorem NQ{ls:List Int}(h:2<=ls.length):((cut ls (al 1) (al (-1))).filter λi=>decide (i≠0))=[]↔∀p:Int,1<=p->p<(ls.length:Int)-1->iW ls p=0:=by
 have e:cut ls (al 1) (al (-1))=(ls.drop 1).take (ls.length-1-1):=by show(ls.drop (min 1 ls.length)).take ((-1+(ls.length:Int)).toNat-min 1 ls.length)=_;rw[show min 1 ls.length=1 by omega,show(-1+(ls.length:Int)).toNat=ls.length-1 by omega]
 rw[e,List.filter_eq_nil_iff];constructor;.intro z p A p1;have:=z (iW ls p) (du (i:=p.toNat-1) (by rw[ki (by omega),List.getElem?_drop,show 1+(p.toNat-1)=p.toNat by omega];unfold iW;rw[fw,fS (by omega)];rfl));simpa using this
 .intro z a y;obtain⟨j,t⟩:=j_ y;have u:=(dX t).1;rw[kB,mf]at u;rw[ki (by omega),List.getElem?_drop]at t;have:=z (((1+j:Nat)):Int) (by omega) (by omega);unfold iW at this;rw[fw,l7,t]at this;simpa using this
theorem Gm{fs:List Int}(h:dj m ws)(hr:qJ m ws fs)(k:Q (.val (.int (over 0 ws fs))) [.val a7 (aP m ws),.val a7 (.lst (fs.map D.int))]):(run Γ w (n+1) 29 [.val a7 (aP m ws),.val a7 (.lst (fs.map D.int))]).sat Q:=by
 have hn:=h.len;have hf:=hr.1;have m0:=h.m0;have m1:=h.m1;obtain⟨M,Z⟩:∃M:Nat,m=M:=⟨m.toNat,by omega⟩;refine aL (d:=f29) rfl rfl (by decide) ?_;refine dN (λρ=>ρ=[.val a7 (aP m ws),.val a7 (.lst (fs.map D.int)),.val a7 (.int m),.val a7 (.tup (ws.map Wy.d)),.aN,.aN,.aN]) ?_ ?_;.simp[f29,aP]
 rintro _ rfl;refine dN (λρ=>ρ=[.val a7 (aP m ws),.val a7 (.lst (fs.map D.int)),.val a7 (.int m),.val a7 (.tup (ws.map Wy.d)),.own a7 ((cq M (0:Int)).map D.int),.aN,.aN]) ?_ ?_;.subst Z;simp;show _<=16777216;omega
 rintro _ rfl;have ac:(0:Int)<m:=by omega
 have j0:LsP m ws ws fs fs (cq M 0):=⟨by simp[Z],λp B p1=>by
  have:iW (cq M 0) p=0:=by unfold iW;simp[fw,ix];split<;>rfl
  omega,Iff.rfl,hf,h.ok⟩;have BR:(ws.zip fs).length<=16777216:=by rw[i5];omega
 have W:=xX ws fs;symm;simp;rw[W];refine bW (JLr m ws fs _ _ _ _) ?_ ?_ ⟨ws,fs,cq M 0,.aN,.aN,by rw[List.map_replicate],⟨rfl,rfl⟩,rfl,j0⟩;.rintro d r _⟨C,gs,ls,s5,s6,rfl,⟨h5,h6⟩,A,y⟩;cases C with|nil=>simp at A|cons v C=>cases gs with|nil=>simp at A|cons g gs=>
       obtain⟨rfl,rfl⟩:d=D.tup [v.d,.int g]/\r=(C.zip gs).map (λp=>D.tup [p.1.d,.int p.2]):=by simpa using A
       have G:=y.ok v (by simp);have H:=y.len;have s0:=G.s0;have s1:=G.s1;have t0:=G.t0;have t1:=G.t1;have ne:=G.ne;have I:=HX (v:=v) (g:=g) (ws:=C) (fs:=gs);have kn:=(I.mp (y.wi.mp hr.2.1)).1;simp[h5,h6];apply ak;have c1:¬ g<0:=by omega
       have c2:¬ v.r<g:=by omega
       simp[c1,c2,u9];have a1:=jc (cl:=ls) s0 (by omega);have x1:iI ls.length v.s=al v.s.toNat:=by unfold iI;rw[if_pos s0,if_pos (by omega)]
       have x2:iI ls.length v.t=al v.t.toNat:=by unfold iI;rw[if_pos t0,if_pos (by omega)]
       symm;simp[V8,a1,x1];have X:(ls.map D.int).set v.s.toNat (.int (iW ls v.s+g))=(ls.set v.s.toNat (iW ls v.s+g)).map D.int:=by rw[q_]
       rw[X];have q1:=λp h0=>El (ls:=ls) (j:=v.s.toNat) (x:=iW ls v.s+g) (p:=p) (by omega) h0;have l1:(ls.set v.s.toNat (iW ls v.s+g)).length=ls.length:=by simp
       generalize ls.set v.s.toNat (iW ls v.s+g)=l2 at*;have a2:=jc (cl:=l2) t0 (by omega);symm;rw[<-l1]at x2;simp[Sv,a2,x2];have e2:(l2.map D.int).set v.t.toNat (.int (iW l2 v.t-g))=(l2.set v.t.toNat (iW l2 v.t-g)).map D.int:=by rw[q_]
       rw[e2];refine⟨C,gs,l2.set v.t.toNat (iW l2 v.t-g),_,_,rfl,⟨rfl,rfl⟩,rfl,⟨by rw[length_set];omega,λp B p1=>?_,?_,by have:=y.fl;simpa using this,λu hu=>y.ok u (by simp[hu])⟩⟩
       . have:=y.ov p B p1;rw[uQ]at this;have qt:iW l2 v.t=iW ls v.t:=by rw[q1 v.t t0,if_neg (by omega)]
         rw[El (by omega) B,qt,q1 p B,show((v.t.toNat:Nat):Int)=v.t by omega,show((v.s.toNat:Nat):Int)=v.s by omega];by_cases J:p=v.t;.rw[if_pos J];rw[if_neg (by omega),if_pos J.symm]at this;rw[<-J];omega
         . rw[if_neg J];rw[if_neg (c:=v.t=p) (λz=>J z.symm)]at this;by_cases L:p=v.s;.rw[if_pos L];rw[if_pos L.symm]at this;rw[<-L];omega
           .rw[if_neg L];rw[if_neg λz=>L z.symm]at this;omega
       .rw[y.wi,I];exact⟨λz=>z.2,λz=>⟨⟨by omega,by omega⟩,z⟩⟩
 . rintro _⟨C,gs,ls,s5,s6,rfl,⟨h5,h6⟩,A,y⟩;have:C=[]:=by have:=y.fl;cases C with|nil=>rfl|cons _ _=>cases gs with|nil=>simp at this|cons _ _=>simp at A
   subst this;have E:∀p,0<=p->p<m->iW ls p=over p ws fs:=λp B p1=>by have:=y.ov p B p1;have e:over p [] gs=0:=rfl;omega
   have ae:Within ws fs:=y.wi.mpr λk u f X _=>by simp at X
   have H:=y.len;have a0:=jc (cl:=ls) (p:=0) (by omega) (by omega);symm;have c0:¬ iW ls 0<0:=by rw[E 0 (by omega) (by omega)];have:=hr.2.2.1;omega
   have Y:(cut ls (al 1) (al (-1))).length<=16777216:=g_ IK (by omega);have O:=NQ (ls:=ls) (by omega);simp[a0,c0,aek,CP,Y];refine kW (FLr _ _ _ _ _ _ _) neD ⟨.aN,rfl,rfl⟩ ?_ ?_
   . rintro d hd _⟨s,rfl,hs⟩;obtain⟨i,hi,rfl⟩:=cK.mp hd;rw[show neD (.int i)=if i=0 then bdq else al (.int i)from rfl];by_cases c:i=0;.simp[hs,c];exact⟨_,rfl,rfl⟩
     .simp[hs,c];exact⟨_,rfl,rfl⟩
   rintro _⟨s,rfl,hs⟩;rw[Dy];have U:=O.mpr λp B p1=>by rw[E p (by omega) (by omega)];exact hr.2.2.2 p B (by omega)
   rw[U];simp;apply ak;simp[a0];rw[E 0 (by omega) (by omega)];exact k
inductive JCk(m:Int)(ws:List Wy)(fs cl:List Int)(a0 a1 a2:Sl)(r:List D)(ρ:List Sl):Prop where|mk(bz us:List (Wy×Int))(s3 s4 s5:Sl)(q0:ρ=[a0,a1,a2,s3,s4,s5])(q1:A3 (fr s3=bx) (fr s4=bx) (fr s5=bx))(q2:r=us.map (λp=>D.tup [p.1.d,.int p.2]))(q3:bz++us=ws.zip fs)(q4:∀z∈bz,DY cl z.1 z.2=bx)
theorem J2{b:Bool}{t:Sl}{fs:List Int}(ht:QW t cl)(h:dj m ws)(k:∀x:Bool,(x=bx↔Ao m ws fs cl)->Q (.val (.bl x)) [.val a7 (aP m ws),.val b (.lst (fs.map D.int)),t]):(run Γ w (n+1) 31 [.val a7 (aP m ws),.val b (.lst (fs.map D.int)),t]).sat Q:=by
 have m0:=h.m0;have hn:=h.len;have O:(¬ Ao m ws fs cl)->Q (.val (.bl a7)) [.val a7 (aP m ws),.val b (.lst (fs.map D.int)),t]:=λz=>k a7 ⟨λy=>gE y,λy=>absurd y z⟩;refine aL (d:=XS) rfl rfl (by decide) ?_;symm;by_cases c1:(cl.length:Int)=m
 . have U:=jc (cl:=cl) (p:=0) (by omega) (by omega);by_cases c2:iW cl 0=0;.rcases ht with rfl|⟨b2,rfl⟩;all_goals
      simp[XS,c1,U,c2];apply ak;simp;rw[xX];refine bW (JCk m ws fs cl _ _ _) ?_ ?_ ⟨[],ws.zip fs,.aN,.aN,.aN,rfl,⟨rfl,rfl,rfl⟩,rfl,rfl,by simp⟩;.rintro d r _⟨C,A,s3,s4,s5,rfl,⟨Y,Z,W⟩,hr,hd,E⟩;cases A with|nil=>cases hr|cons u A=>
          obtain⟨rfl,rfl⟩:d=D.tup [u.1.d,.int u.2]/\r=A.map (λp=>D.tup [p.1.d,.int p.2]):=by simpa using hr
          have X:u∈ws.zip fs:=by rw[<-hd];simp
          have L:=h.ok u.1 (ko X).1;have x1:=jc (cl:=cl) L.s0 (by have:=L.s1;omega);have x2:=jc (cl:=cl) L.t0 (by have:=L.t1;omega);simp[Y,Z,W];apply ak;simp[V8,Sv,Ql,x1,x2,W];have G:DY cl u.1 u.2=bx↔(u.1.r<=u.2\/iW cl u.1.t<=iW cl u.1.s+u.1.h)/\(u.2<=0\/iW cl u.1.s+u.1.h<=iW cl u.1.t):=by unfold DY;simp
          generalize ac:iW cl u.1.t-iW cl u.1.s-u.1.h=lt;have bad:¬(DY cl u.1 u.2=bx)->Q (.val (.bl a7)) _:=λz=>O λy=>z (y.all u X);have e:DY cl u.1 u.2=bx->∀z∈C++[u],DY cl z.1 z.2=bx:=λy z hz=>by
           rcases eJ.mp hz with hz|hz;.exact E z hz
           .rw[dV.mp hz];exact y
          have B:(C++[u])++A=ws.zip fs:=by rw[eP];exact hd
          symm;by_cases H:u.2<u.1.r
          . by_cases M:0<lt;.simp[u9,H,M];symm;simp;exact bad λz=>by have:=G.mp z;omega
            . by_cases I:0<u.2
              . by_cases J:lt<0;.simp[u9,H,M,I,J];symm;simp;exact bad λz=>by have:=G.mp z;omega
                .simp[u9,H,M,I,J];exact⟨C++[u],A,_,_,_,rfl,⟨rfl,rfl,rfl⟩,rfl,B,e (G.mpr ⟨by omega,by omega⟩)⟩
              .simp[u9,H,M,I];exact⟨C++[u],A,_,_,_,rfl,⟨rfl,rfl,rfl⟩,rfl,B,e (G.mpr ⟨by omega,by omega⟩)⟩
          . by_cases I:0<u.2
            . by_cases J:lt<0;.simp[u9,H,I,J];symm;simp;exact bad λz=>by have:=G.mp z;omega
              .simp[u9,H,I,J];exact⟨C++[u],A,_,_,_,rfl,⟨rfl,rfl,rfl⟩,rfl,B,e (G.mpr ⟨by omega,by omega⟩)⟩
            .simp[u9,H,I];exact⟨C++[u],A,_,_,_,rfl,⟨rfl,rfl,rfl⟩,rfl,B,e (G.mpr ⟨by omega,by omega⟩)⟩
      . rintro _⟨C,A,s3,s4,s5,rfl,_,hr,hd,E⟩;have:A=[]:=by cases A with|nil=>rfl|cons _ _=>cases hr
        subst this;rw[fo]at hd;symm;simp;exact k bx ⟨λ_=>⟨c1,c2,by rw[<-hd];exact E⟩,λ_=>rfl⟩
   .rcases ht with rfl|⟨b2,rfl⟩;all_goals simp[XS,c1,U,c2];apply ak;simp;exact O λz=>c2 z.z
 .rcases ht with rfl|⟨b2,rfl⟩;all_goals simp[XS,c1];apply ak;simp;exact O λz=>c1 z.len
inductive aeY(ns:List Int)(_:Nat)(ρ:List Sl):Prop where|mk(cs:List Int)(s:Sl)(q0:ρ=[.val a7 (.lst (ns.map D.int)),.val a7 (.int 8),.own a7 (cs.map D.int),s])(q1:fr s=bx)(q2:cs.length=8)
theorem zu{ns:List Int}(A:ns.length<=63)(k:∀cs:List Int,cs.length<=8->Q (.own (cs.map D.int)) [.val a7 (.lst (ns.map D.int)),.val a7 (.int 8)]):(run Γ w (n+1) 34 [.val a7 (.lst (ns.map D.int)),.val a7 (.int 8)]).sat Q:=by
 refine aL (d:=f34) rfl rfl (by decide) ?_;refine dN (λρ=>ρ=[.val a7 (.lst (ns.map D.int)),.val a7 (.int 8),.own a7 ((cq 8 (0:Int)).map D.int),.aN]) ?_ ?_;.simp[f34];decide
 rintro _ rfl;symm;simp[show(ns.length:Int)<=1000000000 by omega];refine jU (aeY ns) ?_ ?_ ⟨cq 8 0,.aN,by simp,rfl,by simp⟩;.rintro i _ hi⟨cs,s,rfl,hs,e⟩;obtain⟨j,t,h⟩:∃j:Nat,(i:Int)%8=(j:Int)/\j<cs.length:=⟨i%8,by omega,by omega⟩;have u:at' (cs.map D.int) (j:Int)=al (.int cs[j]):=gO (by simp[h]);have y:at' (ns.map D.int) (i:Int)=al (.int ns[i]):=gO (by simp[hi]);have z:iI cs.length (j:Int)=al j:=U4 h;simp[hs];apply ak;simp[t,u,y,z];exact⟨cs.set j (cs[j]*1000003+ns[i]),.val a7 (.int i),by simp[q_],rfl,by simpa using e⟩
 .rintro _⟨cs,s,rfl,hs,e⟩;symm;simp[agc,CP];exact k _ (g_ IK (by omega))
theorem J9{S:List Int}:iK 7 (.lst (S.map D.int))=bx:=by show(S.map D.int).all (iK 6)=bx;rw[eh];intro d hd;obtain⟨p,_,rfl⟩:=cK.mp hd;rfl
theorem v9:∀{S:List Int},iM (S.map D.int) (S.map D.int)=bx|[]=>rfl|u::e=>by show(decide (u=u)&&iM (e.map D.int) (e.map D.int))=bx;rw[v9];simp
theorem Vf{S T:List Int}:cm .eq (.tup [.lst (S.map D.int),.lst (T.map D.int)]) (.tup [.lst (S.map D.int),.lst (T.map D.int)])=al bx:=by
 show zx _ _=_;unfold zx;have h1:iK 8 (.tup [.lst (S.map D.int),.lst (T.map D.int)])=bx:=by show(iK 7 (.lst (S.map D.int))&&(iK 7 (.lst (T.map D.int))&&bx))=bx;rw[J9,J9];rfl
 have e:jP (.tup [.lst (S.map D.int),.lst (T.map D.int)]) (.tup [.lst (S.map D.int),.lst (T.map D.int)])=bx:=by show(iM (S.map D.int) (S.map D.int)&&(iM (T.map D.int) (T.map D.int)&&bx))=bx;rw[v9,v9];rfl
 rw[h1,e];rfl
noncomputable def hmD:D->D|.tup [.tup [_,_,_,.int h],.int g]=>.int (h*g)|d=>d
theorem Dg:∀(ws:List Wy)(fs:List Int),((ws.zip fs).map λp=>p.1.h*p.2).sum=hrs ws fs|[],fs=>by cases fs<;>rfl|_::_,[]=>rfl|v::ws,g::fs=>by rw[l_,dc,km,Dg];rfl
inductive F4h(a b:Sl)(ρ:List Sl):Prop where|mk(s:Sl)(t:Sl)(q0:ρ=[a,b,s,t])(q1:fr s=bx)(q2:fr t=bx)
theorem O5{fs:List Int}(h:dj m ws)(k:Q (.val (.int (hrs ws fs))) [.val a7 (aP m ws),.val a7 (.lst (fs.map D.int))]):(run Γ w (n+1) 30 [.val a7 (aP m ws),.val a7 (.lst (fs.map D.int))]).sat Q:=by
 have E:=h.len;refine aL (d:=f30) rfl rfl (by decide) ?_;symm;have t:(ws.zip fs).length<=16777216:=by rw[i5];omega
 simp[f30,Dm];rw[xX];simp at t;refine⟨λ_=>?_,t⟩;refine cg (F4h _ _) hmD ⟨.aN,.aN,rfl,rfl,rfl⟩ ?_ ?_
 . rintro d hd _⟨s1,s2,rfl,h1,u⟩;obtain⟨⟨v,g⟩,hz,rfl⟩:=cK.mp hd;have y:=h.ok v (ko hz).1;have z:=y.h0;have A:=y.h1;have B:lC (.int v.h) (.int g)=al (.val (.int (v.h*g))):=by show(if _ then _ else _)=_;rw[if_pos];left;omega
   simp[h1,u,Ql,B];exact⟨rfl,_,_,rfl,rfl,rfl⟩
 rintro _⟨s1,s2,rfl,h1,u⟩;have e:((ws.zip fs).map λp=>D.tup [p.1.d,.int p.2]).map hmD=((ws.zip fs).map λp=>p.1.h*p.2).map D.int:=by rw[ec,ec];rfl
 rw[e];have C:=Dg ws fs;generalize((ws.zip fs).map λp=>p.1.h*p.2)=ns at*;simp[eO,C];exact k
noncomputable def hgD:D->D|.tup [.int g,.tup [_,_,_,.int h]]=>.int (g*h)|d=>d
theorem yJ{fs:List Int}(h:dj m ws)(G:fs.length=ws.length)(k:Q (.val (.int (hrs ws fs))) [.val a7 (aP m ws),.val a7 (.lst (fs.map D.int))]):(run Γ w (n+1) 16 [.val a7 (aP m ws),.val a7 (.lst (fs.map D.int))]).sat Q:=by
 have H:=h.len;refine aL (d:=f16) rfl rfl (by decide) ?_;symm;have u:(fs.zip ws).length<=16777216:=by rw[i5];omega
 simp[f16];rw[K8];simp at u;refine⟨λ_=>?_,by first|exact u|(show _<=16777216;omega)⟩;refine cg (F4h _ _) hgD ⟨.aN,.aN,rfl,rfl,rfl⟩ ?_ ?_
 . rintro d hd _⟨s1,s2,rfl,h1,y⟩;obtain⟨⟨g,v⟩,hz,rfl⟩:=cK.mp hd;have z:=h.ok v (ko hz).2;have A:=z.h0;have B:=z.h1;have C:lC (.int g) (.int v.h)=al (.val (.int (g*v.h))):=by show(if _ then _ else _)=_;rw[if_pos];right;omega
   simp[h1,y,Ql,C];exact⟨rfl,_,_,rfl,rfl,rfl⟩
 rintro _⟨s1,s2,rfl,h1,y⟩;have e:((fs.zip ws).map λp=>D.tup [.int p.1,p.2.d]).map hgD=((fs.zip ws).map λp=>p.1*p.2.h).map D.int:=by rw[ec,ec];rfl
 rw[e];have t:∀(ws:List Wy)(fs:List Int),((fs.zip ws).map λp=>p.1*p.2.h).sum=hrs ws fs:=λws=>by induction ws with|nil=>intro fs;cases fs<;>rfl|cons v ws E=>intro fs;cases fs with|nil=>rfl|cons g fs=>rw[l_,dc,km,E,hY];rfl
 have t:=t ws fs;generalize((fs.zip ws).map λp=>p.1*p.2.h)=ns at*;simp[eO,t];exact k
theorem ud(k:Q (.val (.bl bx)) [.val a7 (.int i)]):(run Γ w (n+1) 27 [.val a7 (.int i)]).sat Q:=by refine aL (d:=f27) rfl rfl (by decide) ?_;symm;simp[f27];exact k
theorem PB{e:Type}{l:List e}:(l.map λ_=>D.bl bx).mapM zP=al (l.map λ_=>bx):=by induction l with|nil=>rfl|cons a l h=>simp[h]
theorem all_true{e:Type}{l:List e}:(l.map λ_=>bx).all id=bx:=by simp
inductive F31(a b:Sl)(ρ:List Sl):Prop where|mk(s:Sl)(q0:ρ=[a,b,s])(q1:fr s=bx)
theorem DK{fs:List Int}{c:Int}(t:fs.length<=1000)(hc:(fs.length:Int)=c)(k:Q (.val (.bl bx)) [.val a7 (.lst (fs.map D.int)),.val a7 (.int c)]):(run Γ w (n+2) 32 [.val a7 (.lst (fs.map D.int)),.val a7 (.int c)]).sat Q:=by
 refine aL (d:=f32) rfl rfl (by decide) ?_;symm;simp[f32,hc,show fs.length<=16777216 by omega];refine cg (F31 _ _) (λ_=>.bl bx) ⟨.aN,rfl,rfl⟩ ?_ ?_;.rintro d hd _⟨s,rfl,hs⟩;obtain⟨i,hi,rfl⟩:=cK.mp hd;simp[hs];refine ud ?_;simp;exact⟨_,rfl,rfl⟩
 rintro _⟨s,rfl,hs⟩;have e:=PB (l:=fs.map D.int);have h:=all_true (l:=fs.map D.int);generalize((fs.map D.int).map λ_=>D.bl bx)=X at*;generalize((fs.map D.int).map λ_=>bx)=Y at*;simp[e,h];exact k
theorem Vu{c:Call}{y a b:Nat}{B:List S}(h:ρ.all JN=bx):ex c n (.fsh B y a b) ρ=(gj c n B ρ).bind (pq y a b):=by show(if ρ.all JN=bx then(gj c n B ρ).bind (pq y a b)else .stuck)=_;rw[if_pos h]
theorem Ov{y a b:Nat}{fs:List Int}{ρ2:List Sl}(h:ρ[a]?=al (.val a7 (.lst (fs.map D.int))))(t:ρ[b]?=al (.val a7 (.lst (cl.map D.int))))(h1:fs.length<1000)(u:0<cl.length)(z:a≠y)(A:b≠y)(B:put (ρ.map gJ) y (.val a7 (.tup [.lst (fs.map D.int),.lst (cl.map D.int)]))=al ρ2):pq y a b .next ρ=.ok .next ρ2:=by
 have e:∀l:List Int,(l.map D.int).all eZ=bx:=λl=>by rw[eh];intro d hd;obtain⟨i,_,rfl⟩:=cK.mp hd;rfl
 unfold pq;rw[h,t];simp only;rw[if_pos ⟨e fs,e cl,by simpa using h1,by simpa using u,z,A⟩,B];rfl
theorem HQ{q:Int}(H:13286250<=w)(h:dj m ws)(B:0<=q)(C:∀cs,cL m ws cs->q<=sX cs)(k:Q (.val (.bl bx)) [.val a7 (aP m ws),.val a7 (.int q)]):(run Γ w (n+8) 33 [.val a7 (aP m ws),.val a7 (.int q)]).sat Q:=by
 have I:=h.len;have m0:=h.m0;have m1:=h.m1;obtain⟨r1,M,J,fs,cl,rfl,rfl,z,E,O,u⟩:=sat_iff.mp (FT (w:=w) (n:=n+2) (Q:=λr ρ=>∃fs cl:List Int,r=.val (YJ fs cl)/\ρ=[.val a7 (aP m ws),.val a7 (.int q)]/\Nk m ws fs/\over 0 ws fs=q/\(∀y kvs,Mu m ws y kvs->hrs ws fs=lh kvs q)/\Ao m ws fs cl) H h B C λcs U F d es cl W L u=>by obtain⟨X,Y,Z⟩:=Ht h W L B (C _ L);exact⟨_,cl,rfl,rfl,X,Y,Z,u⟩);have hr:qJ m ws fs:=⟨z.fit.len,z.fit.ok,z.r0,z.mid⟩;have G:fs.length=ws.length:=hr.1;have ac:=u.len;refine aL (d:=f33) rfl rfl (by decide) ?_;symm;simp[f33];rw[Vu (by simp[JN,aP,Fy,Wy.d])];rw[cG];symm;simp;refine sat_iff.mpr ⟨_,_,J,?_⟩;simp[YJ];apply ak;simp;apply ak;simp;apply ak;simp;refine DK (by omega) (by omega) ?_;simp;refine DK (by omega) (by omega) ?_;simp;refine Gm h hr ?_;simp[E];apply ak;simp;refine yJ h G ?_;simp;apply ak;simp;refine ud ?_;simp;refine O5 h ?_;simp;refine Ai H h B (λcs kvs A=>by rw[A.vs];exact C _ A.e) λy kvs A=>?_;simp[O _ _ A];apply ak;simp;refine J2 (.inl rfl) h λx t=>?_;have t:x=bx:=t.mpr u;subst t;simp;refine yO h (by omega) (by omega) λx t=>?_;have t:x=bx:=t.mpr ⟨hr,u⟩;subst t;simp;rw[Ov (fs:=fs) (cl:=cl) (ρ2:=[.val a7 (aP m ws),.val a7 (.int q),.aN,.aN,.aN,.val a7 (.int (lh kvs q)),.val a7 (YJ fs cl)]) rfl rfl (by omega) (by omega) (by decide) (by decide) (by
  have I:Fy 9 (aP m ws)=bx:=by simp[aP,Fy,Wy.d]
  simp[gJ,I,Fy,YJ])];simp;apply ak;simp;refine sat_iff.mpr ⟨_,_,J,?_⟩;simp[YJ,Vf];exact k
inductive J31(v:Sl)(r:List D)(ρ:List Sl):Prop where|mk(s1:Sl)(s2:Sl)(s3:Sl)(s4:Sl)(s5:Sl)(q0:ρ=[v,s1,s2,s3,s4,s5])(q1:A5 (fr s1=bx) (fr s2=bx) (fr s3=bx) (fr s4=bx) (fr s5=bx))(q2:∀d∈r,∃i,d=D.int i)
inductive K31(A:Int)(l:List Sl)(r:List D)(ρ:List Sl):Prop where|mk(s5:Sl)(q0:ρ=l++[s5])(q1:fr s5=bx)(q2:∀d∈r,∃i,d=D.int i/\0<=i/\i<=A)
theorem M5(ns:List Int)(E:ns.length<=63):∃as,run Γ 100000000 40 35 [.val a7 (.lst (ns.map D.int))]=.ok (.val (.bl bx)) as:=by
 suffices h:(run Γ 100000000 40 35 [.val a7 (.lst (ns.map D.int))]).sat λr _=>r=.val (.bl bx)by obtain⟨a,ρ,e,rfl⟩:=sat_iff.mp h;exact⟨ρ,e⟩
 refine aL (d:=f35) rfl rfl (by decide) ?_;symm;simp[f35];refine zu E λcs G=>?_;simp;refine bW (J31 (.val a7 (.lst (ns.map D.int)))) ?_ ?_ ⟨_,_,_,_,_,rfl,⟨rfl,rfl,rfl,rfl,rfl⟩,λd hd=>?_⟩
 . rintro d r _⟨s1,s2,s3,s4,s5,rfl,⟨h1,H,I,J,u⟩,hd⟩;obtain⟨x,rfl⟩:=hd d (by simp);simp[h1];apply ak;simp;refine J3 λa y c=>?_;simp[H];apply ak;simp;refine Ol λx z m ws C=>?_;simp[I];apply ak;simp;refine Lw C λA X Y L=>?_;have M:∀cs,cL m ws cs->A<=sX cs:=λcs B=>by obtain⟨S,O,hc⟩:=B.cut;have:=L S O;omega
   simp[J];apply ak;simp;refine gF (by omega) (jd (by omega)) λr0 x z b0 b1=>?_;simp;refine bW (K31 A [.val a7 (.lst (ns.map D.int)),_,.own a7 [.int x,.int y,.int z],.val a7 (aP m ws),.val a7 (.int A)]) ?_ ?_ ⟨s5,rfl,u,λd hd=>?_⟩;.rintro d r _⟨s5,rfl,u,hd⟩;obtain⟨i,rfl,U,W⟩:=hd d (by simp);simp[u];apply ak;simp;refine HQ (by omega) C U (λcs B=>oI W (M cs B)) ?_;simp;exact⟨_,rfl,rfl,λd t=>hd d (by simp[t])⟩
   .rintro _⟨s5,rfl,u,_⟩;simp;exact⟨_,_,_,_,_,rfl,⟨rfl,rfl,rfl,rfl,u⟩,λd t=>hd d (by simp[t])⟩
   . simp at hd;rcases hd with rfl|rfl|rfl|rfl;.exact⟨_,rfl,by omega,by omega⟩
     .exact⟨_,rfl,by split<;>omega,by split<;>omega⟩
     .exact⟨_,rfl,by omega,by omega⟩
     .exact⟨_,rfl,by omega,by omega⟩
 .rintro _⟨s1,s2,s3,s4,s5,rfl,_⟩;symm;simp
 .obtain⟨i,_,rfl⟩:=cK.mp hd;exact⟨i,rfl⟩
end _T
end
structure PySem.W.Fast:Prop where(tw15017767841974199516 tw9027481821661285698 tw9573971713375724986 tw11977912981722211856 tw7551554963711659820 tw4488039806056445442 tw17826145123325982999 tw8624173012982372188 tw7977193339951781717 tw9087783489147965973 tw11567360767275198275 tw2071732891638204919 tw7177505811166923699 tw15814267234831967380 tw4726297639638516913 tw12057535293980200784 tw18386514648565046834 tw7494927858307184243 tw5211896405749613980 tw7401276429030470293 tw16971872720186288848 tw18217048242127185359 tw17242052751487318074 tw6609993549762714964 tw5039533147794235373 tw4838275204967855321 tw16286001815141359351 tw11690376430547339454 tw16104998120152185883 tw1344351813268103090 tw7768726480810136289 tw703801543784775043 tw3872915155316265709 tw5107393599668222994 tw2236651531186898449 tw6809407813109126830 tw12105033310819712568 tw16498298482902622181 tw5331496970940643320 tw7260211908157222747 tw17800935638528311756 tw17345633108732727239 tw10343447075201127224 tw5159873433998752302 tw2071207605350278110 tw15687911551731029427 tw18386712716226220408 tw7458151599848610134 tw4138450060178485939 tw1036376600934053741 tw73797178120183380 tw14676598182076908490 tw5260411484431586242 tw11328387767449444258 tw14531921784367636056 tw18006407676964756951 tw13957479308191056971 tw1174364077473137758 tw139601400451412352 tw7397529509233604717 tw4538646195301176870 tw4721408406844685311 tw4678216929657151393 tw6962417561495181003 tw14708758675435282357 tw15865604137519874140 tw9178612766533337525 tw5804310902426025135 tw5082052721245953911 tw329151099423982181 tw3077933435055806381 tw12485904607394798931 tw15892283544408674419 tw2140184125505109432 tw13320795421665795695 tw4165854646293792581 tw6347803110671234916 tw274545522030861013 tw5081630873479056911 tw3178183100263373464 tw2547642330983986696 tw16537194729968881153 tw18362984347375849896 tw11967439049828983350 tw7494242744549006482 tw5961125139179287980 tw13021755754727262622 tw5521332079188049325 tw535883586678377897 tw2925490112457399448 tw17275893130316061231 tw1168206628216924140 tw4274229364330339981 tw1644065338986304115 tw12730086225805806260 tw6986299884166531330 tw6460688691795135976 tw11058313573287921042 tw4780114616081796684 tw12665816788456832786 tw4831835316236257797 tw4383336208961861827 tw1796879212761211215 tw10850189746331023713 tw13718369620165672302 tw1798321824657283691 tw5049327638906389413 tw11831772321435271890 tw6478379836230700191 tw11562657407716667516 tw12725619061546543507 tw14792553954277549987 tw16813762497263130775 tw7802610279060656761 tw7729413537316123943 tw10254291323249490766 tw9357643221400365201 tw675801255098979502 tw2660607351268551210 tw17520304746233024331 tw12642011070911309799 tw1348356573350307015 tw15644875696666238284 tw622599166022822188 tw15636246895731086678 tw7692779389574454916 tw16968623732034151686 tw951281505529524268 tw17680529842743470015 tw7324092363810676149 tw6648126568111133292 tw17171212378555937979 tw16108453775970146913 tw6584408138227613397 tw1965161094671212130 tw10203983801106921810 tw1926504137382083752 tw5984483477992140154 tw8493837246340551301 tw16159978069536596294 tw5073781233304496424 tw10072332992083915277 tw7202811357404955447 tw7652597549983883994 tw1968141267758848843 tw3211792219757346729 tw7385833352103917745 tw16810481999183334763 tw10540534180515793403 tw16323717098105927921 tw12616166179301522737 tw9341176573212094026 tw2764736643314407398 tw11400817601384120638 tw10192733453911827977 tw12119513260932611776 tw9013402238097308349 tw16388242716091461967 tw11534090181885142884 tw18206695716096084745 tw4043690518701443087 tw16289697577546329387 tw10723422013470801277 tw4283935992649153613 tw8099641315769093767 tw4191441783632010654 tw14592543532692552428 tw11805181620328233280 tw4373806850421156529 tw18437522820548964593 tw6176933469392325976 tw6515079905125631028 tw15208376792743477238 tw8493230635438001194 tw4023831780110113981 tw9095391700045449497 tw4636334303916153026 tw17617135106834932012 tw3459997621112949428 tw710532711449184230 tw18086607504498626979 tw9782360103908990673 tw16751265073787689342 tw7274277181825956094 tw9236347643948851447 tw3329352060669302722 tw6557945784932606546 tw15199726475375013880 tw2630020899749430150 tw10070482771443337196 tw1404268570323093729 tw7311840556053444061 tw568628692465923423 tw17382377929883111314 tw16068447517573874811 tw2544765334109217860 tw11504454076277576453 tw17088872437781374893 tw14279807601978798633 tw9922271352347337190 tw6569628174368680599 tw1444287286661470095 tw9049103825970822457 tw13490876318623389180 tw4620636282330358913 tw18392514218716596648 tw7553651122199982686 tw2834057741895274305 tw11933078857392066368 tw12244040791522343537 tw1331901721287731692 tw8678164423258339201 tw1739992998547174148 tw16394642307377190418 tw3090740106758958540 tw5845901327746976601 tw2449875554440105011 tw689424511650504259 tw16182936878910919886 tw11900561026948007736 tw15462163115704571276 tw16486005142947094265 tw494546653313161304 tw14306129162110191793 tw9470981734930918050 tw9573780210548548562 tw2002980443481150391 tw11861329766004987767 tw17520707779592226490 tw5019149480977309047 tw1459649031131330052 tw6759709930658439444 tw1906374985218561241 tw3906742736853044719:True)
namespace _T
open PySem _L Spec PyProof.Rows _H
theorem lkS{P:List bw → Prop}{n:Nat}(h:∀(a:bw)(b:List bw),b.length=n → P (a::b))(b:List bw)(c:b.length=n+1):P b:=by cases b with|nil=>cases c|cons a b=>exact h a b (Nat.succ.inj c)
theorem lk0{P:List bw → Prop}(h:P [])(b:List bw)(c:b.length=0):P b:=by cases b with|nil=>exact h|cons a b=>cases c
theorem Fv{P:List bw → Prop}(h:∀a,P [a]):∀b:List bw,b.length=1 → P b:=lkS λa=>lk0 (h a)
theorem gW{P:List bw → Prop}(h:∀a b,P [a,b]):∀c:List bw,c.length=2 → P c:=lkS λa=>Fv (h a)
theorem yp{P:List bw → Prop}(h:∀a b c,P [a,b,c]):∀e:List bw,e.length=3 → P e:=lkS λa=>gW (h a)
theorem lk4{P:List bw → Prop}(h:∀a b c d,P [a,b,c,d]):∀e:List bw,e.length=4 → P e:=lkS λa=>yp (h a)
theorem lk5{P:List bw → Prop}(h:∀a b c d e,P [a,b,c,d,e]):∀f:List bw,f.length=5 → P f:=lkS λa=>lk4 (h a)
local macro_rules|`(term|‹$p›)=>`(λ_ _ _ _ _ _=>$p)
structure Txt(K:PySem.W.Frag):Prop where
 D0:bB K "step_places" s0
 D1:bB K "step_hours" s1
 D2:bB K "step_room" s2
 D3:bB K "steps_hours" s3
 D4:bB K "open_steps" s4
 D5:bB K "shortest_come" s5
 D6:bB K "steps_to" s6
 D7:bB K "stream_with" s7
 D8:bB K "chains_to_end" s8
 D9:bB K "cut_to_rate" s9
 D10:bB K "ways_out" sW
 D11:bB K "ways_in" s11
 D12:bB K "stays_at" s12
 D13:bB K "stream_rate" s13
 D14:bB K "within_rooms" s14
 D15:bB K "stream_right" s15
 D16:bB K "stream_hours" s16
 D17:bB K "found_clocks" s17
 D18:bB K "light_stream" s18
 D19:bB K "clock_holds" s19
 D20:bB K "clocks_right" s20
 D21:bB K "bends_of" s21
 D22:bB K "least_hours" s22
 D23:bB K "_law_pool" s23
 D24:bB K "_law_next" s24
 D25:bB K "_law_wide" s25
 D26:bB K "_law_net" s26
 D27:bB K "_law_whole" s27
 D28:bB K "_law_most_rate" s28
 D29:bB K "_law_rate" s29
 D30:bB K "_law_hours" s30
 D31:bB K "_law_clocks" s31
 D32:bB K "_law_row" s32
 D33:bB K "_law_told" s33
 D34:bB K "_law_folded" s34
 D35:bB K "law" s35
 jA:PySem.W.nsIn K dE "all"=al bdq
 BZ:PySem.W.nsIn K dE "bool"=al bdq
 dW:PySem.W.nsIn K dE "enumerate"=al bdq
 Mm:PySem.W.nsIn K dE "int"=al bdq
 bU:PySem.W.nsIn K dE "isinstance"=al bdq
 cA:PySem.W.nsIn K dE "len"=al bdq
 fJ:PySem.W.nsIn K dE "list"=al bdq
 nD:PySem.W.nsIn K dE "max"=al bdq
 fc:PySem.W.nsIn K dE "min"=al bdq
 cj:PySem.W.nsIn K dE "range"=al bdq
 lV:PySem.W.nsIn K dE "reversed"=al bdq
 sO:PySem.W.nsIn K dE "sorted"=al bdq
 dC:PySem.W.nsIn K dE "sum"=al bdq
 gA:PySem.W.nsIn K dE "tuple"=al bdq
 fB:PySem.W.nsIn K dE "zip"=al bdq
 NL:SM K
noncomputable def jy{K:PySem.W.Frag}(T:Txt K):Nat->b_:=λk=>0
structure Oks(Pg:da)(w:eg)(K:PySem.W.Frag)(mg:Str->Option bw)(base:ew)(cl:Nat->b_)(n:Nat):Prop where
 c0:aQ Pg w K mg base n (run Γ 100000000 n) 0 "step_places" 2
 c1:aQ Pg w K mg base n (run Γ 100000000 n) 1 "step_hours" 2
 c2:aQ Pg w K mg base n (run Γ 100000000 n) 2 "step_room" 3
 c3:aQ Pg w K mg base n (run Γ 100000000 n) 3 "steps_hours" 2
 c4:aQ Pg w K mg base n (run Γ 100000000 n) 4 "open_steps" 2
 c5:aQ Pg w K mg base n (run Γ 100000000 n) 5 "shortest_come" 3
 c6:aQ Pg w K mg base n (run Γ 100000000 n) 6 "steps_to" 3
 c7:aQ Pg w K mg base n (run Γ 100000000 n) 7 "stream_with" 3
 c8:aQ Pg w K mg base n (run Γ 100000000 n) 8 "chains_to_end" 1
 c9:aQ Pg w K mg base n (run Γ 100000000 n) 9 "cut_to_rate" 2
 c10:aQ Pg w K mg base n (run Γ 100000000 n) 10 "ways_out" 2
 c11:aQ Pg w K mg base n (run Γ 100000000 n) 11 "ways_in" 2
 c12:aQ Pg w K mg base n (run Γ 100000000 n) 12 "stays_at" 3
 c13:aQ Pg w K mg base n (run Γ 100000000 n) 13 "stream_rate" 2
 c14:aQ Pg w K mg base n (run Γ 100000000 n) 14 "within_rooms" 2
 c15:aQ Pg w K mg base n (run Γ 100000000 n) 15 "stream_right" 2
 c16:aQ Pg w K mg base n (run Γ 100000000 n) 16 "stream_hours" 2
 c17:aQ Pg w K mg base n (run Γ 100000000 n) 17 "found_clocks" 2
 c18:aQ Pg w K mg base n (run Γ 100000000 n) 18 "light_stream" 2
 c19:aQ Pg w K mg base n (run Γ 100000000 n) 19 "clock_holds" 3
 c20:aQ Pg w K mg base n (run Γ 100000000 n) 20 "clocks_right" 3
 c21:aQ Pg w K mg base n (run Γ 100000000 n) 21 "bends_of" 1
 c22:aQ Pg w K mg base n (run Γ 100000000 n) 22 "least_hours" 2
 c23:aQ Pg w K mg base n (run Γ 100000000 n) 23 "_law_pool" 1
 c24:aQ Pg w K mg base n (run Γ 100000000 n) 24 "_law_next" 2
 c25:aQ Pg w K mg base n (run Γ 100000000 n) 25 "_law_wide" 2
 c26:aQ Pg w K mg base n (run Γ 100000000 n) 26 "_law_net" 2
 c27:aQ Pg w K mg base n (run Γ 100000000 n) 27 "_law_whole" 1
 c28:aQ Pg w K mg base n (run Γ 100000000 n) 28 "_law_most_rate" 1
 c29:aQ Pg w K mg base n (run Γ 100000000 n) 29 "_law_rate" 2
 c30:aQ Pg w K mg base n (run Γ 100000000 n) 30 "_law_hours" 2
 c31:aQ Pg w K mg base n (run Γ 100000000 n) 31 "_law_clocks" 3
 c32:aQ Pg w K mg base n (run Γ 100000000 n) 32 "_law_row" 2
 c33:aQ Pg w K mg base n (run Γ 100000000 n) 33 "_law_told" 2
 c34:aQ Pg w K mg base n (run Γ 100000000 n) 34 "_law_folded" 2
 c35:aQ Pg w K mg base n (run Γ 100000000 n) 35 "law" 1
set_option maxHeartbeats 0 in
theorem Hr{Pg:da}{w:eg}{K:PySem.W.Frag}{mg:Str->Option bw}{base:ew}(T:Txt K)(X:K.In base)(G:base.Ns dE mg):∀n,Oks Pg w K mg base (jy T) n
 |0=>{
   c0:=bQ (ps:=["net","step"]) X G T.D0 rfl ‹gW λ_ _=>rfl›
   c1:=bQ (ps:=["net","step"]) X G T.D1 rfl ‹gW λ_ _=>rfl›
   c2:=bQ (ps:=["net","stream","step"]) X G T.D2 rfl ‹yp λ_ _ _=>rfl›
   c3:=bQ (ps:=["net","steps"]) X G T.D3 rfl ‹gW λ_ _=>rfl›
   c4:=bQ (ps:=["net","stream"]) X G T.D4 rfl ‹gW λ_ _=>rfl›
   c5:=bQ (ps:=["net","stream","begun"]) X G T.D5 rfl ‹yp λ_ _ _=>rfl›
   c6:=bQ (ps:=["net","come","place"]) X G T.D6 rfl ‹yp λ_ _ _=>rfl›
   c7:=bQ (ps:=["stream","steps","loads"]) X G T.D7 rfl ‹yp λ_ _ _=>rfl›
   c8:=bQ (ps:=["net"]) X G T.D8 rfl ‹Fv λ_=>rfl›
   c9:=bQ (ps:=["pairs","rate"]) X G T.D9 rfl ‹gW λ_ _=>rfl›
   c10:=bQ (ps:=["net","place"]) X G T.D10 rfl ‹gW λ_ _=>rfl›
   c11:=bQ (ps:=["net","place"]) X G T.D11 rfl ‹gW λ_ _=>rfl›
   c12:=bQ (ps:=["net","stream","place"]) X G T.D12 rfl ‹yp λ_ _ _=>rfl›
   c13:=bQ (ps:=["net","stream"]) X G T.D13 rfl ‹gW λ_ _=>rfl›
   c14:=bQ (ps:=["net","stream"]) X G T.D14 rfl ‹gW λ_ _=>rfl›
   c15:=bQ (ps:=["net","stream"]) X G T.D15 rfl ‹gW λ_ _=>rfl›
   c16:=bQ (ps:=["net","stream"]) X G T.D16 rfl ‹gW λ_ _=>rfl›
   c17:=bQ (ps:=["net","stream"]) X G T.D17 rfl ‹gW λ_ _=>rfl›
   c18:=bQ (ps:=["net","rate"]) X G T.D18 rfl ‹gW λ_ _=>rfl›
   c19:=bQ (ps:=["way","loads","clocks"]) X G T.D19 rfl ‹yp λ_ _ _=>rfl›
   c20:=bQ (ps:=["net","stream","clocks"]) X G T.D20 rfl ‹yp λ_ _ _=>rfl›
   c21:=bQ (ps:=["net"]) X G T.D21 rfl ‹Fv λ_=>rfl›
   c22:=bQ (ps:=["net","rate"]) X G T.D22 rfl ‹gW λ_ _=>rfl›
   c23:=bQ (ps:=["cell"]) X G T.D23 rfl ‹Fv λ_=>rfl›
   c24:=bQ (ps:=["pool","base"]) X G T.D24 rfl ‹gW λ_ _=>rfl›
   c25:=bQ (ps:=["pool","base"]) X G T.D25 rfl ‹gW λ_ _=>rfl›
   c26:=bQ (ps:=["pool","most"]) X G T.D26 rfl ‹gW λ_ _=>rfl›
   c27:=bQ (ps:=["found"]) X G T.D27 rfl ‹Fv λ_=>rfl›
   c28:=bQ (ps:=["net"]) X G T.D28 rfl ‹Fv λ_=>rfl›
   c29:=bQ (ps:=["net","stream"]) X G T.D29 rfl ‹gW λ_ _=>rfl›
   c30:=bQ (ps:=["net","stream"]) X G T.D30 rfl ‹gW λ_ _=>rfl›
   c31:=bQ (ps:=["net","stream","clocks"]) X G T.D31 rfl ‹yp λ_ _ _=>rfl›
   c32:=bQ (ps:=["found","many"]) X G T.D32 rfl ‹gW λ_ _=>rfl›
   c33:=bQ (ps:=["net","rate"]) X G T.D33 rfl ‹gW λ_ _=>rfl›
   c34:=bQ (ps:=["script","most"]) X G T.D34 rfl ‹gW λ_ _=>rfl›
   c35:=bQ (ps:=["script"]) X G T.D35 rfl ‹Fv λ_=>rfl›}|n+1=>have a:=Hr (Pg:=Pg) (w:=w) (base:=base) T X G n
   {c0:=bO (ps:=["net","step"]) X G T.D0 rfl rfl ‹gW λ_ _=>rfl› λ_ _ F=>d0 (cl:=jy T) F
    c1:=bO (ps:=["net","step"]) X G T.D1 rfl rfl ‹gW λ_ _=>rfl› λ_ _ F=>d1 (cl:=jy T) F
    c2:=bO (ps:=["net","stream","step"]) X G T.D2 rfl rfl ‹yp λ_ _ _=>rfl› λ_ _ F=>d2 (cl:=jy T) F
    c3:=bO (ps:=["net","steps"]) X G T.D3 rfl rfl ‹gW λ_ _=>rfl› λ_ _ F=>d3 (cl:=jy T) F (mg_none_of X G T.dC) a.c1
    c4:=bO (ps:=["net","stream"]) X G T.D4 rfl rfl ‹gW λ_ _=>rfl› λ_ _ F=>d4 (cl:=jy T) F (mg_none_of X G T.cA) (mg_none_of X G T.cj) a.c0 a.c2
    c5:=bO (ps:=["net","stream","begun"]) X G T.D5 rfl rfl ‹yp λ_ _ _=>rfl› λ_ _ F=>d5 (cl:=jy T) F (mg_none_of X G T.cA) (mg_none_of X G T.fJ) a.c4 a.c1 a.c0
    c6:=bO (ps:=["net","come","place"]) X G T.D6 rfl rfl ‹yp λ_ _ _=>rfl› λ_ _ F=>d6 (cl:=jy T) F (mg_none_of X G T.lV) (mg_none_of X G T.gA) a.c0
    c7:=bO (ps:=["stream","steps","loads"]) X G T.D7 rfl rfl ‹yp λ_ _ _=>rfl› λ_ _ F=>d7 (cl:=jy T) F (mg_none_of X G T.fJ)
    c8:=bO (ps:=["net"]) X G T.D8 rfl rfl ‹Fv λ_=>rfl› λ_ _ F=>d8 (cl:=jy T) F (mg_none_of X G T.cA) (mg_none_of X G T.fc) a.c5 a.c2 a.c6 a.c7
    c9:=bO (ps:=["pairs","rate"]) X G T.D9 rfl rfl ‹gW λ_ _=>rfl› λ_ _ F=>d9 (cl:=jy T) F (mg_none_of X G T.fc)
    c10:=bO (ps:=["net","place"]) X G T.D10 rfl rfl ‹gW λ_ _=>rfl› λ_ _ F=>d10 (cl:=jy T) F (mg_none_of X G T.dW)
    c11:=bO (ps:=["net","place"]) X G T.D11 rfl rfl ‹gW λ_ _=>rfl› λ_ _ F=>d11 (cl:=jy T) F (mg_none_of X G T.dW)
    c12:=bO (ps:=["net","stream","place"]) X G T.D12 rfl rfl ‹yp λ_ _ _=>rfl› λ_ _ F=>d12 (cl:=jy T) F (mg_none_of X G T.dC) a.c11 a.c10
    c13:=bO (ps:=["net","stream"]) X G T.D13 rfl rfl ‹gW λ_ _=>rfl› λ_ _ F=>d13 (cl:=jy T) F a.c12
    c14:=bO (ps:=["net","stream"]) X G T.D14 rfl rfl ‹gW λ_ _=>rfl› λ_ _ F=>d14 (cl:=jy T) F (mg_none_of X G T.jA) (mg_none_of X G T.fB)
    c15:=bO (ps:=["net","stream"]) X G T.D15 rfl rfl ‹gW λ_ _=>rfl› λ_ _ F=>d15 (cl:=jy T) F (mg_none_of X G T.jA) (mg_none_of X G T.cA) (mg_none_of X G T.cj) a.c12 a.c13 a.c14
    c16:=bO (ps:=["net","stream"]) X G T.D16 rfl rfl ‹gW λ_ _=>rfl› λ_ _ F=>d16 (cl:=jy T) F (mg_none_of X G T.dC) (mg_none_of X G T.fB)
    c17:=bO (ps:=["net","stream"]) X G T.D17 rfl rfl ‹gW λ_ _=>rfl› λ_ _ F=>d17 (cl:=jy T) F (mg_none_of X G T.cj) (mg_none_of X G T.dC) a.c5
    c18:=bO (ps:=["net","rate"]) X G T.D18 rfl rfl ‹gW λ_ _=>rfl› λ_ _ F=>d18 (cl:=jy T) F (mg_none_of X G T.cA) a.c8 a.c9 a.c17 a.c7
    c19:=bO (ps:=["way","loads","clocks"]) X G T.D19 rfl rfl ‹yp λ_ _ _=>rfl› λ_ _ F=>d19 (cl:=jy T) F
    c20:=bO (ps:=["net","stream","clocks"]) X G T.D20 rfl rfl ‹yp λ_ _ _=>rfl› λ_ _ F=>d20 (cl:=jy T) F (mg_none_of X G T.jA) (mg_none_of X G T.cA) (mg_none_of X G T.fB) a.c19 a.c15
    c21:=bO (ps:=["net"]) X G T.D21 rfl rfl ‹Fv λ_=>rfl› λ_ _ F=>d21 (cl:=jy T) F (mg_none_of X G T.sO) a.c8 a.c3
    c22:=bO (ps:=["net","rate"]) X G T.D22 rfl rfl ‹gW λ_ _=>rfl› λ_ _ F=>d22 (cl:=jy T) F (mg_none_of X G T.dC) a.c21 a.c9
    c23:=bO (ps:=["cell"]) X G T.D23 rfl rfl ‹Fv λ_=>rfl› λ_ _ F=>d23 (cl:=jy T) F (mg_none_of X G T.nD)
    c24:=bO (ps:=["pool","base"]) X G T.D24 rfl rfl ‹gW λ_ _=>rfl› λ_ _ F=>d24 (cl:=jy T) F
    c25:=bO (ps:=["pool","base"]) X G T.D25 rfl rfl ‹gW λ_ _=>rfl› λ_ _ F=>d25 (cl:=jy T) F a.c24
    c26:=bO (ps:=["pool","most"]) X G T.D26 rfl rfl ‹gW λ_ _=>rfl› λ_ _ F=>d26 (cl:=jy T) F (mg_none_of X G T.nD) (mg_none_of X G T.fc) (mg_none_of X G T.cj) (mg_none_of X G T.gA) a.c24 a.c25
    c27:=bO (ps:=["found"]) X G T.D27 rfl rfl ‹Fv λ_=>rfl› λ_ _ F=>d27 (cl:=jy T) F (mg_none_of X G T.BZ) (mg_none_of X G T.Mm) (mg_none_of X G T.bU)
    c28:=bO (ps:=["net"]) X G T.D28 rfl rfl ‹Fv λ_=>rfl› λ_ _ F=>d28 (cl:=jy T) F (mg_none_of X G T.fc) (mg_none_of X G T.cj) (mg_none_of X G T.dC)
    c29:=bO (ps:=["net","stream"]) X G T.D29 rfl rfl ‹gW λ_ _=>rfl› λ_ _ F=>d29 (cl:=jy T) F (mg_none_of X G T.fB)
    c30:=bO (ps:=["net","stream"]) X G T.D30 rfl rfl ‹gW λ_ _=>rfl› λ_ _ F=>d30 (cl:=jy T) F (mg_none_of X G T.dC) (mg_none_of X G T.fB)
    c31:=bO (ps:=["net","stream","clocks"]) X G T.D31 rfl rfl ‹yp λ_ _ _=>rfl› λ_ _ F=>d31 (cl:=jy T) F (mg_none_of X G T.cA) (mg_none_of X G T.fB)
    c32:=bO (ps:=["found","many"]) X G T.D32 rfl rfl ‹gW λ_ _=>rfl› λ_ _ F=>d32 (cl:=jy T) F (mg_none_of X G T.jA) (mg_none_of X G T.bU) (mg_none_of X G T.cA) (mg_none_of X G T.fJ) a.c27
    c33:=bO (ps:=["net","rate"]) X G T.D33 rfl rfl ‹gW λ_ _=>rfl› λ_ _ F=>d33 (cl:=jy T) F (mg_none_of X G T.bU) (mg_none_of X G T.cA) (mg_none_of X G T.fJ) (mg_none_of X G T.gA) a.c31 a.c30 a.c29 a.c32 a.c27 a.c20 a.c22 a.c18 a.c16 T.NL
    c34:=bO (ps:=["script","most"]) X G T.D34 rfl rfl ‹gW λ_ _=>rfl› λ_ _ F=>d34 (cl:=jy T) F (mg_none_of X G T.cA) (mg_none_of X G T.nD) (mg_none_of X G T.fc) (mg_none_of X G T.cj)
    c35:=bO (ps:=["script"]) X G T.D35 rfl rfl ‹Fv λ_=>rfl› λ_ _ F=>d35 (cl:=jy T) F (mg_none_of X G T.fc) a.c34 a.c28 a.c26 a.c23 a.c33 a.c25}
set_option maxHeartbeats 0 in
theorem Tj{Pg:da}{w:eg}{K:PySem.W.Frag}{mg:Str->Option bw}{h:ew}{i:b_}(T:Txt K)(X:K.In h)(G:h.Ns dE mg)(g:mg "law"=al (.ref i)):∃fd:h8,(∀(s:bZ)(u:bw),n8 s fd ⟨[u],[]⟩ [("script",u)])/\∀base:ew,K.In base->base.Ns dE mg->oA Pg w K mg base Jf 40 i fd ["script"] (Qs K 1 (run Γ 100000000 40 35)):=by
 obtain⟨f,fd,a,F⟩:=T.D35.ex;have e:=g.symm.trans (mg_of X G a);cases e;refine⟨fd,λs u=>?_,λbase j l=>?_⟩;.obtain⟨oc,q,kV,m,r,t,cdv,ct,o,rfl,lk,p⟩:=F.ex;exact .of_eq rfl
 .have b:=Hr (Pg:=Pg) (w:=w) (base:=base) T j l 39;exact d35 (cl:=jy T) (k:=39) (n:=100000000) (c:=run Γ 100000000 39) F (mg_none_of X G T.fc) b.c34 b.c28 b.c26 b.c23 b.c33 b.c25
end _T
open PySem W PyProof.Rows
set_option maxRecDepth 100000 in
set_option maxHeartbeats 0 in
theorem PySem.Challenge.cw_hourhaul_k31_light_streams_told_holds : PySem.Challenge.rw_hourhaul_k31_light_streams_told.Holds := by
 w_on;o_law;k_head;(case hw=>w_witness2);k_fill;refine _L.JB (l:=PySem.Challenge.rw_hourhaul_k31_light_streams_told) (n:=63) (k:=40) (x:="script") (CX:=_L.Jf) (sp:=λK=>_H.Qs K 1 (_H.run _T.Γ 100000000 40 35)) rfl (by decide) rfl ⟨rfl,by decide,by decide⟩ (λw h Y=>PySem.W.kIn_of Y) ?F ?S ?C;case F=>
  intro w mg j h f G b;refine _T.Tj ?T f G b;constructor;iterate 36(· refine' _H.Vs ?a ?l ?c ?k;case a|l|c|k=>k_is)
  iterate 15(· k_is)
  .show map _ _=[];kernel_rfl
 case S=>intro K H a ns g m i;obtain⟨as,e⟩:=_T.M5 ns g;exact _H.GR i e
 case C=>exact λH s e o z=>z
