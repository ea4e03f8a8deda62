import PyProof.Rows.All
import Wide.All
import OpenK.AllK
import Wide.FinOn
import Lean
import PyProof.EqAt
import PyProof.EqKinds
import PyProof.TupleCall
import PySem.Str
import PySem.Builtin.Int.W1All
import PyProof.NeKinds
import PyProof.ZipIter
import PyProof.SumWalkG
import PyProof.MinMaxWalk
import PyProof.WalksMore
import PyProof.SeqI3
import PyProof.WalkInts
import PyProof.Rows.CallKwBuiltin
import PyProof.Rows.Tup
import PyProof.CollectIter
import PyProof.EnumMake
import PyProof.TupleOfSeq
import PyProof.ListNew
import PyProof.ReprLoop
import PyProof.StationsW
import PyProof.ExcClass3
import PyProof.Rows.CatchBare
import OpenK.KOwn
import KE.KIsAll
import PyProof.NsDelKeeps
import PyProof.RulesAs
import PyProof.ExcArgsOwn
import PyProof.ListRange
import KE.RegKIsAll
import KE.KRevIter
import PyProof.Rows.SortRuns
import KE.KSortTup
import PyProof.DictWalks
import KE.KDictList
import KE.KItemsList
import PyProof.ExcBaseAll.ValueError
import PySem.Challenge.RW_hourhaul_k79_closed_hours_for_starts
set_option Elab.async false
set_option linter.all false
set_option maxRecDepth 100000
set_option genInjectivity false
set_option genSizeOf false
set_option compiler.extract_closed false
set_option bootstrap.genMatcherCode false
open Option renaming some→aj,none→bx,map_eq_some_iff→fx,map_some→kB,isSome_iff_exists→mI
open Bool renaming false→aK,true→a_,false_ne_true→dc,and_eq_true→eW,false_eq_true→iA,and_eq_false_iff→kL,or_eq_false_iff→kT,or_eq_true→md,not_eq_true'→mu,false_and→mM,and_false→mN,and_true→nk
open PySem renaming Value→b_,wpAny_bind→ce,Shared→cr,Addr→cw,starEach→cy,wpAny_pure→cK,wpAny→cN,model→c_,Expr→df,Program→dE,mainGlobals→dS,compareOp→d_,wpAny_mono→ew,wpAny_newObj_type→eA,eval→eB,World→eH,Stmt→eK,Heap→eP,Around→fb,bootBuiltins→fe,sizeLine_eq→fi,foldedSetIterable→ft,wpAny_truthy_bool→fI,binaryOp→fS,swapsWith→fT,wpAny_loadPart'→ga,cLine→gc,behindInMarks→gi,sysModules→gL,attributeBase→gS,wpAny_passesOwn→hJ,FuncData→hP,wpAny_holding→hQ,backTo→hX,Keyword→iL,wpAny_pyIter_tuple→iN,tupleKind_room_in1→iO,wpAny_callSpecial?_slot→iS,wpAny_call_entry→i8,call_meets→je,relabel→jo,wpAny_field→jq,sliceBounds→jv,keywordEach→jx,Scope→ke,getItem→kf,cellsFrom→kl,assignEach→kw,NameKind→kx,holding→kD,PassesOwn→kP,wpAny_typeOf→kU,codeAny→k4,assign→k5,Builtin→k6,letOwnedTupleGo→k7,codeAny_builtin→k8,backToKw→ln,Operator→lp,IsPart→ls,tupleKind→ly,callerA→lI,wpAny_standAt→lS,swapsWithSole→lT,swappedStores→l6,plainId_quiet→l7,wpAny_rule→l9,wpAny_Call_Name_kw→l_,typeIs_int→ma,wpAny_pyIter_list→ml,wpAny_pyIter_enum→mn,valueAt→mo,seqIndex_neg→mr,concat_meets→mx,wpAny_eqBool_int→mP,seqIndex?→mS,noFill_tuple_add→mT,unsupported→m3,subscripted→m4,seqIndex_of→ng,CmpOp→nh,wpAny_specialOf→nl,wpAny_execs_nil→nm,setItem→nv,notedBy→nB,BindsTo→nE,wpAny_letOwnedTupleGo_enum→nK,typeLookup→nL,newFunctionEnv→nV,atKey→n3,wpAny_binaryOp_repeat_ref→ox,wpAny_comprehension_free→oB,seq_tuple_add→oD,assignInOrder→oN,wpAny_pyNext_enum_itemD→o3,bindL→o_,bindC→pc,wpAny_pyNext_enum_endD→pE,wpAny_getItem_list_neg→pS,pyIter→p5,codeAny_mono→qa,call_meetsIn→qc,wpAny_nextOf_list_end→qd,wpAny_isTrue_Compare1→qf,builtinLookup_eq_fast→qh,wpAny_loadName_local→qk,bindName→q_,bindArgs→rb,Model→rd,Meets→rf,wpAny_loadName_cell→rg
open List renaming getElem?_set_self→cv,replicate→cx,size_toArray→cE,mem_map→cS,map_cons→da,mem_cons→de,range→dr,mem_cons_of_mem→dI,getElem?_append_left→dP,length_map→dQ,mem_singleton→dU,mem_of_getElem?→dV,map_map→ef,length_cons→ei,length_append→ek,getD_eq_getElem?_getD→eu,getElem?_eq_getElem→eF,nodup_cons→eL,getElem?_map→eM,getElem?_set_ne→eR,mem_append→fk,getElem?_append_right→fw,mem_append_right→fy,drop_eq_getElem_cons→fE,all_eq_true→fH,append_assoc→fN,lookup_cons→f_,mem_range→gd,find?_cons→gy,append_nil→gE,map_append→gN,eq_nil_of_length_eq_zero→gX,replicate_succ→g9,mem_filter→hB,mem_cons_self→hU,map_congr_left→ia,filterMap_cons→ib,idxOf_lt_length_iff→ii,length_singleton→im,getElem?_replicate→ip,getD→iq,filter_cons_of_pos→ix,filter_cons_of_neg→iz,take_of_length_le→iF,any_eq_true→i5,length_filter_le→i_,contains_iff_mem→ja,getElem_mem→jI,any_cons→jS,getElem?_of_mem→kb,drop_eq_nil_iff→kc,filterMap_cons_some→kn,filterMap_cons_none→ko,getElem?_cons_succ→kA,cons_append→kE,drop_eq_nil_of_le→kG,all_cons→kM,pairwise_append→kQ,length→kR,nodup_append→kX,length_range→k3,getElem?_range→k9,pairwise_cons→lb,getElem_idxOf→lc,getElem?_take→lf,length_take→li,ext_getElem→ll,map_nil→lz,filter_append→l8,take_append_of_le_length→mh,dropLast_concat_getLast→mi,reverse_cons→ms,getElem?_set→mv,flatten_cons→mw,sum_cons→nN,nil_append→nS,foldl_cons→nX,min?_eq_some_iff→oe,max?_eq_some_iff→og,length_replicate→oj,eq_nil_or_concat→ol,countP_mono_left→om,concat_eq_append→oo,mem_append_left→oy,getElem?_mapIdx→oz,length_pos_iff→oQ,getElem_of_mem→oT,toArray→pT,map_set→p_,foldl→qS
open Sum renaming inl→dl,inr→lR
open PySem.Heap renaming get?_push_size→dA,lt_size→dL,get?_update_other→hY,get?_update_self→iX,size_push→kg
open PySem.Value renaming ref→eg,none→eN,type→fR,int→gb,bool→j_,notImplemented→kN
open Nat renaming lt_of_lt_of_le→eh,ne_of_lt→ej,le_trans→g_,lt_irrefl→hV,le_of_lt→lj,le_of_not_lt→mf,zero_add→n4,mul_comm→n5,lt_trans→n7,lt_or_ge→n9,le_mul_of_pos_left→n_,pow_le_pow_right→oP
open Option.some renaming inj→eI
open PySem.NameKind renaming free→eJ,cell→gx
open Or renaming inr→eS,inl→fh
open PySem.PassesOwn renaming never→e_
open Int renaming le_refl→fg,toNat_of_nonneg→iE,toNat_natCast→kq,emod_lt_of_pos→lw,emod_nonneg→mA,sub_zero→qo,mul_zero→qv,mul_comm→qA,max_eq_left→qB
open Pure renaming pure→fm
open PyProof.Rows renaming callWith_type1→fo,Keyed→gl,IntsAre→gI,wpS_bind→hE,slot_tuple_getitem→ic,SortSt→iP,SortKind→i7,pendingOf→ki,wpS_pure→ku,envOfC→lm,AllBare→lP,assignInOrder_cons→me,subscriptTail→oC,listUpdate_at→oI,IsTup→pf,wpS_get→pp,wpS_forRange→pz,subscriptTail_builtinR→pV,seqObj→p4,minRun'→p9,seqEpoch_at→qr,failedOf→qV,arrOf→rc
open False renaming elim→fv
open PySem.Obj renaming mapSeq→gf
open Ne renaming symm→gu
open PySem.SeqAt renaming EqAt→gT
open ForInStep renaming yield→h_
open Function renaming comp_def→io
open PySem.Around renaming under_plainId→i6
open PySem.Builtin.Tuple renaming tupleExact→i9
open Array renaming length_toList→jp,toList_inj→ky,getD→mG,getElem?_toList→nI
open PySem.Calls renaming spliced_cons→ka,callWith_builtin→kC,spliced_nil→lx,Name_function_global→mE,evalArgs_plain→ot
open True renaming intro→kF
open PySem.Str renaming ofString→kH
open PyProof.Rows.IntsAre renaming length→kK
open PyProof.Rows.IsTup renaming new→kS
open PySem.SeqAt.EqAt renaming same→k_
open PySem.Builtin.List renaming listExtendWith→lh,listTooLong→qE
open PySem.Heap.SameBut renaming update→mB
open PySem.Builtin.Slice renaming slicePlaces→m_,sliceAdjust→qq
open PySem.CmpOp renaming NotIn→oq
open List(foldl toArray map of_mem_zip mapM_cons length_nil range_succ)
open PySem.W(mg_none_of keepIn methodObj mg_of kitx_dict)
open Nat(le_refl le_succ)
open PySem.Heap(SameBut)
open PySem.Builtin.Tuple(tupleItemsOf)
open Option(bind_some isSome_map getD_none getD_some)
open PySem.Builtin.SmallTypes(nextOf)
open PySem.Builtin.Slice(sliceApplied)
open PySem.Builtin.List(listLengthHint listSameRef)
open PySem.F(plainAttrs_list slot_tuple_add entry_tuple_add args_tuple_add_2 slot_tuple_mul)
open Array(toList)
open PySem.SeqAt.EqAt(int_str str_int none_bool none_int none_str bool_none bool_bool bool_int bool_str int_none int_bool int_int str_none str_bool str_str)
open Int(mul_comm mul_zero max_eq_left mul_one mul_add mul_neg)
open PySem.SeqAt.RcAt(lists_lengths)
open PySem.SeqAt.RcNeAt(int_list str_list list_int list_str)
theorem gU{h:PySem.Heap}{o b:PySem.Obj}{a:PySem.Addr}(e:h.get? a=aj o):(h.push b).get? a=aj o:=PySem.Heap.get?_push_of_some _ e
theorem eY{b:Type}{l:List b}{i:Nat}{a:b}(h:l[i]?=aj a):∃h:i<l.length,l[i]=a:=List.getElem?_eq_some_iff.mp h
theorem fK{b:Type}{l:List b}{i j:Nat}{a:b}(h:j≠i):(l.set i a)[j]?=l[j]?:=List.getElem?_set_ne (gu h)
theorem um{n:Nat}:0<=n:=Nat.zero_le n
theorem dm{n:Nat}:n<=n:=Nat.le_refl n
namespace _L
open PySem Spec PyProof.Rows
variable{w:eH}{h:eP}{t' i:Nat}{M:rd}{A:fb}{s:cr}{pos:Pos}{pins:List (cw×Obj)}{op:nh}{K:PySem.W.Frag}{tg:df}{us:List b_}
noncomputable abbrev Key:=Sum Int Str
noncomputable def pO:Key->b_->Bool|.inl k,v=>Value.isInt k v|.inr x,v=>Value.isStrOf x v
noncomputable def afa(w:eH):Key->Int|.inl k=>hashInt k|.inr x=>hashStr w x
theorem bM:∀{k:Key}{v:b_},pO k v=a_->(∃i t,k=dl i/\v=gb i t)\/(∃x t,k=lR x/\v=Value.str x t)|.inl i,v,h=>by obtain⟨t,e⟩:=Value.isInt_shape (k:=i) (v:=v) h;exact .inl ⟨i,t,rfl,e⟩|.inr x,v,h=>by obtain⟨t,e⟩:=Value.isStrOf_shape (x:=x) (v:=v) h;exact .inr ⟨x,t,rfl,e⟩
theorem Gg(i:Int)(t:Tok):pO (.inl i) (.int i t)=a_:=by simp[pO,Value.isInt]
theorem Gn(x:Str)(t:Tok):pO (.inr x) (.str x t)=a_:=by simp[pO,Value.isStrOf]
theorem Vw(a b:Int):decide ((dl a:Key)=dl b)=(a==b):=by
 by_cases e:a=b;.subst e;simp
 .have h:¬(dl a:Key)=dl b:=λq=>e (Sum.inl.inj q);rw[decide_eq_false h];exact(beq_eq_false_iff_ne.mpr e).symm
theorem VL(a b:Str):decide ((lR a:Key)=lR b)=decide (a=b):=by
 by_cases e:a=b;.subst e;simp
 .have h:¬(lR a:Key)=lR b:=λq=>e (Sum.inr.inj q);rw[decide_eq_false h,decide_eq_false e]
theorem Vr(a:Int)(b:Str):decide ((dl a:Key)=lR b)=aK:=decide_eq_false (λq=>nomatch q)
theorem VP(a:Str)(b:Int):decide ((lR a:Key)=dl b)=aK:=decide_eq_false (λq=>nomatch q)
noncomputable def bz(prog:dE)(w:eH):PySem.KeyKind prog w Key where
 is:=pO;hash:=afa w;inj:=λv a b g f=>by
  rcases bM g with⟨i,t,rfl,rfl⟩|⟨x,t,rfl,rfl⟩
  . rcases bM f with⟨j,u,rfl,e⟩|⟨y,u,rfl,e⟩;.injection e with e1 _;rw[e1]
    .exact nomatch e
  . rcases bM f with⟨j,u,rfl,e⟩|⟨y,u,rfl,e⟩;.exact nomatch e
    .injection e with e1 _;rw[e1]
 byValue:=λk v h=>by rcases bM h with⟨i,t,rfl,rfl⟩|⟨x,t,rfl,rfl⟩<;>rfl
 pyHash:=λc h=>by
  rcases bM c with⟨i,t,rfl,rfl⟩|⟨x,t,rfl,rfl⟩;.exact wpAny_pyHash_int h
  .exact wpAny_pyHash_str h
 eqBool:=λl c h=>by
  rcases bM l with⟨i,t,rfl,rfl⟩|⟨x,t,rfl,rfl⟩
  . rcases bM c with⟨j,u,rfl,rfl⟩|⟨y,u,rfl,rfl⟩;.rw[Vw]at h;exact mP h
    .rw[Vr]at h;exact int_str i t y u _ _ _ _ h
  . rcases bM c with⟨j,u,rfl,rfl⟩|⟨y,u,rfl,rfl⟩;.rw[VP]at h;exact str_int x t j u _ _ _ _ h
    .rw[VL]at h;exact wpAny_eqBool_str h
 «strs»:=λk x t v h=>by
  rcases bM h with⟨i,u,rfl,e⟩|⟨y,u,rfl,e⟩;.exact nomatch e
  .injection e with e1 _;subst e1;cases v<;>rfl
theorem yI(prog:dE)(w:eH)(i:Int)(t:Tok):(bz prog w).is (.inl i) (.int i t)=a_:=Gg i t
theorem ye(prog:dE)(w:eH)(x:Str)(t:Tok):(bz prog w).is (.inr x) (.str x t)=a_:=Gn x t
inductive V where|non|bl(b:Bool)|int(i:Int)|str(x:Str)|byt(b:Array UInt8)|flt(b:UInt64)|ref(a:cw)|ty(n:String)deriving DecidableEq
noncomputable def RelV:V->b_->Prop|.non,u=>u=eN|.bl b,u=>u=j_ b|.int i,u=>∃t,u=gb i t|.str x,u=>∃t,u=Value.str x t|.byt b,u=>∃t,u=Value.bytes b t|.flt b,u=>∃t,u=Value.float b t|.ref a,u=>u=eg a|.ty n,u=>u=fR n
noncomputable abbrev Vals:List V->List b_->Prop:=Paired RelV
theorem Vals.length{xs:List V}{us:List b_}(r:Vals xs us):xs.length=us.length:=Paired.length r
theorem Vals.get:∀{xs:List V}{us:List b_}{i:Nat}{x:V},Vals xs us->xs[i]?=aj x->∃u,us[i]?=aj u/\RelV x u|_,_,_,_,.nil,e=>by simp at e|_,_,0,_,.cons r _,e=>by simp at e;subst e;exact⟨_,rfl,r⟩|_,_,i+1,x,.cons _ t,e=>by obtain⟨u,h1,a⟩:=Vals.get (i:=i) (x:=x) t (by simpa using e);exact⟨u,by simpa using h1,a⟩
theorem Vals.set{x:V}{u:b_}(r:RelV x u):∀{xs:List V}{us:List b_}(i:Nat),Vals xs us->Vals (xs.set i x) (us.set i u)|_,_,_,.nil=>.nil|_,_,0,.cons _ t=>.cons r t|_,_,i+1,.cons q t=>.cons q (Vals.set r i t)
theorem Vals.append:∀{xs ys:List V}{us ws:List b_},Vals xs us->Vals ys ws->Vals (xs++ys) (us++ws)|_,_,_,_,.nil,s=>s|_,_,_,_,.cons r t,s=>.cons r (Vals.append t s)
theorem Vals.take:∀{xs:List V}{us:List b_}(n:Nat),Vals xs us->Vals (xs.take n) (us.take n)|_,_,0,_=>.nil|_,_,_+1,.nil=>.nil|_,_,n+1,.cons r t=>.cons r (Vals.take n t)
theorem Vals.drop:∀{xs:List V}{us:List b_}(n:Nat),Vals xs us->Vals (xs.drop n) (us.drop n)|_,_,0,r=>r|_,_,_+1,.nil=>.nil|_,_,n+1,.cons _ t=>Vals.drop n t
noncomputable def p8:Option V->Option b_->Prop|some v,aj u=>RelV v u|none,bx=>True|_,_=>False
noncomputable def KV{κ:Type}:List (κ×V)->List (κ×b_)->Prop:=Paired λ(p:κ×V)(q:κ×b_)=>p.1=q.1/\RelV p.2 q.2
noncomputable def kV:Key->V|.inl i=>.int i|.inr x=>.str x
inductive HO where|lst(xs:List V)|tup(xs:List V)|dK(kvs:List (Key×V))|dT(kvs:List (List Key×V))|set(S:Int->Bool)(n:Nat)|ins(C dx:cw)(fs:List (Str×V))|own(x:cw)|xd(fs:List (Str×V))|met(f x:cw)|uC(lo hi:Int)|dC(o:Obj)(u:HO)|WL(ps:Array b_)|ext(φ:eP->Prop)
noncomputable abbrev Hp:=cw->Option HO
variable{H:Hp}
noncomputable def upd(H:Hp)(a:cw)(o:HO):Hp:=λb=>if b=a then aj o else H b
theorem aH{a:cw}{o:HO}:upd H a o a=aj o:=by unfold upd;rw[if_pos rfl]
theorem aF{a b:cw}{o:HO}(h:b≠a):upd H a o b=H b:=by unfold upd;rw[if_neg h]
theorem qH{a:cw}{o u:HO}:upd (upd H a o) a u=upd H a u:=by funext b;unfold upd;split<;>rfl
theorem Zn{a b:cw}{o u:HO}(h:H a=aj o)(h':H b=aj u)(d:o≠u):a≠b:=by intro e;subst e;rw[h]at h';exact d (eI h')
theorem gJ{a b:cw}{o:HO}(h:H a=aj o)(h':H b=bx):a≠b:=by intro e;subst e;rw[h]at h';cases h'
section
variable(P:dE)(w:eH)
noncomputable def bR(H:Hp)(h:eP)(a:cw):HO->Prop|.lst xs=>xs.length<=sizeLine/\∃(b:List b_)(n:Nat),Vals xs b/\h.get? a=aj {cls:=.type "list",data:=.seq b.toArray n}|.tup xs=>xs.length<=sizeLine/\∃b:List b_,Vals xs b/\pf h a b.toArray|.dK kvs=>kvs.length<=sizeLine/\(a==gL)=aK/\∃vs,KV kvs vs/\h.DictOf (bz P w) a vs|.dT kvs=>kvs.length<=sizeLine/\(a==gL)=aK/\∃xs:List (List Key×cw×b_),Paired (λ(p:List Key×V)(q:List Key×cw×b_)=>p.1=q.1/\H q.2.1=aj (.tup (p.1.map kV))/\RelV p.2 q.2.2) kvs xs/\∃o es ep,h.get? a=aj o/\o.ExactDict/\o.data=.dict es ep/\es.toList=xs.map (entryOfKey (ly (bz P w)))/\(xs.map (·.1)).Nodup|.set S n=>h.SetOf (intKind P w) a S n|.ins C e fs=>H e=aj (.own a)/\fs.length<=1000/\e≠a/\h.get? a=aj (PySem.W.instObj C e)/\∃c,h.Ns1 e c/\(∀f,p8 (fs.lookup f) (c f))/\PySem.Within c (fs.map (·.1))|.own _=>∃o,h.get? a=aj o|.xd fs=>∃c,h.Ns1 a c/\∀f,p8 (fs.lookup f) (c f)|.uC lo hi=>∃t u v,h.get? a=aj {cls:=.type "range",data:=.fields #[.int lo t,.int hi u,.int 1 v]}|.dC o u=>h.get? a=aj o/\bR H h a u|.WL ps=>h.get? a=aj {cls:=.none,data:=.fields ps}|.met f x=>h.get? a=aj (methodObj (.ref f) (.ref x))|.ext g=>g h/\(∃o,h.get? a=aj o)/\∀h1 j:eP,g h1->(∀o,h1.get? a=aj o->j.get? a=aj o)->g j
noncomputable def oH(H:Hp)(h:eP):Prop:=∀a o,H a=aj o->bR P w H h a o
end
section
variable{P:dE}{w:eH}{H H':Hp}{h h':eP}{a:cw}{o:HO}
theorem bR.lt(x:bR P w H h a o):a<h.objs.size:=by cases o with|lst xs=>obtain⟨_,_,_,_,e⟩:=x;exact dL e|tup xs=>obtain⟨_,_,_,p⟩:=x;exact p.lt|dK kvs=>obtain⟨_,_,_,_,o,_,_,e,_⟩:=x;exact dL e|dT kvs=>obtain⟨_,_,_,_,o,_,_,e,_⟩:=x;exact dL e|set S n=>obtain⟨o,_,_,_,e,_⟩:=x;exact dL e|ins C b fs=>obtain⟨_,_,_,e,_⟩:=x;exact dL e|own y=>obtain⟨_,e⟩:=x;exact dL e|xd fs=>obtain⟨_,⟨_,_,_,e,_⟩,_⟩:=x;exact dL e|uC lo hi=>obtain⟨_,_,_,e⟩:=x;exact dL e|dC c u=>obtain⟨e,_⟩:=x;exact dL e|WL ps=>exact dL (show h.get? a=aj _ from x)|met f y=>exact dL (show h.get? a=aj _ from x)|ext g=>obtain⟨_,⟨_,e⟩,_⟩:=x;exact dL e
theorem Paired.VB{g j:Type}{F G:g->j->Prop}:∀{c:List g}{e:List j},Paired F c e->(∀a b,F a b->G a b)->Paired G c e|_,_,.nil,_=>.nil|_,_,.cons r t,f=>.cons (f _ _ r) (Paired.VB t f)
theorem bR.stay(x:bR P w H h a o)(k:∀b u,(b=a\/H b=aj (.own a))->h.get? b=aj u->h'.get? b=aj u)(ho:∀b,H b=aj (.own a)->H' b=aj (.own a))(ht:∀b xs,H b=aj (.tup xs)->H' b=aj (.tup xs)):bR P w H' h' a o:=by induction o with|lst xs=>obtain⟨z,j,n,r,e⟩:=x;exact⟨z,j,n,r,k _ _ (.inl rfl) e⟩|tup xs=>obtain⟨z,j,r,g,e,c⟩:=x;exact⟨z,j,r,g,k _ _ (.inl rfl) e,c⟩|dK kvs=>obtain⟨z,y,vs,r,g,es,ep,e,c⟩:=x;exact⟨z,y,vs,r,g,es,ep,k _ _ (.inl rfl) e,c⟩|dT kvs=>obtain⟨z,y,xs,r,g,es,ep,e,c⟩:=x;exact⟨z,y,xs,Paired.VB r λp q z=>⟨z.1,ht _ _ z.2.1,z.2.2⟩,g,es,ep,k _ _ (.inl rfl) e,c⟩|set S n=>obtain⟨g,es,ep,t,e,c⟩:=x;exact⟨g,es,ep,t,k _ _ (.inl rfl) e,c⟩|ins C G fs=>obtain⟨d,z,ne,e,l,⟨m,es,ep,B,c⟩,r⟩:=x;exact⟨ho _ d,z,ne,k _ _ (.inl rfl) e,l,⟨m,es,ep,k _ _ (.inr d) B,c⟩,r⟩|own y=>obtain⟨g,e⟩:=x;exact⟨g,k _ _ (.inl rfl) e⟩|xd fs=>obtain⟨l,⟨m,es,ep,e,c⟩,r⟩:=x;exact⟨l,⟨m,es,ep,k _ _ (.inl rfl) e,c⟩,r⟩|uC lo hi=>obtain⟨t,u,v,e⟩:=x;exact⟨t,u,v,k _ _ (.inl rfl) e⟩|dC g u E=>obtain⟨e,q⟩:=x;exact⟨k _ _ (.inl rfl) e,E q⟩|WL ps=>have e:h.get? a=aj {cls:=.none,data:=.fields ps}:=x;show h'.get? a=aj {cls:=.none,data:=.fields ps};exact k a _ (.inl rfl) e|met f y=>have e:h.get? a=aj (methodObj (.ref f) (.ref y)):=x;show h'.get? a=aj (methodObj (.ref f) (.ref y));exact k a _ (.inl rfl) e|ext I=>obtain⟨p,⟨o,e⟩,st⟩:=x;exact⟨st _ _ p λo q=>k _ _ (.inl rfl) q,⟨o,k _ _ (.inl rfl) e⟩,st⟩
theorem oH.lt(x:oH P w H h)(e:H a=aj o):a<h.objs.size:=(x a o e).lt
theorem oH.fresh(x:oH P w H h)(e:h.objs.size<=a):H a=bx:=by cases q:H a with|none=>rfl|some u=>exact absurd (eh (x.lt q) e) (hV _)
theorem oH.kept(x:oH P w H h)(k:∀b u,h.get? b=aj u->h'.get? b=aj u):oH P w H h':=λa o e=>(x a o e).stay (λb u _ q=>k b u q) (λ_ q=>q) λ_ _ q=>q
theorem oH.laid(x:oH P w H h)(k:∀b u,h.get? b=aj u->h'.get? b=aj u)(l:h.objs.size<=a)(f:bR P w (upd H a o) h' a o):oH P w (upd H a o) h':=λb u e=>by
 have g:=x.fresh l;by_cases j:b=a;.subst j;rw[aH]at e;cases e;exact f
 .rw[aF j]at e;exact(x b u e).stay (λc v _ q=>k c v q) (λc q=>by rw[aF (gJ q g)];exact q) λc xs q=>by rw[aF (gJ q g)];exact q
end
noncomputable def Rd(H:Hp)(a:cw)(u:HO):Prop:=H a=aj u\/∃o,H a=aj (.dC o u)
theorem Rd.ok{P:dE}{a:cw}{u:HO}(r:Rd H a u)(x:oH P w H h):bR P w H h a u:=by
 rcases r with r|⟨o,r⟩;.exact x a u r
 .obtain⟨_,q⟩:=x a _ r;exact q
noncomputable def Mut:Option HO->Prop|some (.lst _)=>True|some (.dK _)=>True|some (.dT _)=>True|some (.set _ _)=>True|some (.ins _ _ _)=>True|some (.ext _)=>True|_=>False
section
variable{P:dE}{w:eH}{H:Hp}{h h':eP}{x e:cw}{o':HO}
theorem oH.write(ok:oH P w H h)(g:Mut (H x))(he:e=x\/H e=aj (.own x))(k:∀b u,b≠e->h.get? b=aj u->h'.get? b=aj u)(l:∃u,h'.get? e=aj u)(m:bR P w (upd H x o') h' x o'):oH P w (upd H x o') h':=λb u q=>by
 have f:∀c y,H c=aj (.own y)->c≠x:=λc y r z=>by subst z;rw[r]at g;exact g
 have n:∀c xs,H c=aj (.tup xs)->c≠x:=λc xs r z=>by subst z;rw[r]at g;exact g
 by_cases j:b=x;.subst j;rw[aH]at q;cases q;exact m
 . rw[aF j]at q;by_cases a:b=e
   . have o:H b=aj (.own x):=by
      rcases he with z|z;.exact absurd (a.trans z) j
      .rw[a];exact z
     rw[q]at o;cases o;obtain⟨v,p⟩:=l;exact⟨v,by rw[a];exact p⟩
   . refine(ok b u q).stay (λc v hc r=>k c v ?_ r) (λc r=>by rw[aF (f c b r)];exact r) λc xs r=>by rw[aF (n c xs r)];exact r
     rcases hc with rfl|hc;.exact a
     . rintro rfl;rcases he with z|z;.exact f c b hc z
       .rw[hc]at z;cases z;exact j rfl
end
structure Un(fs ex:List cw)(H H':Hp)(h h':eP):Prop where
 keep:∀b o,h.get? b=aj o->H b=bx->b∉fs->b∉ex->h'.get? b=aj o
 slot:∀b o,h.get? b=aj o->H b=bx->b∈fs->b∉ex->∃sl,h'.get? b=aj {o with slots:=sl}free:∀b o,h.get? b=aj o->H b=bx->b∉ex->H' b=bx
 there:∀b o,h.get? b=aj o->b∉ex->∃o',h'.get? b=aj o'
 tups:∀b xs,H b=aj (.tup xs)->H' b=aj (.tup xs)xO:∀b o u,H b=aj (.dC o u)->H' b=aj (.dC o u)zO:∀b ps,H b=aj (.WL ps)->∃more,H' b=aj (.WL (ps++more))
section
variable{fs fs' ex ex':List cw}{H H1 H2:Hp}{h h1 h2 h':eP}{a x e:cw}{o:HO}
theorem Un.any(u:Un fs ex H H1 h h1){b:cw}{c:Obj}(q:h.get? b=aj c)(n:H b=bx)(f:b∉ex):∃sl,h1.get? b=aj {c with slots:=sl}:=by
 by_cases g:b∈fs;.exact u.slot b c q n g f
 .exact⟨c.slots,u.keep b c q n g f⟩
theorem Un.kept(k:∀b u,h.get? b=aj u->h'.get? b=aj u):Un fs ex H H h h':=⟨λb c q _ _ _=>k b c q,λb c q _ _ _=>⟨c.slots,k b c q⟩,λ_ _ _ n _=>n,λb c q _=>⟨c,k b c q⟩,λ_ _ q=>q,λ_ _ _ q=>q,λ_ ps q=>⟨#[],by rw[q];simp⟩⟩
theorem Un.refl:Un fs ex H H h h:=Un.kept λ_ _ q=>q
theorem Un.laid(k:∀b u,h.get? b=aj u->h'.get? b=aj u)(f:h.objs.size<=a)(c:H a=bx):Un fs ex H (upd H a o) h h' where
 keep:=λb u q _ _ _=>k b u q;slot:=λb u q _ _ _=>⟨u.slots,k b u q⟩;free:=λb u q n _=>by rw[aF (ej (eh (dL q) f))];exact n
 there:=λb u q _=>⟨u,k b u q⟩;tups:=λb xs q=>by rw[aF (gJ q c)];exact q
 xO:=λb u xs q=>by rw[aF (gJ q c)];exact q
 zO:=λb ps q=>⟨#[],by rw[aF (gJ q c),q];simp⟩
theorem Un.write(f:Mut (H x))(he:e=x\/H e=aj (.own x))(k:∀b u,b≠e->h.get? b=aj u->h'.get? b=aj u)(g:∃u,h'.get? e=aj u):Un fs ex H (upd H x o) h h':=by
 have l:∀b,H b=bx->b≠x:=λb n z=>by subst z;rw[n]at f;exact f
 have m:∀b,H b=bx->b≠e:=λb n z=>by
  subst z;rcases he with r|r;.exact l b n r
  .rw[n]at r;cases r
 have j:∀b u,H b=aj u->¬ Mut (aj u)->b≠x:=λb u q p z=>by subst z;rw[q]at f;exact p f
 refine⟨λb u q n _ _=>k b u (m b n) q,λb u q n _ _=>⟨u.slots,k b u (m b n) q⟩,λb u q n _=>by rw[aF (l b n)];exact n,λb u q _=>?_,λb xs q=>by rw[aF (j b _ q λz=>z)];exact q,λb u xs q=>by rw[aF (j b _ q λz=>z)];exact q,λb ps q=>⟨#[],by rw[aF (j b _ q λz=>z),q];simp⟩⟩;by_cases c:b=e;.subst c;exact g
 .exact⟨u,k b u c q⟩
end
noncomputable def trk(h:eP)(H:Hp):List cw:=(dr h.objs.size).filter λa=>(H a).isSome
noncomputable def xn(h:eP)(H:Hp):eP:=PySem.W.hideAll h (trk h H)
theorem G6(h:eP)(H:Hp):(xn h H).objs.size=h.objs.size:=PySem.W.hideAll_size _ _
theorem Hz{b:cw}{o:Obj}(e:h.get? b=aj o)(n:H b=bx):(xn h H).get? b=aj o:=PySem.W.hideAll_get _ e λa=>by have q:(H b).isSome=a_:=(hB.mp a).2;rw[n]at q;simp at q
theorem Px{b:cw}{o:Obj}(e:(xn h H).get? b=aj o):h.get? b=aj o/\H b=bx:=by have a:h.get? b=aj o:=PySem.W.of_hideAll (trk h H) e;refine⟨a,?_⟩;cases q:H b with|none=>rfl|some x=>have c:b∈trk h H:=hB.mpr ⟨gd.mpr (dL a),by simp[q]⟩;have z:(xn h H).get? b=bx:=PySem.W.hideAll_none (trk h H) c;rw[z]at e;cases e
structure Mod(K:PySem.W.Frag)(mg:Str->Option b_)(base:eP):Prop where
 o7:K.In base
 glob:base.Ns dS mg
 blt:∃mb,base.Ns builtinsNs mb/\∀x:Str,x≠"__name__"->mb x=fe x
 nolimit:base.NoLimit
structure Cx where
 prog:dE
 w:eH
 K:PySem.W.Frag
 mg:Str->Option b_
 base:eP
 A:fb
 N:List Str
 s₀:cr
 H₀:Hp
 env:Env
 outer:List Env
 stack:List Env
 ex:List cw
 fn:Str->Bool
 calm:Bool
 pn:List (cw×Obj)xe:b_->cr->Prop
variable{X:Cx}
noncomputable def frs(l:List Env):List cw:=l.filterMap (·.frame)
noncomputable abbrev Cx.fs(X:Cx):List cw:=frs X.outer
noncomputable def pX(a:ke)(x:Str):Prop:=a.names.lookup x=aj .local\/a.names.lookup x=aj .cell\/a.names.lookup x=aj .free
noncomputable def Loc(a:ke)(x:Str):Prop:=a.names.lookup x=aj .local\/a.names.lookup x=aj .cell
noncomputable def Look(env:Env)(h:eP)(m:Str->Option b_)(x:Str)(u:b_):Prop:=(env.kindOf x=aj .local/\m x=aj u)\/((env.kindOf x=aj .cell\/env.kindOf x=aj .free)/\∃c,env.cells.lookup x=aj c/\h.IsCell c (aj u))
structure Cx.Ok(X:Cx):Prop where
 mod:Mod X.K X.mg X.base
 kind:X.env.scope.kind=.function
 glob:X.env.globals=dS
 blt:X.env.builtins=builtinsNs
 above:X.s₀.heap.objs.size<=X.env.locals
 inj:∀x y c,X.env.cells.lookup x=aj c->X.env.cells.lookup y=aj c->x=y
 has:∀x,(X.env.kindOf x=aj .cell\/X.env.kindOf x=aj .free)->∃c,X.env.cells.lookup x=aj c
 cab:∀x c,X.fn x=a_->X.env.cells.lookup x=aj c->X.s₀.heap.objs.size<=c
 hd:X.calm=a_->X.A.handled=bx
 frames:X.A.frames=aj X.stack
 stk:X.stack=X.outer\/(X.stack=X.env::X.outer/\X.env.frame=aj X.env.locals)exf:∀b∈X.ex,b≠X.env.locals/\∀x c,X.env.cells.lookup x=aj c->c≠b
 bs:∀b o,X.base.get? b=aj o->X.s₀.heap.get? b=aj o/\X.H₀ b=bx
 Rv:X.base.objs.size<=X.s₀.heap.objs.size
 Lb:∀b o,X.base.get? b=aj o->b∉X.ex
 Qe:∀b∈X.ex,b∉X.fs
 sS:X.s₀.heap.FunFrames X.base X.outer
 YF:∀b∈X.fs,X.H₀ b=bx
structure Inv(X:Cx)(pins:List (cw×Obj))(σ:List (Option V))(H:Hp)(s:cr):Prop where
 ok:X.Ok
 os:s.os=X.s₀.os
 bare:lP s.gens
 base:Un X.fs X.ex X.H₀ H X.s₀.heap s.heap
 loc:∃m,s.heap.Ns X.env.locals m/\∀(i:Nat)(x:Str)(v:V),X.N[i]?=aj x->σ[i]?=aj (aj v)->pX X.env.scope x->∃u,RelV v u/\Look X.env s.heap m x u
 cell:∀x c,X.env.cells.lookup x=aj c->∃v,s.heap.IsCell c v
 free:H X.env.locals=bx
 lO:∀x c,X.env.cells.lookup x=aj c->H c=bx
 pin:∀p∈X.pn++pins,s.heap.get? p.1=aj p.2/\H p.1=bx/\p.1≠X.env.locals/\p.1∉X.fs/\∀v,p.2.data≠.cell v
 hok:oH X.prog X.w H s.heap
 len:σ.length=X.N.length
section
variable{X:Cx}{pins:List (cw×Obj)}{σ:List (Option V)}{H H':Hp}{s:cr}{h':eP}
theorem Cx.Ok.aeS(ok:X.Ok){b:cw}{o:Obj}(e:X.base.get? b=aj o):b∉X.fs:=λa=>by have:=(ok.sS.mem a).1;rw[e]at this;cases this
theorem Inv.bs(I:Inv X pins σ H s):∀b o,X.base.get? b=aj o->s.heap.get? b=aj o/\H b=bx:=λb o e=>⟨I.base.keep b o (I.ok.bs b o e).1 (I.ok.bs b o e).2 (I.ok.aeS e) (I.ok.Lb b o e),I.base.free b o (I.ok.bs b o e).1 (I.ok.bs b o e).2 (I.ok.Lb b o e)⟩
theorem Inv.bk(I:Inv X pins σ H s):∀b o,X.base.get? b=aj o->s.heap.get? b=aj o:=λb o e=>(I.bs b o e).1
theorem Inv.mod(I:Inv X pins σ H s):Mod X.K X.mg X.base:=I.ok.mod
theorem Inv.Vv(I:Inv X pins σ H s):X.K.In s.heap:=I.ok.mod.o7.keeps I.bk
theorem Inv.lt(I:Inv X pins σ H s):X.env.locals<s.heap.objs.size:=let⟨_,hn,_⟩:=I.loc;hn.lt
theorem Inv.sz(I:Inv X pins σ H s):X.s₀.heap.objs.size<=s.heap.objs.size:=g_ I.ok.above (lj I.lt)
theorem Inv.ad1(I:Inv X pins σ H s){a:cw}(h:s.heap.objs.size<=a):a∉X.fs:=λb=>by obtain⟨_,o,ho,_⟩:=I.ok.sS.mem b;exact absurd (eh (dL ho) (g_ I.sz h)) (hV _)
theorem Inv.RW(I:Inv X pins σ H s):∀x c,X.env.cells.lookup x=aj c->c≠X.env.locals:=λx c e z=>by obtain⟨v,o,ho,hd⟩:=I.cell x c e;obtain⟨m,⟨f,es,ep,a,b,_⟩,_⟩:=I.loc;rw[z,a]at ho;cases ho;rw[b]at hd;cases hd
theorem Inv.sS(I:Inv X pins σ H s):s.heap.FunFrames X.base X.outer:=by
 have all:∀(l:List Env),(∀b∈frs l,b∈X.fs)->X.s₀.heap.FunFrames X.base l->s.heap.FunFrames X.base l:=by intro l;induction l with|nil=>intro _ _;trivial|cons env r g=>intro hs j;obtain⟨k,⟨L,o,a,m,ho,hd⟩,hr⟩:=j;have c:L∈X.fs:=hs L (by unfold frs;rw[ib,a];exact hU);obtain⟨sl,e⟩:=I.base.slot L o ho (I.ok.YF L c) c λz=>I.ok.Qe L z c;exact⟨k,⟨L,_,a,m,e,hd⟩,g (λb f=>hs b (by unfold frs;rw[ib,a];exact dI _ f)) hr⟩
 exact all X.outer (λ_ f=>f) I.ok.sS
theorem Inv.stack(I:Inv X pins σ H s):s.heap.FunFrames X.base X.stack:=by
 rcases I.ok.stk with e|⟨e,a⟩;.rw[e];exact I.sS
 .rw[e];obtain⟨m,b,_⟩:=I.loc;refine .cons (by rw[I.ok.kind];decide) a b ?_ I.sS;exact Heap.get?_none_of_le (g_ I.ok.Rv I.ok.above)
theorem Inv.wz(I:Inv X pins σ H s):∀b∈frs X.stack,b∈X.env.locals::X.fs:=λb a=>by
 rcases I.ok.stk with e|⟨e,c⟩;.rw[e]at a;exact dI _ a
 .rw[e]at a;unfold frs at a;rw[ib,c]at a;exact a
theorem Inv.Dg(I:Inv X pins σ H s):∀b∈frs X.stack,H b=bx:=λb hb=>by
 rcases de.mp (I.wz b hb)with e|hb;.rw[e];exact I.free
 .obtain⟨_,o,ho,_⟩:=I.ok.sS.mem hb;exact I.base.free b o ho (I.ok.YF b hb) λz=>I.ok.Qe b z hb
theorem Inv.step{g':Array GenState}{d':Drawn}{ch:List cw}(I:Inv X pins σ H s)(f:∀b∈ch,(b∈X.ex\/X.s₀.heap.objs.size<=b)/\b≠X.env.locals/\(∀x c,X.env.cells.lookup x=aj c->c≠b)/\∀p∈X.pn++pins,p.1≠b)(keep:∀b o,b≠X.env.locals->b∉X.fs->b∉ch->s.heap.get? b=aj o->H b=bx->h'.get? b=aj o)(slot:∀b o,b≠X.env.locals->b∈X.fs->b∉ch->s.heap.get? b=aj o->H b=bx->∃sl,h'.get? b=aj {o with slots:=sl})(free:∀b o,b∉ch->s.heap.get? b=aj o->H b=bx->H' b=bx)(there:∀b o,b∉ch->s.heap.get? b=aj o->∃B,h'.get? b=aj B)(tups:∀b xs,H b=aj (.tup xs)->H' b=aj (.tup xs))(xO:∀b o u,H b=aj (.dC o u)->H' b=aj (.dC o u))(zO:∀b ps,H b=aj (.WL ps)->∃more,H' b=aj (.WL (ps++more)))(ns:∀m,s.heap.Ns X.env.locals m->h'.Ns X.env.locals m)(hok:oH X.prog X.w H' h')(O:lP g'):Inv X pins σ H' {s with heap:=h',gens:=g',drawn:=d',toks:=t'}:=by
 have C:∀b o,X.s₀.heap.get? b=aj o->b≠X.env.locals:=λb o e=>ej (eh (dL e) I.ok.above);have j:∀b o,X.s₀.heap.get? b=aj o->b∉X.ex->b∉ch:=λb o e a y=>by
  rcases(f b y).1 with z|z;.exact a z
  .exact absurd (eh (dL e) z) (hV _)
 have g:∀x c,X.env.cells.lookup x=aj c->∀v,s.heap.IsCell c v->h'.IsCell c v:=λx c e v⟨o,ho,hd⟩=>by
  have E:c∉ch:=λz=>(f c z).2.2.1 x c e rfl;by_cases hc:c∈X.fs;.obtain⟨sl,q⟩:=slot c o (I.RW x c e) hc E ho (I.lO x c e);exact⟨_,q,hd⟩
  .exact⟨o,keep c o (I.RW x c e) hc E ho (I.lO x c e),hd⟩
 refine⟨I.ok,I.os,O,⟨λb o e n y a=>?_,λb o e n y a=>?_,λb o e n a=>?_,λb o e a=>?_,λb xs e=>tups b xs (I.base.tups b xs e),λb o xs e=>xO b o xs (I.base.xO b o xs e),λb ps e=>?_⟩,?_,λx c e=>?_,?_,λx c e=>?_,λp L=>?_,hok,I.len⟩;.exact keep b o (C b o e) y (j b o e a) (I.base.keep b o e n y a) (I.base.free b o e n a)
 .obtain⟨sl,t⟩:=I.base.slot b o e n y a;obtain⟨J,G⟩:=slot b _ (C b o e) y (j b o e a) t (I.base.free b o e n a);exact⟨J,G⟩
 .obtain⟨B,t⟩:=I.base.there b o e a;exact free b B (j b o e a) t (I.base.free b o e n a)
 .obtain⟨B,t⟩:=I.base.there b o e a;exact there b B (j b o e a) t
 .obtain⟨m1,t⟩:=I.base.zO b ps e;obtain⟨Q,G⟩:=zO b _ t;exact⟨m1++Q,by rw[G,Array.append_assoc]⟩
 . obtain⟨m,U,W⟩:=I.loc;refine⟨m,ns m U,λi x v t G Y=>?_⟩;obtain⟨u,r,l⟩:=W i x v t G Y;refine⟨u,r,?_⟩;rcases l with l|⟨k,c,e,z⟩;.exact .inl l
   .exact .inr ⟨k,c,e,g x c e _ z⟩
 .obtain⟨v,z⟩:=I.cell x c e;exact⟨v,g x c e v z⟩
 .obtain⟨m,⟨o,_,_,ho,_⟩,_⟩:=I.loc;exact free _ o (λz=>(f _ z).2.1 rfl) ho I.free
 .obtain⟨v,o,ho,hd⟩:=I.cell x c e;exact free c o (λz=>(f c z).2.2.1 x c e rfl) ho (I.lO x c e)
 .obtain⟨e,n,ne,N,d⟩:=I.pin p L;have E:p.1∉ch:=λz=>(f p.1 z).2.2.2 p L rfl;exact⟨keep p.1 p.2 ne N E e n,free p.1 p.2 E e n,ne,N,d⟩
theorem Inv.un(I:Inv X pins σ H s)(u:Un X.fs [] H H' s.heap h')(hok:oH X.prog X.w H' h'):Inv X pins σ H' {s with heap:=h',toks:=t'}:=by obtain⟨m,⟨o,es,ep,ho,r⟩,_⟩:=id I.loc;obtain⟨sl,j⟩:=u.any ho I.free (by simp);exact I.step (g':=s.gens) (d':=s.drawn) (ch:=[]) (λ_ z=>nomatch z) (λb o _ c _ e n=>u.keep b o e n c (by simp)) (λb o _ c _ e n=>u.slot b o e n c (by simp)) (λb o _ e n=>u.free b o e n (by simp)) (λb o _ e=>u.there b o e (by simp)) u.tups u.xO u.zO (λp k=>by obtain⟨q,f,g,a,l⟩:=k;rw[ho]at a;cases a;exact⟨_,f,g,j,l⟩) hok I.bare
theorem Inv.call{g':Array GenState}{d':Drawn}{ch:List cw}(I:Inv X pins σ H s)(u:Un (frs X.stack) ch H H' s.heap h')(hok:oH X.prog X.w H' h')(l:lP g')(a:∀b∈ch,(b∈X.ex\/X.s₀.heap.objs.size<=b)/\b≠X.env.locals/\(∀x c,X.env.cells.lookup x=aj c->c≠b)/\∀p∈X.pn++pins,p.1≠b):Inv X pins σ H' {s with heap:=h',gens:=g',drawn:=d',toks:=t'}:=by obtain⟨m,⟨o,es,ep,ho,r⟩,_⟩:=id I.loc;obtain⟨sl,g⟩:=u.any ho I.free λz=>(a _ z).2.1 rfl;exact I.step (ch:=ch) a (λb o g q hc e n=>u.keep b o e n (λz=>(de.mp (I.wz b z)).elim g q) hc) (λb o _ _ hc e n=>u.any e n hc) (λb o hc e n=>u.free b o e n hc) (λb o hc e=>u.there b o e hc) u.tups u.xO u.zO (λy t=>by obtain⟨B,j,k,f,v⟩:=t;rw[ho]at f;cases f;exact⟨_,j,k,g,v⟩) hok l
theorem Inv.turned{it:cw}(I:Inv X pins σ H s)(k:∀b o,b≠it->s.heap.get? b=aj o->h'.get? b=aj o)(g:H it=bx)(f:it≠X.env.locals)(h1:it∈X.ex\/X.s₀.heap.objs.size<=it)(j:∀x c,X.env.cells.lookup x=aj c->c≠it)(l:∀p∈X.pn++pins,p.1≠it):Inv X pins σ H {s with heap:=h',toks:=t'}:=by
 have a:∀b u,H b=aj u->b≠it:=λb u e z=>by rw[z,g]at e;cases e
 refine I.step (g':=s.gens) (d':=s.drawn) (ch:=[it]) (λb t=>?_) (λb o _ _ hc e _=>k b o (λz=>hc (by simp[z])) e) (λb o _ _ hc e _=>⟨o.slots,k b o (λz=>hc (by simp[z])) e⟩) (λ_ _ _ _ n=>n) (λb o hc e=>⟨o,k b o (λz=>hc (by simp[z])) e⟩) (λ_ _ e=>e) (λ_ _ _ e=>e) (λb ps e=>⟨#[],by rw[e];simp⟩) (λm y=>?_) (λb u e=>?_) I.bare
 . have e:b=it:=by simpa using t
   subst e;exact⟨h1,f,j,l⟩
 .obtain⟨o,es,ep,ho,r⟩:=y;exact⟨o,es,ep,k _ o (gu f) ho,r⟩
 . refine(I.hok b u e).stay (λc v hc q=>k c v ?_ q) (λ_ q=>q) λ_ _ q=>q;rcases hc with z|z;.rw[z];exact a b u e
   .exact a c _ z
theorem Inv.tok(I:Inv X pins σ H s)(t:Nat):Inv X pins σ H {s with toks:=t}:=I.un (h':=s.heap) (t':=t) Un.refl I.hok
theorem Inv.kept{t':Nat}(I:Inv X pins σ H s)(k:∀b u,s.heap.get? b=aj u->h'.get? b=aj u):Inv X pins σ H {s with heap:=h',toks:=t'}:=I.un (Un.kept k) (I.hok.kept k)
theorem Inv.laid{a:cw}{o:HO}{t':Nat}(I:Inv X pins σ H s)(k:∀b u,s.heap.get? b=aj u->h'.get? b=aj u)(c:s.heap.objs.size<=a)(e:bR X.prog X.w (upd H a o) h' a o):Inv X pins σ (upd H a o) {s with heap:=h',toks:=t'}:=I.un (Un.laid k c (I.hok.fresh c)) (I.hok.laid k c e)
theorem Inv.write{x e:cw}{o:HO}{t':Nat}(I:Inv X pins σ H s)(f:Mut (H x))(he:e=x\/H e=aj (.own x))(k:∀b u,b≠e->s.heap.get? b=aj u->h'.get? b=aj u)(a:∃u,h'.get? e=aj u)(c:bR X.prog X.w (upd H x o) h' x o):Inv X pins σ (upd H x o) {s with heap:=h',toks:=t'}:=I.un (Un.write f he k a) (I.hok.write f he k a c)
theorem Inv.CG{a:List (cw×Obj)}(I:Inv X pins σ H s)(h:∀p∈a,s.heap.get? p.1=aj p.2/\H p.1=bx/\p.1≠X.env.locals/\p.1∉X.fs/\∀v,p.2.data≠.cell v):Inv X a σ H s:=⟨I.ok,I.os,I.bare,I.base,I.loc,I.cell,I.free,I.lO,λp b=>(fk.mp b).elim (λz=>I.pin p (oy _ z)) (h p),I.hok,I.len⟩
theorem yF{N:List Str}(c:N.Nodup){j:Nat}{x:Str}(a:N[i]?=aj x)(b:N[j]?=aj x):i=j:=by obtain⟨h1,e⟩:=eY a;obtain⟨g,f⟩:=eY b;exact(List.getElem_inj c).mp (e.trans f.symm)
theorem vq{E:b_->cr->Prop}{x:Str}{v:V}{u:b_}{Q:Unit->cr->Prop}(I:Inv X pins σ H s)(hN:X.N.Nodup)(hi:X.N[i]?=aj x)(l:Loc X.env.scope x)(r:RelV v u)(h:∀s',Inv X pins (σ.set i (aj v)) H s'->(∃a,SameBut a s.heap s'.heap/\(a=X.env.locals\/X.env.cells.lookup x=aj a))->Q () s')(hf:X.fn x=a_\/X.env.scope.names.lookup x=aj .local:=by first|(left;rfl)|(right;rfl)|assumption):cN M A (storeName X.env x u) Q E s:=by
 obtain⟨m,hn,hl⟩:=id I.loc;have O:(X.env.scope.kind==.class||(X.env.scope.kind==.module&&X.env.locals !=X.env.globals))=aK:=by rw[I.ok.kind];rfl
 have C:i<σ.length:=by rw[I.len];exact(eY hi).1
 have RW:=I.RW;have f:∀{a:cw}{h':eP},(∃o,s.heap.get? a=aj o/\H a=bx)->SameBut a s.heap h'->oH X.prog X.w H h':=λ{a h'}ha hs b ob e=>by
  obtain⟨_,_,t⟩:=ha;refine(I.hok b ob e).stay (λc Z hc q=>(hs.2 c ?_).trans q) (λ_ q=>q) λ_ _ q=>q;rintro rfl;rcases hc with rfl|hc;.rw[t]at e;cases e
  .rw[t]at hc;cases hc
 rcases l with hk|hk
 . refine wpAny_storeName_local hk hn (λh' ac hs=>?_) O;obtain⟨oL,_,_,ae,_⟩:=id hn;refine h _ ⟨I.ok,I.os,I.bare,⟨λb o e n G l=>?_,λb o e n G l=>?_,I.base.free,λb o e l=>?_,I.base.tups,I.base.xO,I.base.zO⟩,⟨_,ac,λj y v' g B e3=>?_⟩,λy c e=>?_,I.free,I.lO,λp hp=>?_,f ⟨oL,ae,I.free⟩ hs,by simpa using I.len⟩ ⟨_,hs,.inl rfl⟩;.exact(hs.2 b (ej (eh (dL e) I.ok.above))).trans (I.base.keep b o e n G l)
   .obtain⟨sl,g⟩:=I.base.slot b o e n G l;exact⟨sl,(hs.2 b (ej (eh (dL e) I.ok.above))).trans g⟩
   .obtain⟨o',g⟩:=I.base.there b o e l;exact⟨o',(hs.2 b (ej (eh (dL e) I.ok.above))).trans g⟩
   . by_cases J:j=i;.subst J;rw[hi]at g;cases g;rw[cv C]at B;cases B;exact⟨u,r,.inl ⟨hk,by simp⟩⟩
     . rw[fK J]at B;obtain⟨u',r',q⟩:=hl j y v' g B e3;refine⟨u',r',?_⟩;rcases q with⟨k,e⟩|⟨k,c,e,z⟩;.refine .inl ⟨k,?_⟩;have:y≠x:=λe=>J (yF hN g (e▸hi));simp[this,e]
       .exact .inr ⟨k,c,e,z.sameBut hs (RW y c e)⟩
   .obtain⟨Z,z⟩:=I.cell y c e;exact⟨Z,z.sameBut hs (RW y c e)⟩
   .obtain⟨e,n,ne,nf,d⟩:=I.pin p hp;exact⟨(hs.2 p.1 ne).trans e,n,ne,nf,d⟩
 . have L:X.fn x=a_:=by
    rcases hf with z|z;.exact z
    .rw[z]at hk;cases hk
   obtain⟨c,hc⟩:=I.ok.has x (.inl hk);obtain⟨Z,z⟩:=I.cell x c hc;refine wpAny_storeName_cell I.ok.kind hk hc z (λh' U hs=>?_);obtain⟨oc,W,af⟩:=id z;refine h {s with heap:=h'} ⟨I.ok,I.os,I.bare,⟨λb o e n G l=>?_,λb o e n G l=>?_,I.base.free,λb o e l=>?_,I.base.tups,I.base.xO,I.base.zO⟩,⟨m,hn.sameBut hs (gu (RW x c hc)),λj y v' g B e3=>?_⟩,λy c' e=>?_,I.free,I.lO,λp hp=>?_,f ⟨oc,W,I.lO x c hc⟩ hs,by simpa using I.len⟩ ⟨c,hs,.inr hc⟩;.exact(hs.2 b (ej (eh (dL e) (I.ok.cab x c L hc)))).trans (I.base.keep b o e n G l)
   .obtain⟨sl,g⟩:=I.base.slot b o e n G l;exact⟨sl,(hs.2 b (ej (eh (dL e) (I.ok.cab x c L hc)))).trans g⟩
   .obtain⟨o',g⟩:=I.base.there b o e l;exact⟨o',(hs.2 b (ej (eh (dL e) (I.ok.cab x c L hc)))).trans g⟩
   . by_cases J:j=i;.subst J;rw[hi]at g;cases g;rw[cv C]at B;cases B;exact⟨u,r,.inr ⟨.inl hk,c,hc,U⟩⟩
     . rw[fK J]at B;obtain⟨u',r',q⟩:=hl j y v' g B e3;refine⟨u',r',?_⟩;rcases q with q|⟨k,c',e,z'⟩;.exact .inl q
       .refine .inr ⟨k,c',e,z'.sameBut hs ?_⟩;rintro rfl;exact J (yF hN g (I.ok.inj _ _ _ e hc▸hi))
   . by_cases Y:c'=c;.subst Y;exact⟨_,U⟩
     .obtain⟨w2,z2⟩:=I.cell y c' e;exact⟨w2,z2.sameBut hs Y⟩
   .obtain⟨e,n,ne,nf,d⟩:=I.pin p hp;refine⟨(hs.2 p.1 ?_).trans e,n,ne,nf,d⟩;intro q;rw[q,W]at e;have q':oc=p.2:=eI e;exact d Z (by rw[<-q'];exact af)
theorem jG{E:b_->cr->Prop}{x:Str}{v:V}{u:b_}{Q:Unit->cr->Prop}(I:Inv X pins σ H s)(b:X.N.Nodup)(hi:X.N[i]?=aj x)(c:Loc X.env.scope x)(r:RelV v u)(h:∀a,Inv X pins (σ.set i (aj v)) H a->Q () a)(e:X.fn x=a_\/X.env.scope.names.lookup x=aj .local:=by first|(left;rfl)|(right;rfl)|assumption):cN M A (storeName X.env x u) Q E s:=vq I b hi c r (λa f _=>h a f) e
end
noncomputable abbrev XK:=b_->Option cw->Hp->Prop
noncomputable abbrev St:=List (Option V)
noncomputable abbrev VK:=V->Hp->Prop
noncomputable abbrev TE:=St->Hp->VK->Prop
variable{te:TE}
noncomputable abbrev TT:=St->Hp->(Bool->Hp->Prop)->Prop
noncomputable abbrev TA:=St->Hp->(List V->Hp->Prop)->Prop
structure Ends where
 nx:St->Hp->Prop
 rt:VK
 bk:St->Hp->Prop:=λ_ _=>False
 ct:St->Hp->Prop:=λ_ _=>False
noncomputable abbrev TS:=Ends->St->Hp->Prop
inductive EP(X:Cx)(pins:List (cw×Obj))(σ:St)(Q:VK)(u:b_)(s':cr):Prop where|mk(v:V)(H':Hp)(q0:Inv X pins σ H' s')(q1:RelV v u)(q2:Q v H')
noncomputable def TP(X:Cx)(pins:List (cw×Obj))(σ:St)(Q:Bool->Hp->Prop)(b:Bool)(c:cr):Prop:=∃a,Inv X pins σ a c/\Q b a
inductive AP(X:Cx)(pins:List (cw×Obj))(σ:St)(Q:List V->Hp->Prop)(us:List b_)(s':cr):Prop where|mk(vs:List V)(H':Hp)(q0:Inv X pins σ H' s')(q1:Vals vs us)(q2:Q vs H')
noncomputable def SP(X:Cx)(pins:List (cw×Obj))(D:Ends)(f:Flow)(c:cr):Prop:=match f with|.next=>∃a b,Inv X pins a b c/\D.nx a b|.brk=>∃a b,Inv X pins a b c/\D.bk a b|.cont=>∃a b,Inv X pins a b c/\D.ct a b|.ret u=>∃v a b,Inv X pins a b c/\RelV v u/\D.rt v b
noncomputable def PE(X:Cx)(e:df)(t:TE):Prop:=∀(pins:List (cw×Obj))(s:cr)(σ:St)(H:Hp)(Q:VK),Inv X pins σ H s->t σ H Q->cN (c_ X.prog X.w) X.A (eB e X.env) (EP X pins σ Q) X.xe s
noncomputable def PT(X:Cx)(e:df)(t:TT):Prop:=∀(pins:List (cw×Obj))(s:cr)(σ:St)(H:Hp)(Q:Bool->Hp->Prop),Inv X pins σ H s->t σ H Q->cN (c_ X.prog X.w) X.A (isTrue e X.env (eB e X.env)) (TP X pins σ Q) X.xe s
noncomputable def PW(X:Cx)(e:df)(t:TT):Prop:=∀(a:Sem b_)(pins:List (cw×Obj))(s:cr)(σ:St)(H:Hp)(Q:Bool->Hp->Prop),Inv X pins σ H s->t σ H Q->cN (c_ X.prog X.w) X.A (isTrue e X.env a) (TP X pins σ Q) X.xe s
theorem PW.pt{e:df}{t:TT}(h:PW X e t):PT X e t:=h _
noncomputable def PA(X:Cx)(es:List df)(t:TA):Prop:=∀(pos:Pos)(pins:List (cw×Obj))(s:cr)(σ:St)(H:Hp)(Q:List V->Hp->Prop),Inv X pins σ H s->t σ H Q->cN (c_ X.prog X.w) X.A (spliced (hX pos (cy es X.env))) (AP X pins σ Q) X.xe s
noncomputable def PS(X:Cx)(st:eK)(t:TS):Prop:=∀(pins:List (cw×Obj))(s:cr)(σ:St)(H:Hp)(D:Ends),Inv X pins σ H s->t D σ H->cN (c_ X.prog X.w) X.A (exec st X.env) (SP X pins D) X.xe s
noncomputable def yM(X:Cx)(st:List eK)(t:TS):Prop:=∀(pins:List (cw×Obj))(s:cr)(σ:St)(H:Hp)(D:Ends),Inv X pins σ H s->t D σ H->cN (c_ X.prog X.w) X.A (execs st X.env) (SP X pins D) X.xe s
theorem cB{b:Type}{t:Sem b}{Q c:b->cr->Prop}{E:b_->cr->Prop}(h:cN M A t Q E s)(e:∀a s,Q a s->c a s):cN M A t c E s:=ew h e λ_ _ x=>x
section
variable{X:Cx}
noncomputable def j4(i:Nat):TE:=λσ H Q=>∃v,σ[i]?=aj (aj v)/\Q v H
noncomputable def tC(v:V):TE:=λ_ H Q=>Q v H
theorem cU{x:Str}(f:X.N[i]?=aj x)(g:pX X.env.scope x)(hd:(x==("__debug__":Str))=aK:=by decide)(b:(x==("__classdict__":Str))=aK:=by decide):PE X (.Name x pos) (j4 i):=by
 intro pins s σ H Q I h;obtain⟨v,e,h⟩:=h;obtain⟨m,j,k⟩:=I.loc;obtain⟨u,r,l⟩:=k i x v f e g;have fin:EP X pins σ Q u s:=⟨v,H,I,r,h⟩;rcases l with⟨hk,n⟩|⟨hk,c,hc,a⟩;.exact wpAny_Name (qk I.ok.kind hk j n fin) hd
 . rcases hk with hk|hk;.exact wpAny_Name (rg I.ok.kind hk hc a fin) hd
   .exact wpAny_Name (wpAny_loadName_free I.ok.kind hk hc a fin b) hd
theorem iY{i j pos}:PE X (.Constant (.int i) j pos) (tC (.int i)):=λ_ _ _ H _ I h=>wpAny_Constant_int ⟨.int i,H,I.tok _,⟨_,rfl⟩,h⟩
theorem ZX{b j pos}:PE X (.Constant (.bool b) j pos) (tC (.bl b)):=λ_ _ _ H _ I h=>Constant_bool ⟨.bl b,H,I,rfl,h⟩
theorem Tj{j pos}:PE X (.Constant .none j pos) (tC .non):=λ_ _ _ H _ I h=>Constant_none ⟨.non,H,I,rfl,h⟩
noncomputable def Gl(X:Cx)(x:Str):Prop:=X.env.kindOf x=aj .globalImplicit
theorem Ot{E:b_->cr->Prop}{σ:St}{x:Str}{u:b_}{Q:b_->cr->Prop}(I:Inv X pins σ H s)(a:Gl X x)(b:X.mg x=aj u)(h:Q u s)(hd:(x==("__debug__":Str))=aK:=by decide):cN (c_ X.prog X.w) X.A (eB (.Name x pos) X.env) Q E s:=mE I.ok.kind a (Calls.loadGlobal_global (by rw[I.ok.glob];exact I.mod.glob.keeps I.bk) b h) hd
theorem jW{E:b_->cr->Prop}{σ:St}{x:Str}{u:b_}{Q:b_->cr->Prop}(I:Inv X pins σ H s)(a:Gl X x)(b:X.mg x=bx)(c:fe x=aj u)(h:Q u s)(e:x≠"__name__":=by decide)(hd:(x==("__debug__":Str))=aK:=by decide):cN (c_ X.prog X.w) X.A (eB (.Name x pos) X.env) Q E s:=by obtain⟨g,h1,f⟩:=I.mod.blt;exact mE I.ok.kind a (Calls.loadGlobal_builtin (by rw[I.ok.glob];exact I.mod.glob.keeps I.bk) b (by rw[I.ok.blt];exact h1.keeps I.bk) ((f x e).trans c) h) hd
theorem Mu{x:Str}{v:V}{u:b_}(a:Gl X x)(b:X.mg x=bx)(c:fe x=aj u)(r:RelV v u)(e:x≠"__name__":=by decide)(hd:(x==("__debug__":Str))=aK:=by decide):PE X (.Name x pos) (tC v):=λ_ _ _ H _ I h=>jW I a b c ⟨v,H,I,r,h⟩ e hd
variable{a b:df}{ta tb:TE}{pos:Pos}
noncomputable def PC(X:Cx)(op:nh)(a b:df)(t:TE):Prop:=∀(pins:List (cw × Obj))(s:cr)(σ:St)(H:Hp)(Q:VK),Inv X pins σ H s->t σ H Q->cN (c_ X.prog X.w) X.A (eB a X.env) (λv c=>cN (c_ X.prog X.w) X.A (eB b X.env) (λu e=>cN (c_ X.prog X.w) X.A (d_ op v u) (EP X pins σ Q) X.xe e) X.xe c) X.xe s
noncomputable def tB(t:TE):TT:=λσ H Q=>t σ H λx e=>∃c,x=.bl c/\Q c e
theorem S9{t:TE}(h:PC X op a b t)(h1:gi op b=aK:=by first|(apply aaW<;>decide)|rfl):PT X (.Compare a [op] [b] pos) (tB t):=by intro pins s σ H Q I e;refine qf (cB (h pins s σ H _ I e) λv s1 h1=>cB h1 λu s2 f=>cB f λc s3⟨x,H1,I1,r1,q1⟩=>?_) h1;obtain⟨d,rfl,q⟩:=q1;cases r1;exact fI ⟨H1,I1,q⟩
theorem Vh{e:df}{t:TE}(h:PE X e t)(he:∀c,isTrue e X.env c=(do let v<-c;standAt e.pos;kD [v] (truthy v)):=by intro _;rfl):PT X e (tB t):=by intro pins s σ H Q I f;refine isTrue_plain (cB (h pins s σ H _ I f) λv s1⟨x,H1,I1,r1,q1⟩=>?_) (he _);obtain⟨d,rfl,q⟩:=q1;cases r1;exact fI ⟨H1,I1,q⟩
variable{tA tB':TT}{rest:List df}
noncomputable def aeT(t u:TT):TT:=λσ H Q=>t σ H λc e=>if c=a_ then u σ e Q else Q aK e
noncomputable def tOr(t u:TT):TT:=λσ H Q=>t σ H λc e=>if c=a_ then Q a_ e else u σ e Q
noncomputable def afn(t:TT):TT:=λσ H Q=>t σ H λc e=>Q (!c) e
theorem Og(f:PT X a tA):PW X (.BoolOp .And [a] pos) tA:=by intro wh pins s σ H Q I h;refine isTrue_and (cB (f pins s σ H Q I h) λc s1 e=>?_);cases c with|true=>exact isTrue_and_nil e|false=>exact e
theorem Tg(f:PT X a tA):PW X (.BoolOp .Or [a] pos) tA:=by intro wh pins s σ H Q I h;refine isTrue_or (cB (f pins s σ H Q I h) λc s1 e=>?_);cases c with|false=>exact isTrue_or_nil e|true=>exact e
theorem VM(f:PT X a tA)(g:PW X (.BoolOp .And (b::rest) pos) tB'):PW X (.BoolOp .And (a::b::rest) pos) (aeT tA tB'):=by intro wh pins s σ H Q I h;refine isTrue_and (cB (f pins s σ H _ I h) λc s1⟨e,I1,q1⟩=>?_);cases c with|true=>exact g wh pins s1 σ e Q I1 q1|false=>exact⟨e,I1,q1⟩
theorem Ze(f:PT X a tA)(g:PW X (.BoolOp .Or (b::rest) pos) tB'):PW X (.BoolOp .Or (a::b::rest) pos) (tOr tA tB'):=by intro wh pins s σ H Q I h;refine isTrue_or (cB (f pins s σ H _ I h) λc s1⟨e,I1,q1⟩=>?_);cases c with|true=>exact⟨e,I1,q1⟩|false=>exact g wh pins s1 σ e Q I1 q1
theorem Tq(e:PT X a tA):PT X (.UnaryOp .Not a pos) (afn tA):=by intro pins s σ H Q I h;exact isTrue_not (e pins s σ H (λc f=>Q (!c) f) I h)
noncomputable def ZQ(ta tb:TE):TE:=λσ H Q=>ta σ H λx e=>∃c,x=.bl c/\if c=a_ then tb σ e Q else Q (.bl aK) e
noncomputable def ael(ta tb:TE):TE:=λσ H Q=>ta σ H λx e=>∃c,x=.bl c/\if c=a_ then Q (.bl a_) e else tb σ e Q
noncomputable def Y8(ta:TE):TE:=λσ H Q=>ta σ H λx e=>∃c,x=.bl c/\Q (.bl (!c)) e
theorem J4{op}{t:TE}(h:PE X a t):PE X (.BoolOp op [a] pos) t:=λpins s σ H Q I c=>BoolOp_one (h pins s σ H Q I c)
theorem Tu(f:PE X a ta)(g:PE X (.BoolOp .And (b::rest) pos) tb):PE X (.BoolOp .And (a::b::rest) pos) (ZQ ta tb):=by intro pins s σ H Q I h;refine BoolOp_and (cB (f pins s σ H _ I h) λv s1⟨x,H1,I1,r1,e⟩=>?_);obtain⟨c,rfl,e⟩:=e;cases r1;refine fI ?_;cases c with|true=>exact g pins s1 σ H1 Q I1 e|false=>exact⟨.bl aK,H1,I1,rfl,e⟩
theorem Hx(f:PE X a ta)(g:PE X (.BoolOp .Or (b::rest) pos) tb):PE X (.BoolOp .Or (a::b::rest) pos) (ael ta tb):=by intro pins s σ H Q I h;refine BoolOp_or (cB (f pins s σ H _ I h) λv s1⟨x,H1,I1,r1,e⟩=>?_);obtain⟨c,rfl,e⟩:=e;cases r1;refine fI ?_;cases c with|false=>exact g pins s1 σ H1 Q I1 e|true=>exact⟨.bl a_,H1,I1,rfl,e⟩
theorem R7(f:PE X a ta):PE X (.UnaryOp .Not a pos) (Y8 ta):=by intro pins s σ H Q I h;refine UnaryOp_ (cB (f pins s σ H _ I h) λv s1⟨x,H1,I1,r1,e⟩=>?_);obtain⟨c,rfl,e⟩:=e;cases r1;exact not_of (fI ⟨.bl (!c),H1,I1,rfl,e⟩)
noncomputable def tIf(t:TT)(ta tb:TE):TE:=λσ H Q=>t σ H λc e=>if c=a_ then ta σ e Q else tb σ e Q
theorem La{c:df}(hc:PT X c tA)(f:PE X a ta)(g:PE X b tb):PE X (.IfExp c a b pos) (tIf tA ta tb):=by intro pins s σ H Q I h;refine wpAny_IfExp (cB (hc pins s σ H _ I h) λd s1⟨e,I1,q1⟩=>?_);cases d with|true=>exact f pins s1 σ e Q I1 q1|false=>exact g pins s1 σ e Q I1 q1
end
noncomputable def dJ(K:PySem.W.Frag)(H:Hp)(a:cw)(xs:List V):Prop:=Rd H a (.lst xs)\/∃(o:Obj)(b:Array b_)(n:Nat),K.lookup a=aj o/\o.cls=.type "list"/\o.dict=bx/\o.data=.seq b n/\b.size<=sizeLine/\Vals xs b.toList
noncomputable def iB(K:PySem.W.Frag)(H:Hp)(a:cw)(xs:List V):Prop:=Rd H a (.tup xs)\/∃(o:Obj)(b:Array b_)(n:Nat),K.lookup a=aj o/\o.cls=.type "tuple"/\o.data=.seq b n/\b.size<=sizeLine/\Vals xs b.toList
noncomputable def aeL:b_->Option V|.none=>aj .non|.bool b=>aj (.bl b)|.int i _=>aj (.int i)|.str x _=>aj (.str x)|.bytes b _=>aj (.byt b)|.float b _=>aj (.flt b)|.ref a=>aj (.ref a)|.type n=>aj (.ty n)|_=>bx
theorem RelV.abs{x:V}{u:b_}(r:RelV x u):aeL u=aj x:=by cases x with|non=>cases r;rfl|bl _=>cases r;rfl|int _=>obtain⟨t,rfl⟩:=r;rfl|str _=>obtain⟨t,rfl⟩:=r;rfl|byt _=>obtain⟨t,rfl⟩:=r;rfl|flt _=>obtain⟨t,rfl⟩:=r;rfl|ref _=>cases r;rfl|ty _=>cases r;rfl
theorem RelV.inj{x y:V}{u:b_}(r:RelV x u)(q:RelV y u):x=y:=eI (r.abs.symm.trans q.abs)
theorem Vals.inj:∀{xs ys:List V}{us:List b_},Vals xs us->Vals ys us->xs=ys|_,_,_,.nil,.nil=>rfl|_,_,_,.cons r t,.cons a t'=>by rw[r.inj a,Vals.inj t t']
section
variable{X:Cx}{pins:List (cw×Obj)}{σ:St}{H:Hp}{s:cr}{a:cw}{xs ys:List V}
theorem dJ.of(h:H a=aj (.lst xs)):dJ K H a xs:=.inl (.inl h)
theorem iB.of(h:H a=aj (.tup xs)):iB K H a xs:=.inl (.inl h)
theorem Inv.list(I:Inv X pins σ H s)(h:dJ X.K H a xs):∃b:List b_,Vals xs b/\PlainL s.heap a b.toArray/\xs.length<=sizeLine:=by
 rcases h with h|⟨o,b,n,c,hc,hd,hs,hz,r⟩;.obtain⟨z,b,n,r,e⟩:=h.ok I.hok;exact⟨b,r,⟨_,n,e,rfl,rfl,rfl⟩,z⟩
 .refine⟨b.toList,r,⟨o,n,I.Vv a o c,hc,hd,by simpa using hs⟩,?_⟩;have e:=r.length;simp only[jp]at e;omega
theorem Inv.tuple(I:Inv X pins σ H s)(h:iB X.K H a xs):∃b:List b_,Vals xs b/\pf s.heap a b.toArray/\xs.length<=sizeLine:=by
 rcases h with h|⟨o,b,n,c,hc,hs,hz,r⟩;.obtain⟨z,b,r,p⟩:=h.ok I.hok;exact⟨b,r,p,z⟩
 .refine⟨b.toList,r,⟨o,I.Vv a o c,hc,n,by simpa using hs⟩,?_⟩;have e:=r.length;simp only[jp]at e;omega
theorem Inv.qT(I:Inv X pins σ H s)(h:dJ X.K H a xs)(h':dJ X.K H a ys):xs=ys:=by
 obtain⟨b,r,⟨o,n,e,_,_,d⟩,_⟩:=I.list h;obtain⟨its',f,⟨g,j,c,_,_,d'⟩,_⟩:=I.list h';rw[e]at c;cases c;rw[d]at d';injection d' with d1 _;have:b=its':=by simpa using congrArg toList d1
 subst this;exact r.inj f
theorem Inv.oK(I:Inv X pins σ H s)(h:iB X.K H a xs)(h':iB X.K H a ys):xs=ys:=by
 obtain⟨b,r,⟨o,e,_,n,d⟩,_⟩:=I.tuple h;obtain⟨its',f,⟨g,c,_,j,d'⟩,_⟩:=I.tuple h';rw[e]at c;cases c;rw[d]at d';injection d' with d1 _;have:b=its':=by simpa using congrArg toList d1
 subst this;exact r.inj f
end
noncomputable abbrev Cx.wish(X:Cx)(E:b_->cr->Prop):Cx:={X with xe:=E}
noncomputable abbrev Cx.nox(X:Cx):Cx:=X.wish λ_ _=>False
theorem Cx.Ok.wish{X:Cx}(ok:X.Ok)(E:b_->cr->Prop):(X.wish E).Ok:=⟨ok.mod,ok.kind,ok.glob,ok.blt,ok.above,ok.inj,ok.has,ok.cab,ok.hd,ok.frames,ok.stk,ok.exf,ok.bs,ok.Rv,ok.Lb,ok.Qe,ok.sS,ok.YF⟩
theorem Cx.Ok.jT{E:b_->cr->Prop}(ok:(X.wish E).Ok):X.Ok:=⟨ok.mod,ok.kind,ok.glob,ok.blt,ok.above,ok.inj,ok.has,ok.cab,ok.hd,ok.frames,ok.stk,ok.exf,ok.bs,ok.Rv,ok.Lb,ok.Qe,ok.sS,ok.YF⟩
section
variable{X:Cx}{pins:List (cw×Obj)}{σ:St}{H:Hp}{s:cr}{E:b_->cr->Prop}
theorem Inv.wish(I:Inv X pins σ H s)(E:b_->cr->Prop):Inv (X.wish E) pins σ H s:=⟨I.ok.wish E,I.os,I.bare,I.base,I.loc,I.cell,I.free,I.lO,I.pin,I.hok,I.len⟩
theorem Inv.jT(I:Inv (X.wish E) pins σ H s):Inv X pins σ H s:=⟨I.ok.jT,I.os,I.bare,I.base,I.loc,I.cell,I.free,I.lO,I.pin,I.hok,I.len⟩
theorem SP.jT{D:Ends}{f:Flow}{c:cr}(h:SP (X.wish E) pins D f c):SP X pins D f c:=by cases f with|next=>obtain⟨a,b,I,q⟩:=h;exact⟨a,b,I.jT,q⟩|brk=>obtain⟨a,b,I,q⟩:=h;exact⟨a,b,I.jT,q⟩|cont=>obtain⟨a,b,I,q⟩:=h;exact⟨a,b,I.jT,q⟩|ret u=>obtain⟨v,a,b,I,r,q⟩:=h;exact⟨v,a,b,I.jT,r,q⟩
theorem yM.nox{st:List eK}{t:TS}(h:yM X.nox st t):yM X st t:=λpins s σ H D I a=>ew (h pins s σ H D (I.wish _) a) (λ_ _ q=>q.jT) λ_ _ z=>fv z
end
section
variable{X:Cx}{st:eK}{rest:List eK}{t u:TS}{e:df}{te:TE}{pos:Pos}
noncomputable def Zq:TS:=λD σ H=>D.nx σ H
noncomputable def af0(t u:TS):TS:=λD σ H=>t {D with nx:=u D} σ H
theorem De:yM X [] Zq:=λ_ _ σ H _ I h=>nm ⟨σ,H,I,h⟩
theorem mQ(h1:PS X st t)(b:yM X rest u):yM X (st::rest) (af0 t u):=by intro pins s σ H D I h;refine wpAny_execs_cons (cB (h1 pins s σ H {D with nx:=u D} I h) λf s1 q=>?_);cases f with|next=>obtain⟨a,c,g,q⟩:=q;exact b pins s1 a c D g q|ret v=>exact q|brk=>exact q|cont=>exact q
theorem Inv.quiet{σ:St}(I:Inv X pins σ H s):interactive X.env=aK:=by simp[interactive,I.ok.kind]
noncomputable def Z6(te:TE):TS:=λD σ H=>te σ H λ_ a=>D.nx σ a
theorem qK(he:PE X e te)(hs:fT e bx pos.line X.env=fm aK:=by rfl):PS X (.Expr e pos) (Z6 te):=by intro pins s σ H D I h;exact wpAny_Expr_any (cB (he pins s σ H _ I h) λv s1⟨x,H1,I1,r1,q1⟩=>⟨σ,H1,I1,q1⟩) I.quiet hs
noncomputable def ad4(te:TE):TS:=λD σ H=>te σ H D.rt
theorem J9(he:PE X e te):PS X (.Return (aj e) pos) (ad4 te):=by intro pins s σ H D I h;exact wpAny_Return_some (cB (he pins s σ H _ I h) λv s1⟨x,H1,I1,r1,q1⟩=>⟨x,σ,H1,I1,r1,q1⟩)
noncomputable def aeZ(c:TT)(t u:TS):TS:=λD σ H=>c σ H λb a=>if b=a_ then t D σ a else u D σ a
theorem Ro{c:df}{a b:List eK}{f:TT}(hc:PT X c f)(j:yM X a t)(k:yM X b u):PS X (.If c a b pos) (aeZ f t u):=by intro pins s σ H D I h;refine wpAny_If (cB (hc pins s σ H _ I h) λd s1⟨g,I1,q1⟩=>?_);cases d with|true=>exact j pins s1 σ g D I1 q1|false=>exact k pins s1 σ g D I1 q1
noncomputable def S8:TS:=λ_ _ _=>False
theorem Jr:PS X st S8:=λ_ _ _ _ _ _ h=>h.elim
end
noncomputable abbrev TG:=V->St->Hp->(St->Hp->Prop)->Prop
noncomputable abbrev Hj:=List V->St->Hp->(St->Hp->Prop)->Prop
noncomputable def PG(X:Cx)(a:df)(t:TG):Prop:=∀(pins:List (cw × Obj))(s:cr)(σ:St)(H:Hp)(v:V)(u:b_)(Q:St->Hp->Prop),Inv X pins σ H s->RelV v u->t v σ H Q->cN (c_ X.prog X.w) X.A (k5 a X.env u) (λ_ e=>∃b c,Inv X pins b c e/\Q b c) X.xe s
noncomputable def PGs(X:Cx)(c:List df)(t:Hj):Prop:=∀(pins:List (cw × Obj))(s:cr)(σ:St)(H:Hp)(vs:List V)(us:List b_)(Q:St->Hp->Prop),Inv X pins σ H s->Vals vs us->t vs σ H Q->cN (c_ X.prog X.w) X.A (oN ((kw c X.env).map (·.2)) us) (λ_ e=>∃a b,Inv X pins a b e/\Q a b) X.xe s
noncomputable abbrev JL:=V->V->V->Hp->(Hp->Prop)->Prop
noncomputable def RZ(X:Cx)(t:JL):Prop:=∀(pins:List (cw × Obj))(s:cr)(σ:St)(H:Hp)(o i v:V)(a iv u:b_)(Q:Hp->Prop),Inv X pins σ H s->RelV o a->RelV i iv->RelV v u->t o i v H Q->cN (c_ X.prog X.w) X.A (nv a iv u) (λ_ c=>∃b,Inv X pins σ b c/\Q b) X.xe s
noncomputable abbrev Xh:=V->V->Hp->VK->Prop
noncomputable def Q3(X:Cx)(op:lp)(t:Xh):Prop:=∀(pins:List (cw × Obj))(s:cr)(σ:St)(H:Hp)(x y:V)(v u:b_)(Q:VK),Inv X pins σ H s->RelV x v->RelV y u->t x y H Q->cN (c_ X.prog X.w) X.A (inplaceOp op v u) (EP X pins σ Q) X.xe s
section
variable{X:Cx}{pos:Pos}
noncomputable def iI(i:Nat):TG:=λv σ H Q=>Q (σ.set i (aj v)) H
theorem aO{x:Str}(a:X.N.Nodup)(hi:X.N[i]?=aj x)(b:Loc X.env.scope x)(c:X.fn x=a_\/X.env.scope.names.lookup x=aj .local:=by first|(left;rfl)|(right;rfl)|assumption):PG X (.Name x pos) (iI i):=by intro pins s σ H v u Q I r h;exact wpAny_assign_Name (jG I a hi b r (λf e=>⟨_,H,e,h⟩) c)
noncomputable def Vu:Hj:=λvs σ H Q=>vs=[]/\Q σ H
noncomputable def K8(t:TG)(u:Hj):Hj:=λvs σ H Q=>∃v r,vs=v::r/\t v σ H λa b=>u r a b Q
theorem gB:PGs X [] Vu:=by intro pins s σ H vs us Q I r h;obtain⟨e,h⟩:=h;subst e;cases r;exact assignInOrder_nil ⟨σ,H,I,h⟩
theorem bH{e:df}{es:List df}{t:TG}{u:Hj}(h1:PG X e t)(b:PGs X es u)(hs:(kw (e::es) X.env).map (·.2)=k5 e X.env::(kw es X.env).map (·.2):=by rfl):PGs X (e::es) (K8 t u):=by intro pins s σ H vs us Q I r h;obtain⟨v,g,c,h⟩:=h;subst c;cases r with|cons r f=>rw[hs];refine me (cB (h1 pins s σ H _ _ _ I r h) λ_ s1⟨a,H1,I1,q1⟩=>?_);exact b pins s1 a H1 _ _ Q I1 f q1
noncomputable def Uy(K:PySem.W.Frag)(n:Nat)(t:Hj):TG:=λv σ H Q=>∃a xs,v=.ref a/\iB K H a xs/\xs.length=n/\t xs σ H Q
theorem jj{es:List df}{k:Nat}{t:Hj}{n:Nat}(hc:X.calm=a_)(h:PGs X es t)(g:(kw es X.env).length=n:=by rfl)(hst:(kw es X.env).findIdx? (·.1)=bx:=by rfl):PG X (.Tuple es k pos) (Uy X.K n t):=by intro pins s σ H v u Q I r c;obtain⟨a,xs,j,l,m,c⟩:=c;subst j;cases r;obtain⟨p,f,ht,hz⟩:=I.tuple l;refine assign_Tuple_tuple (I.ok.hd hc) ht (by simp[g,<-m,f.length]) hst λh' q=>?_;have x:Inv X pins σ H {s with heap:=h'}:=I.kept (t':=s.toks) λb o e=>q b o (ej (dL e)) e;exact h pins _ σ H xs _ Q x (by simpa using f) c
noncomputable def aeJ(to a:TE)(t:JL):TG:=λv σ H Q=>to σ H λo b=>a σ b λi c=>t o i v c λe=>Q σ e
theorem Vc{o i:df}{to b:TE}{t:JL}(ho:PE X o to)(hi:PE X i b)(hs:RZ X t)(c:∀ v,k5 (.Subscript o i pos) X.env v=(do
  let a<-kD [v] (eB o X.env)let iv<-kD [v,a] (eB i X.env)standAt pos
  kD [v,a,iv] (nv a iv v)release [v,a,iv] []):=by intro _;rfl):PG X (.Subscript o i pos) (aeJ to b t):=by intro pins s σ H v u Q I r h;rw[c];refine ce (hQ (cB (ho pins s σ H _ I h) λa s1⟨x,H1,I1,r1,q1⟩=>?_));refine ce (hQ (cB (hi pins s1 σ H1 _ I1 q1) λiv s2⟨y,H2,I2,r2,q2⟩=>?_));refine ce (lS (ce (hQ (cB (hs pins s2 σ H2 x y v a iv u _ I2 r1 r2 r q2) λ_ s3⟨e,I3,q3⟩=>?_))));exact wpAny_release ⟨σ,e,I3,q3⟩
noncomputable def KC(te:TE)(g:TG):TS:=λD σ H=>te σ H λx a=>g x σ a D.nx
theorem Ui{e:df}{g:TG}(he:PE X e te)(a:PG X tg g)(hs:lT [tg] e pos.line X.env=fm aK:=by rfl)(b:l6 [tg] e X.env=fm bx:=by rfl)(h1:(kw [tg] X.env).map (·.2)=[k5 tg X.env]:=by rfl):PS X (.Assign [tg] e pos) (KC te g):=by intro pins s σ H D I h;refine wpAny_Assign_stores (cB (he pins s σ H _ I h) λv s1⟨x,H1,I1,r1,q1⟩=>?_) hs b;rw[h1];exact cB (a pins s1 σ H1 x v _ I1 r1 q1) λ_ s2 q=>q
theorem sW{x:Str}{e:df}{a:Pos}(b:X.N.Nodup)(hi:X.N[i]?=aj x)(c:Loc X.env.scope x)(he:PE X e te)(hs:fT e (aj (.Name x a)) pos.line X.env=fm aK:=by rfl)(f:X.fn x=a_\/X.env.scope.names.lookup x=aj .local:=by first|(left;rfl)|(right;rfl)|assumption):PS X (.Assign [.Name x a] e pos) (KC te (iI i)):=by intro pins s σ H D I h;refine wpAny_Assign_Name (cB (he pins s σ H _ I h) λv s1⟨y,H1,I1,r1,q1⟩=>?_) hs;exact jG I1 b hi c r1 (λs2 g=>⟨_,H1,g,q1⟩) f
noncomputable def adq(i j:Nat)(a:TA):TS:=λD σ H=>a σ H λvs b=>∃v w,vs=[v,w]/\D.nx ((σ.set i (aj v)).set j (aj w)) b
theorem Tn{j:Nat}{x y:Str}{a b:df}{r:TA}{g k pt:Pos}{kt k2 WM}(hc:X.calm=a_)(t:X.N.Nodup)(hi:X.N[i]?=aj x)(C:X.N[j]?=aj y)(l:i≠j)(u:X.env.scope.names.lookup x=aj .local)(z:X.env.scope.names.lookup y=aj .local)(E:PA X [a,b] r)(G:l6 [.Tuple [.Name x g,.Name y k] kt pt] (.Tuple [a,b] k2 WM) X.env=fm (aj [x,y]))(hs:lT [.Tuple [.Name x g,.Name y k] kt pt] (.Tuple [a,b] k2 WM) pos.line X.env=fm aK:=by rfl):PS X (.Assign [.Tuple [.Name x g,.Name y k] kt pt] (.Tuple [a,b] k2 WM) pos) (adq i j r):=by
 intro pins s σ H D I h;rw[exec_Assign_arm];refine ce (lS ?_);rw[hs];refine ce (cK ?_);rw[if_neg (by decide)];refine ce (Tuple_ (cB (E _ pins s σ H _ I h) λus s1⟨vs,H1,I1,r1,m⟩=>?_));obtain⟨v,w,J,m⟩:=m;subst J;obtain⟨c,f,rfl,L,O⟩:∃c f,us=[c,f]/\RelV v c/\RelV w f:=by cases r1 with|cons p q=>cases q with|cons Q U=>cases U;exact⟨_,_,rfl,p,Q⟩
 refine eA ?_ (by show 2<=sizeLine;decide);have W:Inv X pins σ H1 {s1 with heap:=s1.heap.push {cls:=.type "tuple",data:=.seq [c,f].toArray}}:=I1.kept (t':=s1.toks) λb o e=>gU e;rw[G];refine ce (cK ?_);show cN (c_ X.prog X.w) X.A (do rule "assign.swapped-stores";let items<-unpackItems (.ref s1.heap.objs.size) 2 bx;oN [λv=>q_ X.env y v,λv=>q_ X.env x v] items.reverse;fm Flow.next) _ _ _;refine ce (l9 (ce (unpackItems_tuple (items:=#[c,f]) (I.ok.hd hc) (kS s1.heap _) λh' n=>?_)));have Y:=W.kept (h':=h') (t':=s1.toks) λb o e=>n b o (ej (dL e)) e;show cN _ _ (oN [λv=>q_ X.env y v,λv=>q_ X.env x v] [f,c]>>=λ_=>fm Flow.next) _ _ _;refine ce (me (wpAny_bindName (jG Y t C (.inl z) O (λs2 Z=>?_) (.inr z))));refine me (wpAny_bindName (jG Z t hi (.inl u) L (λs3 B=>assignInOrder_nil (cK ?_)) (.inr u)));rw[List.set_comm _ _ (gu l)]at B;exact⟨_,H1,B,m⟩
noncomputable def aek(i:Nat)(te:TE)(a:Xh):TS:=λD σ H=>∃x,σ[i]?=aj (aj x)/\te σ H λy b=>a x y b λz c=>D.nx (σ.set i (aj z)) c
theorem Vj{x:Str}{e:df}{op:lp}{o:Xh}{b:Pos}(p:X.N.Nodup)(hi:X.N[i]?=aj x)(j:Loc X.env.scope x)(he:PE X e te)(ho:Q3 X op o)(q:X.fn x=a_\/X.env.scope.names.lookup x=aj .local:=by first|(left;rfl)|(right;rfl)|assumption):PS X (.AugAssign (.Name x b) op e pos) (aek i te o):=by
 intro pins s σ H D I h;obtain⟨v,t,h⟩:=h;obtain⟨m,B,C⟩:=I.loc;have n:pX X.env.scope x:=by rcases j with k|k;exact .inl k;exact .inr (.inl k)
 obtain⟨u,r,l⟩:=C i x v hi t n;refine wpAny_AugAssign_Name ?_;have go:cN (c_ X.prog X.w) X.A (eB e X.env) (λw f=>cN (c_ X.prog X.w) X.A (inplaceOp op u w) (λr g=>cN (c_ X.prog X.w) X.A (storeName X.env x r) (λ_=>SP X pins D .next) X.xe g) X.xe f) X.xe s:=by refine cB (he pins s σ H _ I h) λw s1⟨y,H1,I1,r1,q1⟩=>?_;refine cB (ho pins s1 σ H1 v y u w _ I1 r r1 q1) λz s2⟨J,H2,I2,r2,q2⟩=>?_;exact jG I2 p hi j r2 (λs3 E=>⟨_,H2,E,q2⟩) q
 rcases l with⟨hk,G⟩|⟨hk,c,hc,a⟩;.exact qk I.ok.kind hk B G go
 . rcases hk with hk|hk;.exact rg I.ok.kind hk hc a go
   . rcases j with k|k;.have:X.env.scope.names.lookup x=aj .free:=hk;rw[k]at this;cases this
     .have:X.env.scope.names.lookup x=aj .free:=hk;rw[k]at this;cases this
noncomputable def aaD(to b te:TE)(c:V->V->Hp->VK->Prop)(a:Xh)(e:JL):TS:=λD σ H=>to σ H λo f=>b σ f λi g=>c o i g λx j=>te σ j λy k=>a x y k λz l=>e o i z l λm=>D.nx σ m
noncomputable def YX(X:Cx)(t:V->V->Hp->VK->Prop):Prop:=∀(pins:List (cw × Obj))(s:cr)(σ:St)(H:Hp)(o i:V)(a iv:b_)(Q:VK),Inv X pins σ H s->RelV o a->RelV i iv->t o i H Q->cN (c_ X.prog X.w) X.A (kf a iv) (EP X pins σ Q) X.xe s
theorem Oi{o i e:df}{to j:TE}{k:V->V->Hp->VK->Prop}{c:Xh}{l:JL}{op:lp}{f:Pos}(ho:PE X o to)(hi:PE X i j)(p:YX X k)(he:PE X e te)(q:Q3 X op c)(hs:RZ X l)(r:∀b iv a,augStore i b iv a=(do kD [a,b,iv] (nv b iv a);release [a,b,iv] [];fm .next):=by intros;rfl):PS X (.AugAssign (.Subscript o i f) op e pos) (aaD to j te k c l):=by intro pins s σ H D I h;refine wpAny_AugAssign_SubscriptAny (cB (ho pins s σ H _ I h) λb s1⟨m,H1,I1,r1,q1⟩=>?_) r;refine cB (hi pins s1 σ H1 _ I1 q1) λiv s2⟨n,H2,I2,r2,q2⟩=>?_;refine cB (p pins s2 σ H2 m n b iv _ I2 r1 r2 q2) λg s3⟨t,H3,I3,r3,q3⟩=>?_;refine cB (he pins s3 σ H3 _ I3 q3) λv s4⟨u,H4,I4,r4,q4⟩=>?_;refine cB (q pins s4 σ H4 t u g v _ I4 r3 r4 q4) λa s5⟨x,H5,I5,r5,q5⟩=>?_;exact cB (hs pins s5 σ H5 m n x b iv a _ I5 r1 r2 r5 q5) λ_ s6⟨y,I6,q6⟩=>⟨σ,y,I6,q6⟩
noncomputable def Xx(f:Int->Int->Int):Xh:=λx y H Q=>∃i j,x=.int i/\y=.int j/\Q (.int (f i j)) H
theorem V7:Q3 X .Add (Xx λi j=>i+j):=by intro pins s σ H x y v u Q I r1 a h;obtain⟨i,j,b,c,q⟩:=h;subst b;subst c;obtain⟨t,rfl⟩:=r1;obtain⟨t',rfl⟩:=a;exact iadd_int ⟨.int _,H,I.tok _,⟨_,rfl⟩,q⟩
theorem Wn:Q3 X .Sub (Xx λi j=>i-j):=by intro pins s σ H x y v u Q I r1 a h;obtain⟨i,j,b,c,q⟩:=h;subst b;subst c;obtain⟨t,rfl⟩:=r1;obtain⟨t',rfl⟩:=a;exact isub_int ⟨.int _,H,I.tok _,⟨_,rfl⟩,q⟩
end
section
variable{X:Cx}{pos:Pos}
noncomputable def Vg(c:TT)(j:TS):TS:=λD σ H=>∃W:Nat->St->Hp->Prop,(∃m,W m σ H)/\∀m σ H,W m σ H->c σ H λb e=>if b=a_ then ∃N:St->Hp->Prop,(∀a f,N a f->∃g,g<m/\W g a f)/\j {D with nx:=N,ct:=N,bk:=D.nx} σ e else D.nx σ e
theorem K9{c:df}{body:List eK}{u:TT}{x:TS}(y:kP (c_ X.prog X.w) X.A X.env X.xe)(hc:PT X c u)(G:yM X body x):PS X (.While c body [] pos) (Vg u x):=by intro pins s σ H D I h;obtain⟨W,⟨m0,J⟩,g⟩:=h;refine wpAny_While (codeAny_whileLoop (λn L=>∃j z,Inv X pins j z L/\W n j z) ?_ m0 ⟨σ,H,I,J⟩);rintro n s1⟨e,B,O,Q⟩;refine hJ y (cB (hc pins s1 e B _ O (g n e B Q)) λb s2⟨C,I2,l⟩=>?_);cases b with
 |true=>obtain⟨N,E,l⟩:=l;rw[if_pos rfl];refine hJ y (cB (G pins s2 e C _ I2 l) λf s3 m=>?_);cases f with|next=>obtain⟨a,k,o,p⟩:=m;obtain⟨q,r,t⟩:=E a k p;exact⟨q,r,a,k,o,t⟩|cont=>obtain⟨a,k,o,p⟩:=m;obtain⟨q,r,t⟩:=E a k p;exact⟨q,r,a,k,o,t⟩|brk=>exact m|ret v=>exact m
 |false=>rw[if_neg dc];exact nm ⟨e,C,I2,l⟩
end
structure It where
 go:Nat->Hp->Prop
 Ld:Nat->Hp->V->Hp->Prop
 stop:Nat->Hp->Prop
noncomputable def p6(X:Cx)(pins:List (cw×Obj))(H:Hp)(b:cw):Prop:=H b=bx/\b≠X.env.locals/\b∉X.fs/\(b∈X.ex\/X.s₀.heap.objs.size<=b)/\(∀x c,X.env.cells.lookup x=aj c->c≠b)/\∀p∈X.pn++pins,p.1≠b
theorem Inv.FQ{σ:St}{f:Hp}{b:cw}(I:Inv X pins σ H s)(a:s.heap.objs.size<=b)(g:f b=bx):p6 X pins f b:=by
 refine⟨g,Nat.ne_of_gt (eh I.lt a),I.ad1 a,.inr (g_ I.sz a),λx c e z=>?_,λp j z=>?_⟩;.obtain⟨v,q⟩:=I.cell x c e;exact absurd (eh q.lt (by rw[z];exact a)) (hV _)
 .exact absurd (eh (dL (I.pin p j).1) (by rw[z];exact a)) (hV _)
structure Turn(P:dE)(w:eH)(K:PySem.W.Frag)(tg:df)(J:It)(fp:List cw)(it:cw)(tn:Nat->eP->Prop):Prop where
 mem:it∈fp
 obj:∀i h,tn i h->∀b∈fp,∃o,h.get? b=aj o/\∀v,o.data≠.cell v
 keep:∀i h h',tn i h->(∀b∈fp,∀o,h.get? b=aj o->h'.get? b=aj o)->tn i h'
 item:∀(X:Cx),X.prog=P->X.w=w->X.K=K->X.calm=a_->∀(i:Nat)(pins:List (cw×Obj))(s:cr)(σ:St)(H:Hp)(E:b_->cr->Prop),Inv X pins σ H s->(∀b∈fp,p6 X pins H b)->tn i s.heap->J.go i H->cN (c_ P w) X.A (pyNext (.ref it)) (λr s1=>∃u,r=aj u/\cN (c_ P w) X.A (k7 tg (.ref it) u) (λ_ s2=>∃x H',Inv X pins σ H' s2/\RelV x u/\J.Ld i H x H'/\tn (i+1) s2.heap/\∀b∈fp,H' b=bx) E s1) E s
 done:∀(X:Cx),X.prog=P->X.w=w->X.K=K->X.calm=a_->∀(i:Nat)(pins:List (cw×Obj))(s:cr)(σ:St)(H:Hp)(E:b_->cr->Prop),Inv X pins σ H s->(∀b∈fp,p6 X pins H b)->tn i s.heap->J.stop i H->cN (c_ P w) X.A (pyNext (.ref it)) (λr s1=>r=bx/\Inv X pins σ H s1) E s
 self:∀(A:fb)(i:Nat)(s:cr)(Q:b_->cr->Prop)(E:b_->cr->Prop),tn i s.heap->Q (.ref it) s->cN (c_ P w) A (p5 (.ref it)) Q E s
noncomputable abbrev TI:=St->Hp->(It->Hp->Prop)->Prop
noncomputable def PIE(X:Cx)(pins:List (cw×Obj))(σ:St)(tg:df)(R:It->Hp->Prop)(a:b_)(s2:cr):Prop:=∃(it:cw)(e:List cw)(f:Nat->eP->Prop)(J:It)(c:Hp),a=.ref it/\Inv X pins σ c s2/\Turn X.prog X.w X.K tg J e it f/\f 0 s2.heap/\(∀b∈e,p6 X pins c b)/\R J c
noncomputable def PI(X:Cx)(tg iter:df)(a:TI):Prop:=∀(pins:List (cw × Obj))(s:cr)(σ:St)(H:Hp)(R:It->Hp->Prop),Inv X pins σ H s->a σ H R->cN (c_ X.prog X.w) X.A (eB iter X.env) (λv s1=>cN (c_ X.prog X.w) X.A (p5 v) (PIE X pins σ tg R) X.xe s1) X.xe s
theorem DQ{E:b_->cr->Prop}{it:cw}{u:b_}{o:Obj}{n:String}{vs:Array b_}{Q:Unit->cr->Prop}(ho:s.heap.get? it=aj o)(hc:o.cls=.type n)(hd:o.data=.fields vs)(b:["enumerate","zip","dict_itemiterator","dict_reverseitemiterator","odict_iterator","itertools.zip_longest","itertools.pairwise"].contains n=aK)(a:Q () s):cN M A (k7 tg (.ref it) u) Q E s:=by unfold k7;cases tg<;>first|exact cK a|(cases u<;>first|exact cK a|(refine ce (wpAny_load ho ?_);rw[hc,hd];show cN M A (if(["enumerate","zip","dict_itemiterator","dict_reverseitemiterator","odict_iterator","itertools.zip_longest","itertools.pairwise"].contains n&&vs[0]?==aj (rawInt _))=a_ then _ else _) Q E s;rw[if_neg (by intro h;rw[b,mM]at h;cases h)];exact cK a))
noncomputable def Ww(K:PySem.W.Frag)(a:cw):It:=⟨λi H=>∃xs x,dJ K H a xs/\xs[i]?=aj x,λi H x b=>b=H/\∀xs,dJ K H a xs->xs[i]?=aj x,λi H=>∃xs,dJ K H a xs/\xs.length<=i⟩
noncomputable def XJ(K:PySem.W.Frag)(a:cw):It:=⟨λi H=>∃xs x,iB K H a xs/\xs[i]?=aj x,λi H x b=>b=H/\∀xs,iB K H a xs->xs[i]?=aj x,λi H=>∃xs,iB K H a xs/\xs.length<=i⟩
noncomputable def Yp(lo:Int)(n:Nat):It:=⟨λi _=>i<n,λi H x a=>a=H/\x=.int (lo+i),λi _=>n<=i⟩
theorem FW{P:dE}(a it:cw):Turn P w K tg (Ww K a) [it] it (λi h=>h.IsListIter it a i)where
 mem:=by simp
 obj:=λi h st b f=>by
  have e:b=it:=by simpa using f
  subst e;obtain⟨o,e,c,d⟩:=st;exact⟨o,e,λv z=>by rw[d]at z;cases z⟩
 keep:=λi h h' st k=>st.at λo e=>k it (by simp) o e;item:=by intro X m n q hc i pins s σ H E I j st r;subst m n q;obtain⟨xs,x,l,t⟩:=r;obtain⟨y,B,p,hz⟩:=I.list l;obtain⟨u,C,G⟩:=B.get t;obtain⟨f0,f1,f2,f3,f4,f5⟩:=j it (by simp);refine wpAny_pyNext_list_item st p.isList (x:=u) (by simpa using C) λh' g J=>?_;have L:Inv X pins σ H {s with heap:=h'}:=I.turned (t':=s.toks) (λb o f e=>(J.2 b f).trans e) f0 f1 f3 f4 f5;obtain⟨o,e,c,d⟩:=id g;exact⟨u,rfl,DQ (s:={s with heap:=h'}) e c d (by decide) ⟨x,H,L,G,⟨rfl,λys N=>by rw[I.qT N l];exact t⟩,g,λb f=>(j b f).1⟩⟩
 done:=by intro X m n q hc i pins s σ H E I j st r;subst m n q;obtain⟨xs,l,t⟩:=r;obtain⟨y,B,p,hz⟩:=I.list l;obtain⟨f0,f1,f2,f3,f4,f5⟩:=j it (by simp);have Q:=B.length;exact wpAny_pyNext_list_end (I.ok.hd hc) st p.isList (by simp;omega) λh' O=>⟨rfl,I.turned (t':=s.toks) (λb o f e=>O b o f e) f0 f1 f3 f4 f5⟩
 self:=λ_ _ _ _ _ st h=>wpAny_pyIter_listiter st h
theorem BZ{P:dE}(a it:cw):Turn P w K tg (XJ K a) [it] it (λi h=>h.IsTupleIter it a i)where
 mem:=by simp
 obj:=λi h st b f=>by
  have e:b=it:=by simpa using f
  subst e;obtain⟨o,e,c,d⟩:=st;exact⟨o,e,λv z=>by rw[d]at z;cases z⟩
 keep:=λi h h' st k=>st.at λo e=>k it (by simp) o e;item:=by intro X n q r hc i pins s σ H E I l st t;subst n q r;obtain⟨xs,x,m,y⟩:=t;obtain⟨g,B,p,hz⟩:=I.tuple m;obtain⟨u,C,G⟩:=B.get y;obtain⟨f0,f1,f2,f3,f4,f5⟩:=l it (by simp);refine wpAny_pyNext_tuple_item st (show s.heap.IsTuple a g.toArray from p) (x:=u) (by simpa using C) λh' j J=>?_;have L:Inv X pins σ H {s with heap:=h'}:=I.turned (t':=s.toks) (λb o f e=>(J.2 b f).trans e) f0 f1 f3 f4 f5;obtain⟨o,e,c,d⟩:=id j;exact⟨u,rfl,DQ (s:={s with heap:=h'}) e c d (by decide) ⟨x,H,L,G,⟨rfl,λys N=>by rw[I.oK N m];exact y⟩,j,λb f=>(l b f).1⟩⟩
 done:=by intro X n q r hc i pins s σ H E I l st t;subst n q r;obtain⟨xs,m,y⟩:=t;obtain⟨g,B,p,hz⟩:=I.tuple m;obtain⟨f0,f1,f2,f3,f4,f5⟩:=l it (by simp);have Q:=B.length;exact wpAny_pyNext_tuple_end (I.ok.hd hc) st (show s.heap.IsTuple a g.toArray from p) (by simp;omega) λh' O=>⟨rfl,I.turned (t':=s.toks) (λb o f e=>O b o f e) f0 f1 f3 f4 f5⟩
 self:=λ_ _ _ _ _ st h=>wpAny_pyIter_tupleiter st h
theorem Cd{P:dE}(it:cw)(lo:Int)(n:Nat):Turn P w K tg (Yp lo n) [it] it (λi h=>IsRangeIter h it (lo+(i:Nat)*1) ((n:Int)-(i:Nat)) 1)where
 mem:=by simp
 obj:=λi h st b a=>by
  have e:b=it:=by simpa using a
  subst e;exact⟨_,st,λv z=>by have q:Data.fields _=Data.cell v:=z;cases q⟩
 keep:=λi h h' st k=>k it (by simp) _ st;item:=by intro X g j l hc i pins s σ H E I f st m;subst g j l;obtain⟨f0,f1,f2,f3,f4,f5⟩:=f it (by simp);have W:=Walks.range (prog:=X.prog) (w:=X.w) (I.ok.hd hc) it lo 1 n;refine W.item i s _ _ m st λv h' p r c u=>?_;obtain⟨t,rfl⟩:=r;have x:Inv X pins σ H {s with heap:=h',toks:=p}:=I.turned (λb o a e=>u b o (by simpa using a) e) f0 f1 f3 f4 f5;refine⟨_,rfl,DQ (s:={s with heap:=h',toks:=p}) (n:="range_iterator") c rfl rfl (by decide) ⟨.int (lo+i),H,x,⟨t,?_⟩,⟨rfl,rfl⟩,c,λb a=>(f b a).1⟩⟩;rw[mul_one]
 done:=by intro X g j l hc i pins s σ H E I f st m;subst g j l;obtain⟨f0,f1,f2,f3,f4,f5⟩:=f it (by simp);exact wpAny_pyNext_range_end (I.ok.hd hc) st (by have:n<=i:=m;omega) λh' y=>⟨rfl,I.turned (t':=s.toks) (λb o a e=>y b o a e) f0 f1 f3 f4 f5⟩
 self:=λ_ _ _ _ _ st h=>wpAny_pyIter_rangeiter st h
section
variable{X:Cx}{tg:df}
theorem yE{σ:St}{R:It->Hp->Prop}{E:b_->cr->Prop}{lo hi:Int}{t u v:Tok}{a:Nat}(I:Inv X pins σ H s)(h1:-(2^62)<=lo)(f:lo<2^62)(g:-(2^62)<=hi)(j:hi<2^62)(q:R (Yp lo (hi-lo).toNat) H):cN (c_ X.prog X.w) X.A (p5 (.ref s.heap.objs.size)) (PIE X pins σ tg R) E {s with heap:=s.heap.push {cls:=.type "range",data:=.fields #[.int lo t,.int hi u,.int 1 v]},toks:=a}:=by
 refine wpAny_pyIter_range (IsRange.new ..) (small_one h1 f g j) ?_;have c:Inv X pins σ H {s with heap:=s.heap.push {cls:=.type "range",data:=.fields #[.int lo t,.int hi u,.int 1 v]},toks:=a}:=I.kept λb o e=>gU e;refine⟨(s.heap.push {cls:=.type "range",data:=.fields #[.int lo t,.int hi u,.int 1 v]}).objs.size,[(s.heap.push {cls:=.type "range",data:=.fields #[.int lo t,.int hi u,.int 1 v]}).objs.size],_,_,H,rfl,c.kept (t':=a) λb o e=>gU e,Cd _ lo (hi-lo).toNat,?_,λb k=>?_,q⟩
 . have l:lo+((0:Nat):Int)*1=lo:=by simp
   have m:(((hi-lo).toNat:Nat):Int)-((0:Nat):Int)=Builtin.Range.rangeSize lo hi 1:=by rw[rangeSize_one];split<;>omega
   show IsRangeIter _ _ (lo+((0:Nat):Int)*1) ((((hi-lo).toNat:Nat):Int)-((0:Nat):Int)) 1;rw[l,m];exact dA _ rfl
 . have e:b=(s.heap.push {cls:=.type "range",data:=.fields #[.int lo t,.int hi u,.int 1 v]}).objs.size:=by simpa using k
   subst e;exact c.FQ (dm) (c.hok.fresh (dm))
noncomputable def ZM(a:TA):TI:=λσ H R=>a σ H λvs b=>∃j:Int,vs=[.int j]/\-(2^62)<=j/\j<2^62/\R (Yp 0 j.toNat) b
noncomputable def ZR(a:TA):TI:=λσ H R=>a σ H λvs b=>∃i j:Int,vs=[.int i,.int j]/\(-(2^62)<=i/\i<2^62/\-(2^62)<=j/\j<2^62)/\R (Yp i (j-i).toNat) b
theorem uY{a:df}{c:TA}{p:Pos}(f:Gl X "range")(g:X.mg "range"=bx)(k:PA X [a] c)(hs:cy [a] X.env=[(aK,eB a X.env)]:=by rfl):PI X tg (.Call (.Name "range" p) [a] [] pos) (ZM c):=by intro pins s σ H R I h;refine Call_ (jW I f g boot_range (fo (cB (k pos pins s σ H _ I h) λus s1⟨vs,H1,I1,r1,b⟩=>?_) hs rfl));obtain⟨j,e,b,l,q⟩:=b;subst e;cases r1 with|cons r m=>cases m;obtain⟨t,rfl⟩:=r;exact call_range_1 (yE I1 (by omega) (by omega) b l (by simpa using q))
theorem Gh{a b:df}{k:TA}{p:Pos}(l:Gl X "range")(m:X.mg "range"=bx)(n:PA X [a,b] k)(hs:cy [a,b] X.env=[(aK,eB a X.env),(aK,eB b X.env)]:=by rfl)(c:cy [b] X.env=[(aK,eB b X.env)]:=by rfl):PI X tg (.Call (.Name "range" p) [a,b] [] pos) (ZR k):=by intro pins s σ H R I h;refine Call_ (jW I l m boot_range (fo (cB (n pos pins s σ H _ I h) λus s1⟨vs,H1,I1,r1,f⟩=>?_) (by rw[hs,c]) (by rw[c];rfl)));obtain⟨i,j,e,⟨f,o,u,v⟩,q⟩:=f;subst e;cases r1 with|cons r g=>cases g with|cons x g=>cases g;obtain⟨t,rfl⟩:=r;obtain⟨t',rfl⟩:=x;exact call_range_2 (yE I1 f o u v q)
noncomputable def afo(f:TI)(g:TG)(j:TS):TS:=λD σ H=>f σ H λJ k=>∃W:Nat->Nat->St->Hp->Prop,(∃m,W 0 m σ k)/\∀i m σ H,W i m σ H->(J.stop i H/\D.nx σ H)\/(J.go i H/\∃N:St->Hp->Prop,(∀a b,N a b->∃e,e<m/\W (i+1) e a b)/\∀x b,J.Ld i H x b->g x σ b λc l=>j {D with nx:=N,ct:=N,bk:=D.nx} c l)
noncomputable def rZ(a:List cw)(h:eP):List (cw×Obj):=a.filterMap λb=>(h.get? b).map λo=>(b,o)
theorem jf{a:List cw}{b:cw}{o:Obj}(c:b∈a)(e:h.get? b=aj o):(b,o)∈rZ a h:=List.mem_filterMap.mpr ⟨b,c,by rw[e];rfl⟩
theorem G3{a:List cw}{p:cw×Obj}(c:p∈rZ a h):p.1∈a/\h.get? p.1=aj p.2:=by obtain⟨b,f,e⟩:=List.mem_filterMap.mp c;cases q:h.get? b with|none=>rw[q]at e;cases e|some o=>rw[q]at e;have g:(b,o)=p:=eI e;subst g;exact⟨f,q⟩
theorem Inv.pinned{σ:St}{a:List cw}(I:Inv X pins σ H s)(g:∀b∈a,p6 X pins H b)(ho:∀b∈a,∃o,s.heap.get? b=aj o/\∀v,o.data≠.cell v):Inv X (pins++rZ a s.heap) σ H s:=I.CG λp j=>(fk.mp j).elim (λz=>I.pin p (fy _ z)) λz=>by obtain⟨c,e⟩:=G3 z;obtain⟨f0,f1,f2,_⟩:=g p.1 c;obtain⟨o,f,d⟩:=ho p.1 c;rw[e]at f;cases f;exact⟨e,f0,f1,f2,d⟩
theorem Inv.nF{a:List (cw×Obj)}{σ:St}(I:Inv X (pins++a) σ H s):Inv X pins σ H s:=I.CG λp b=>I.pin p (fy _ (oy _ b))
theorem Bx{iter:df}{body:List eK}{Z:TI}{g:TG}{tb:TS}(z:kP (c_ X.prog X.w) X.A X.env X.xe)(hc:X.calm=a_)(hi:PI X tg iter Z)(hg:PG X tg g)(c:yM X body tb)(hs:∀x,ft iter X.env x=fm x:=by intro _;rfl):PS X (.For tg iter body [] pos) (afo Z g tb):=by
 intro pins s σ H D I h;refine wpAny_For (cB (hi pins s σ H _ I h) λv s1 h1=>cB h1 λac s2 h2=>?_) hs;obtain⟨it,B,tn,J,H2,e,I2,T,Q,f2,W,⟨m0,w0⟩,C⟩:=h2;subst e--what stays a_ of the iterator's objects through the loop
 have j:∀{t:Hp},(∀b∈B,t b=bx)->∀b∈B,p6 X pins t b:=λhn b c=>⟨hn b c,(f2 b c).2⟩;refine codeAny_forLoop_any (λn s'=>∃i k t,Inv X pins k t s'/\tn i s'.heap/\(∀b∈B,t b=bx)/\W i n k t) ?_ m0 ⟨0,σ,H2,I2,Q,λb c=>(f2 b c).1,w0⟩;rintro n s3⟨i,l,O,I3,E,G,w3⟩;rcases C i n l O w3 with⟨stop,qn⟩|⟨go,N,hN,step⟩;.refine hJ z (cB (T.done X rfl rfl rfl hc i pins s3 l O X.xe I3 (j G) E stop) λr s4⟨hr,I4⟩=>?_);subst hr;exact nm ⟨l,O,I4,qn⟩
 . refine hJ z (cB (T.item X rfl rfl rfl hc i pins s3 l O X.xe I3 (j G) E go) λr s4⟨u,hr,h4⟩=>?_);subst hr;refine hJ z (cB h4 λ_ s5⟨x,H5,I5,r5,y5,st5,fr5⟩=>?_);have U:=I5.pinned (j fr5) (T.obj _ _ st5);refine hJ z (cB (hg _ s5 l H5 x u _ U r5 (step x H5 y5)) λ_ s6⟨Y,H6,I6,q6⟩=>?_);refine hJ z (cB (c _ s6 Y H6 _ I6 q6) λf s7 y=>?_);have again:∀{a:St}{p:Hp},Inv X (pins++rZ B s5.heap) a p s7->N a p->∃m,m<n/\∃i k t,Inv X pins k t s7/\tn i s7.heap/\(∀b∈B,t b=bx)/\W i m k t:=λ{a p}q L=>by obtain⟨m',hm,w7⟩:=hN a p L;refine⟨m',hm,i+1,a,p,q.nF,T.keep _ _ _ st5 λb c o e=>(q.pin (b,o) (fy _ (fy _ (jf c e)))).1,λb c=>?_,w7⟩;obtain⟨o,e,d⟩:=T.obj _ _ st5 b c;exact(q.pin (b,o) (fy _ (fy _ (jf c e)))).2.1
   cases f with|next=>obtain⟨a,p,q,L⟩:=y;exact again q L|cont=>obtain⟨a,p,q,L⟩:=y;exact again q L|brk=>obtain⟨a,p,q,y⟩:=y;exact⟨a,p,q.nF,y⟩|ret v=>obtain⟨x7,a,p,q,r7,y⟩:=y;exact⟨x7,a,p,q.nF,r7,y⟩
end
noncomputable abbrev R2:=V->V->Hp->VK->Prop
noncomputable def fX(X:Cx)(f:b_->b_->Sem b_)(r:R2):Prop:=∀(pins:List (cw × Obj))(s:cr)(σ:St)(H:Hp)(x y:V)(v u:b_)(Q:VK),Inv X pins σ H s->RelV x v->RelV y u->r x y H Q->cN (c_ X.prog X.w) X.A (f v u) (EP X pins σ Q) X.xe s
noncomputable def UnR(X:Cx)(f:b_->Sem b_)(r:V->Hp->VK->Prop):Prop:=∀(pins:List (cw × Obj))(s:cr)(σ:St)(H:Hp)(x:V)(v:b_)(Q:VK),Inv X pins σ H s->RelV x v->r x H Q->cN (c_ X.prog X.w) X.A (f v) (EP X pins σ Q) X.xe s
noncomputable def eO(X:Cx)(f:b_)(r:List V->Hp->VK->Prop):Prop:=∀(pins:List (cw × Obj))(s:cr)(σ:St)(H:Hp)(xs:List V)(us:List b_)(Q:VK),Inv X pins σ H s->Vals xs us->r xs H Q->cN (c_ X.prog X.w) X.A (call f us) (EP X pins σ Q) X.xe s
noncomputable def aeX(X:Cx)(r:V->Hp->(Bool->Hp->Prop)->Prop):Prop:=∀(pins:List (cw × Obj))(s:cr)(σ:St)(H:Hp)(x:V)(v:b_)(Q:Bool->Hp->Prop),Inv X pins σ H s->RelV x v->r x H Q->cN (c_ X.prog X.w) X.A (truthy v) (TP X pins σ Q) X.xe s
noncomputable def Pu(r:R2)(a b:TE):TE:=λσ H Q=>a σ H λx c=>b σ c λy e=>r x y e Q
noncomputable def tUn(r:V->Hp->VK->Prop)(a:TE):TE:=λσ H Q=>a σ H λx b=>r x b Q
noncomputable def rI(C:Int->Int->Prop)(g:Int->Int->V):R2:=λx y H Q=>∃i j,x=.int i/\y=.int j/\C i j/\Q (g i j) H
noncomputable def Pq(g:Int->Int->V):R2:=λx y H Q=>∃i j,x=.int i/\y=.int j/\Q (g i j) H
noncomputable def rU(g:Int->V):V->Hp->VK->Prop:=λx H Q=>∃i,x=.int i/\Q (g i) H
section
variable{X:Cx}{a b c:df}{ta tb tc:TE}{pos:Pos}
theorem Uv(l:PE X a ta)(m:PE X b tb){σ:St}{R:V->V->Hp->Prop}(I:Inv X pins σ H s)(h:ta σ H λx k=>tb σ k λy e=>R x y e){Q:b_->cr->Prop}{f:b_->b_->Sem b_}(n:∀v u s2 x y e,Inv X pins σ e s2->RelV x v->RelV y u->R x y e->cN (c_ X.prog X.w) X.A (f v u) Q X.xe s2):cN (c_ X.prog X.w) X.A (eB a X.env) (λv g=>cN (c_ X.prog X.w) X.A (eB b X.env) (λu j=>cN (c_ X.prog X.w) X.A (f v u) Q X.xe j) X.xe g) X.xe s:=by refine cB (l pins s σ H _ I h) λv s1⟨x,k,I1,r1,q1⟩=>?_;refine cB (m pins s1 σ k _ I1 q1) λu s2⟨y,e,I2,r2,q2⟩=>?_;exact n v u s2 x y e I2 r1 r2 q2
theorem Zm{op:lp}{r:R2}(ho:fX X (fS op) r)(e:PE X a ta)(f:PE X b tb):PE X (.BinOp a op b pos) (Pu r ta tb):=by intro pins s σ H Q I h;exact wpAny_BinOp (Uv e f I h λv u s2 x y g j k l q=>ho pins s2 σ g x y v u Q j k l q)
theorem Z3{op:UnaryOp}{r:V->Hp->VK->Prop}(ho:UnR X (unaryOp op) r)(e:PE X a ta):PE X (.UnaryOp op a pos) (tUn r ta):=by intro pins s σ H Q I h;exact UnaryOp_ (cB (e pins s σ H _ I h) λv s1⟨x,H1,I1,r1,q1⟩=>ho pins s1 σ H1 x v Q I1 r1 q1)
theorem opI{f:b_->b_->Sem b_}{C:Int->Int->Prop}{g:Int->Int->Int}(rule:∀(i j:Int)(t u:Tok)(s:cr)(Q:b_->cr->Prop)(E:b_->cr->Prop),C i j->Q (.int (g i j) s.toks) {s with toks:=s.toks+1}->cN (c_ X.prog X.w) X.A (f (.int i t) (.int j u)) Q E s):fX X f (rI C λi j=>.int (g i j)):=by intro pins s σ H x y v u Q I e k h;obtain⟨i,j,rfl,rfl,hc,q⟩:=h;obtain⟨t,rfl⟩:=e;obtain⟨t',rfl⟩:=k;exact rule i j t t' s _ _ hc ⟨.int (g i j),H,I.tok _,⟨_,rfl⟩,q⟩
theorem aaw{f:b_->b_->Sem b_}{g:Int->Int->Int}(rule:∀(i j:Int)(t u:Tok)(s:cr)(Q:b_->cr->Prop)(E:b_->cr->Prop),Q (.int (g i j) s.toks) {s with toks:=s.toks+1}->cN (c_ X.prog X.w) X.A (f (.int i t) (.int j u)) Q E s):fX X f (Pq λi j=>.int (g i j)):=by intro pins s σ H x y v u Q I e k h;obtain⟨i,j,rfl,rfl,q⟩:=h;obtain⟨t,rfl⟩:=e;obtain⟨t',rfl⟩:=k;exact rule i j t t' s _ _ ⟨.int (g i j),H,I.tok _,⟨_,rfl⟩,q⟩
theorem V3{f:b_->b_->Sem b_}{g:Int->Int->Bool}(rule:∀(i j:Int)(t u:Tok)(s:cr)(Q:b_->cr->Prop)(E:b_->cr->Prop),Q (.bool (g i j)) s->cN (c_ X.prog X.w) X.A (f (.int i t) (.int j u)) Q E s):fX X f (Pq λi j=>.bl (g i j)):=by intro pins s σ H x y v u Q I e k h;obtain⟨i,j,rfl,rfl,q⟩:=h;obtain⟨t,rfl⟩:=e;obtain⟨t',rfl⟩:=k;exact rule i j t t' s _ _ ⟨.bl (g i j),H,I,rfl,q⟩
noncomputable def af4(i j:Int):Prop:=0<=j/\j<=1000000/\i.natAbs<2^64
noncomputable def VF(i j:Int):Prop:=(-(2^64)<i/\i<2^64)\/(-(2^64)<j/\j<2^64)
theorem VF.ok{i j:Int}(h:VF i j):IntMulOk i j:=by
 rcases h with⟨h1,e⟩|⟨h1,e⟩;.exact .of_left (intBits_le_64 h1 e)
 .exact .of_right (intBits_le_64 h1 e)
theorem R3:fX X (fS .Add) (Pq λi j=>.int (i+j)):=aaw λ_ _ _ _ _ _ _ q=>add_int q
theorem U0:fX X (fS .Sub) (Pq λi j=>.int (i-j)):=aaw λ_ _ _ _ _ _ _ q=>sub_int q
theorem Vn:fX X (fS .Mult) (rI VF λi j=>.int (i*j)):=opI λ_ _ _ _ _ _ _ hc q=>mul_int q hc.ok
theorem Wd:fX X (fS .Mod) (rI (λ_ j=>0<j) λi j=>.int (i%j)):=opI λi j _ _ _ _ _ hc q=>by have h1:(0:Int)<j:=hc;exact mod_int' (by omega) (by rw[Int.fmod_eq_emod_of_nonneg i (by omega)];exact q)
theorem Tz:fX X (fS .Pow) (rI af4 λi j=>.int (i^j.toNat)):=opI λ_ _ _ _ _ _ _ hc q=>pow_int_small hc.1 hc.2.1 hc.2.2 q
theorem unI{f:b_->Sem b_}{g:Int->Int}(rule:∀(i:Int)(t:Tok)(s:cr)(Q:b_->cr->Prop)(E:b_->cr->Prop),Q (.int (g i) s.toks) {s with toks:=s.toks+1}->cN (c_ X.prog X.w) X.A (f (.int i t)) Q E s):UnR X f (rU λi=>.int (g i)):=by intro pins s σ H x v Q I e h;obtain⟨i,rfl,q⟩:=h;obtain⟨t,rfl⟩:=e;exact rule i t s _ _ ⟨.int (g i),H,I.tok _,⟨_,rfl⟩,q⟩
theorem Vb:UnR X (unaryOp .USub) (rU λi=>.int (-i)):=unI λ_ _ _ _ _ q=>neg_int q
end
section
variable{X:Cx}{a b c:df}{ta tb tc:TE}{pos:Pos}
theorem Hl{σ:St}{Q:VK}{k f:Bool}(I:Inv X pins σ H s)(q:Q (.bl k) H)(e:k=f):EP X pins σ Q (.bool f) s:=by subst e;exact⟨.bl k,H,I,rfl,q⟩
theorem aaA:fX X (d_ .Lt) (Pq λi j=>.bl (decide (i<j))):=V3 λ_ _ _ _ _ _ _ q=>lt_int q
theorem Zu:fX X (d_ .LtE) (Pq λi j=>.bl (decide (i<=j))):=V3 λ_ _ _ _ _ _ _ q=>le_int q
theorem aar:fX X (d_ .Gt) (Pq λi j=>.bl (decide (j<i))):=V3 λ_ _ _ _ _ _ _ q=>gt_int q
theorem Uj:fX X (d_ .Is) (λx y H Q=>y=.non/\Q (.bl (decide (x=.non))) H):=by intro pins s σ H x y v u Q I e f h;obtain⟨rfl,q⟩:=h;cases f;refine is_none_gen (Hl I q ?_);cases x<;>first|(cases e;rfl)|(obtain⟨t,rfl⟩:=e;rfl)
theorem Oa:fX X (d_ .IsNot) (λx y H Q=>y=.non/\Q (.bl (!decide (x=.non))) H):=by intro pins s σ H x y v u Q I e f h;obtain⟨rfl,q⟩:=h;cases f;refine isnot_none_gen (Hl I q ?_);cases x<;>first|(cases e;rfl)|(obtain⟨t,rfl⟩:=e;rfl)
theorem af6{op:nh}{es:List df}{k:Nat}{p:Pos}(e:(op==CmpOp.In)=aK)(f:(op==oq)=aK):gi op (.Set es k p)=aK:=by show(k==0&&(op==CmpOp.In||op==oq)&&_)=aK;rw[e,f];cases(k==0)<;>rfl
theorem bF(b:df)(h:op≠.In:=by decide)(e:op≠.NotIn:=by decide):gi op b=aK:=by
 have f:(op==CmpOp.In)=aK:=by cases op<;>first|rfl|exact absurd rfl h
 have g:(op==oq)=aK:=by cases op<;>first|rfl|exact absurd rfl e
 cases b<;>first|rfl|exact af6 f g
theorem Oh{r:R2}(ho:fX X (d_ op) r)(e:PE X a ta)(f:PE X b tb)(g:gi op b=aK):PE X (.Compare a [op] [b] pos) (Pu r ta tb):=by intro pins s σ H Q I h;exact wpAny_Compare1 (Uv e f I h λv u s2 x y j k l m q=>ho pins s2 σ j x y v u Q k l m q) g
noncomputable def Zx(t:TE):TT:=λσ H Q=>t σ H λx e=>∃k,x=.bl k/\Q k e
theorem Cz{r:R2}(ho:fX X (d_ op) r)(f:PE X a ta)(g:PE X b tb)(j:gi op b=aK):PT X (.Compare a [op] [b] pos) (Zx (Pu r ta tb)):=by intro pins s σ H Q I h;refine qf (cB (f pins s σ H _ I h) λv s1⟨x,H1,I1,r1,q1⟩=>cB (g pins s1 σ H1 _ I1 q1) λu s2⟨y,H2,I2,r2,q2⟩=>cB (ho pins s2 σ H2 x y v u _ I2 r1 r2 q2) λc s3⟨z,H3,I3,r3,k,e,q3⟩=>?_) j;subst e;cases r3;exact fI ⟨H3,I3,q3⟩
noncomputable def Sh(r f:R2)(ta tb tc:TE):TE:=λσ H Q=>ta σ H λx g=>tb σ g λy j=>r x y j λz e=>∃k,z=.bl k/\(if k=a_ then tc σ e λl m=>f y l m Q else Q (.bl aK) e)
theorem Hu{f:nh}{r j:R2}(ho:fX X (d_ op) r)(g:fX X (d_ f) j)(l:PE X a ta)(m:PE X b tb)(hc:PE X c tc)(n:lastMarks [op,f] [b,c]=aK:=by with_unfolding_all rfl):PE X (.Compare a [op,f] [b,c] pos) (Sh r j ta tb tc):=by intro pins s σ H Q I h;refine Compare_chain (cB (l pins s σ H _ I h) λv s1⟨x,H1,I1,r1,q1⟩=>chain_link (cB (m pins s1 σ H1 _ I1 q1) λu s2⟨y,H2,I2,r2,q2⟩=>cB (ho pins s2 σ H2 x y v u _ I2 r1 r2 q2) λd s3⟨z,H3,I3,r3,k,e,q3⟩=>?_)) n;subst e;cases r3;refine fI ?_;cases k with|false=>exact ite_ff ⟨.bl aK,H3,I3,rfl,q3⟩|true=>exact ite_tt (chain_last (cB (hc pins s3 σ H3 _ I3 q3) λo s4⟨p,H4,I4,r4,q4⟩=>g pins s4 σ H4 y p u o Q I4 r2 r4 q4))
noncomputable def Zf(K:PySem.W.Frag)(x:V)(H:Hp)(k:Bool):Prop:=match x with|.non=>k=aK|.bl b=>k=b|.int i=>k=(i !=0)|.str y=>y.length<=sizeLine/\k=((y.length:Int)!=0)|.byt y=>y.size<=sizeLine/\k=((y.size:Int)!=0)|.ref p=>(∃xs,dJ K H p xs/\k=!xs.isEmpty)\/(∃xs,iB K H p xs/\k=!xs.isEmpty)\/∃kvs,H p=aj (.dK kvs)/\k=!kvs.isEmpty|_=>False
theorem BL{κ:Type}{kvs:List (κ×V)}{vs:List (κ×b_)}(r:KV kvs vs):(!vs.isEmpty)=!kvs.isEmpty:=by cases r<;>rfl
theorem tM{xs:List V}{e:List b_}(r:Vals xs e):(!e.toArray.isEmpty)=!xs.isEmpty:=by cases r<;>simp
theorem pg:(sizeLine:Nat)<2^63:=by rw[fi];decide
theorem RN:aeX X (λx H Q=>∃k,Zf X.K x H k/\Q k H):=by intro pins s σ H x v Q I j h;obtain⟨k,e,q⟩:=h;have B:=pg;have hs:sizeLine=16777216:=fi;cases x with|non=>cases j;have f:k=aK:=e;subst f;exact truthy_none ⟨H,I,q⟩|bl b=>cases j;have f:k=b:=e;subst f;exact fI ⟨H,I,q⟩|int i=>obtain⟨t,rfl⟩:=j;have f:k=(i !=0):=e;subst f;exact PySem.P.truthy_int ⟨H,I,q⟩|str y=>obtain⟨t,rfl⟩:=j;obtain⟨u,f⟩:y.length<=sizeLine/\k=((y.length:Int)!=0):=e;subst f;exact PySem.P.truthy_str (by omega) ⟨H,I.tok _,q⟩|byt y=>obtain⟨t,rfl⟩:=j;obtain⟨u,f⟩:y.size<=sizeLine/\k=((y.size:Int)!=0):=e;subst f;exact PySem.W.truthy_bytes (by omega) ⟨H,I.tok _,q⟩|ref p=>
   cases j;have f:(∃xs,dJ X.K H p xs/\k=!xs.isEmpty)\/(∃xs,iB X.K H p xs/\k=!xs.isEmpty)\/∃kvs,H p=aj (.dK kvs)/\k=!kvs.isEmpty:=e;rcases f with⟨xs,l,f⟩|⟨xs,l,f⟩|⟨kvs,l,f⟩;.subst f;obtain⟨n,r,o,hz⟩:=I.list l;have g:=r.length;exact wpAny_truthy_list o.isList (by simp only[cE];omega) ⟨H,I.tok _,by rw[tM r];exact q⟩
   .subst f;obtain⟨n,r,o,hz⟩:=I.tuple l;have g:=r.length;exact truthy_tuple o (by simp only[cE];omega) ⟨H,I.tok _,by rw[tM r];exact q⟩
   .subst f;obtain⟨hz,z,vs,r,m⟩:kvs.length<=sizeLine/\(p==gL)=aK/\∃vs,KV kvs vs/\s.heap.DictOf (bz X.prog X.w) p vs:=I.hok p _ l;have g:kvs.length=vs.length:=Paired.length r;exact wpAny_truthy_dict z m (by omega) ⟨H,I.tok _,by rw[BL r];exact q⟩|_=>exact(show False from e).elim
theorem BV:fX X (fS .Add) (λx y H Q=>∃i j,x=.str i/\y=.str j/\i.length+j.length<=sizeLine/\Q (.str (i++j)) H):=by intro pins s σ H x y v u Q I e f h;obtain⟨i,j,rfl,rfl,hz,q⟩:=h;obtain⟨t,rfl⟩:=e;obtain⟨t',rfl⟩:=f;exact add_str (λt' g=>⟨.str (i++j),H,I.tok _,⟨_,rfl⟩,q⟩) hz
theorem vals1{x:V}(r:Vals [x] us):∃u,us=[u]/\RelV x u:=by cases r with|cons r1 e=>cases e;exact⟨_,rfl,r1⟩
theorem vals2{x y:V}(r:Vals [x,y] us):∃u e,us=[u,e]/\RelV x u/\RelV y e:=by cases r with|cons r1 f=>cases f with|cons g j=>cases j;exact⟨_,_,rfl,r1,g⟩
theorem GX(hc:X.calm=a_):eO X (.builtin "max") (λxs H Q=>∃i j,xs=[.int i,.int j]/\Q (.int (if j>i then j else i)) H):=by
 intro pins s σ H xs us Q I r h;obtain⟨i,j,rfl,q⟩:=h;obtain⟨u,f,rfl,⟨t,rfl⟩,⟨t',rfl⟩⟩:=vals2 r;refine max_two_ints (I.ok.hd hc) λh' g k=>⟨_,H,I.kept k,?_,q⟩;by_cases e:j>i;.rw[if_pos e,if_pos e];exact⟨_,rfl⟩
 .rw[if_neg e,if_neg e];exact⟨_,rfl⟩
theorem FZ(hc:X.calm=a_):eO X (.builtin "min") (λxs H Q=>∃i j,xs=[.int i,.int j]/\Q (.int (if j<i then j else i)) H):=by
 intro pins s σ H xs us Q I r h;obtain⟨i,j,rfl,q⟩:=h;obtain⟨u,f,rfl,⟨t,rfl⟩,⟨t',rfl⟩⟩:=vals2 r;refine min_two_ints (I.ok.hd hc) λh' g k=>⟨_,H,I.kept k,?_,q⟩;by_cases e:j<i;.rw[if_pos e,if_pos e];exact⟨_,rfl⟩
 .rw[if_neg e,if_neg e];exact⟨_,rfl⟩
end
theorem p8.some_of{v:V}{o:Option b_}(r:p8 (aj v) o):∃u,o=aj u/\RelV v u:=by cases o with|none=>exact(show False from r).elim|some u=>exact⟨u,rfl,r⟩
structure jA(k:Nat)(A:fb):Prop where
 hd:A.handled=bx
 dp:A.depth+3*k+5<recursionLimit
 un:A.units+16*k+200<gc
theorem jA.deeper{k:Nat}{A:fb}(r:jA (k+1) A)(env:Env):jA k (A.deeper env):=⟨r.hd,by have:=r.dp;show A.depth+1+3*k+5<_;omega,by have:=r.un;show A.units+3+16*k+200<_;omega⟩
theorem jA.depth{k:Nat}{A:fb}(r:jA k A):A.depth<recursionLimit:=by have:=r.dp;omega
noncomputable def wI:TA:=λ_ H Q=>Q [] H
noncomputable def fW(a:TE)(b:TA):TA:=λσ H Q=>a σ H λx c=>b σ c λxs e=>Q (x::xs) e
section
variable{X:Cx}{e:df}{es:List df}{te:TE}{t:TA}{pos:Pos}
theorem cV:PA X [] wI:=λ_ _ _ _ H Q I h=>lx ⟨[],H,I,.nil,h⟩
theorem bf(a:PE X e te)(hr:PA X es t)(hs:cy (e::es) X.env=(aK,eB e X.env)::cy es X.env:=by rfl):PA X (e::es) (fW te t):=by intro pos pins s σ H Q I h;rw[hs];show cN _ _ (spliced ((aK,eB e X.env)::hX pos (cy es X.env))) _ _ s;refine ka (cB (a pins s σ H _ I h) λu s1⟨x,H1,I1,r1,q1⟩=>?_);exact cB (hr pos pins s1 σ H1 _ I1 q1) λus s2⟨xs,H2,I2,r2,q2⟩=>⟨x::xs,H2,I2,.cons r1 r2,q2⟩
noncomputable def afz(t:TA):TE:=λσ H Q=>t σ H λxs a=>xs.length<=sizeLine/\∀p,a p=bx->Q (.ref p) (upd a p (.tup xs))
noncomputable def Jh(t:TA):TE:=λσ H Q=>t σ H λxs a=>xs.length<=sizeLine/\∀p,a p=bx->Q (.ref p) (upd a p (.lst xs))
theorem Sv{x1}(h:PA X es t):PE X (.Tuple es x1 pos) (afz t):=by intro pins s σ H Q I a;refine wpAny_Tuple_spliced (cB (h pos pins s σ H _ I a) λus s1⟨xs,H1,I1,r,z,q⟩=>⟨by rw[<-r.length];exact z,?_⟩);have c:H1 s1.heap.objs.size=bx:=I1.hok.fresh (dm);refine⟨.ref s1.heap.objs.size,upd H1 s1.heap.objs.size (.tup xs),I1.laid (t':=s1.toks) (λb u e=>gU e) (dm) ?_,rfl,q _ c⟩;exact⟨z,us,r,⟨_,dA _ rfl,rfl,_,rfl⟩⟩
theorem Ce(h:PA X es t):PE X (.List es pos) (Jh t):=by intro pins s σ H Q I a;refine wpAny_List_spliced (cB (h pos pins s σ H _ I a) λus s1⟨xs,H1,I1,r,z,q⟩=>⟨by rw[<-r.length];exact z,?_⟩);have c:H1 s1.heap.objs.size=bx:=I1.hok.fresh (dm);refine⟨.ref s1.heap.objs.size,upd H1 s1.heap.objs.size (.lst xs),I1.laid (t':=s1.toks) (λb u e=>gU e) (dm) ?_,rfl,q _ c⟩;exact⟨z,us,0,r,dA _ rfl⟩
end
noncomputable abbrev Sp:=List V->Hp->VK->XK->Prop
noncomputable abbrev Kd:=List Env->Hp->cr->XK->b_->cr->Prop
structure Nb(P:dE)(w:eH)(K:PySem.W.Frag)(mg:Str->Option b_)(base:eP)(A:fb)(outer:List Env)(s:cr)(H:Hp):Prop where
 frames:A.frames=aj outer
 mod:Mod K mg base
 bs:∀b o,base.get? b=aj o->s.heap.get? b=aj o/\H b=bx
 Rv:base.objs.size<=s.heap.objs.size
 sS:s.heap.FunFrames base outer
 YF:∀b∈frs outer,H b=bx
 hok:oH P w H s.heap
 bare:lP s.gens
noncomputable def CE(outer:List Env)(P:dE)(w:eH)(H:Hp)(s:cr)(Q:VK)(u:b_)(a:cr):Prop:=∃v b,a.os=s.os/\lP a.gens/\Un (frs outer) [] H b s.heap a.heap/\oH P w b a.heap/\RelV v u/\Q v b
noncomputable def CR(CX:Kd)(outer:List Env)(P:dE)(w:eH)(H:Hp)(s:cr)(Q:VK)(E:XK)(r:Result)(a:cr):Prop:=match r with|.ok (.ret u)=>CE outer P w H s Q u a|.ok _=>False|.error e=>CX outer H s E e a
structure oX(P:dE)(w:eH)(K:PySem.W.Frag)(mg:Str->Option b_)(base:eP)(CX:Kd)(k:Nat)(f:cw)(fd:hP)(ps:List Str)(sp:Sp):Prop where
 len:∀vs H Q E,sp vs H Q E->vs.length=ps.length
 run:∀(A:fb)(outer:List Env)(s:cr)(H:Hp)(args:Args)(us:List b_)(vs:List V)(Q:VK)(E:XK),jA k A->Nb P w K mg base A outer s H->nE s fd args (ps.zip us)->Vals vs us->sp vs H Q E->k4 (c_ P w) A (.call (.ref f) args) (CR CX outer P w H s Q E) s
section
variable{X:Cx}{pins:List (cw×Obj)}{σ:St}{H:Hp}{s s':cr}
theorem Inv.env0(I:Inv X pins σ H s):Nb X.prog X.w X.K X.mg X.base X.A X.stack s H:=⟨I.ok.frames,I.ok.mod,I.bs,g_ I.ok.Rv I.sz,I.stack,I.Dg,I.hok,I.bare⟩
theorem Inv.after{Q:VK}{u:b_}(I:Inv X pins σ H s)(h:CE X.stack X.prog X.w H s Q u s'):EP X pins σ Q u s':=by obtain⟨v,c,os,bare,un,hok,r,q⟩:=h;obtain⟨e,g,d,t,a⟩:=s';obtain rfl:a=s.os:=os;exact⟨v,c,I.call (h':=e) (g':=g) (d':=d) (t':=t) (ch:=[]) un hok bare (λb z=>absurd z (by simp)),r,q⟩
end
noncomputable def yQ(sp:Sp)(a:List V)(E:XK)(t:TA):TE:=λσ H Q=>t σ H λvs b=>sp (vs++a) b Q E
noncomputable def Binds(K:PySem.W.Frag)(fd:hP)(ps:List Str)(ds:List b_):Prop:=∀(s:cr)(us:List b_),K.In s.heap->(us++ds).length=ps.length->nE s fd ⟨us,[]⟩ (ps.zip (us++ds))
theorem Binds.all{fd:hP}{ps:List Str}(h:∀us:List b_,us.length=ps.length->rb fd ⟨us,[]⟩=fm (ps.zip us)):Binds K fd ps []:=λs us _ a=>by rw[gE]at a ⊢;exact .of_eq (h us a)
noncomputable def Passes(CX:Kd)(X:Cx)(E:XK):Prop:=∀(pins:List (cw×Obj))(σ:St)(H:Hp)(s:cr)(e:b_)(a:cr),Inv X pins σ H s->CX X.stack H s E e a->X.xe e a
section
variable{X:Cx}{CX:Kd}{k:Nat}{f C:cw}{fd:hP}{ps:List Str}{sp:Sp}{Ry:List V}{ds:List b_}{E:XK}{x m:Str}{p pos apos:Pos}{e o:df}{es:List df}{ta:TE}{t:TA}
theorem T4{σ:St}{Q:VK}{vs:List V}(F:oX X.prog X.w X.K X.mg X.base CX k f fd ps sp)(hr:jA k X.A)(c:Binds X.K fd ps ds)(hd:Vals Ry ds)(g:Passes CX X E)(I:Inv X pins σ H s)(r:Vals vs us)(h:sp (vs++Ry) H Q E):cN (c_ X.prog X.w) X.A (call (.ref f) us) (EP X pins σ Q) X.xe s:=by
 have b:Vals (vs++Ry) (us++ds):=r.append hd;have j:(us++ds).length=ps.length:=by rw[<-b.length];exact F.len _ _ _ _ h
 refine wpAny_call (qa (F.run X.A X.stack s H ⟨us,[]⟩ (us++ds) (vs++Ry) Q E hr I.env0 (c s us I.Vv j) b h) λr l a=>?_);cases r with|error e=>exact g pins σ H s e l I a|ok fl=>cases fl with|ret u=>exact I.after a|next=>exact fv a|brk=>exact fv a|cont=>exact fv a
theorem wN(F:oX X.prog X.w X.K X.mg X.base CX k f fd ps sp)(hr:jA k X.A)(b:Gl X x)(c:X.mg x=aj (.ref f))(g:keepIn X.K (.ref f)=a_)(j:Binds X.K fd ps ds)(hd:Vals Ry ds)(l:Passes CX X E)(n:PA X (e::es) t)(a:(x==("__debug__":Str))=aK:=by decide)(he:cy (e::es) X.env=(aK,eB e X.env)::cy es X.env:=by rfl)(hpl:(hX pos (cy es X.env)).any (·.1)=aK:=by rfl):PE X (.Call (.Name x p) (e::es) [] pos) (yQ sp Ry E t):=by intro pins s σ H Q I h;refine l_ (Ot I b c ?_ a);refine PySem.W.callWith_K (h₀:=X.base) I.ok.mod.o7 g (cB (n pos pins s σ H _ I h) λus s1⟨vs,H1,I1,r,q⟩=>⟨I1.Vv,?_⟩) he hpl;exact T4 F hr j hd l I1 r q
end
structure aL(N P:List Str)(sc:ke):Prop where
 kind:sc.kind=.function:=by rfl
 co:sc.isCoroutine=aK:=by rfl
 gen:sc.isGenerator=aK:=by rfl
 nd:N.Nodup:=by decide+kernel
 pre:N.take P.length=P:=by rfl
 par:∀x∈P,sc.names.lookup x=aj .local\/sc.names.lookup x=aj .cell:=by decide+kernel
 WN:∀y∈sc.names,y.2≠.free:=by decide+kernel
theorem u9{kindOf:Str->Option kx}{x:Str}:∀{binds:List (Str×b_)}{m:Str->Option b_},(∀v,(x,v)∉binds)->o_ kindOf binds m x=m x
 |[],_,_=>rfl|(n,v)::r,m,h=>by
   unfold o_;rw[u9 λw a=>h w (dI _ a)];split
   . have:x≠n:=by rintro rfl;exact h v hU
     simp[this]
   .rfl
theorem vd{kindOf:Str->Option kx}{x:Str}:∀{binds:List (Str×b_)}{m:Str->Option b_},(∀v,(x,v)∉binds)->pc kindOf binds m x=m x
 |[],_,_=>rfl|(n,v)::r,m,h=>by
   unfold pc;rw[vd λw a=>h w (dI _ a)];split;.rfl
   . have:x≠n:=by rintro rfl;exact h v hU
     simp[this]
theorem vB{kindOf:Str->Option kx}{x:Str}{v:b_}:∀{P:List Str}{vs:List b_}{i:Nat}{m:Str->Option b_},P.Nodup->P[i]?=aj x->vs[i]?=aj v->kindOf x=aj .local->o_ kindOf (P.zip vs) m x=aj v|[],_,_,_,_,h,_,_=>by simp at h|_::_,[],_,_,_,_,h,_=>by simp at h|p::P,w::vs,0,m,nd,h1,a,b=>by simp at h1 a;subst h1;subst a;show o_ kindOf ((p,w)::P.zip vs) m p=_;unfold o_;rw[u9 λv c=>(eL.mp nd).1 (of_mem_zip c).1,if_pos b];simp|p::P,w::vs,i+1,m,nd,h1,a,b=>by show o_ kindOf ((p,w)::P.zip vs) m x=_;unfold o_;exact vB (i:=i) (eL.mp nd).2 (by simpa using h1) (by simpa using a) b
theorem uR{kindOf:Str->Option kx}{x:Str}{v:b_}:∀{P:List Str}{vs:List b_}{i:Nat}{m:Str->Option b_},P.Nodup->P[i]?=aj x->vs[i]?=aj v->kindOf x≠aj .local->pc kindOf (P.zip vs) m x=aj v|[],_,_,_,_,h,_,_=>by simp at h|_::_,[],_,_,_,_,h,_=>by simp at h|p::P,w::vs,0,m,nd,h1,a,b=>by simp at h1 a;subst h1;subst a;show pc kindOf ((p,w)::P.zip vs) m p=_;unfold pc;rw[vd λv c=>(eL.mp nd).1 (of_mem_zip c).1,if_neg b];simp|p::P,w::vs,i+1,m,nd,h1,a,b=>by show pc kindOf ((p,w)::P.zip vs) m x=_;unfold pc;exact uR (i:=i) (eL.mp nd).2 (by simpa using h1) (by simpa using a) b
noncomputable def start(N:List Str)(vs:List V):St:=vs.map aj++cx (N.length-vs.length) bx
noncomputable def Ci(CX:Kd)(P:dE)(w:eH)(K:PySem.W.Frag)(mg:Str->Option b_)(base:eP)(N:List Str)(qual:Str)(scope:ke)(f:cw)(b:b_)(A:fb)(outer:List Env)(s:cr)(H:Hp)(E:XK):Cx where prog:=P;w:=w;K:=K;mg:=mg;base:=base;A:=A.deeper (lm qual scope s.heap.objs.size f b);N:=N;s₀:=s;H₀:=H;env:=lm qual scope s.heap.objs.size f b;outer:=outer;stack:=lm qual scope s.heap.objs.size f b::outer;ex:=[];calm:=a_;fn:=λ_=>a_;pn:=[];xe:=λe c=>cN (c_ P w) (A.deeper (lm qual scope s.heap.objs.size f b)) (leaving (lm qual scope s.heap.objs.size f b) e) (λ_ a=>CX outer H s E e a) (λg a=>CX outer H s E g a) c
theorem yx{a:ke}{n:Nat}{x:Str}(h:a.names.lookup x=aj .cell):∃c,(kl n a.names []).lookup x=aj c:=by have q:=PySem.W.cellsFrom_some a.names n [] (.inl h);exact mI.mp q
theorem Gm{CX:Kd}{P:dE}{mg:Str->Option b_}{base:eP}{N ps:List Str}{qual:Str}{scope:ke}{f:cw}{t:b_}{outer:List Env}{s1:cr}{E:XK}{vs:List V}(S:aL N ps scope)(hd:A.handled=bx)(j:Nb P w K mg base A outer s H)(J:vs.length=ps.length)(r:Vals vs us)(x:InCallC s s.heap.objs.size (o_ (lm qual scope s.heap.objs.size f t).kindOf (ps.zip us) λ_=>bx) (kl (s.heap.objs.size+1) scope.names []) (pc (lm qual scope s.heap.objs.size f t).kindOf (ps.zip us) λ_=>bx) s1):Inv (Ci CX P w K mg base N qual scope f t A outer s H E) [] (start N vs) H s1:=by
 have hpl:ps.length<=N.length:=by have:=congrArg kR S.pre;rw[li]at this;omega
 obtain⟨h1,L,rfl,B⟩:=x.done;have l:∀b:cw,b∉(Ci CX P w K mg base N qual scope f t A outer s H E).ex:=λb z=>absurd (show b∈([]:List cw)from z) (by simp);refine⟨⟨j.mod,S.kind,rfl,rfl,dm,λy z c h1 g=>?_,λy hy=>?_,λy c _ h=>?_,λ_=>hd,Around.frames_deeper j.frames,.inr ⟨rfl,rfl⟩,λb z=>absurd z (l b),j.bs,j.Rv,λb _ _=>l b,λb z=>absurd z (l b),j.sS,j.YF⟩,rfl,j.bare,Un.kept B,⟨_,x.toInCall.ns,λi y v h1 g O=>?_⟩,λy c h=>⟨_,x.cell y c h⟩,j.hok.fresh (dm),λy c h=>?_,λp m=>absurd (show p∈([]:List (cw×Obj))from m) (by simp),j.hok.kept B,?_⟩;.exact name_of_addr x.apart (PySem.mem_of_lookup h1) (PySem.mem_of_lookup g)
 . have hy:scope.names.lookup y=aj .cell\/scope.names.lookup y=aj .free:=hy;rcases hy with hy|hy;.exact yx hy
   .exact absurd rfl (S.WN _ (PySem.mem_of_lookup hy))
 .exact lj (x.above y c (PySem.mem_of_lookup h))
 . have hi:i<vs.length:=by
    unfold start at g;by_cases hi:i<vs.length;.exact hi
    .rw[fw (by simpa using hi)]at g;rw[ip]at g;split at g<;>cases g
   have G:vs[i]?=aj v:=by unfold start at g;rw[dP (by simpa using hi),eM]at g;cases e:vs[i]?with|none=>rw[e]at g;cases g|some a=>rw[e]at g;cases g;rfl
   obtain⟨u,C,I⟩:=r.get G;have m:ps[i]?=aj y:=by rw[<-S.pre,List.getElem?_take_of_lt (by omega)];exact h1
   have o:ps.Nodup:=by rw[<-S.pre];exact S.nd.sublist (List.take_sublist _ _)
   refine⟨u,I,?_⟩;rcases S.par y (dV m)with k|k;.exact .inl ⟨k,vB o m C k⟩
   .obtain⟨c,e⟩:=yx (n:=s.heap.objs.size+1) k;refine .inr ⟨.inl k,c,e,?_⟩;have q:=x.cell y c e;rw[uR o m C (by show scope.names.lookup y≠_;rw[k];decide)]at q;exact q
 .exact j.hok.fresh (lj (x.above y c (PySem.mem_of_lookup h)))
 .unfold start;show _=N.length;rw[ek,dQ,oj];omega
theorem aaN{CX:Kd}{P:dE}{w:eH}{K:PySem.W.Frag}{mg:Str->Option b_}{base:eP}{k:Nat}{f:cw}{name qual:Str}{a:Arguments}{body:List eK}{scope:ke}{L kV m O cdv ct oc:b_}{U Z:Option cw}{z:Array (Option b_)}{N ps:List Str}{sp:Sp}(lk:K.lookup f=aj ⟨oc,Z,.func (PySem.W.fnOf name qual a body scope L kV m O U cdv ct),z⟩)(B:PySem.W.codeIn K cdv qual=a_)(S:aL N ps scope)(len:∀vs H Q E,sp vs H Q E->vs.length=ps.length)(j:∀(A:fb)(outer:List Env)(s:cr)(H:Hp)(vs:List V)(Q:VK)(E:XK),jA k (A.deeper (lm qual scope s.heap.objs.size f cdv))->sp vs H Q E->∃t,yM (Ci CX P w K mg base N qual scope f cdv A outer s H E) body t/\t {nx:=λ_ g=>Q .non g,rt:=Q} (start N vs) H):oX P w K mg base CX (k+1) f (PySem.W.fnOf name qual a body scope L kV m O U cdv ct) ps sp:=by
 refine⟨len,λA outer s H args us vs Q E hr p hb r hsp=>?_⟩;have hl:=len _ _ _ _ hsp;have Y:K.In s.heap:=p.mod.o7.keeps λb o e=>(p.bs b o e).1;have lim:s.heap.NoLimit:=p.mod.nolimit.keeps λb o e=>(p.bs b o e).1;have l:∀y∈ps.zip us,scope.names.lookup y.1=aj .local\/(scope.names.lookup y.1=aj .cell/\((kl (s.heap.objs.size+1) scope.names []).lookup y.1).isSome=a_):=λ⟨n,v⟩hy=>by
  rcases S.par n (of_mem_zip hy).1 with q|q;.exact .inl q
  .exact .inr ⟨q,PySem.W.cellsFrom_some _ _ _ (.inl q)⟩
 refine codeAny_call_function hr.depth (Y _ _ lk) rfl S.co S.gen rfl (PySem.W.codeRec_of Y B) (hb _ _ _ _ ?_);refine wpAny_newFunctionEnv_cells S.kind l λenv he s1 x=>?_;subst he;refine⟨lim.keeps x.toInCall.keep,codeAny_func ?_⟩;obtain⟨t,ht,hq⟩:=j A outer s H vs Q E (hr.deeper _) hsp;have I:Inv (Ci CX P w K mg base N qual scope f cdv A outer s H E) [] (start N vs) H s1:=Gm S hr.hd p hl r x;refine ew (ht [] s1 (start N vs) H _ I hq) (λfl C hs=>?_) λe C hs=>hs;have fin:∀{c:St}{g:Hp}{v:V}{u:b_},Inv (Ci CX P w K mg base N qual scope f cdv A outer s H E) [] c g C->RelV v u->Q v g->CE outer P w H s Q u C:=λ{c g v u}J G q=>⟨v,g,J.os,J.bare,J.base,J.hok,G,q⟩;cases fl with|ret u=>obtain⟨v,c,g,J,G,q⟩:=hs;exact fin J G q|next=>obtain⟨c,g,J,q⟩:=hs;exact fin (v:=V.non) (u:=eN) J rfl q|brk=>obtain⟨_,_,_,q⟩:=hs;exact fv q|cont=>obtain⟨_,_,_,q⟩:=hs;exact fv q
section
variable{X:Cx}{x:Str}{p pos:Pos}{e:df}{es:List df}{t:TA}{id T:String}{r:List V->Hp->VK->Prop}
noncomputable def tCB(r:List V->Hp->VK->Prop)(t:TA):TE:=λσ H Q=>t σ H λvs a=>r vs a Q
theorem fC(hc:eO X (.builtin id) r)(b:Gl X x)(c:X.mg x=bx)(f:fe x=aj (.builtin id))(g:PA X (e::es) t)(j:x≠"__name__":=by decide)(a:(x==("__debug__":Str))=aK:=by decide)(he:cy (e::es) X.env=(aK,eB e X.env)::cy es X.env:=by rfl)(hpl:(hX pos (cy es X.env)).any (·.1)=aK:=by rfl):PE X (.Call (.Name x p) (e::es) [] pos) (tCB r t):=by intro pins s σ H Q I h;refine l_ (jW I b c f ?_ j a);exact PyProof.Rows.callWith_builtin1 (cB (g pos pins s σ H _ I h) λus s1⟨vs,H1,I1,r1,q1⟩=>hc pins s1 σ H1 vs us Q I1 r1 q1) he hpl
theorem pq(hc:eO X (.type T) r)(b:Gl X x)(c:X.mg x=bx)(f:fe x=aj (.type T))(g:PA X (e::es) t)(j:x≠"__name__":=by decide)(a:(x==("__debug__":Str))=aK:=by decide)(he:cy (e::es) X.env=(aK,eB e X.env)::cy es X.env:=by rfl)(hpl:(hX pos (cy es X.env)).any (·.1)=aK:=by rfl):PE X (.Call (.Name x p) (e::es) [] pos) (tCB r t):=by intro pins s σ H Q I h;refine l_ (jW I b c f ?_ j a);exact fo (cB (g pos pins s σ H _ I h) λus s1⟨vs,H1,I1,r1,q1⟩=>hc pins s1 σ H1 vs us Q I1 r1 q1) he hpl
end
end _L
namespace _U
open PySem PyProof.Rows
section
variable{prog:dE}{w:eH}{A:fb}{E:b_->cr->Prop}{s:cr}
theorem NT{t b:cw}{vs ws:List b_}{Q:b_->cr->Prop}(ht:pf s.heap t vs.toArray)(o:pf s.heap b ws.toArray)(j:vs≠[])(h1:ws=[]->Q (.ref t) s)(p:ws≠[]->Q (.ref s.heap.objs.size) {s with heap:=s.heap.push {cls:=.type "tuple",data:=.seq (vs++ws).toArray}})(hsz:vs.length+ws.length<=sizeLine):cN (c_ prog w) A (fS .Add (.ref t) (.ref b)) Q E s:=by
 obtain⟨⟨cls,k,data,sl⟩,ho,hc,n,hd⟩:=id ht;obtain⟨⟨l,c,data2,f⟩,a,g,m,h⟩:=id o;simp only at hc hd g h;subst hc hd g h;have e:vs.toArray++ws.toArray=(vs++ws).toArray:=by simp
 by_cases i:ws=[];.exact mx ⟨_,ho,rfl⟩ ⟨_,a,rfl⟩ mT oD slot_tuple_add entry_tuple_add (args_tuple_add_2 _ _) (tuple_addW1 t b vs.toArray ws.toArray n m k c sl f (by simpa using j) (by simp[i])) ⟨ho,a,h1 i⟩
 .refine mx ⟨_,ho,rfl⟩ ⟨_,a,rfl⟩ mT oD slot_tuple_add entry_tuple_add (args_tuple_add_2 _ _) (tuple_addW2 t b vs.toArray ws.toArray n m k c sl f (by simpa using j) (by simpa using i) (by rw[cE,cE];exact hsz)) ⟨ho,a,?_⟩;rw[e];exact p i
noncomputable def dO(n d:Nat):Option Int->Nat|none=>d|some v=>if v<0 then(v+(n:Int)).toNat else min v.toNat n
theorem Vz(n d:Nat)(hd:d<=n)(o:Option Int):dO n d o<=n:=by cases o with|none=>exact hd|some v=>
   show(if v<0 then(v+(n:Int)).toNat else min v.toNat n)<=n;by_cases a:v<0;.rw[if_pos a];omega
   .rw[if_neg a];exact Nat.min_le_right _ _
theorem Er(v:Int)(n d:Nat):(if v<0 then max (v+(n:Int)) 0 else min v (n:Int))=((dO n d (aj v):Nat):Int):=by
 show(if v<0 then max (v+(n:Int)) 0 else min v (n:Int))=(((if v<0 then(v+(n:Int)).toNat else min v.toNat n):Nat):Int);by_cases a:v<0;.simp only[if_pos a];omega
 .simp only[if_neg a];omega
theorem Ao(lo hi:Option Int)(n:Nat):qq lo hi 1 (n:Int)=(((dO n 0 lo:Nat):Int),((dO n n hi:Nat):Int)):=by
 have h1:¬((1:Int)<0):=by omega
 unfold qq;simp only[h1,if_false];refine Prod.ext ?_ ?_;.cases lo with|none=>rfl|some v=>exact Er v n 0
 .cases hi with|none=>rfl|some v=>exact Er v n n
theorem Ah(i j:Nat):m_ (i:Int) (j:Int) 1=j-i:=by
 unfold m_;have h1:(1:Int)>0:=by omega
 simp only[h1,if_true,Int.ediv_one];split<;>omega
theorem sr{v:b_}{o:Option Int}{Q:Option Int->cr->Prop}(p:ls v o)(h:Q o s):cN (c_ prog w) A (Builtin.Slice.slicePartIndex v) Q E s:=by cases p with|none=>exact slicePart_none h|int i t=>exact slicePart_int h
theorem iM{sl:cw}{c e:b_}{lo hi:Option Int}{n:Nat}{Q:Int×Int×Nat->cr->Prop}(hs:s.heap.IsSliceOf sl c e .none)(f:ls c lo)(g:ls e hi)(h:Q (((dO n 0 lo:Nat):Int),1,dO n n hi-dO n 0 lo) s):cN (c_ prog w) A (sliceApplied (.ref sl) (fm (n:Int))) Q E s:=by obtain⟨os,a,i,b⟩:=id hs;unfold sliceApplied Builtin.Slice.sliceFields;refine ce (ce (jq a b (x:=c) rfl (ce (jq a b (x:=e) rfl (ce (jq a b (x:=.none) rfl (cK ?_)))))));refine ce (slicePart_none ?_);show cN _ _ (if((1:Int)==0)=a_ then _ else _) _ _ s;rw[if_neg (by decide)];refine ce (sr f (ce (sr g (ce (cK ?_)))));show cN _ _ (match qq lo hi 1 (n:Int)with|(lo,hi)=>fm (lo,(1:Int),m_ lo hi 1)) _ _ s;rw[Ao lo hi n];show cN _ _ (fm (((dO n 0 lo:Nat):Int),(1:Int),m_ ((dO n 0 lo:Nat):Int) ((dO n n hi:Nat):Int) 1)) _ _ s;rw[Ah];exact cK h
theorem KN(xs:Array b_)(i k:Nat):((dr k).filterMap λ(m:Nat)=>xs[((i:Int)+(m:Int)*1).toNat]?).toArray=((xs.toList.drop i).take k).toArray:=by
 have e:(λ(m:Nat)=>xs[((i:Int)+(m:Int)*1).toNat]?)=λm=>xs[i+m]?:=by
  funext m;have:((i:Int)+(m:Int)*1).toNat=i+m:=by omega
  rw[this]
 rw[e];have:=pick_run xs i k;rw[List.filterMap_map]at this;have a:((λx=>xs[x]?)∘ λx=>i+x)=λm=>xs[i+m]?:=rfl;rw[a]at this;rw[this]
theorem mU{t sl:cw}{items:Array b_}{g i:b_}{lo hi:Option Int}{Q:b_->cr->Prop}(ht:pf s.heap t items)(hs:s.heap.IsSliceOf sl g i .none)(j:ls g lo)(k:ls i hi)(l:¬(dO items.size 0 lo=0/\dO items.size items.size hi=items.size))(h:Q (.ref s.heap.objs.size) {s with heap:=s.heap.push {cls:=.type "tuple",data:=.seq ((items.toList.drop (dO items.size 0 lo)).take (dO items.size items.size hi-dO items.size 0 lo)).toArray}})(hsz:items.size<=sizeLine):cN (c_ prog w) A (kf (.ref t) (.ref sl)) Q E s:=by
 have a:sizeOk (.seq ((items.toList.drop (dO items.size 0 lo)).take (dO items.size items.size hi-dO items.size 0 lo)).toArray):=by show((items.toList.drop (dO items.size 0 lo)).take (dO items.size items.size hi-dO items.size 0 lo)).toArray.size<=sizeLine;rw[cE,li,List.length_drop,jp];omega
 have o:dO items.size items.size hi<=items.size:=Vz _ _ (dm) hi;obtain⟨os,b,c,n⟩:=id hs;have e:s.TypeIs (.ref sl) "slice":=⟨os,b,c⟩;unfold kf;try with_reducible refine hQ ?_
 first|refine ce (cK ?_)|skip
 refine ce (wpAny_sequenceKey ht.typeIs (by decide) ?_);refine ce (iS (name:=kH "__getitem__") ht.typeIs ic (i8 ic ht.typeIs entry_tuple_getitem ?_ (args_tuple_getitem _ _)));show cN _ _ (tupleItemsOf (.ref t)>>=_) _ _ s;refine ce (tupleItemsOf_ ht ?_);refine ce (kU e ?_);rw[if_pos (by decide)];refine ce (iM hs j k ?_);have f:¬((((dO items.size 0 lo:Nat):Int)==0&&(1:Int)==1&&(dO items.size items.size hi-dO items.size 0 lo)==items.size)=a_):=by intro q;rw[eW,eW]at q;have p:((dO items.size 0 lo:Nat):Int)=0:=eq_of_beq q.1.1;have r:dO items.size items.size hi-dO items.size 0 lo=items.size:=eq_of_beq q.2;exact l ⟨by omega,by omega⟩
 show cN _ _ (if(((dO items.size 0 lo:Nat):Int)==0&&(1:Int)==1&&(dO items.size items.size hi-dO items.size 0 lo)==items.size)=a_ then _ else _) _ _ s;rw[if_neg f,KN];first|exact ce (m:=i9 _) (eA (cK ⟨_,rfl,cK h⟩) a)|exact ce (m:=i9 _) (eA (ce (cK (cK ⟨_,rfl,cK h⟩))) a)|exact ce (ce (m:=i9 _) (eA (cK (cK ⟨_,rfl,cK h⟩)) a))|exact ce (ce (m:=i9 _) (eA (cK ⟨_,rfl,cK h⟩) a))
end
end _U
namespace _L
open PySem Spec PyProof.Rows
variable{n:Nat}{s:cr}{x:V}
noncomputable abbrev TO:=St->Hp->(Option Int->Hp->Prop)->Prop
noncomputable def PO(X:Cx)(e:Option df)(t:TO):Prop:=∀(a:List (cw × Obj))(s:cr)(σ:St)(H:Hp)(Q:Option Int->Hp->Prop),Inv X a σ H s->t σ H Q->cN (c_ X.prog X.w) X.A (evalPart e X.env) (λu c=>∃o b,Inv X a σ b c/\ls u o/\Q o b) X.xe s
noncomputable def Nt:TO:=λ_ H Q=>Q bx H
noncomputable def aad(t:TE):TO:=λσ H Q=>t σ H λx a=>∃i,x=.int i/\Q (aj i) a
section
variable{X:Cx}{e:df}{te:TE}{lo hi:Option df}{tl th:TO}{pos p2:Pos}
theorem Ph:PO X bx Nt:=by intro a s σ H Q I h;rw[evalPart_none];exact cK ⟨bx,H,I,.none,h⟩
theorem M3(h:PE X e te):PO X (aj e) (aad te):=by intro a s σ H Q I b;rw[evalPart_some];refine cB (h a s σ H _ I b) λu s1⟨x,H1,I1,r1,q1⟩=>?_;obtain⟨i,rfl,q⟩:=q1;obtain⟨t,rfl⟩:=r1;exact⟨aj i,H1,I1,.int i t,q⟩
noncomputable def SlR(X:Cx)(r:V->Option Int->Option Int->Hp->VK->Prop):Prop:=∀(a:List (cw × Obj))(s:cr)(σ:St)(H:Hp)(x:V)(v b c:b_)(lo hi:Option Int)(sl:cw)(Q:VK),Inv X a σ H s->RelV x v->s.heap.IsSliceOf sl b c .none->ls b lo->ls c hi->r x lo hi H Q->∃T id,nL (.type T) "__getitem__"=fm (aj (.builtin id))/\s.TypeIs v T/\cN (c_ X.prog X.w) X.A (kf v (.ref sl)) (EP X a σ Q) X.xe s
noncomputable def tSl(r:V->Option Int->Option Int->Hp->VK->Prop)(te:TE)(tl th:TO):TE:=λσ H Q=>te σ H λx a=>tl σ a λl b=>th σ b λu c=>r x l u c Q
theorem zJ{r:V->Option Int->Option Int->Hp->VK->Prop}(hr:SlR X r)(he:PE X e te)(g:PO X lo tl)(i:PO X hi th):PE X (.Subscript e (.Slice lo hi bx p2) pos) (tSl r te tl th):=by intro a s σ H Q I h;refine Subscript_ (cB (he a s σ H _ I h) λv s1⟨x,H1,I1,r1,q1⟩=>?_);refine wpAny_Slice (cB (g a s1 σ H1 _ I1 q1) λc s2⟨l,H2,I2,pl,q2⟩=>cB (i a s2 σ H2 _ I2 q2) λf s3⟨u,H3,I3,pu,q3⟩=>?_);rw[evalPart_none];refine cK ?_;have j:Inv X a σ H3 {s3 with heap:=s3.heap.push {cls:=.type "slice",data:=.fields #[c,f,.none]}}:=I3.kept (t':=s3.toks) λb o q=>gU q;obtain⟨T,id,k,ht,m⟩:=hr a {s3 with heap:=s3.heap.push {cls:=.type "slice",data:=.fields #[c,f,.none]}} σ H3 x v c f l u s3.heap.objs.size Q j r1 (Heap.IsSliceOf.new ..) pl pu q3;show cN (c_ X.prog X.w) X.A (oC e (.Slice lo hi bx p2) v (.ref s3.heap.objs.size)) (EP X a σ Q) X.xe {s3 with heap:=s3.heap.push {cls:=.type "slice",data:=.fields #[c,f,.none]}};exact tail_any (ops:=[.ref s3.heap.objs.size,v]) ht k m (by with_unfolding_all rfl)
noncomputable def yd(xs:List V)(lo hi:Option Int):List V:=(xs.drop (_U.dO xs.length 0 lo)).take (_U.dO xs.length xs.length hi-_U.dO xs.length 0 lo)
theorem pW(xs:List V)(lo hi:Option Int):(yd xs lo hi).length<=xs.length:=by unfold yd;rw[li,List.length_drop];omega
noncomputable def afQ(K:PySem.W.Frag):V->Option Int->Option Int->Hp->VK->Prop:=λx lo hi H Q=>∃a xs,x=.ref a/\iB K H a xs/\¬(_U.dO xs.length 0 lo=0/\_U.dO xs.length xs.length hi=xs.length)/\∀p,H p=bx->Q (.ref p) (upd H p (.tup (yd xs lo hi)))
theorem Vs:SlR X (afQ X.K):=by
 intro g s σ H x v p t lo hi sl Q I i hs j k h;obtain⟨a,xs,rfl,l,m,q⟩:=h;cases i;obtain⟨f,r,ht,hz⟩:=I.tuple l;have c:f.toArray.size=xs.length:=by rw[cE];exact r.length.symm
 refine⟨"tuple",_,ic.lookup,ht.typeIs,?_⟩;refine _U.mU ht hs j k (by rw[c];exact m) ?_ (by rw[c];exact hz);rw[c];refine⟨.ref s.heap.objs.size,_,I.laid (t':=s.toks) (o:=.tup (yd xs lo hi)) (λb u q=>gU q) (dm) ?_,rfl,q _ (I.hok.fresh (dm))⟩;exact⟨g_ (pW xs lo hi) hz,_,(r.drop (_U.dO xs.length 0 lo)).take (_U.dO xs.length xs.length hi-_U.dO xs.length 0 lo),kS _ _⟩
noncomputable def aaf(K:PySem.W.Frag):R2:=λx y H Q=>∃a b xs ys,x=.ref a/\y=.ref b/\iB K H a xs/\iB K H b ys/\xs≠[]/\xs.length+ys.length<=sizeLine/\(ys=[]->Q (.ref a) H)/\(ys≠[]->∀p,H p=bx->Q (.ref p) (upd H p (.tup (xs++ys))))
theorem Vals.qM{xs:List V}{a:List b_}(r:Vals xs a):a=[]↔xs=[]:=by cases r with|nil=>simp|cons _ _=>simp
theorem Ni:fX X (fS .Add) (aaf X.K):=by intro f s σ H x y v u Q I i j h;obtain⟨a,b,xs,ys,rfl,rfl,k,l,m,hz,p,r⟩:=h;cases i;cases j;obtain⟨t,r1,p1,_⟩:=I.tuple k;obtain⟨g,c,p2,_⟩:=I.tuple l;refine _U.NT p1 p2 (λz=>m (r1.qM.mp z)) (λz=>⟨.ref a,H,I,rfl,p (c.qM.mp z)⟩) (λz=>?_) (by rw[<-r1.length,<-c.length];exact hz);refine⟨.ref s.heap.objs.size,_,I.laid (t':=s.toks) (o:=.tup (xs++ys)) (λb A q=>gU q) (dm) ?_,rfl,r (λw=>z (c.qM.mpr w)) _ (I.hok.fresh (dm))⟩;exact⟨by rw[ek];exact hz,_,r1.append c,kS _ _⟩
end
noncomputable def ir(n:Nat)(i:Int):Option Nat:=if 0<=i then(if i<n then aj i.toNat else bx)else if-(n:Int)<=i then aj (i+n).toNat else bx
noncomputable def Hf{a:Type}(xs:List a)(i:Int):Option a:=(ir xs.length i).bind λj=>xs[j]?
theorem qN{i:Int}{j:Nat}(h:ir n i=aj j):mS i n=aj j/\j<n/\-(n:Int)<=i/\i<n:=by
 unfold ir at h;by_cases h0:0<=i
 . rw[if_pos h0]at h;by_cases h1:i<n;.rw[if_pos h1]at h;have e:i.toNat=j:=eI h;exact⟨by rw[ng h0 h1,e],by omega,by omega,h1⟩
   .rw[if_neg h1]at h;cases h
 . rw[if_neg h0]at h;by_cases h1:-(n:Int)<=i;.rw[if_pos h1]at h;have e:(i+n).toNat=j:=eI h;exact⟨by rw[mr (by omega) h1,e],by omega,h1,by omega⟩
   .rw[if_neg h1]at h;cases h
theorem wu{a:Type}{xs:List a}{i:Int}{v:a}(h:Hf xs i=aj v):∃j,mS i xs.length=aj j/\xs[j]?=aj v/\j<xs.length/\-(xs.length:Int)<=i/\i<xs.length:=by unfold Hf at h;cases e:ir xs.length i with|none=>rw[e]at h;cases h|some j=>rw[e]at h;obtain⟨h1,b,c,f⟩:=qN e;exact⟨j,h1,h,b,c,f⟩
noncomputable def xM(b:df):Prop:=∀o i,m4 b aK o i=operate [o,i] (kf o i)
noncomputable def IxR(X:Cx)(r:R2):Prop:=∀(b slice:df)(a:List (cw × Obj))(s:cr)(σ:St)(H:Hp)(x y:V)(v u:b_)(Q:VK),Inv X a σ H s->RelV x v->RelV y u->r x y H Q->m4 slice aK v u=operate [v,u] (kf v u)->cN (c_ X.prog X.w) X.A (oC b slice v u) (EP X a σ Q) X.xe s
noncomputable def MtR(X:Cx)(id:String)(r:V->List V->Hp->VK->Prop):Prop:=∀(a:List (cw × Obj))(s:cr)(σ:St)(H:Hp)(x:V)(xs:List V)(v:b_)(b:List b_)(Q:VK),Inv X a σ H s->RelV x v->Vals xs b->r x xs H Q->cN (c_ X.prog X.w) X.A (call (.builtin id) (v::b)) (EP X a σ Q) X.xe s
section
variable{X:Cx}{a b:df}{ta tb:TE}{pos:Pos}
theorem JW{r:R2}(hr:IxR X r)(e:PE X a ta)(f:PE X b tb)(hs:xM b):PE X (.Subscript a b pos) (Pu r ta tb):=by intro c s σ H Q I h;exact Subscript_ (Uv e f I h λv u s2 x y g i j k q=>hr a b c s2 σ g x y v u Q i j k q (hs _ _))
noncomputable def Pj(K:PySem.W.Frag):R2:=λx y H Q=>∃p xs i v,x=.ref p/\y=.int i/\dJ K H p xs/\Hf xs i=aj v/\Q v H
noncomputable def afP(K:PySem.W.Frag):R2:=λx y H Q=>∃p xs i v,x=.ref p/\y=.int i/\iB K H p xs/\Hf xs i=aj v/\Q v H
theorem xH:IxR X (Pj X.K):=by
 intro e slice c s σ H x y v u Q I m o h hs;obtain⟨p,xs,i,z,rfl,rfl,A,he,q⟩:=h;cases m;obtain⟨t,rfl⟩:=o;obtain⟨f,r,g,hz⟩:=I.list A;obtain⟨j,h1,B,M,C,E⟩:=wu he;obtain⟨w,l,G⟩:=r.get B;have J:=r.length;have N:=pg;have fin:EP X c σ Q w s:=⟨z,H,I,G,q⟩;by_cases h0:0<=i
 . have k:i.toNat=j:=by rw[ng h0 E]at h1;exact eI h1
   exact item_listR g.isList h0 (by omega) (by rw[k];simpa using l) fin hs
 . have k:(i+(f.toArray.size:Int)).toNat=j:=by rw[mr (by omega) C]at h1;rw[cE,<-J];exact eI h1
   exact pV (x:=w) g.isList.typeIs slot_list_getitem.lookup (pS (Q:=λr L=>r=w/\EP X c σ Q r L) g.isList (by omega) (by rw[cE]<;>omega) (by omega) (by rw[k];simpa using l) ⟨rfl,fin⟩) hs
theorem Up:IxR X (afP X.K):=by intro e slice c s σ H x y v u Q I g k h hs;obtain⟨p,xs,i,z,rfl,rfl,l,he,q⟩:=h;cases g;obtain⟨t,rfl⟩:=k;obtain⟨m,r,f,hz⟩:=I.tuple l;obtain⟨j,h1,o,G,J,L⟩:=wu he;obtain⟨w,A,B⟩:=r.get o;have C:=r.length;have M:=pg;have fin:EP X c σ Q w s:=⟨z,H,I,B,q⟩;exact pV (x:=w) f.typeIs slot_tuple_getitem.lookup (getItem_tuple (j:=j) (Q:=λr E=>r=w/\EP X c σ Q r E) f (by omega) (by omega) (by rw[cE,<-C];exact h1) (by simpa using A) ⟨rfl,fin⟩) hs
theorem Bf(c:List b_)(n j:Nat)(u:b_):gf (·.setIfInBounds j u) {cls:=.type "list",data:=.seq c.toArray n}={cls:=.type "list",data:=.seq (c.set j u).toArray n}:=by simp[gf]
theorem Inv.lst{f:List (cw×Obj)}{σ:St}{H:Hp}{s:cr}{p:cw}{xs:List V}(I:Inv X f σ H s)(h:H p=aj (.lst xs)):∃(c:List b_)(n:Nat),Vals xs c/\s.heap.get? p=aj {cls:=.type "list",data:=.seq c.toArray n}/\xs.length<=sizeLine:=by obtain⟨z,c,n,r,e⟩:=I.hok p _ h;exact⟨c,n,r,e,z⟩
theorem Inv.Ud{c:List (cw×Obj)}{σ:St}{H:Hp}{s:cr}{p:cw}{xs ys:List V}{g its':List b_}{n i:Nat}{f:Obj->Obj}(I:Inv X c σ H s)(h:H p=aj (.lst xs))(ho:s.heap.get? p=aj {cls:=.type "list",data:=.seq g.toArray n})(j:f {cls:=.type "list",data:=.seq g.toArray n}={cls:=.type "list",data:=.seq its'.toArray i})(r:Vals ys its')(hz:ys.length<=sizeLine)(t:Nat):Inv X c σ (upd H p (.lst ys)) {s with heap:=s.heap.update p f,toks:=t}:=by
 have e:(s.heap.update p f).get? p=aj {cls:=.type "list",data:=.seq its'.toArray i}:=by rw[iX f ho (by rw[j]<;>rfl),j]
 refine I.write (x:=p) (e:=p) (by rw[h];trivial) (.inl rfl) (λb u k q=>(hY _ _ (gu k)).trans q) ⟨_,e⟩ ?_;exact⟨hz,its',i,r,e⟩
noncomputable def Zt:V->V->V->Hp->(Hp->Prop)->Prop:=λo i v H Q=>∃p xs k j,o=.ref p/\i=.int k/\H p=aj (.lst xs)/\ir xs.length k=aj j/\Q (upd H p (.lst (xs.set j v)))
theorem set_list:RZ X Zt:=by
 intro c s σ H o i v E iv u Q I z A B h;obtain⟨p,xs,k,j,rfl,rfl,l,C,q⟩:=h;cases z;obtain⟨t,rfl⟩:=A;obtain⟨e,n,r,ho,hz⟩:=I.lst l;obtain⟨h1,G,m,w⟩:=qN C;have f:=r.length;have J:=pg;have y:Inv X c σ (upd H p (.lst (xs.set j v))) {s with heap:=s.heap.update p (gf (·.setIfInBounds j u))}:=I.Ud l ho (Bf e n j u) (r.set B j) (by rw[List.length_set];exact hz) s.toks;by_cases h0:0<=k
 . have g:k.toNat=j:=by rw[ng h0 w]at h1;exact eI h1
   exact PySem.W.ki_setAt ho h0 (by omega) (by rw[cE,<-f];exact w) (by rw[g];exact⟨_,y,q⟩)
 . have g:(k+(e.toArray.size:Int)).toNat=j:=by rw[mr (by omega) m]at h1;rw[cE,<-f];exact eI h1
   exact PySem.W.ki_setBack ho (by omega) (by rw[cE,<-f];exact m) (by omega) (by rw[g];exact⟨_,y,q⟩)
theorem wU(lo hi:Option Int)(n:Nat):(jv lo hi bx n).1=((_U.dO n 0 lo:Nat):Int)/\(jv lo hi bx n).2.1=((_U.dO n n hi:Nat):Int)/\(jv lo hi bx n).2.2=1:=by
 refine⟨?_,?_,rfl⟩;.cases lo with|none=>simp[jv,_U.dO]|some i=>
     simp only[jv,_U.dO,getD_none,show(1:Int)>0 by decide,if_true];by_cases h:i<0;.simp only[h,if_true]<;>omega
     .simp only[h,if_false]<;>omega
 .cases hi with|none=>simp[jv,_U.dO]|some i=>
     simp only[jv,_U.dO,getD_none,show(1:Int)>0 by decide,if_true];by_cases h:i<0;.simp only[h,if_true]<;>omega
     .simp only[h,if_false]<;>omega
theorem uv(c:List b_)(lo hi:Option Int):slicePick c.toArray lo hi bx=((c.drop (_U.dO c.length 0 lo)).take (_U.dO c.length c.length hi-_U.dO c.length 0 lo)).toArray:=by obtain⟨h1,e,f⟩:=wU lo hi c.toArray.size;unfold slicePick;rw[h1,e,f];simp only[sliceRange_one,pick_run,cE]<;>rfl
noncomputable def aeF(K:PySem.W.Frag):V->Option Int->Option Int->Hp->VK->Prop:=λx lo hi H Q=>∃a xs,x=.ref a/\dJ K H a xs/\∀p,H p=bx->Q (.ref p) (upd H p (.lst (yd xs lo hi)))
theorem O4:SlR X (aeF X.K):=by intro e s σ H x v l m lo hi sl Q I f hs g i h;obtain⟨a,xs,rfl,j,q⟩:=h;cases f;obtain⟨k,r,ht,hz⟩:=I.list j;have c:=r.length;refine⟨"list",_,slot_list_getitem.lookup,ht.isList.typeIs,?_⟩;refine wpAny_getItem_list_slice ht.isList hs g i .none (by simp) ?_ (by rw[cE]<;>omega);rw[uv,<-c];refine⟨.ref s.heap.objs.size,_,I.laid (t':=s.toks) (o:=.lst (yd xs lo hi)) (λb p q=>gU q) (dm) ?_,rfl,q _ (I.hok.fresh (dm))⟩;exact⟨g_ (pW xs lo hi) hz,_,0,(r.drop (_U.dO xs.length 0 lo)).take (_U.dO xs.length xs.length hi-_U.dO xs.length 0 lo),dA _ rfl⟩
noncomputable def lJ:V->Bool|.non=>a_|.bl _=>a_|.int _=>a_|.str _=>a_|_=>aK
noncomputable def Pb:V->V->Bool|.non,.non=>a_|.bl a,.bl b=>a==b|.bl a,.int b=>(if a then 1 else 0)==b|.int a,.bl b=>a==(if b then 1 else 0)|.int a,.int b=>a==b|.str a,.str b=>a==b|_,_=>aK
theorem V4{A:fb}{y:V}{u v:b_}(e:RelV y u)(c:RelV x v)(g:lJ y=a_)(f:lJ x=a_):gT A s u v (Pb y x):=by cases y with
 |non=>cases e;cases x with|non=>cases c;exact k_ _|bl b=>cases c;exact none_bool b|int b=>obtain⟨t,rfl⟩:=c;exact none_int b t|str b=>obtain⟨t,rfl⟩:=c;exact none_str b t|_=>exact absurd (show aK=a_ from f) dc
 |bl a=>cases e;cases x with|non=>cases c;exact bool_none a|bl b=>cases c;exact bool_bool a b|int b=>obtain⟨t,rfl⟩:=c;exact bool_int a b t|str b=>obtain⟨t,rfl⟩:=c;exact bool_str a b t|_=>exact absurd (show aK=a_ from f) dc
 |int a=>obtain⟨t',rfl⟩:=e;cases x with|non=>cases c;exact int_none a t'|bl b=>cases c;exact int_bool a t' b|int b=>obtain⟨t,rfl⟩:=c;exact int_int a t' b t|str b=>obtain⟨t,rfl⟩:=c;exact int_str a t' b t|_=>exact absurd (show aK=a_ from f) dc
 |str a=>obtain⟨t',rfl⟩:=e;cases x with|non=>cases c;exact str_none a t'|bl b=>cases c;exact str_bool a t' b|int b=>obtain⟨t,rfl⟩:=c;exact str_int a t' b t|str b=>obtain⟨t,rfl⟩:=c;exact str_str a t' b t|_=>exact absurd (show aK=a_ from f) dc
 |_=>exact absurd (show aK=a_ from g) dc
noncomputable def Bv(x:V)(u:b_):Bool:=match u with|.none=>Pb .non x|.bool b=>Pb (.bl b) x|.int i _=>Pb (.int i) x|.str z _=>Pb (.str z) x|_=>aK
theorem Ht{y:V}{u:b_}(r:RelV y u)(f:lJ y=a_):Bv x u=Pb y x:=by cases y with|non=>cases r;rfl|bl b=>cases r;rfl|int i=>obtain⟨t,rfl⟩:=r;rfl|str z=>obtain⟨t,rfl⟩:=r;rfl|_=>exact absurd (show aK=a_ from f) dc
theorem oA{x:V}:∀{xs:List V}{c:List b_},Vals xs c->xs.all lJ=a_->c.any (Bv x)=xs.any λy=>Pb y x|_,_,.nil,_=>rfl|y::xs,u::c,.cons r t,f=>by rw[kM,eW]at f;rw[jS,jS,Ht r f.1,oA t f.2]
theorem jV{A:fb}{s:cr}{x:V}{v:b_}(e:RelV x v)(g:lJ x=a_):∀{xs:List V}{c:List b_},Vals xs c->xs.all lJ=a_->∀u∈c,gT A s u v (Bv x u)
 |_,_,.nil,_=>λu hu=>by cases hu|y::xs,u::c,.cons r t,f=>λh hu=>by
   rw[kM,eW]at f;rcases de.mp hu with rfl|hu;.rw[Ht r f.1];exact V4 r e f.1 g
   .exact jV e g t f.2 h hu
noncomputable def inV(x:V)(xs:List V):Bool:=xs.any λy=>Pb y x
noncomputable def rIn(K:PySem.W.Frag)(neg:Bool):R2:=λx y H Q=>∃p xs,y=.ref p/\(dJ K H p xs\/iB K H p xs)/\lJ x=a_/\xs.all lJ=a_/\Q (.bl (if neg then !inV x xs else inV x xs)) H
theorem Gv:fX X (d_ .In) (rIn X.K aK):=by
 intro g s σ H x y v u Q I i k h;obtain⟨p,xs,rfl,hq,j,fs,q⟩:=h;cases k;rcases hq with hq|hq;.obtain⟨c,r,e,hz⟩:=I.list hq;refine SeqAt.in_listAt (Bv x) e.isList (λw f=>jV i j r fs w (by simpa using f)) ⟨.bl _,H,I,rfl,?_⟩;rw[show c.toArray.any (Bv x)=c.any (Bv x)by simp,oA r fs];exact q
 .obtain⟨c,r,e,hz⟩:=I.tuple hq;refine SeqAt.in_tupleAt (Bv x) e (λw f=>jV i j r fs w (by simpa using f)) ⟨.bl _,H,I,rfl,?_⟩;rw[show c.toArray.any (Bv x)=c.any (Bv x)by simp,oA r fs];exact q
theorem xm:fX X (d_ .NotIn) (rIn X.K a_):=by
 intro g s σ H x y v u Q I i k h;obtain⟨p,xs,rfl,hq,j,fs,q⟩:=h;cases k;rcases hq with hq|hq;.obtain⟨c,r,e,hz⟩:=I.list hq;refine SeqAt.notIn_listAt (Bv x) e.isList (λw f=>jV i j r fs w (by simpa using f)) ⟨.bl _,H,I,rfl,?_⟩;rw[show c.toArray.any (Bv x)=c.any (Bv x)by simp,oA r fs];exact q
 .obtain⟨c,r,e,hz⟩:=I.tuple hq;refine SeqAt.notIn_tupleAt (Bv x) e (λw f=>jV i j r fs w (by simpa using f)) ⟨.bl _,H,I,rfl,?_⟩;rw[show c.toArray.any (Bv x)=c.any (Bv x)by simp,oA r fs];exact q
theorem xq:eO X (.builtin "len") (λxs H Q=>∃p ys,xs=[.ref p]/\(dJ X.K H p ys\/iB X.K H p ys)/\Q (.int ys.length) H):=by
 intro i s σ H xs k Q I r h;obtain⟨p,ys,rfl,hq,q⟩:=h;obtain⟨u,rfl,j⟩:=vals1 r;cases j;have l:=pg;rcases hq with hq|hq;.obtain⟨e,f,g,hz⟩:=I.list hq;have c:=f.length;exact Calls.call_len_list g.isList (by simp only[cE]<;>omega) ⟨.int ys.length,H,I.tok _,⟨s.toks+1,by rw[cE,c]⟩,q⟩
 .obtain⟨e,f,g,hz⟩:=I.tuple hq;have c:=f.length;exact len_tuple g (by simp only[cE]<;>omega) ⟨.int ys.length,H,I.tok _,⟨s.toks+1,by rw[cE,c]⟩,q⟩
theorem xf:eO X (.type "list") (λxs H Q=>∃p ys,xs=[.ref p]/\(dJ X.K H p ys\/iB X.K H p ys)/\∀l,H l=bx->Q (.ref l) (upd H l (.lst ys))):=by
 intro i s σ H xs v Q I r h;obtain⟨p,ys,rfl,hq,q⟩:=h;obtain⟨u,rfl,t⟩:=vals1 r;cases t;have fin:∀(c:List b_),Vals ys c->ys.length<=sizeLine->∀(h':eP)(f:Nat),(∀b m,s.heap.get? b=aj m->h'.get? b=aj m)->h'.get? s.heap.objs.size=aj {cls:=.type "list",dict:=bx,data:=.seq c.toArray f,slots:=#[]}->EP X i σ Q (.ref s.heap.objs.size) {s with heap:=h'}:=λc g hz h' f kp e=>⟨.ref s.heap.objs.size,_,I.laid (t':=s.toks) kp (dm) (show bR X.prog X.w _ h' _ (.lst ys)from⟨hz,c,f,g,e⟩),rfl,q _ (I.hok.fresh (dm))⟩;rcases hq with hq|hq;.obtain⟨c,g,k,hz⟩:=I.list hq;have j:=g.length;obtain⟨o,ho,hc,n,hd⟩:=k.isList;exact call_list_seq p (.inl rfl) ho hc hd (λh' f kp e=>fin c g hz h' f kp e) (by simp only[cE]<;>omega)
 .obtain⟨c,g,k,hz⟩:=I.tuple hq;have j:=g.length;obtain⟨o,ho,hc,n,hd⟩:=k;exact call_list_seq p (.inr rfl) ho hc hd (λh' f kp e=>fin c g hz h' f kp e) (by simp only[cE]<;>omega)
theorem lK:eO X (.type "tuple") (λxs H Q=>∃p ys,xs=[.ref p]/\((dJ X.K H p ys/\∀l,H l=bx->Q (.ref l) (upd H l (.tup ys)))\/(iB X.K H p ys/\Q (.ref p) H))):=by
 intro c s σ H xs y Q I r h;obtain⟨p,ys,rfl,h⟩:=h;obtain⟨u,rfl,t⟩:=vals1 r;cases t;rcases h with⟨g,q⟩|⟨g,q⟩;.obtain⟨f,i,j,hz⟩:=I.list g;have k:=i.length;refine call_tuple_list j.isList (λh' kp=>?_) (by simp only[cE]<;>omega);have m:Inv X c σ H {s with heap:=h'}:=I.kept (t':=s.toks) kp;have v:Inv X c σ (upd H h'.objs.size (.tup ys)) {s with heap:=h'.push {cls:=.type "tuple",data:=.seq f.toArray}}:=m.laid (t':=s.toks) (λb o e=>gU e) (dm) (show bR X.prog X.w _ _ _ (.tup ys)from⟨hz,f,i,kS _ _⟩);exact⟨.ref h'.objs.size,_,v,rfl,q _ (m.hok.fresh (dm))⟩
 .obtain⟨f,i,j,hz⟩:=I.tuple g;exact call_tuple_same j ⟨.ref p,H,I,rfl,q⟩
noncomputable def tyV(K:PySem.W.Frag)(T:String)(x:V)(H:Hp):Prop:=match x with|.str _=>T="str"|.int _=>T="int"|.ref p=>(T="list"/\∃xs,dJ K H p xs)\/(T="tuple"/\∃o,K.lookup p=aj o/\o.cls=.type "tuple"/\o.dict=bx)\/(T="dict"/\((∃kvs,H p=aj (.dK kvs))\/∃kvs,H p=aj (.dT kvs)))\/(T="set"/\∃S n,H p=aj (.set S n))|_=>False
theorem R6{g:List (cw×Obj)}{σ:St}{H:Hp}{T:String}{v:b_}(I:Inv X g σ H s)(r:RelV x v)(ty:tyV X.K T x H):
 s.TypeIs v T/\∀a,v=.ref a->∃j,s.heap.get? a=aj j/\j.dict=bx:=by cases x with|str z=>obtain⟨t,rfl⟩:=r;cases(show T="str"from ty);exact⟨typeIs_str s z t,λ_ e=>nomatch e⟩|int i=>obtain⟨t,rfl⟩:=r;cases(show T="int"from ty);exact⟨ma s i t,λ_ e=>nomatch e⟩|ref p=>
   cases r;rcases ty with⟨rfl,xs,l⟩|⟨rfl,o,f,hc,hd⟩|⟨rfl,f⟩|⟨rfl,S,n,f⟩;.obtain⟨m,_,k,_⟩:=I.list l;refine⟨k.isList.typeIs,λa e=>?_⟩;cases e;obtain⟨o,n,e,c,hd,_⟩:=k;exact⟨o,e,hd⟩
   .refine⟨⟨o,I.Vv p o f,hc⟩,λa e=>?_⟩;cases e;exact⟨o,I.Vv _ o f,hd⟩
   . have z:∃o,s.heap.get? p=aj o/\o.ExactDict:=by
      rcases f with⟨kvs,f⟩|⟨kvs,f⟩;.obtain⟨_,_,_,_,o,_,_,e,ex,_⟩:=I.hok p _ f;exact⟨o,e,ex⟩
      .obtain⟨_,_,_,_,o,_,_,e,ex,_⟩:=I.hok p _ f;exact⟨o,e,ex⟩
     obtain⟨o,e,ex⟩:=z;refine⟨⟨o,e,ex.1⟩,λa h=>?_⟩;cases h;exact⟨o,e,ex.2.1⟩
   .obtain⟨o,_,_,_,e,ex,_⟩:=I.hok p _ f;refine⟨⟨o,e,ex.1⟩,λa h=>?_⟩;cases h;exact⟨o,e,ex.2.1⟩|_=>exact fv ty
noncomputable def tBM(K:PySem.W.Frag)(T:String)(r:V->List V->Hp->VK->Prop)(to:TE)(t:TA):TE:=λσ H Q=>to σ H λx c=>tyV K T x c/\t σ c λxs e=>r x xs e Q
variable{o e:df}{es:List df}{to:TE}{t:TA}{name:Str}{apos cpos:Pos}{T id:String}{r:V->List V->Hp->VK->Prop}
theorem yu(m:PlainAttrs T)(slot:Slot T name id)(k:typeOf (.builtin id)=fm (.type "method_descriptor"))(p:MtR X id r)(ho:PE X o to)(q:PA X (e::es) t)(g:gS o name X.env (eB o X.env)=eB o X.env:=by rfl)(j:((hX cpos (cy (e::es) X.env)).all (λx=>!x.1)&&(ln cpos (jx [] X.env)).all (λx=>x.1.isSome)&&decide ((e::es).length+([]:List iL).length+(if([]:List iL).isEmpty then 0 else 1)<30))=a_:=by rfl)(i:(apos.endLine==cpos.line)=a_:=by rfl)(hs:cy (e::es) X.env=(aK,eB e X.env)::cy es X.env:=by rfl)(f:(hX cpos (cy es X.env)).any (·.1)=aK:=by rfl):PE X (.Call (.Attribute o name apos) (e::es) [] cpos) (tBM X.K T r to t):=by intro c s σ H Q I h;refine wpAny_Call_method_late g j i rfl (cB (ho c s σ H _ I h) λv s1⟨x,H1,I1,r1,ty,q1⟩=>?_);obtain⟨h1,u⟩:=R6 I1 r1 ty;refine⟨T,id,m,slot,k,h1,u,?_⟩;have l:=q cpos c s1 σ H1 _ I1 q1;rw[hs]at l ⊢;refine kC (by show(aK||(hX cpos (cy es X.env)).any (·.1))=aK;rw[f]<;>rfl) (ot ?_);exact cB l λw s2⟨vs,H2,I2,r2,q2⟩=>p c s2 σ H2 x vs v w Q I2 r1 r2 q2
end
noncomputable def MtM(X:Cx)(id:String)(r:V->List V->Hp->VK->Prop):Prop:=∀(a:List (cw × Obj))(s:cr)(σ:St)(H:Hp)(x:V)(xs:List V)(v:b_)(b:List b_)(Q:VK),Inv X a σ H s->RelV x v->Vals xs b->r x xs H Q->cN (c_ X.prog X.w) X.A (call (.builtin id) (v::b)) (EP X a σ Q) X.xe s
theorem Vals.one:∀{x:V}{a:List b_},Vals [x] a->∃u,a=[u]/\RelV x u|x,a,h=>by cases h with|cons r t=>cases t;exact⟨_,rfl,r⟩
theorem Vals.two:∀{x y:V}{a:List b_},Vals [x,y] a->∃u v,a=[u,v]/\RelV x u/\RelV y v|x,y,a,h=>by cases h with|cons r t=>cases t with|cons q z=>cases z;exact⟨_,_,rfl,r,q⟩
theorem Vals.zero:∀{a:List b_},Vals [] a->a=[]|_,.nil=>rfl
theorem Vals.eraseIdx:∀{xs:List V}{a:List b_}(i:Nat),Vals xs a->Vals (xs.eraseIdx i) (a.eraseIdx i)|_,_,_,.nil=>.nil|_,_,0,.cons _ t=>t|_,_,i+1,.cons r t=>.cons r (Vals.eraseIdx i t)
theorem Vals.reverse{xs:List V}{a:List b_}(h:Vals xs a):Vals xs.reverse a.reverse:=by induction h with|nil=>exact .nil|cons r t b=>rw[ms,ms];exact Vals.append b (.cons r .nil)
theorem Vals.rep{xs:List V}{a:List b_}(h:Vals xs a):∀k:Nat,Vals (cx k xs).flatten (cx k a).flatten|0=>.nil|k+1=>by rw[g9,g9,mw,mw];exact Vals.append h (Vals.rep h k)
theorem vI{a:Type}:∀(l:List a)(i:Nat),(l.eraseIdx i).length<=l.length|[],_=>dm|_::_,0=>le_succ _|_::r,i+1=>Nat.succ_le_succ (vI r i)
theorem foldl_rep(a:List b_):∀(k:Nat)(b:List b_),qS (λc f=>c++f) b.toArray (cx k a.toArray)=(b++(cx k a).flatten).toArray
 |0,b=>by simp|k+1,b=>by
   have e:b.toArray++a.toArray=(b++a).toArray:=by simp
   have g:(b++a)++(cx k a).flatten=b++(cx (k+1) a).flatten:=by rw[g9,mw,fN]
   rw[<-g,<-foldl_rep a k (b++a),<-e,g9,nX]
section
variable{X:Cx}{pins:List (cw×Obj)}{σ:St}{H:Hp}{s:cr}{l b:cw}{xs ys zs:List V}
theorem Inv.VR{a its':List b_}{f:Array b_->Array b_}{t':Nat}(I:Inv X pins σ H s)(c:H l=aj (.lst xs))(e:s.heap.get? l=aj {cls:=.type "list",data:=.seq a.toArray n})(g:f a.toArray=its'.toArray)(h:Vals ys its')(hz:ys.length<=sizeLine):Inv X pins σ (upd H l (.lst ys)) {s with heap:=s.heap.update l (gf f),toks:=t'}:=by have q:=PySem.IsL.update e f;rw[g]at q;refine I.write (x:=l) (e:=l) (by rw[c];exact trivial) (.inl rfl) (λk u i j=>(hY s.heap (gf f) (gu i)).trans j) ⟨_,q⟩ ?_;exact⟨hz,its',_,h,q⟩
theorem Inv.Wx{a:List b_}{t':Nat}(I:Inv X pins σ H s)(c:Vals ys a)(hz:ys.length<=sizeLine):Inv X pins σ (upd H s.heap.objs.size (.lst ys)) {s with heap:=s.heap.push {cls:=.type "list",data:=.seq a.toArray},toks:=t'}:=I.laid (λ_ _ q=>gU q) (dm) ⟨hz,a,0,c,dA _ rfl⟩
theorem Inv.fresh(I:Inv X pins σ H s):H s.heap.objs.size=bx:=I.hok.fresh (dm)
theorem Inv.Ul(I:Inv X pins σ H s)(c:H l=aj (.lst xs)):xs.length<=sizeLine/\∃(a:List b_)(n:Nat),Vals xs a/\xs.length=a.length/\s.heap.get? l=aj {cls:=.type "list",data:=.seq a.toArray n}:=by obtain⟨z,a,n,r,e⟩:=I.hok l _ c;exact⟨z,a,n,r,r.length,e⟩
theorem Kf(h:n<=sizeLine):qE n=aK:=by unfold qE;exact decide_eq_false (by omega)
end
section
variable{X:Cx}
noncomputable def O1:V->List V->Hp->VK->Prop:=λx vs H Q=>∃l xs y,x=.ref l/\vs=[y]/\H l=aj (.lst xs)/\xs.length<sizeLine/\Q .non (upd H l (.lst (xs++[y])))
theorem pB:MtM X "list.append" O1:=by intro b s σ H x vs v j Q I f g h;obtain⟨l,xs,y,rfl,rfl,c,hz,q⟩:=h;cases f;obtain⟨u,rfl,i⟩:=g.one;obtain⟨z,a,n,r,k,e⟩:=I.Ul c;refine je F.slot_list_append ⟨_,e,rfl⟩ F.entry_list_append (F.args_list_append_2 _ _) (PySem.list_append l a.toArray n u (by rw[cE];omega)) ⟨e,?_⟩;refine⟨.non,_,I.VR (its':=a++[u]) c e (by simp) (r.append (.cons i .nil)) ?_,rfl,q⟩;rw[ek,im];omega
noncomputable def S5:V->List V->Hp->VK->Prop:=λx vs H Q=>∃l xs i k y,x=.ref l/\vs=[.int i]/\H l=aj (.lst xs)/\-(2^63)<=i/\i<2^63/\mS i xs.length=aj k/\xs[k]?=aj y/\Q y (upd H l (.lst (xs.eraseIdx k)))
theorem J0:MtM X "list.pop" S5:=by
 intro b s σ H x vs v E Q I f g h;obtain⟨l,xs,i,k,y,rfl,rfl,c,h1,j,m,o,q⟩:=h;cases f;obtain⟨u,rfl,p⟩:=g.one;obtain⟨t,rfl⟩:=p;obtain⟨z,a,n,r,A,e⟩:=I.Ul c;obtain⟨w,B,C⟩:=r.get o;refine je F.slot_list_pop ⟨_,e,rfl⟩ F.entry_list_pop (F.args_list_pop_2 _ _) (MeetsSeq.list_pop_at l a.toArray n i t k w (fitsIndex_both h1 j) (by rw[cE,<-A];exact m) (by rw[<-nI];exact B) (by rw[cE];omega)) ⟨e,?_⟩;refine⟨y,_,I.VR (its':=a.eraseIdx k) c e ?_ (r.eraseIdx k) ?_,C,q⟩;.show a.toArray.eraseIdxIfInBounds k=(a.eraseIdx k).toArray;rw[List.eraseIdxIfInBounds_toArray]
 .have:=vI xs k;omega
theorem len_rep{a:Type}(xs:List a)(k:Nat):(cx k xs).flatten.length=k*xs.length:=by induction k with|zero=>simp|succ k b=>rw[g9,mw,ek,b,Nat.succ_mul,Nat.add_comm]
end
end _L
namespace _A
open PySem W Calls PyProof.Rows
theorem qg{P:Params}{h:eP}:∀(ns:List Int)(vs:List b_),WellAll P h vs (ns.map WData.int)->gI vs ns:=by intro ns;induction ns with|nil=>intro vs w;rw[lz]at w;cases w;exact .nil|cons n ns c=>intro vs w;rw[da]at w;cases w with|cons a b=>cases a;exact .cons _ _ (c _ b)
theorem Fq{l:OpenLaw}{n:Nat}(m:l.most=aj n){P:Params}{h:eP}{args:List WData}{b:List b_}(c:l.row.toRowW.claim.pre args=a_)(j:WellAll P h b args):∃a vs ns,b=[eg a]/\args=[WData.list (ns.map WData.int)]/\h.get? a=aj {cls:=.type "list",data:=.seq vs.toArray}/\gI vs ns/\ns.length<=n:=by
 have k:WShape.hasAll [] args [.list .int]=a_:=(pre_splitW c).1;have hc:l.pre.holds [] {args:=args}=a_:=(pre_splitW c).2;obtain⟨d,r,rfl,h1,o⟩:=hasAllW_cons k;obtain rfl:=hasAllW_nil o;obtain⟨xs,rfl,p⟩:=hasW_list h1;obtain⟨ns,rfl⟩:=items_int p;have e:ns.length<=n:=by
  unfold OpenLaw.pre at hc;have g:(WTm.not (.lt (.lit (.int (n:Int))) (.len (.arg 0)))).holds [] {args:=[.list (ns.map .int)]}=a_:=by have g:=(holds_andW hc).1;rw[m]at g;exact g
  have i:=condW_of g (w_not (w_lt w_lit (w_len_list (w_arg rfl))));rw[dQ]at i;refine mf λq=>?_;have s:(n:Int)<((ns.length:Nat):Int):=by omega
  first|(rw[decide_eq_true s]at i;exact absurd i (by decide))|(simp at i;omega)
 cases j with|cons t u=>cases u;cases t with|list ho f=>exact⟨_,_,ns,rfl,rfl,ho,qg ns _ f,e⟩
theorem Fy(l:OpenLaw)(args:List WData):l.row.toRowW.claim.post args (.bool a_) args=a_:=postW_of (r:=l.row.toRowW) (X:=(a_==a_)) (show WShape.has [] (.bool a_) .bool=a_ by first|rfl|decide|simp[WShape.has,WShape.arms,WShape.armsAll]) (show(WTm.eq .res (.lit (.bool a_))).value [] {args:=args,res:=aj (.bool a_),after:=args}=aj (.bool (a_==a_))from w_eq_bool (w_res rfl) w_lit) rfl
theorem zG{l:OpenLaw}{n:Nat}{q:dE}{c:List Str}{z:(Str->Option b_)->eP->Prop}{A:eH->eP->Prop}{d:DefRec}(H:l.most=aj n)(s:d.params.defaults=[])(call:∀(w:eH)(s₀ b:cr)(mg t:Str->Option b_)(h:cw)(o:Obj)(u m e:b_)(a:cw)(vs:List b_)(ns:List Int),Ground q c [] z w s₀ mg t b.heap->A w b.heap->b.heap.get? h=aj o->o.data=.func (docDef d.name d.params d.body d.scope u m e)->b.heap.CodeRec m d.name->mg d.name=aj (.ref h)->b.heap.get? a=aj {cls:=.type "list",data:=.seq vs.toArray}->gI vs ns->ns.length<=n->b.gens=#[]->k4 (c_ l.prog w) lI (.call (.ref h) ⟨[.ref a],[]⟩) (λr p=>r=.ok (.ret (.bool a_))/\OldK b.heap p.heap/\p.os=b.os/\lP p.gens) b):WalkO q c z A l.row.toRowW d [] (λf vs=>PySem.call f vs):=by intro w s₀ b mg t G Y h o u m e I kV ho hd v B x J args C as i E L y M;obtain rfl:I=.none:=Dflts.none B s;obtain rfl:kV=.none:=Dflts.noKw B;obtain⟨a,vs,ns,rfl,rfl,j,g,k⟩:=Fq H i y;refine enter_call (qa (call w s₀ b mg t h o u m e a vs ns G Y ho (fd_plain hd) v x j g k J) λr p N=>?_);obtain⟨rfl,O,Q,U⟩:=N;exact⟨.inl ⟨.bool a_,.bool a_,[],rfl,λ_=>rfl,.bool a_,Fy l _,λ_=>⟨List.Pairwise.nil,λ_ W=>(nomatch W)⟩⟩,O,Q,U⟩
end _A
namespace _L
open PySem Spec PyProof.Rows
theorem uZ:∀{vs:List b_}{ns:List Int},gI vs ns->Vals (ns.map V.int) vs|_,_,.nil=>.nil|_,_,.cons n t h=>.cons ⟨t,rfl⟩ (uZ h)
noncomputable def Only(H:Hp):Prop:=∀b,H b=bx\/∃o xs,H b=aj (.dC o (.lst xs))
theorem IK{P:dE}{w:eH}{K:PySem.W.Frag}{mg G:Str->Option b_}{CX:Kd}{k:Nat}{I a:cw}{fd:hP}{x:Str}{sp:Sp}{c:cr}{vs:List b_}{ns:List Int}(O:K.In c.heap)(p:c.heap.Ns dS mg)(f:c.heap.Ns builtinsNs G)(J:∀x:Str,x≠"__name__"->G x=fe x)(t:c.heap.NoLimit)(hg:c.gens=#[])(E:c.heap.get? a=aj {cls:=.type "list",data:=.seq vs.toArray})(hi:gI vs ns)(Q:ns.length<=sizeLine)(hr:jA k lI)(F:∀base:eP,K.In base->base.Ns dS mg->oX P w K mg base CX k I fd [x] sp)(l:∀(s:cr)(u:b_),nE s fd ⟨[u],[]⟩ [(x,u)])(hsp:∀H:Hp,Only H->dJ K H a (ns.map V.int)->sp [.ref a] H (λv _=>v=.bl a_) λ_ _ _=>False)(L:∀H e g,CX [] H c (λ_ _ _=>False) e g->False):k4 (c_ P w) lI (.call (.ref I) ⟨[.ref a],[]⟩) (λr g=>r=.ok (.ret (.bool a_))/\OldK c.heap g.heap/\g.os=c.os/\lP g.gens) c:=by
 have U:=uZ hi;have y:=hi.length--from an abstract heap in which nothing but the script may be tracked
 have j:∀H:Hp,Only H->dJ K H a (ns.map V.int)->oH P w H c.heap->(∀b,H b≠bx->b=a)->(H a≠bx->K.lookup a=bx)->k4 (c_ P w) lI (.call (.ref I) ⟨[.ref a],[]⟩) (λr g=>r=.ok (.ret (.bool a_))/\OldK c.heap g.heap/\g.os=c.os/\lP g.gens) c:=by
  intro H X hS hok Y hK;have Z:∀{b:cw}{o:Obj},c.heap.get? b=aj o->H b=bx->(xn c.heap H).get? b=aj o:=λe n=>Hz e n;have M:∀{b:cw}{o:Obj}{es:Array DictEntry}{ep:Nat},c.heap.get? b=aj o->o.data=.dict es ep->H b=bx:=λ{b o es ep}e d=>by cases q:H b with|none=>rfl|some u=>have N:b=a:=Y b (by rw[q];simp);subst N;rw[E]at e;cases e;have d':Data.seq vs.toArray _=Data.dict es ep:=d;cases d'
  have i:∀{b:cw}{m:Str->Option b_},c.heap.Ns b m->(xn c.heap H).Ns b m:=λ{b m}⟨o,es,ep,e,d,r⟩=>⟨o,es,ep,Z e (M e d),d,r⟩;have A:K.In (xn c.heap H):=λb o e=>Z (O b o e) (by cases q:H b with|none=>rfl|some u=>have N:b=a:=Y b (by rw[q];simp);subst N;rw[hK (by rw[q];simp)]at e;cases e);have hM:Mod K mg (xn c.heap H):=⟨A,i p,⟨G,i f,J⟩,let⟨mc,h1,h2⟩:=t;⟨mc,i h1,h2⟩⟩;have e0:Nb P w K mg (xn c.heap H) lI [] c H:=⟨rfl,hM,λb o e=>Px e,Nat.le_of_eq (G6 _ _),trivial,λb f=>absurd (show b∈([]:List cw)from f) (by simp),hok,.of_eq hg⟩;refine qa ((F _ A (i p)).run lI [] c H ⟨[.ref a],[]⟩ [.ref a] [.ref a] _ _ hr e0 (l c (.ref a)) (.cons rfl .nil) (hsp H X hS)) λr g h=>?_;cases r with|error e=>exact(L H e g h).elim|ok fl=>cases fl with|next=>exact fv h|brk=>exact fv h|cont=>exact fv h|ret u=>obtain⟨v,H',os,bare,un,B,r',q⟩:=h;have q':v=.bl a_:=q;subst q';obtain rfl:u=j_ a_:=r';refine⟨rfl,OldK.of_keep λb o e=>?_,os,bare⟩;cases q:H b with|none=>exact un.keep b o e q (by intro z;exact absurd (show b∈([]:List cw)from z) (by simp)) (by simp)|some u=>
        rcases X b with z|⟨ob,xs,z⟩;.rw[q]at z;cases z
        .have z2:=un.xO b ob _ z;obtain⟨e1,_⟩:=hok b _ z;obtain⟨e2,_⟩:=B b _ z2;rw[e]at e1;cases e1;exact e2
 cases hk:K.lookup a with|some o=>--the script is one of the module's own objects
   have e:=O a o hk;rw[E]at e;cases e;refine j (λ_=>bx) (λ_=>.inl rfl) (.inr ⟨_,vs.toArray,_,hk,rfl,rfl,rfl,by rw[cE,y];exact Q,by simpa using U⟩) (λb u z=>by have C:(bx:Option HO)=aj u:=z;cases C) (λb z=>absurd rfl z) λz=>absurd rfl z|none=>
   refine j (λb=>if b=a then aj (.dC {cls:=.type "list",data:=.seq vs.toArray} (.lst (ns.map V.int)))else bx) (λb=>?_) (.inl (.inr ⟨{cls:=.type "list",data:=.seq vs.toArray},if_pos rfl⟩)) (λb u z=>?_) (λb z=>?_) λ_=>hk
   . by_cases f:b=a;.exact .inr ⟨_,_,if_pos f⟩
     .exact .inl (if_neg f)
   . by_cases f:b=a;.have C:=(if_pos f).symm.trans z;cases C;subst f;exact⟨E,by rw[dQ];exact Q,vs,_,U,E⟩
     .have C:=(if_neg f).symm.trans z;cases C
   . by_cases f:b=a;.exact f
     .exact absurd (if_neg f) z
theorem Nz{l:PySem.W.OpenLaw}{n k:Nat}{q:dE}{i:List Str}{I:(Str->Option b_)->eP->Prop}{C:eH->eP->Prop}{d:DefRec}{K:Params->PySem.W.Frag}{CX:eH->Kd}{sp:eH->Sp}{x:Str}(J:l.most=aj n)(t:n<=sizeLine)(y:d.params.defaults=[])(hr:jA k lI)(L:∀(w:eH)(h:eP),C w h->(K w.params).In h)(F:∀(w:eH)(mg:Str->Option b_)(r:cw)(h:eP),(K w.params).In h->h.Ns dS mg->mg d.name=aj (.ref r)->∃ fd:hP,(∀(s:cr)(u:b_),nE s fd ⟨[u],[]⟩ [(x,u)])/\∀base:eP,(K w.params).In base->base.Ns dS mg->oX l.prog w (K w.params) mg base (CX w) k r fd [x] (sp w))(hsp:∀(w:eH)(H:Hp)(a:cw)(ns:List Int),ns.length<=n->Only H->dJ (K w.params) H a (ns.map V.int)->sp w [.ref a] H (λv _=>v=.bl a_) λ_ _ _=>False)(z:∀(w:eH)(H:Hp)(s:cr)(e:b_)(A:cr),CX w [] H s (λ_ _ _=>False) e A->False):PySem.W.WalkO q i I C l.row.toRowW d [] (λf vs=>PySem.call f vs):=by refine _A.zG J y λw s₀ m mg mb r o pm cd M a vs ns G Y ho hd N B p j c O=>?_;have E:=L w _ Y;obtain⟨fd,Q,U⟩:=F w mg r _ E G.T.g B;exact IK E G.T.g G.T.b G.T.builtins G.T.nolimit O p j (g_ c t) hr U Q (λH X Z=>hsp w H a ns c X Z) λH e A=>z w H m e A
theorem Iv{l:PySem.W.OpenLaw}{n k:Nat}{q:dE}{b:List Str}{p:(Str->Option b_)->eP->Prop}{m:eH->eP->Prop}{d:DefRec}{K:Params->PySem.W.Frag}{CX:Kd}{sp:PySem.W.Frag->Sp}{x:Str}(r:l.most=aj n)(c:n<=sizeLine)(g:d.params.defaults=[])(hr:jA k lI)(t:∀(w:eH)(h:eP),m w h->(K w.params).In h)(F:∀(w:eH)(mg:Str->Option b_)(o:cw)(h:eP),(K w.params).In h->h.Ns dS mg->mg d.name=aj (.ref o)->∃ fd:hP,(∀(s:cr)(u:b_),nE s fd ⟨[u],[]⟩ [(x,u)])/\∀base:eP,(K w.params).In base->base.Ns dS mg->oX l.prog w (K w.params) mg base CX k o fd [x] (sp (K w.params)))(hsp:∀(K:PySem.W.Frag)(H:Hp)(a:cw)(ns:List Int),ns.length<=n->Only H->dJ K H a (ns.map V.int)->sp K [.ref a] H (λv _=>v=.bl a_) λ_ _ _=>False)(i:∀(H:Hp)(s:cr)(e:b_)(j:cr),CX [] H s (λ_ _ _=>False) e j->False):PySem.W.WalkO q b p m l.row.toRowW d [] (λf vs=>PySem.call f vs):=Nz (K:=K) (CX:=λ_=>CX) (sp:=λw=>sp (K w.params)) r c g hr t F (λw H a ns h1 y z=>hsp (K w.params) H a ns h1 y z) λ_ H s e j=>i H s e j
end _L
namespace _L
open PySem Spec PyProof.Rows
noncomputable def jl(s:eK):Arguments:=match s with|.FunctionDef _ a _ _ _ _ _ _ _ _=>a|_=>{posonlyargs:=[],args:=[],vararg:=bx,kwonlyargs:=[],kw_defaults:=[],kwarg:=bx,defaults:=[]}
noncomputable def gj(s:eK):List eK:=match s with|.FunctionDef _ _ b _ _ _ _ _ _ _=>b|_=>[]
noncomputable def aA(s:eK):ke:=match s with|.FunctionDef _ _ _ _ _ _ a _ _ _=>a|_=>{kind:=.function,names:=[],isGenerator:=aK,isCoroutine:=aK}
noncomputable abbrev Io:Kd:=λ_ _ _ _ _ _=>False
noncomputable abbrev E0:XK:=λ_ _ _=>False
theorem Jp{X:Cx}:Passes Io X E0:=λ_ _ _ _ _ _ _ h=>h.elim
structure gO(K:PySem.W.Frag)(x qual:Str)(st:eK)(f:cw)(fd:hP):Prop where
 ex:∃(oc:b_)(od:Option cw)(kV doc pm:b_)(an:Option cw)(cdv ct:b_)(osl:Array (Option b_)),fd=PySem.W.fnOf x qual (jl st) (gj st) (aA st) .none kV doc pm an cdv ct/\K.lookup f=aj ⟨oc,od,.func fd,osl⟩/\PySem.W.codeIn K cdv qual=a_
 kp:keepIn K (.ref f)=a_
section
variable{P:dE}{w:eH}{K:PySem.W.Frag}{mg:Str->Option b_}{base:eP}
theorem gO.ok{x qual:Str}{st:eK}{f:cw}{fd:hP}{N ps:List Str}{k:Nat}{sp:Sp}(F:gO K x qual st f fd)(S:aL N ps (aA st))(len:∀vs H Q E,sp vs H Q E->vs.length=ps.length)(a:∀(cdv:b_)(A:fb)(outer:List Env)(s:cr)(H:Hp)(vs:List V)(Q:VK)(E:XK),jA k (A.deeper (lm qual (aA st) s.heap.objs.size f cdv))->sp vs H Q E->∃t,yM (Ci Io P w K mg base N qual (aA st) f cdv A outer s H E).nox (gj st) t/\t {nx:=λ_ c=>Q .non c,rt:=Q} (start N vs) H):oX P w K mg base Io (k+1) f fd ps sp:=by obtain⟨oc,i,kV,e,j,l,cdv,ct,g,rfl,lk,b⟩:=F.ex;refine aaN lk b S len λA outer s H vs Q E hr hsp=>?_;obtain⟨t,h,q⟩:=a cdv A outer s H vs Q E hr hsp;exact⟨t,h.nox,q⟩
theorem gO.binds{x qual:Str}{st:eK}{f:cw}{fd:hP}{ps:List Str}(F:gO K x qual st f fd)(h:∀(kV a b:b_)(c:Option cw)(cdv ct:b_)(e:List b_),e.length=ps.length->rb (PySem.W.fnOf x qual (jl st) (gj st) (aA st) .none kV a b c cdv ct) ⟨e,[]⟩=fm (ps.zip e)):Binds K fd ps []:=by obtain⟨oc,j,kV,a,b,c,cdv,ct,g,rfl,lk,i⟩:=F.ex;exact .all (h kV a b c cdv ct)
theorem Ve{x qual:Str}{st:eK}{f:cw}{oc:b_}{h e:Option cw}{b:Array (Option b_)}{kV a g cdv ct:b_}(l:K.lookup f=aj ⟨oc,h,.func (PySem.W.fnOf x qual (jl st) (gj st) (aA st) .none kV a g e cdv ct),b⟩)(c:PySem.W.codeIn K cdv qual=a_)(k:keepIn K (.ref f)=a_):gO K x qual st f (PySem.W.fnOf x qual (jl st) (gj st) (aA st) .none kV a g e cdv ct):=⟨⟨oc,h,kV,a,g,e,cdv,ct,b,rfl,l,c⟩,k⟩
end
noncomputable def aN(H a:Hp):Prop:=∀b o,H b=aj o->a b=aj o
theorem aN.refl(H:Hp):aN H H:=λ_ _ h=>h
theorem aN.trans{H e f:Hp}(a:aN H e)(b:aN e f):aN H f:=λc o h=>b c o (a c o h)
theorem aN.seq{K:PySem.W.Frag}{H b:Hp}{a:cw}{xs:List V}(e:aN H b)(h:dJ K H a xs):dJ K b a xs:=by
 rcases h with(h|⟨o,h⟩)|h;.exact .inl (.inl (e _ _ h))
 .exact .inl (.inr ⟨o,e _ _ h⟩)
 .exact .inr h
end _L
namespace _H
open PySem
set_option genInjectivity true in inductive Dc where|k(kvs:List (Int×Int))|t(kvs:List (List Int×Int))deriving DecidableEq
set_option genInjectivity true in inductive D where|non|bl(b:Bool)|int(i:Int)|str(s:Str)|tup(ds:List D)|lst(ds:List D)|dM(m:Dc)|dv(ks:List Int)(ds:List D)deriving Inhabited
mutual
noncomputable def lg:D->D->Bool|.non,.non=>a_|.bl a,.bl b=>a==b|.bl a,.int i=>(if a then(1:Int)else 0)==i|.int i,.bl a=>i==(if a then(1:Int)else 0)|.int i,.int j=>i==j|.str a,.str b=>a==b|.tup xs,.tup ys=>lD xs ys|.lst xs,.lst ys=>lD xs ys|.dM a,.dM b=>decide (a=b)|.dv a xs,.dv b ys=>decide (a=b)&&lD xs ys|_,_=>aK
noncomputable def lD:List D->List D->Bool|[],[]=>a_|x::xs,y::ys=>lg x y&&lD xs ys|_,_=>aK
end
theorem mz:lD [] []=a_:=rfl
theorem jd{x y:D}{xs ys:List D}:lD (x::xs) (y::ys)=(lg x y&&lD xs ys):=rfl
theorem qW{y:D}{ys:List D}:lD [] (y::ys)=aK:=rfl
theorem tU{x:D}{xs:List D}:lD (x::xs) []=aK:=rfl
theorem pqi{i j}:lg (.int i) (.int j)=(i==j):=(rfl)
theorem pqt{x y}:lg (.tup x) (.tup y)=lD x y:=(rfl)
theorem pql{x y}:lg (.lst x) (.lst y)=lD x y:=(rfl)
noncomputable def jz:Nat->D->Bool|_,.non=>a_|_,.bl _=>a_|_,.int _=>a_|_,.str _=>a_|0,.tup _=>aK|0,.lst _=>aK|_,.dM _=>aK|_,.dv _ _=>aK|n+1,.tup ds=>ds.all (jz n)|n+1,.lst ds=>ds.all (jz n)
theorem cj{n:Nat}{ds:List D}:jz (n+1) (.tup ds)=ds.all (jz n):=rfl
theorem bN{n:Nat}{ds:List D}:jz (n+1) (.lst ds)=ds.all (jz n):=rfl
theorem cg{n:Nat}{m:Dc}:jz n (.dM m)=aK:=by cases n<;>rfl
theorem bY{n:Nat}{k:List Int}{ds:List D}:jz n (.dv k ds)=aK:=by cases n<;>rfl
theorem bZ{ds:List D}:jz 0 (.tup ds)=aK:=rfl
theorem bU{ds:List D}:jz 0 (.lst ds)=aK:=rfl
set_option genInjectivity true in inductive Sl where|aV|val(b:Bool)(d:D)|own(b:Bool)(ds:List D)|lent(ds:List D)|gV(m:Dc)|hold(rows:List (List D))|cR(kvs:List (Int×D))deriving Inhabited
set_option genInjectivity true in inductive R where|val(d:D)|own(ds:List D)deriving Inhabited
noncomputable def R.d:R->D|.val d=>d|.own ds=>.lst ds
set_option genInjectivity true in inductive Res(α:Type)where|ok(a:α)(ρ:List Sl)|exc(k:Nat)(ρ:List Sl)|stuck deriving Inhabited
noncomputable def Res.bind{b c:Type}(f:b->List Sl->Res c):Res b->Res c|.ok a ρ=>f a ρ|.exc _ _=>.stuck|.stuck=>.stuck
noncomputable def lift{b:Type}(o:Option b)(ρ:List Sl):Res b:=match o with|some a=>.ok a ρ|none=>.stuck
inductive Op where|add|sub|mul|fdiv|mod|pow|shl|shr|band|zP|din|agd
inductive Cm where|eq|ne|lt|le|gt|ge|isN|Qh|inn|zQ|isT|aa1|leT
inductive Ty where|int|bool|str|tuple|list|none
inductive Blt where|len|list|tuple|min2|max2|Lf|Lg|sum|all|int|keys|YG|rvT|Lh
inductive P where|var(i:Nat)|con(d:D)|bin(o:Op)(a b:P)|neg(a:P)|not(a:P)|and(a b:P)|or(a b:P)|cmp(o:Cm)(a b:P)|chain(o o':Cm)(a b c:P)|Mm(c a b:P)|tup(as:List P)|lst(as:List P)|idx(a i:P)|slice(a lo hi:P)|call(f:Nat)(as:List P)|blt(b:Blt)(as:List P)|inst(ts:List Ty)(a:P)|comp(src:P)(n:Nat)(is:List Nat)(one:Bool)(test:Option P)(elt:P)|uC(a b:P)|enm(a:P)|zip(a b:P)|YH(x:Nat)(k d:P)|vw(x:Nat)|Rz(x:Nat)(k:P)|RB(x:Nat)(k:P)(neg:Bool)|Ck(k e:Int)|vN(k e:Int)(p q:P)|YJ(x:Nat)(e:P)deriving Inhabited
noncomputable abbrev lim:Nat:=16777216
noncomputable def rJ:D->D->Option R|.int i,.int j=>aj (.val (.int (i+j)))|.lst xs,.lst ys=>if xs.length+ys.length<=lim then aj (.own (xs++ys))else bx|.tup xs,.tup ys=>if xs.length+ys.length<=lim then aj (.val (.tup (xs++ys)))else bx|.str x,.str y=>if x.length+y.length<=lim then aj (.val (.str (x++y)))else bx|_,_=>bx
noncomputable def pM:D->D->Option R|.int i,.int j=>if((-18446744073709551616<i/\i<18446744073709551616)\/(-18446744073709551616<j/\j<18446744073709551616))then aj (.val (.int (i*j)))else bx|.lst xs,.int k=>if 0<=k/\0<xs.length/\xs.length*k.toNat<=lim then aj (.own (cx k.toNat xs).flatten)else bx|.tup xs,.int k=>if 0<=k/\0<xs.length/\xs.length*k.toNat<=lim then aj (.val (.tup (cx k.toNat xs).flatten))else bx|_,_=>bx
noncomputable def yC:D->D->Option R|.int i,.int j=>aj (.val (.int (i-j)))|_,_=>bx
noncomputable def rF:D->D->Option R|.int i,.int j=>if 0<j/\j<1606938044258990275541962092341162602522202993782792835301376 then aj (.val (.int (i/j)))else bx|_,_=>bx
noncomputable def yX:D->D->Option R|.int i,.int j=>if 0<j then aj (.val (.int (i%j)))else bx|_,_=>bx
noncomputable def zM:D->D->Option R|.int i,.int j=>if 0<=j/\j<=1000/\i.natAbs<18446744073709551616 then aj (.val (.int (i^j.toNat)))else bx|_,_=>bx
noncomputable def HS:D->D->Option R|.int i,.int j=>if 0<=j/\j<=1000/\i.natAbs<18446744073709551616 then aj (.val (.int (i*2^j.toNat)))else bx|_,_=>bx
noncomputable def JX:D->D->Option R|.int i,.int j=>if 0<=j then aj (.val (.int (i/2^j.toNat)))else bx|_,_=>bx
noncomputable def By:D->D->Option R|.int i,.int j=>aj (.val (.int (Builtin.bitAnd i j)))|_,_=>bx
noncomputable def flat:D->Bool|.tup _=>aK|.lst _=>aK|.dM _=>aK|.dv _ _=>aK|_=>a_
noncomputable def items:D->Option (List D)|.lst ds=>aj ds|.tup ds=>aj ds|_=>bx
noncomputable def Uk:D->Option (List D)|.tup ds=>aj ds|_=>bx
noncomputable def J6(x y:D):Option Bool:=if jz 8 x&&jz 8 y then aj (lg x y)else bx
noncomputable def Ks(x y:D):Option Bool:=if jz 8 x&&jz 8 y then aj (!lg x y)else bx
noncomputable def Ma(f:Int->Int->Bool):D->D->Option Bool|.int i,.int j=>aj (f i j)|_,_=>bx
noncomputable def jJ:D->Bool|.non=>a_|_=>aK
noncomputable def XD(neg:Bool)(x:D):D->Option Bool|.non=>aj (if neg then !jJ x else jJ x)|_=>bx
noncomputable def zg(neg:Bool)(x y:D):Option Bool:=(items y).bind λys=>if(flat x&&ys.all flat)=a_ then aj (if neg then !(ys.any λy=>lg y x)else ys.any λy=>lg y x)else bx
noncomputable def cmT(neg:Bool):D->D->Option Bool|.bl b,.bl a_=>aj (if neg then !b else b)|_,_=>bx
noncomputable def bI:List Int->List Int->Bool|[],_::_=>a_|i::is,j::js=>decide (i<j)||(decide (i=j)&&bI is js)|_,[]=>aK
noncomputable def mZ:D->Int|.int i=>i|_=>0
noncomputable def dj:D->List Int|.int i=>[i]|.tup ds=>ds.map mZ|_=>[]
noncomputable def fL:D->Bool|.int _=>a_|_=>aK
noncomputable def Dc.get:Dc->D->Option (Option Int)|.k kvs,.int i=>aj ((kvs.find? λa=>decide (a.1=i)).map (·.2))|_,_=>bx
noncomputable def putD{κ:Type}[DecidableEq κ](kvs:List (κ×Int))(k:κ)(v:Int):List (κ×Int):=if(kvs.any λa=>decide (a.1=k))=a_ then kvs.map (λa=>if a.1=k then(a.1,v)else a)else kvs++[(k,v)]
noncomputable def Dc.put:Dc->D->Int->Option Dc|.k kvs,.int i,v=>if kvs.length<lim then aj (.k (putD kvs i v))else bx|_,_,_=>bx
noncomputable def mD(kvs:List (Int×D))(k:Int):Option D:=(kvs.find? λp=>decide (p.1=k)).map (·.2)
noncomputable def gw(kvs:List (Int×D))(k:Int)(d:D):List (Int×D):=if(kvs.any λp=>decide (p.1=k))=a_ then kvs.map (λp=>if p.1=k then(p.1,d)else p)else kvs++[(k,d)]
noncomputable def zb(neg:Bool):D->D->Option R|.int k,.dv ks _=>aj (.val (.bl (if neg then !ks.contains k else ks.contains k)))|_,_=>bx
noncomputable def Dv:D->D->Option R|.dM m,k=>(m.get k).bind λo=>o.map λv=>.val (.int v)|.dv ks ds,.int k=>(mD (ks.zip ds) k).map .val|_,_=>bx
noncomputable def uB:Op->D->D->Option R|.add=>rJ|.mul=>pM|.sub=>yC|.fdiv=>rF|.mod=>yX|.pow=>zM|.shl=>HS|.shr=>JX|.band=>By|.zP=>Dv|.din=>zb aK|.agd=>zb a_
noncomputable def Y5:D->D->Option Bool|.int i,.int j=>aj (decide (i<j))|.tup xs,.tup ys=>if(xs.all fL&&ys.all fL)=a_ then aj (bI (xs.map mZ) (ys.map mZ))else bx|_,_=>bx
noncomputable def adF:D->D->Option Bool|.int i,.int j=>aj (decide (i<=j))|.tup xs,.tup ys=>if(xs.all fL&&ys.all fL)=a_ then aj (!bI (ys.map mZ) (xs.map mZ))else bx|_,_=>bx
noncomputable def cm:Cm->D->D->Option Bool|.eq=>J6|.ne=>Ks|.lt=>Y5|.le=>Ma λi j=>decide (i<=j)|.leT=>adF|.gt=>Ma λi j=>decide (j<i)|.ge=>Ma λi j=>decide (j<=i)|.isN=>XD aK|.Qh=>XD a_|.inn=>zg aK|.zQ=>zg a_|.isT=>cmT aK|.aa1=>cmT a_
noncomputable def qL(o:Cm)(x y:D):Option R:=(cm o x y).map λk=>.val (.bl k)
noncomputable def ir(n:Nat)(i:Int):Option Nat:=if 0<=i then(if i<n then aj i.toNat else bx)else if-(n:Int)<=i then aj (i+n).toNat else bx
noncomputable def at'{a:Type}(xs:List a)(i:Int):Option a:=(ir xs.length i).bind λj=>xs[j]?
noncomputable def dO(n d:Nat):Option Int->Nat|none=>d|some i=>if 0<=i then min i.toNat n else(i+n).toNat
noncomputable def cut{a:Type}(xs:List a)(lo hi:Option Int):List a:=(xs.drop (dO xs.length 0 lo)).take (dO xs.length xs.length hi-dO xs.length 0 lo)
noncomputable def gq:D->Option Int|.int i=>aj i|_=>bx
noncomputable def xW:D->Option Bool|.bl b=>aj b|_=>bx
noncomputable def dl2(k e:Int)(x y:D):Option R:=(gq x).bind λi=>(gq y).bind λj=>if i=k then bx else aj (.val (.dv [k,i] [.int e,.int j]))
noncomputable def PQ:D->D->Option R|.lst ds,.int i=>(ds.mapM gq).bind λns=>if i∈ns/\ns.length<=1000 then aj (.val (.int (ns.idxOf i)))else bx|_,_=>bx
noncomputable def LR(x y:D):Option R:=(items x).bind λds=>(gq y).bind λi=>(at' ds i).map .val
noncomputable def JR(x:D):Option R:=(gq x).map λi=>.val (.int (-i))
noncomputable def aaB:P->Bool|.con .non=>a_|_=>aK
noncomputable def part(p:P)(d:D):Option (Option Int):=if aaB p then aj bx else(gq d).map aj
noncomputable def Ms:D->Option (Option Int)->Option (Option Int)->Option R|.lst xs,aj lo,aj hi=>aj (.own (cut xs lo hi))|.tup xs,aj lo,aj hi=>aj (.val (.tup (cut xs lo hi)))|_,_,_=>bx
noncomputable def cW:Ty->D->Bool|.int,.int _=>a_|.int,.bl _=>a_|.bool,.bl _=>a_|.str,.str _=>a_|.tuple,.tup _=>a_|.list,.lst _=>a_|.none,.non=>a_|_,_=>aK
noncomputable def zE:D->Bool|.tup (x::xs)=>(x::xs).all fL|_=>aK
noncomputable def sortable(ds:List D):Bool:=decide (ds.length<=16777216)&&(ds.all fL||ds.all zE)
noncomputable def Ra(ds:List D):List D:=ds.mergeSort λa b=>!bI (dj b) (dj a)
noncomputable def ordP:D->Bool|.tup [.int _,.tup ws]=>ws.all fL|_=>aK
noncomputable def flP:D->D|.tup [.int h,.tup ws]=>.tup (.int h::ws)|d=>d
noncomputable def ufP:D->D|.tup (.int h::ws)=>.tup [.int h,.tup ws]|d=>d
noncomputable def Bh:D->Option (List D)|.lst ds=>aj ds|_=>bx
noncomputable def jY(p:Int×Int):D:=.tup [.int p.1,.int p.2]
noncomputable def blt:Blt->List D->Option R|.len,[x]=>(items x).map λds=>.val (.int ds.length)|.list,[x]=>(items x).map λds=>.own ds|.tuple,[x]=>(items x).map λds=>.val (.tup ds)|.min2,[.int i,.int j]=>aj (.val (.int (if j<i then j else i)))|.max2,[.int i,.int j]=>aj (.val (.int (if i<j then j else i)))|.Lf,[x]=>((items x).bind λds=>ds.mapM gq).bind λns=>ns.min?.map λi=>.val (.int i)|.Lg,[x]=>((items x).bind λds=>ds.mapM gq).bind λns=>ns.max?.map λi=>.val (.int i)|.sum,[x]=>((items x).bind λds=>ds.mapM gq).map λns=>.val (.int ns.sum)|.all,[x]=>((Bh x).bind λds=>ds.mapM xW).map λbs=>.val (.bl (bs.all id))|.int,[.int i]=>aj (.val (.int i))|.int,[.bl b]=>aj (.val (.int (if b then 1 else 0)))|.keys,[.dM (.k kvs)]=>aj (.val (.tup (kvs.map λp=>.int p.1)))|.keys,[.dv ks _]=>aj (.val (.tup (ks.map D.int)))|.YG,[.dv ks _]=>if ks.length<=16777216 then aj (.own (ks.map D.int))else bx|.rvT,[.lst ds]=>aj (.val (.tup ds.reverse))|.Lh,[.dM (.k kvs)]=>if kvs.length<=16777216/\kvs.Pairwise (λa b=>a.1<b.1)then aj (.own (kvs.map jY))else bx|_,_=>bx
noncomputable def pk(ρ:List Sl)(i:Nat):Option D:=match ρ[i]?with|some (.val _ d)=>aj d|some (.own _ ds)=>aj (.lst ds)|some (.lent ds)=>aj (.lst ds)|_=>bx
noncomputable def zN(ρ:List Sl)(i:Nat):Option (List D):=match pk ρ i with|some (.lst ds)=>aj ds|_=>bx
noncomputable abbrev Ev:=List Sl->Res R
noncomputable def isVar:P->Option Nat|.var i=>aj i|_=>bx
noncomputable def cu(i:Option Nat)(e:Ev)(ρ:List Sl):Res D:=match i with|some i=>lift (pk ρ i) ρ|none=>(e ρ).bind λr ρ=>.ok r.d ρ
noncomputable def iJ(i:Option Nat)(e:Ev)(j:Option Nat)(f:Ev)(ρ:List Sl):Res (D×D):=match i with|some i=>(lift (pk ρ i) ρ).bind λ_ ρ=>(cu j f ρ).bind λy ρ=>(lift (pk ρ i) ρ).bind λx ρ=>.ok (x,y) ρ|none=>(cu bx e ρ).bind λx ρ=>(cu j f ρ).bind λy ρ=>.ok (x,y) ρ
noncomputable def iU(e:Ev)(ρ:List Sl):Res Bool:=(e ρ).bind λr ρ=>lift (xW r.d) ρ
set_option genInjectivity true in inductive Arg where|dat(d:D)|tmp(ds:List D)|dD(i:Nat)
noncomputable def pP:R->Arg|.val d=>.dat d|.own ds=>.tmp ds
noncomputable def cC(ρ:List Sl):List Arg->List Nat->Option (List Sl)|[],_=>aj []|.dat d::r,a=>(cC ρ r a).map λs=>.val aK d::s|.tmp ds::r,a=>(cC ρ r a).map λs=>.own aK ds::s|.dD i::r,a=>match ρ[i]?with|some (.val _ d)=>(cC ρ r a).map λs=>.val aK d::s|some (.own _ ds)=>if a.contains i then bx else(cC ρ r (i::a)).map λs=>.own a_ ds::s|some (.lent ds)=>if a.contains i then bx else(cC ρ r (i::a)).map λs=>.lent ds::s|_=>bx
theorem Br{ρ:List Sl}{u:List Nat}:cC ρ [] u=aj []:=rfl
theorem Bt{ρ:List Sl}{d:D}{r:List Arg}{u:List Nat}:cC ρ (.dat d::r) u=(cC ρ r u).map λs=>.val aK d::s:=rfl
theorem Ar{ρ:List Sl}{d:List D}{r:List Arg}{u:List Nat}:cC ρ (.tmp d::r) u=(cC ρ r u).map λs=>.own aK d::s:=rfl
theorem sZ{ρ:List Sl}{i:Nat}{r:List Arg}{u:List Nat}:cC ρ (.dD i::r) u=match ρ[i]?with|some (.val _ d)=>(cC ρ r u).map λs=>.val aK d::s|some (.own _ ds)=>if u.contains i then bx else(cC ρ r (i::u)).map λs=>.own a_ ds::s|some (.lent ds)=>if u.contains i then bx else(cC ρ r (i::u)).map λs=>.lent ds::s|_=>bx:=rfl
noncomputable def bh(i:Nat):List Arg->List Sl->Option Sl|.dD k::as,s::ss=>if k=i then aj s else bh i as ss|.dat _::as,_::ss=>bh i as ss|.tmp _::as,_::ss=>bh i as ss|_,_=>bx
noncomputable def eV:Sl->Option Sl->Sl|.own b _,aj (.own _ ds)=>.own b ds|.own b _,aj (.val _ d)=>.val b d|s,_=>s
noncomputable def fG(as:List Arg)(ss:List Sl):Nat->List Sl->List Sl|_,[]=>[]|i,s::ρ=>eV s (bh i as ss)::fG as ss (i+1) ρ
theorem rW{as:List Arg}{ss:List Sl}{i:Nat}:fG as ss i []=[]:=rfl
theorem lW{as:List Arg}{ss:List Sl}{i:Nat}{s:Sl}{ρ:List Sl}:fG as ss i (s::ρ)=eV s (bh i as ss)::fG as ss (i+1) ρ:=rfl
noncomputable abbrev Call:=Nat->List Sl->Res R
noncomputable def ik(c:Call)(f:Nat)(as:List Arg)(ρ:List Sl):Res R:=match cC ρ as []with|none=>.stuck|some args=>match c f args with|.ok r a=>.ok r (fG as a 0 ρ)|.exc _ _=>.stuck|.stuck=>.stuck
noncomputable def put(ρ:List Sl)(i:Nat)(s:Sl):Option (List Sl):=match ρ[i]?with|some .aV=>aj (ρ.set i s)|some (.val aK _)=>aj (ρ.set i s)|some (.own aK _)=>aj (ρ.set i s)|_=>bx
noncomputable def putAll(ρ:List Sl):List Nat->List D->Option (List Sl)|[],[]=>aj ρ|i::is,d::ds=>(put ρ i (.val aK d)).bind λρ=>putAll ρ is ds|_,_=>bx
theorem jM{ρ:List Sl}:putAll ρ [] []=aj ρ:=rfl
theorem iZ{ρ:List Sl}{i:Nat}{is:List Nat}{d:D}{ds:List D}:putAll ρ (i::is) (d::ds)=(put ρ i (.val aK d)).bind λρ=>putAll ρ is ds:=rfl
theorem oY{ρ:List Sl}{i:Nat}{is:List Nat}:putAll ρ (i::is) []=bx:=rfl
theorem o6{ρ:List Sl}{d:D}{ds:List D}:putAll ρ [] (d::ds)=bx:=rfl
noncomputable def cz(ρ:List Sl)(is:List Nat)(one:Bool)(d:D):Option (List Sl):=match one,is,d with|true,[i],d=>put ρ i (.val aK d)|false,is,.tup ds=>putAll ρ is ds|_,_,_=>bx
noncomputable def srcOf(i:Option Nat)(e:Ev)(ρ:List Sl):Res (List D):=match i with
 |some i=>match ρ[i]?with|some (.val _ d)=>lift (items d) ρ|some (.own _ ds)=>.ok ds (ρ.set i (.lent ds))|some (.lent ds)=>.ok ds ρ|_=>.stuck
 |none=>(e ρ).bind λr ρ=>lift (items r.d) ρ
noncomputable def aP(a:List Sl)(i:Option Nat)(ρ:List Sl):List Sl:=match i with
 |some i=>match a[i]?with|some (.own b ds)=>ρ.set i (.own b ds)|_=>ρ
 |none=>ρ
noncomputable def srcY(i:Nat)(f:Ev)(ρ:List Sl):Res (List D×List Sl):=(f ρ).bind λr a=>(lift (items r.d) a).bind λes a=>match a[i]?with|some (.val _ d)=>(lift (items d) a).bind λds a=>.ok ((es.zip ds).map λp=>D.tup [p.1,p.2],a) a|some (.own _ ds)=>.ok ((es.zip ds).map λp=>D.tup [p.1,p.2],a) (a.set i (.lent ds))|some (.lent ds)=>.ok ((es.zip ds).map λp=>D.tup [p.1,p.2],a) a|_=>.stuck
noncomputable def turns(is:List Nat)(one:Bool)(a:List Sl->Res Bool)(e:Ev):List D->List D->List Sl->Res (List D)|[],c,ρ=>.ok c ρ|d::r,c,ρ=>match cz ρ is one d with|none=>.stuck|some ρ=>(a ρ).bind λb ρ=>if b then(e ρ).bind λx ρ=>turns is one a e r (c++[x.d]) ρ else turns is one a e r c ρ
theorem xK{is:List Nat}{o:Bool}{f:List Sl->Res Bool}{e:Ev}{a:List D}{ρ:List Sl}:turns is o f e [] a ρ=.ok a ρ:=rfl
theorem qY{is:List Nat}{o:Bool}{f:List Sl->Res Bool}{e:Ev}{d:D}{r a:List D}{ρ:List Sl}:turns is o f e (d::r) a ρ=match cz ρ is o d with|none=>.stuck|some ρ=>(f ρ).bind λb ρ=>if b then(e ρ).bind λx ρ=>turns is o f e r (a++[x.d]) ρ else turns is o f e r a ρ:=rfl
mutual
noncomputable def ev(c:Call):P->List Sl->Res R
 |.var i,ρ=>match ρ[i]?with|some (.val _ d)=>.ok (.val d) ρ|some (.own b ds)=>.ok (.val (.lst ds)) (ρ.set i (.val b (.lst ds)))|some (.gV (.k kvs))=>.ok (.val (.dM (.k kvs))) (ρ.set i (.val aK (.dM (.k kvs))))|some (.cR kvs)=>.ok (.val (.dv (kvs.map (·.1)) (kvs.map (·.2)))) (ρ.set i (.val aK (.dv (kvs.map (·.1)) (kvs.map (·.2)))))|_=>.stuck
 |.con d,ρ=>.ok (.val d) ρ|.bin o a b,ρ=>(iJ (isVar a) (ev c a) (isVar b) (ev c b) ρ).bind λg ρ=>lift (uB o g.1 g.2) ρ|.neg a,ρ=>(cu (isVar a) (ev c a) ρ).bind λx ρ=>lift (JR x) ρ|.not a,ρ=>(iU (ev c a) ρ).bind λb ρ=>.ok (.val (.bl (!b))) ρ|.and a b,ρ=>(iU (ev c a) ρ).bind λx ρ=>if x then(iU (ev c b) ρ).bind λy ρ=>.ok (.val (.bl y)) ρ else .ok (.val (.bl aK)) ρ|.or a b,ρ=>(iU (ev c a) ρ).bind λx ρ=>if x then .ok (.val (.bl a_)) ρ else(iU (ev c b) ρ).bind λy ρ=>.ok (.val (.bl y)) ρ|.cmp o a b,ρ=>(iJ (isVar a) (ev c a) (isVar b) (ev c b) ρ).bind λg ρ=>lift (qL o g.1 g.2) ρ|.chain o C a b d,ρ=>(iJ (isVar a) (ev c a) (isVar b) (ev c b) ρ).bind λg ρ=>(lift (if flat g.2=a_ then cm o g.1 g.2 else bx) ρ).bind λk ρ=>if k then(cu (isVar d) (ev c d) ρ).bind λz ρ=>lift (qL C g.2 z) ρ else .ok (.val (.bl aK)) ρ|.Mm t a b,ρ=>(iU (ev c t) ρ).bind λk ρ=>if k then(ev c a ρ).bind λr ρ=>.ok (.val r.d) ρ else(ev c b ρ).bind λr ρ=>.ok (.val r.d) ρ|.tup as,ρ=>(evs c as ρ).bind λds ρ=>.ok (.val (.tup ds)) ρ|.lst as,ρ=>(evs c as ρ).bind λds ρ=>.ok (.own ds) ρ|.idx a i,ρ=>(iJ (isVar a) (ev c a) (isVar i) (ev c i) ρ).bind λg ρ=>lift (LR g.1 g.2) ρ|.slice a l h,ρ=>match isVar a with|some i=>(lift (pk ρ i) ρ).bind λ_ ρ=>(cu (isVar l) (ev c l) ρ).bind λy ρ=>(cu (isVar h) (ev c h) ρ).bind λz ρ=>(lift (pk ρ i) ρ).bind λx ρ=>lift (Ms x (part l y) (part h z)) ρ|none=>(cu bx (ev c a) ρ).bind λx ρ=>(cu (isVar l) (ev c l) ρ).bind λy ρ=>(cu (isVar h) (ev c h) ρ).bind λz ρ=>lift (Ms x (part l y) (part h z)) ρ
 |.call f as,ρ=>(uy c as ρ).bind λxs ρ=>ik c f xs ρ|.blt b [a],ρ=>(cu (isVar a) (ev c a) ρ).bind λx ρ=>lift (blt b [x]) ρ|.blt b as,ρ=>(evs c as ρ).bind λds ρ=>lift (blt b ds) ρ|.inst E a,ρ=>(cu (isVar a) (ev c a) ρ).bind λx ρ=>.ok (.val (.bl (E.any λt=>cW t x))) ρ|.comp src n is one w B,ρ=>(srcOf (isVar src) (ev c src) ρ).bind λds s=>if ds.length<=lim then(turns is one (mO c w) (ev c B) ds [] (s++cx n .aV)).bind λxs u=>.ok (.own xs) (aP ρ (isVar src) (u.take s.length))else .stuck|.uC a b,ρ=>(iJ (isVar a) (ev c a) (isVar b) (ev c b) ρ).bind λg ρ=>lift ((gq g.1).bind λi=>(gq g.2).bind λj=>if-1000000<=i/\i<=1000000000/\j<=1000000000/\-1000000000<=j then aj (.val (.lst ((dr (j-i).toNat).map λ(k:Nat)=>D.int (i+(k:Int)))))else bx) ρ|.enm a,ρ=>(ev c a ρ).bind λr ρ=>lift ((items r.d).map λds=>.val (.lst (ds.mapIdx λi d=>D.tup [.int (i:Int),d]))) ρ|.zip a b,ρ=>(ev c a ρ).bind λx ρ=>(ev c b ρ).bind λy ρ=>lift ((items x.d).bind λds=>(items y.d).map λes=>.val (.lst ((ds.zip es).map λp=>D.tup [p.1,p.2]))) ρ|.YH x k d,ρ=>match ρ[x]?with
   |some (.gV _)=>(cu (isVar k) (ev c k) ρ).bind λA ρ=>(cu (isVar d) (ev c d) ρ).bind λG ρ=>match ρ[x]?with|some (.gV m)=>lift ((m.get A).bind λo=>(gq G).map λv=>.val (.int (o.getD v))) ρ|_=>.stuck
   |_=>.stuck
 |.vw x,ρ=>match ρ[x]?with|some (.gV m)=>.ok (.val (.dM m)) (ρ.set x (.val aK (.dM m)))|some (.cR kvs)=>.ok (.val (.dv (kvs.map (·.1)) (kvs.map (·.2)))) (ρ.set x (.val aK (.dv (kvs.map (·.1)) (kvs.map (·.2)))))|some (.own b ds)=>.ok (.val (.lst ds)) (ρ.set x (.val b (.lst ds)))|some (.val _ d)=>.ok (.val d) ρ|_=>.stuck
 |.Rz x k,ρ=>match ρ[x]?with
   |some (.cR _)=>(cu (isVar k) (ev c k) ρ).bind λA ρ=>match ρ[x]?with|some (.cR kvs)=>lift ((gq A).bind λk=>(mD kvs k).map .val) ρ|_=>.stuck
   |_=>.stuck
 |.RB x k neg,ρ=>(cu (isVar k) (ev c k) ρ).bind λA ρ=>match ρ[x]?with|some (.cR kvs)=>lift ((gq A).map λk=>.val (.bl (if neg then !(kvs.map (·.1)).contains k else(kvs.map (·.1)).contains k))) ρ|_=>.stuck
 |.Ck k e,ρ=>.ok (.val (.dv [k] [.int e])) ρ|.vN k e p q,ρ=>(cu (isVar p) (ev c p) ρ).bind λx ρ=>(cu (isVar q) (ev c q) ρ).bind λy ρ=>lift (dl2 k e x y) ρ|.YJ x e,ρ=>(lift (pk ρ x) ρ).bind λ_ ρ=>(cu (isVar e) (ev c e) ρ).bind λk ρ=>(lift (pk ρ x) ρ).bind λd ρ=>lift (PQ d k) ρ
noncomputable def evs(c:Call):List P->List Sl->Res (List D)|[],ρ=>.ok [] ρ|a::r,ρ=>(ev c a ρ).bind λx ρ=>(evs c r ρ).bind λxs ρ=>.ok (x.d::xs) ρ
noncomputable def uy(c:Call):List P->List Sl->Res (List Arg)|[],ρ=>.ok [] ρ|a::r,ρ=>match isVar a with|some i=>(lift (pk ρ i) ρ).bind λ_ ρ=>(uy c r ρ).bind λxs ρ=>.ok (.dD i::xs) ρ|none=>(ev c a ρ).bind λx ρ=>(uy c r ρ).bind λxs ρ=>.ok (pP x::xs) ρ
noncomputable def mO(c:Call):Option P->List Sl->Res Bool|none,ρ=>.ok a_ ρ|some t,ρ=>iU (ev c t) ρ
end
theorem Jd{c:Call}{ρ:List Sl}:evs c [] ρ=.ok [] ρ:=rfl
theorem Ja{c:Call}{a:P}{r:List P}{ρ:List Sl}:evs c (a::r) ρ=(_H.ev c a ρ).bind λx ρ=>(evs c r ρ).bind λxs ρ=>.ok (x.d::xs) ρ:=rfl
theorem JS{c:Call}{ρ:List Sl}:uy c [] ρ=.ok [] ρ:=rfl
theorem Bl{c:Call}{a:P}{r:List P}{ρ:List Sl}:uy c (a::r) ρ=match isVar a with|some i=>(lift (pk ρ i) ρ).bind λ_ ρ=>(uy c r ρ).bind λxs ρ=>.ok (.dD i::xs) ρ|none=>(_H.ev c a ρ).bind λx ρ=>(uy c r ρ).bind λxs ρ=>.ok (pP x::xs) ρ:=rfl
theorem E1{c i ρ}:ev c (.var i) ρ=match ρ[i]?with|some (.val _ d)=>.ok (.val d) ρ|some (.own b ds)=>.ok (.val (.lst ds)) (ρ.set i (.val b (.lst ds)))|some (.gV (.k kvs))=>.ok (.val (.dM (.k kvs))) (ρ.set i (.val aK (.dM (.k kvs))))|some (.cR kvs)=>.ok (.val (.dv (kvs.map (·.1)) (kvs.map (·.2)))) (ρ.set i (.val aK (.dv (kvs.map (·.1)) (kvs.map (·.2)))))|_=>.stuck:=(rfl)
theorem E2{c d ρ}:ev c (.con d) ρ=.ok (.val d) ρ:=(rfl)
theorem E3{c o a b ρ}:ev c (.bin o a b) ρ=(iJ (isVar a) (ev c a) (isVar b) (ev c b) ρ).bind λe ρ=>lift (uB o e.1 e.2) ρ:=(rfl)
theorem E4{c a ρ}:ev c (.neg a) ρ=(cu (isVar a) (ev c a) ρ).bind λx ρ=>lift (JR x) ρ:=(rfl)
theorem E5{c a ρ}:ev c (.not a) ρ=(iU (ev c a) ρ).bind λb ρ=>.ok (.val (.bl (!b))) ρ:=(rfl)
theorem E6{c a b ρ}:ev c (.and a b) ρ=(iU (ev c a) ρ).bind λx ρ=>if x then(iU (ev c b) ρ).bind λy ρ=>.ok (.val (.bl y)) ρ else .ok (.val (.bl aK)) ρ:=(rfl)
theorem E7{c a b ρ}:ev c (.or a b) ρ=(iU (ev c a) ρ).bind λx ρ=>if x then .ok (.val (.bl a_)) ρ else(iU (ev c b) ρ).bind λy ρ=>.ok (.val (.bl y)) ρ:=(rfl)
theorem E8{c o a b ρ}:ev c (.cmp o a b) ρ=(iJ (isVar a) (ev c a) (isVar b) (ev c b) ρ).bind λe ρ=>lift (qL o e.1 e.2) ρ:=(rfl)
theorem E9{c o o' a b d ρ}:ev c (.chain o o' a b d) ρ=(iJ (isVar a) (ev c a) (isVar b) (ev c b) ρ).bind λe ρ=>(lift (if flat e.2=a_ then cm o e.1 e.2 else bx) ρ).bind λk ρ=>if k then(cu (isVar d) (ev c d) ρ).bind λz ρ=>lift (qL o' e.2 z) ρ else .ok (.val (.bl aK)) ρ:=(rfl)
theorem E10{c t a b ρ}:ev c (.Mm t a b) ρ=(iU (ev c t) ρ).bind λk ρ=>if k then(ev c a ρ).bind λr ρ=>.ok (.val r.d) ρ else(ev c b ρ).bind λr ρ=>.ok (.val r.d) ρ:=(rfl)
theorem E11{c as ρ}:ev c (.tup as) ρ=(evs c as ρ).bind λds ρ=>.ok (.val (.tup ds)) ρ:=(rfl)
theorem E12{c as ρ}:ev c (.lst as) ρ=(evs c as ρ).bind λds ρ=>.ok (.own ds) ρ:=(rfl)
theorem E13{c a i ρ}:ev c (.idx a i) ρ=(iJ (isVar a) (ev c a) (isVar i) (ev c i) ρ).bind λb ρ=>lift (LR b.1 b.2) ρ:=(rfl)
theorem E14{c a l h ρ}:ev c (.slice a l h) ρ=match isVar a with|some i=>(lift (pk ρ i) ρ).bind λ_ ρ=>(cu (isVar l) (ev c l) ρ).bind λy ρ=>(cu (isVar h) (ev c h) ρ).bind λz ρ=>(lift (pk ρ i) ρ).bind λx ρ=>lift (Ms x (part l y) (part h z)) ρ|none=>(cu bx (ev c a) ρ).bind λx ρ=>(cu (isVar l) (ev c l) ρ).bind λy ρ=>(cu (isVar h) (ev c h) ρ).bind λz ρ=>lift (Ms x (part l y) (part h z)) ρ:=(rfl)
theorem E15{c f as ρ}:ev c (.call f as) ρ=(uy c as ρ).bind λxs ρ=>ik c f xs ρ:=(rfl)
theorem E16{c b a ρ}:ev c (.blt b [a]) ρ=(cu (isVar a) (ev c a) ρ).bind λx ρ=>lift (blt b [x]) ρ:=(rfl)
theorem E17{c b x y r ρ}:ev c (.blt b (x::y::r)) ρ=(evs c (x::y::r) ρ).bind λds ρ=>lift (blt b ds) ρ:=(rfl)
theorem ZK{c b ρ}:ev c (.blt b []) ρ=(evs c [] ρ).bind λds ρ=>lift (blt b ds) ρ:=(rfl)
theorem E18{c ts a ρ}:ev c (.inst ts a) ρ=(cu (isVar a) (ev c a) ρ).bind λx ρ=>.ok (.val (.bl (ts.any λt=>cW t x))) ρ:=(rfl)
theorem E19{c src n is one test elt ρ}:ev c (.comp src n is one test elt) ρ=(srcOf (isVar src) (ev c src) ρ).bind λds a=>if ds.length<=lim then(turns is one (mO c test) (ev c elt) ds [] (a++cx n .aV)).bind λxs b=>.ok (.own xs) (aP ρ (isVar src) (b.take a.length))else .stuck:=(rfl)
theorem E20{c a b ρ}:ev c (.uC a b) ρ=(iJ (isVar a) (ev c a) (isVar b) (ev c b) ρ).bind λe ρ=>lift ((gq e.1).bind λi=>(gq e.2).bind λj=>if-1000000<=i/\i<=1000000000/\j<=1000000000/\-1000000000<=j then aj (.val (.lst ((dr (j-i).toNat).map λ(k:Nat)=>D.int (i+(k:Int)))))else bx) ρ:=(rfl)
theorem E21{c a ρ}:ev c (.enm a) ρ=(ev c a ρ).bind λr ρ=>lift ((items r.d).map λds=>.val (.lst (ds.mapIdx λi d=>D.tup [.int (i:Int),d]))) ρ:=(rfl)
theorem E22{c a b ρ}:ev c (.zip a b) ρ=(ev c a ρ).bind λx ρ=>(ev c b ρ).bind λy ρ=>lift ((items x.d).bind λds=>(items y.d).map λes=>.val (.lst ((ds.zip es).map λp=>D.tup [p.1,p.2]))) ρ:=(rfl)
theorem E23{c x k d ρ}:ev c (.YH x k d) ρ=match ρ[x]?with
 |some (.gV _)=>(cu (isVar k) (ev c k) ρ).bind λa ρ=>(cu (isVar d) (ev c d) ρ).bind λb ρ=>match ρ[x]?with|some (.gV m)=>lift ((m.get a).bind λo=>(gq b).map λv=>.val (.int (o.getD v))) ρ|_=>.stuck
 |_=>.stuck:=(rfl)
theorem E24{c x ρ}:ev c (.vw x) ρ=match ρ[x]?with|some (.gV m)=>.ok (.val (.dM m)) (ρ.set x (.val aK (.dM m)))|some (.cR kvs)=>.ok (.val (.dv (kvs.map (·.1)) (kvs.map (·.2)))) (ρ.set x (.val aK (.dv (kvs.map (·.1)) (kvs.map (·.2)))))|some (.own b ds)=>.ok (.val (.lst ds)) (ρ.set x (.val b (.lst ds)))|some (.val _ d)=>.ok (.val d) ρ|_=>.stuck:=(rfl)
theorem E25{c x k ρ}:ev c (.Rz x k) ρ=match ρ[x]?with
 |some (.cR _)=>(cu (isVar k) (ev c k) ρ).bind λa ρ=>match ρ[x]?with|some (.cR kvs)=>lift ((gq a).bind λk=>(mD kvs k).map .val) ρ|_=>.stuck
 |_=>.stuck:=(rfl)
theorem E26{c x k neg ρ}:ev c (.RB x k neg) ρ=(cu (isVar k) (ev c k) ρ).bind λa ρ=>match ρ[x]?with|some (.cR kvs)=>lift ((gq a).map λk=>.val (.bl (if neg then !(kvs.map (·.1)).contains k else(kvs.map (·.1)).contains k))) ρ|_=>.stuck:=(rfl)
theorem E27{c k e ρ}:ev c (.Ck k e) ρ=.ok (.val (.dv [k] [.int e])) ρ:=(rfl)
theorem E28{c k e p q ρ}:ev c (.vN k e p q) ρ=(cu (isVar p) (ev c p) ρ).bind λx ρ=>(cu (isVar q) (ev c q) ρ).bind λy ρ=>lift (dl2 k e x y) ρ:=(rfl)
theorem E29{c x e ρ}:ev c (.YJ x e) ρ=(lift (pk ρ x) ρ).bind λ_ ρ=>(cu (isVar e) (ev c e) ρ).bind λk ρ=>(lift (pk ρ x) ρ).bind λd ρ=>lift (PQ d k) ρ:=(rfl)
noncomputable def qe(c:Call)(f p x t:Nat)(ρ:List Sl):Res R:=match pk ρ x with|some (.lst (_::_))=>ev c (.call f [.var p,.var x,.var t]) ρ|some (.lst [])=>ev c (.call f [.var p,.lst [.con (.int 0)],.var t]) ρ|_=>.stuck
inductive S where|pass|brk|cont|bad|expr(e:P)|asg(i:Nat)(e:P)|par(i j:Nat)(a b:P)|zR(x:Nat)(i e:P)|app(x:Nat)(e:P)|ret(e:P)|aa3|ifs(c:P)(a b:List S)|jB(src:P)(i:List Nat)(one:Bool)(body:List S)|whl(c:P)(body:List S)|Qi(x:Nat)(i:P)|aug(x:Nat)(sub:Bool)(e:P)|Li(x:Nat)(i:P)(sub:Bool)(e:P)|Lj(x:Nat)(t:Bool)|dput(x:Nat)(k e:P)|ins(x:Nat)(i e:P)|Lk(x:Nat)(src:P)(k:Nat)(is:List Nat)(one:Bool)(elt:P)|Ln(x:Nat)(i e:P)|G8(src:P)(is:List Nat)(one:Bool)(body:List S)|dC(x:Nat)|G9(x:Nat)|Lp(x:Nat)(k e:Int)|gw(x:Nat)(k e:P)|WQ(z f p x y g t:Nat)|Lq(x:Nat)(i:List Nat)(body:List S)deriving Inhabited
inductive Fl where|next|brk|cont|ret(r:R)deriving Inhabited
noncomputable def lfr:Nat->D->Bool|_,.non=>a_|_,.bl _=>a_|_,.int _=>a_|_,.str _=>a_|k+1,.tup ds=>ds.all (lfr k)|_,_=>aK
noncomputable def tldF(c:Call)(x y f g a:Nat)(ρ:List Sl):Res Fl:=match ρ[a]?with|some (.val _ d)=>if lfr 3 d=a_/\a≠x then(lift (put ρ x .aV) ρ).bind λb _=>match c f [.val aK d]with|.ok (.val (.tup [.int z,.lst ds,.tup es])) _=>if ds.all fL=a_/\es.all fL=a_/\ds.length<1000 then match c g [.val aK d,.val aK (.tup [.int z,.lst ds,.tup es])]with|.ok (.val (.bl a_)) _=>(lift (put b y (.val aK (.tup [.int z,.lst ds,.tup es]))) b).bind λe _=>.ok .next e|.ok (.val (.bl aK)) _=>.ok (.ret (.val (.bl aK))) b|_=>.stuck else .stuck|_=>.stuck else .stuck|_=>.stuck
noncomputable def lfs:Sl->Bool|.aV=>a_|.val _ d=>lfr 9 d|_=>aK
noncomputable def scl:D->Bool|.bl _=>a_|.int _=>a_|.non=>a_|_=>aK
noncomputable def Q0:Sl->Sl|.val b d=>if lfr 9 d=a_ then .val b d else .aV|_=>.aV
noncomputable def fshT(y a b:Nat)(fl:Fl)(ρ:List Sl):Res Fl:=match fl with
 |.ret (.val d)=>if scl d=a_ then .ok (.ret (.val d)) (ρ.map Q0)else .stuck|.next=>match ρ[a]?,ρ[b]?with|some (.val aK (.lst ds)),aj (.val aK (.lst es))=>if ds.all fL=a_/\es.all fL=a_/\ds.length<1000/\0<es.length/\a≠y/\b≠y then(lift (put (ρ.map Q0) y (.val aK (.tup [.lst ds,.lst es]))) ρ).bind λc _=>.ok .next c else .stuck|_,_=>.stuck
 |_=>.stuck
noncomputable def lF:R->Sl|.val d=>.val aK d|.own ds=>.own aK ds
noncomputable def fV(is:List Nat)(one:Bool)(body:List Sl->Res Fl):List D->List Sl->Res Fl|[],ρ=>.ok .next ρ|d::r,ρ=>match cz ρ is one d with|none=>.stuck|some ρ=>(body ρ).bind λfl ρ=>match fl with|.next=>fV is one body r ρ|.cont=>fV is one body r ρ|.brk=>.ok .next ρ|.ret r=>.ok (.ret r) ρ
theorem Ak{is:List Nat}{o:Bool}{b:List Sl->Res Fl}{ρ:List Sl}:fV is o b [] ρ=.ok .next ρ:=rfl
theorem v5{is:List Nat}{o:Bool}{b:List Sl->Res Fl}{d:D}{r:List D}{ρ:List Sl}:fV is o b (d::r) ρ=match cz ρ is o d with|none=>.stuck|some ρ=>(b ρ).bind λfl ρ=>match fl with|.next=>fV is o b r ρ|.cont=>fV is o b r ρ|.brk=>.ok .next ρ|.ret r=>.ok (.ret r) ρ:=rfl
noncomputable def su(a:List Sl->Res Bool)(body:List Sl->Res Fl):Nat->List Sl->Res Fl|0,_=>.stuck|n+1,ρ=>(a ρ).bind λb ρ=>if b then(body ρ).bind λfl ρ=>match fl with|.next=>su a body n ρ|.cont=>su a body n ρ|.brk=>.ok .next ρ|.ret r=>.ok (.ret r) ρ else .ok .next ρ
theorem Ug{f:List Sl->Res Bool}{b:List Sl->Res Fl}{ρ:List Sl}:su f b 0 ρ=.stuck:=rfl
theorem JN{f:List Sl->Res Bool}{b:List Sl->Res Fl}{n:Nat}{ρ:List Sl}:su f b (n+1) ρ=(f ρ).bind λx ρ=>if x then(b ρ).bind λfl ρ=>match fl with|.next=>su f b n ρ|.cont=>su f b n ρ|.brk=>.ok .next ρ|.ret r=>.ok (.ret r) ρ else .ok .next ρ:=rfl
noncomputable def gG(is:List Nat)(one:Bool)(b:Ev):List D->List (List D)->List Sl->Res (List (List D))|[],a,ρ=>.ok a ρ|d::r,a,ρ=>match cz ρ is one d with|none=>.stuck|some ρ=>(b ρ).bind λx ρ=>match x with|.own ds=>gG is one b r (a++[ds]) ρ|.val _=>.stuck
theorem Kg{is:List Nat}{o:Bool}{e:Ev}{a:List (List D)}{ρ:List Sl}:gG is o e [] a ρ=.ok a ρ:=rfl
theorem Ib{is:List Nat}{o:Bool}{e:Ev}{d:D}{r:List D}{a:List (List D)}{ρ:List Sl}:gG is o e (d::r) a ρ=match cz ρ is o d with|none=>.stuck|some ρ=>(e ρ).bind λx ρ=>match x with|.own ds=>gG is o e r (a++[ds]) ρ|.val _=>.stuck:=rfl
noncomputable def rowAt(a:List (List D))(k:Int):Option (List D):=(ir a.length k).bind λr=>a[r]?
noncomputable def kh(a:List (List D))(k:Int)(f:List D->Option (List D)):Option (List (List D)):=(ir a.length k).bind λr=>(a[r]?).bind λrow=>(f row).map λb=>a.set r b
noncomputable def setAt(l:Int)(d:D)(row:List D):Option (List D):=(ir row.length l).map λm=>row.set m d
noncomputable def jr(ρ:List Sl)(x:Nat):Option (List (List D)):=match ρ[x]?with|some (.hold a)=>aj a|_=>bx
noncomputable def v8(ρ:List Sl)(x:Nat)(k:D):Option (List D):=(jr ρ x).bind λa=>(gq k).bind λk=>rowAt a k
noncomputable def FN(ρ:List Sl)(x:Nat)(o:Option (List (List D))):Res Fl:=match o with|some a=>.ok .next (ρ.set x (.hold a))|none=>.stuck
noncomputable def rowOne(x r:Nat)(b c e:List Sl->Res D)(ρ:List Sl):Res Fl:=(c ρ).bind λk ρ=>(lift ((jr ρ x).bind λa=>(a[r]?).bind λrow=>(gq k).bind λk=>(at' row k).bind gq) ρ).bind λu ρ=>(e ρ).bind λl ρ=>(lift ((jr ρ x).bind λa=>(a[r]?).bind λrow=>(gq l).bind λl=>(at' row l).bind gq) ρ).bind λv ρ=>(b ρ).bind λj ρ=>FN ρ x ((jr ρ x).bind λa=>(a[r]?).bind λrow=>(gq j).bind λj=>(setAt j (.int (u+v)) row).map λf=>a.set r f)
noncomputable def Wa(x y:Nat)(a b c:List Sl->Res D):Nat->Nat->List Sl->Res Fl|0,_,ρ=>.ok .next ρ|m+1,r,ρ=>(lift (put ρ y .aV) ρ).bind λρ _=>(rowOne x r a b c ρ).bind λ_ ρ=>Wa x y a b c m (r+1) ρ
noncomputable def U9(is:List Nat)(one:Bool)(body:List Sl->Res Fl)(b:List Sl->Option (Nat×List Sl)):List D->List Sl->Option (Nat×List Sl)|[],_=>bx|d::r,ρ=>match cz ρ is one d with|none=>bx|some ρ=>match b ρ with|some x=>aj x|none=>match body ρ with|.ok .next a=>U9 is one body b r a|.ok .cont a=>U9 is one body b r a|_=>bx
noncomputable def Tp(a:List Sl->Res Bool)(body:List Sl->Res Fl)(e:List Sl->Option (Nat×List Sl)):Nat->List Sl->Option (Nat×List Sl)|0,_=>bx|n+1,ρ=>match a ρ with
   |.ok a_ c=>match e c with|some x=>aj x|none=>match body c with|.ok .next b=>Tp a body e n b|.ok .cont b=>Tp a body e n b|_=>bx
   |_=>bx
noncomputable def TQ:P->P|.idx a _=>a|.blt .sum [.comp s _ _ _ _ _]=>s|e=>e
noncomputable def arg0:P->P|.call _ (a::_)=>a|e=>e
noncomputable def CP(c:Call)(e:P)(ρ:List Sl):Option (Nat×List Sl):=match TQ e with
 |.call f as=>match uy c as ρ with
   |.ok xs b=>match cC b xs []with
     |some args=>match c f args with|.exc k a=>aj (k,fG xs a 0 b)|_=>bx
     |none=>bx
   |_=>bx
 |_=>bx
mutual
noncomputable def ex(c:Call)(n:Nat):S->List Sl->Res Fl
 |.pass,ρ=>.ok .next ρ|.brk,ρ=>.ok .brk ρ|.cont,ρ=>.ok .cont ρ|.bad,_=>.stuck|.expr e,ρ=>(ev c e ρ).bind λ_ ρ=>.ok .next ρ|.asg i e,ρ=>(ev c e ρ).bind λr ρ=>(lift (put ρ i (lF r)) ρ).bind λo _=>.ok .next o|.par i j a b,ρ=>(ev c a ρ).bind λx ρ=>(ev c b ρ).bind λy ρ=>(lift ((put ρ i (.val aK x.d)).bind λρ=>put ρ j (.val aK y.d)) ρ).bind λo _=>.ok .next o|.zR x i e,ρ=>(ev c e ρ).bind λr ρ=>(lift (pk ρ x) ρ).bind λ_ ρ=>(cu (isVar i) (ev c i) ρ).bind λk ρ=>match ρ[x]?,k with
   |some (.own b ds),.int k=>match ir ds.length k with|some j=>.ok .next (ρ.set x (.own b (ds.set j r.d)))|none=>.stuck
   |_,_=>.stuck
 |.app x e,ρ=>(lift (zN ρ x) ρ).bind λ_ ρ=>(ev c e ρ).bind λr ρ=>match ρ[x]?with|some (.own b ds)=>if ds.length<lim then .ok .next (ρ.set x (.own b (ds++[r.d])))else .stuck|_=>.stuck
 |.ret e,ρ=>match isVar e with
   |some i=>match ρ[i]?with|some (.own aK ds)=>.ok (.ret (.own ds)) (ρ.set i .aV)|_=>(ev c e ρ).bind λr ρ=>.ok (.ret r) ρ
   |none=>(ev c e ρ).bind λr ρ=>.ok (.ret r) ρ
 |.aa3,ρ=>.ok (.ret (.val .non)) ρ|.ifs t a b,ρ=>(iU (ev c t) ρ).bind λk ρ=>if k then gh c n a ρ else gh c n b ρ|.jB src is one body,ρ=>(srcOf (isVar src) (ev c src) ρ).bind λds h=>(fV is one (gh c n body) ds h).bind λfl q=>.ok fl (aP ρ (isVar src) q)|.whl t body,ρ=>su (iU (ev c t)) (gh c n body) n ρ|.Qi x i,ρ=>(lift (zN ρ x) ρ).bind λ_ ρ=>(cu (isVar i) (ev c i) ρ).bind λk ρ=>match ρ[x]?,k with
   |some (.own b ds),.int k=>match ir ds.length k with|some j=>if ds.length<=lim then .ok .next (ρ.set x (.own b (ds.eraseIdx j)))else .stuck|none=>.stuck
   |_,_=>.stuck
 |.aug x sub e,ρ=>(lift (pk ρ x) ρ).bind λa ρ=>(cu (isVar e) (ev c e) ρ).bind λb ρ=>match a,b with|.int i,.int j=>(lift (put ρ x (.val aK (.int (if sub then i-j else i+j)))) ρ).bind λo _=>.ok .next o|_,_=>.stuck
 |.Li x i sub e,ρ=>(lift (zN ρ x) ρ).bind λ_ ρ=>(cu (isVar i) (ev c i) ρ).bind λk ρ=>(lift (zN ρ x) ρ).bind λl ρ=>(lift ((gq k).bind λi=>at' l i) ρ).bind λa ρ=>(cu (isVar e) (ev c e) ρ).bind λb ρ=>match a,b,ρ[x]?,k with
   |.int u,.int v,aj (.own B ds),.int k=>match ir ds.length k with|some j=>.ok .next (ρ.set x (.own B (ds.set j (.int (if sub then u-v else u+v)))))|none=>.stuck
   |_,_,_,_=>.stuck
 |.Lj x t,ρ=>match ρ[x]?with|some .aV=>.ok .next (ρ.set x (.gV (if t then .t []else .k [])))|_=>.stuck
 |.dput x k e,ρ=>(ev c e ρ).bind λr ρ=>match ρ[x]?with
   |some (.gV _)=>(cu (isVar k) (ev c k) ρ).bind λw ρ=>match ρ[x]?,r with
     |some (.gV m),.val (.int v)=>match m.put w v with|some C=>.ok .next (ρ.set x (.gV C))|none=>.stuck
     |_,_=>.stuck
   |_=>.stuck
 |.ins x i e,ρ=>(lift (zN ρ x) ρ).bind λ_ ρ=>(cu (isVar i) (ev c i) ρ).bind λk ρ=>(ev c e ρ).bind λr ρ=>match ρ[x]?,k with|some (.own b ds),.int j=>if 0<=j/\j<=1000000/\ds.length<lim then .ok .next (ρ.set x (.own b (ds.take j.toNat++r.d::ds.drop j.toNat)))else .stuck|_,_=>.stuck
 |.Lk x src k is one A,ρ=>(srcOf (isVar src) (ev c src) ρ).bind λds h=>if ds.length<=lim then(gG is one (ev c A) ds [] (h++cx k .aV)).bind λs q=>(lift (put (aP ρ (isVar src) (q.take h.length)) x (.hold s)) ρ).bind λo _=>.ok .next o else .stuck|.Ln x i e,ρ=>(cu (isVar i) (ev c i) ρ).bind λk ρ=>(lift (v8 ρ x k) ρ).bind λ_ ρ=>(ev c e ρ).bind λr ρ=>FN ρ x ((jr ρ x).bind λs=>(gq k).bind λk=>kh s k λrow=>if row.length<lim then aj (row++[r.d])else bx)|.G8 src is one body,ρ=>(ev c src ρ).bind λr h=>(lift (items r.d) h).bind λds h=>fV is one (gh c n body) ds h|.dC x,ρ=>match ρ[x]?with|some (.hold s)=>.ok .next (ρ.set x (.val aK (.lst (s.map D.lst))))|_=>.stuck
 |.G9 x,ρ=>match ρ[x]?with|some .aV=>.ok .next (ρ.set x (.cR []))|some (.cR _)=>.ok .next (ρ.set x (.cR []))|some (.val aK _)=>.ok .next (ρ.set x (.cR []))|_=>.stuck
 |.Lp x k e,ρ=>match ρ[x]?with|some .aV=>.ok .next (ρ.set x (.cR [(k,.int e)]))|some (.cR _)=>.ok .next (ρ.set x (.cR [(k,.int e)]))|some (.val aK _)=>.ok .next (ρ.set x (.cR [(k,.int e)]))|_=>.stuck
 |.gw x k e,ρ=>(ev c e ρ).bind λr ρ=>match ρ[x]?with
   |some (.cR _)=>(cu (isVar k) (ev c k) ρ).bind λw ρ=>match ρ[x]?,w with|some (.cR kvs),.int k=>if kvs.length<lim then .ok .next (ρ.set x (.cR (gw kvs k r.d)))else .stuck|_,_=>.stuck
   |_=>.stuck
 |.Lq x is body,ρ=>(srcOf (aj x) (ev c (.var x)) ρ).bind λds h=>(fV is aK (gh c n body) (ds.mapIdx λi d=>D.tup [.int (i:Int),d]) h).bind λfl q=>.ok fl (aP ρ (aj x) q)|.WQ z f p x y g t,ρ=>(lift (pk ρ x) ρ).bind λ_ ρ=>(lift (pk ρ y) ρ).bind λ_ ρ=>(ev c (.call g [.var p,.con (.int 2)]) ρ).bind λr ρ=>match r.d with|.int 0=>(qe c f p x t ρ).bind λr ρ=>(lift (put ρ z (lF r)) ρ).bind λo _=>.ok .next o|.int 1=>(qe c f p y t ρ).bind λr ρ=>(lift (put ρ z (lF r)) ρ).bind λo _=>.ok .next o|_=>.stuck
noncomputable def gh(c:Call)(n:Nat):List S->List Sl->Res Fl|[],ρ=>.ok .next ρ|s::r,ρ=>(ex c n s ρ).bind λfl ρ=>match fl with|.next=>gh c n r ρ|fl=>.ok fl ρ
noncomputable def exX(c:Call)(n:Nat):S->List Sl->Option (Nat×List Sl)
 |.ifs t a b,ρ=>match iU (ev c t) ρ with|.ok x f=>if x then Gq c n a f else Gq c n b f|_=>bx
 |.jB src is one body,ρ=>match CP c src ρ with|some x=>aj x|none=>match srcOf (isVar src) (ev c src) ρ with|.ok ds f=>(U9 is one (gh c n body) (Gq c n body) ds f).map λx=>(x.1,aP ρ (isVar src) x.2)|_=>bx
 |.ret e,ρ=>CP c e ρ|.asg _ e,ρ=>CP c e ρ|.expr e,ρ=>CP c e ρ|.whl t body,ρ=>Tp (iU (ev c t)) (gh c n body) (Gq c n body) n ρ|_,_=>bx
noncomputable def Gq(c:Call)(n:Nat):List S->List Sl->Option (Nat×List Sl)|[],_=>bx|s::r,ρ=>match exX c n s ρ with|some x=>aj x|none=>match ex c n s ρ with|.ok .next a=>Gq c n r a|_=>bx
end
theorem X1{c n ρ}:ex c n (.pass) ρ=.ok .next ρ:=(rfl)
theorem X2{c n ρ}:ex c n (.brk) ρ=.ok .brk ρ:=(rfl)
theorem X3{c n ρ}:ex c n (.cont) ρ=.ok .cont ρ:=(rfl)
theorem X4{c n ρ}:ex c n (.bad) ρ=.stuck:=(rfl)
theorem X5{c n e ρ}:ex c n (.expr e) ρ=(ev c e ρ).bind λ_ ρ=>.ok .next ρ:=(rfl)
theorem X6{c n i e ρ}:ex c n (.asg i e) ρ=(ev c e ρ).bind λr ρ=>(lift (put ρ i (lF r)) ρ).bind λa _=>.ok .next a:=(rfl)
theorem X7{c n i j a b ρ}:ex c n (.par i j a b) ρ=(ev c a ρ).bind λx ρ=>(ev c b ρ).bind λy ρ=>(lift ((put ρ i (.val aK x.d)).bind λρ=>put ρ j (.val aK y.d)) ρ).bind λe _=>.ok .next e:=(rfl)
theorem X8{c n x i e ρ}:ex c n (.zR x i e) ρ=(ev c e ρ).bind λr ρ=>(lift (pk ρ x) ρ).bind λ_ ρ=>(cu (isVar i) (ev c i) ρ).bind λk ρ=>match ρ[x]?,k with
 |some (.own b ds),.int k=>match ir ds.length k with|some j=>.ok .next (ρ.set x (.own b (ds.set j r.d)))|none=>.stuck
 |_,_=>.stuck:=(rfl)
theorem X9{c n x e ρ}:ex c n (.app x e) ρ=(lift (zN ρ x) ρ).bind λ_ ρ=>(ev c e ρ).bind λr ρ=>match ρ[x]?with|some (.own b ds)=>if ds.length<lim then .ok .next (ρ.set x (.own b (ds++[r.d])))else .stuck|_=>.stuck:=(rfl)
theorem X10{c n e ρ}:ex c n (.ret e) ρ=match isVar e with
 |some i=>match ρ[i]?with|some (.own aK ds)=>.ok (.ret (.own ds)) (ρ.set i .aV)|_=>(ev c e ρ).bind λr ρ=>.ok (.ret r) ρ
 |none=>(ev c e ρ).bind λr ρ=>.ok (.ret r) ρ:=(rfl)
theorem X11{c n ρ}:ex c n (.aa3) ρ=.ok (.ret (.val .non)) ρ:=(rfl)
theorem X12{c n t a b ρ}:ex c n (.ifs t a b) ρ=(iU (ev c t) ρ).bind λk ρ=>if k then gh c n a ρ else gh c n b ρ:=(rfl)
theorem X13{c n src is one body ρ}:ex c n (.jB src is one body) ρ=(srcOf (isVar src) (ev c src) ρ).bind λds a=>(fV is one (gh c n body) ds a).bind λfl b=>.ok fl (aP ρ (isVar src) b):=(rfl)
theorem X14{c n t body ρ}:ex c n (.whl t body) ρ=su (iU (ev c t)) (gh c n body) n ρ:=(rfl)
theorem X15{c n x i ρ}:ex c n (.Qi x i) ρ=(lift (zN ρ x) ρ).bind λ_ ρ=>(cu (isVar i) (ev c i) ρ).bind λk ρ=>match ρ[x]?,k with
 |some (.own b ds),.int k=>match ir ds.length k with|some j=>if ds.length<=lim then .ok .next (ρ.set x (.own b (ds.eraseIdx j)))else .stuck|none=>.stuck
 |_,_=>.stuck:=(rfl)
theorem X16{c n x sub e ρ}:ex c n (.aug x sub e) ρ=(lift (pk ρ x) ρ).bind λa ρ=>(cu (isVar e) (ev c e) ρ).bind λb ρ=>match a,b with|.int i,.int j=>(lift (put ρ x (.val aK (.int (if sub then i-j else i+j)))) ρ).bind λf _=>.ok .next f|_,_=>.stuck:=(rfl)
theorem X17{c n x i sub e ρ}:ex c n (.Li x i sub e) ρ=(lift (zN ρ x) ρ).bind λ_ ρ=>(cu (isVar i) (ev c i) ρ).bind λk ρ=>(lift (zN ρ x) ρ).bind λl ρ=>(lift ((gq k).bind λi=>at' l i) ρ).bind λa ρ=>(cu (isVar e) (ev c e) ρ).bind λb ρ=>match a,b,ρ[x]?,k with
 |.int u,.int v,aj (.own f ds),.int k=>match ir ds.length k with|some j=>.ok .next (ρ.set x (.own f (ds.set j (.int (if sub then u-v else u+v)))))|none=>.stuck
 |_,_,_,_=>.stuck:=(rfl)
theorem X18{c n x t ρ}:ex c n (.Lj x t) ρ=match ρ[x]?with|some .aV=>.ok .next (ρ.set x (.gV (if t then .t []else .k [])))|_=>.stuck:=(rfl)
theorem X19{c n x k e ρ}:ex c n (.dput x k e) ρ=(ev c e ρ).bind λr ρ=>match ρ[x]?with
 |some (.gV _)=>(cu (isVar k) (ev c k) ρ).bind λa ρ=>match ρ[x]?,r with
   |some (.gV m),.val (.int v)=>match m.put a v with|some b=>.ok .next (ρ.set x (.gV b))|none=>.stuck
   |_,_=>.stuck
 |_=>.stuck:=(rfl)
theorem X20{c n x i e ρ}:ex c n (.ins x i e) ρ=(lift (zN ρ x) ρ).bind λ_ ρ=>(cu (isVar i) (ev c i) ρ).bind λk ρ=>(ev c e ρ).bind λr ρ=>match ρ[x]?,k with|some (.own b ds),.int j=>if 0<=j/\j<=1000000/\ds.length<lim then .ok .next (ρ.set x (.own b (ds.take j.toNat++r.d::ds.drop j.toNat)))else .stuck|_,_=>.stuck:=(rfl)
theorem X21{c n x src k is one elt ρ}:ex c n (.Lk x src k is one elt) ρ=(srcOf (isVar src) (ev c src) ρ).bind λds a=>if ds.length<=lim then(gG is one (ev c elt) ds [] (a++cx k .aV)).bind λe b=>(lift (put (aP ρ (isVar src) (b.take a.length)) x (.hold e)) ρ).bind λf _=>.ok .next f else .stuck:=(rfl)
theorem X22{c n x i e ρ}:ex c n (.Ln x i e) ρ=(cu (isVar i) (ev c i) ρ).bind λk ρ=>(lift (v8 ρ x k) ρ).bind λ_ ρ=>(ev c e ρ).bind λr ρ=>FN ρ x ((jr ρ x).bind λa=>(gq k).bind λk=>kh a k λrow=>if row.length<lim then aj (row++[r.d])else bx):=(rfl)
theorem X23{c n src is one body ρ}:ex c n (.G8 src is one body) ρ=(ev c src ρ).bind λr a=>(lift (items r.d) a).bind λds a=>fV is one (gh c n body) ds a:=(rfl)
theorem X24{c n x ρ}:ex c n (.dC x) ρ=match ρ[x]?with|some (.hold a)=>.ok .next (ρ.set x (.val aK (.lst (a.map D.lst))))|_=>.stuck:=(rfl)
theorem X25{c n x ρ}:ex c n (.G9 x) ρ=match ρ[x]?with|some .aV=>.ok .next (ρ.set x (.cR []))|some (.cR _)=>.ok .next (ρ.set x (.cR []))|some (.val aK _)=>.ok .next (ρ.set x (.cR []))|_=>.stuck:=(rfl)
theorem X26{c n x k e ρ}:ex c n (.Lp x k e) ρ=match ρ[x]?with|some .aV=>.ok .next (ρ.set x (.cR [(k,.int e)]))|some (.cR _)=>.ok .next (ρ.set x (.cR [(k,.int e)]))|some (.val aK _)=>.ok .next (ρ.set x (.cR [(k,.int e)]))|_=>.stuck:=(rfl)
theorem X27{c n x k e ρ}:ex c n (.gw x k e) ρ=(ev c e ρ).bind λr ρ=>match ρ[x]?with
 |some (.cR _)=>(cu (isVar k) (ev c k) ρ).bind λa ρ=>match ρ[x]?,a with|some (.cR kvs),.int k=>if kvs.length<lim then .ok .next (ρ.set x (.cR (gw kvs k r.d)))else .stuck|_,_=>.stuck
 |_=>.stuck:=(rfl)
theorem X28{c n x is body ρ}:ex c n (.Lq x is body) ρ=(srcOf (aj x) (ev c (.var x)) ρ).bind λds a=>(fV is aK (gh c n body) (ds.mapIdx λi d=>D.tup [.int (i:Int),d]) a).bind λfl b=>.ok fl (aP ρ (aj x) b):=(rfl)
theorem X29{c n z f p x y g t ρ}:ex c n (.WQ z f p x y g t) ρ=(lift (pk ρ x) ρ).bind λ_ ρ=>(lift (pk ρ y) ρ).bind λ_ ρ=>(ev c (.call g [.var p,.con (.int 2)]) ρ).bind λr ρ=>match r.d with|.int 0=>(qe c f p x t ρ).bind λr ρ=>(lift (put ρ z (lF r)) ρ).bind λa _=>.ok .next a|.int 1=>(qe c f p y t ρ).bind λr ρ=>(lift (put ρ z (lF r)) ρ).bind λa _=>.ok .next a|_=>.stuck:=(rfl)
structure Fd where
 np:Nat
 nn:Nat
 body:List S deriving Inhabited
noncomputable abbrev Tab:=Nat->Option Fd
noncomputable def enter(c:Call)(n:Nat)(d:Fd)(args:List Sl):Res R:=if args.length=d.np/\d.np<=d.nn then match gh c n d.body (args++cx (d.nn-d.np) .aV)with|.ok .next ρ=>.ok (.val .non) (ρ.take d.np)|.ok (.ret r) ρ=>.ok r (ρ.take d.np)|_=>match Gq c n d.body (args++cx (d.nn-d.np) .aV)with|some (k,ρ)=>.exc k (ρ.take d.np)|none=>.stuck else .stuck
noncomputable def run(Γ:Tab)(w:Nat):Nat->Call|0,_,_=>.stuck|n+1,f,args=>match Γ f with|some d=>enter (run Γ w n) w d args|none=>.stuck
end _H
section
namespace _H
open PySem _L
variable{ρ:List Sl}{σ:St}{v:V}
noncomputable def Dc.ho:Dc->HO|.k kvs=>.dK (kvs.map λp=>(dl p.1,V.int p.2))|.t kvs=>.dT (kvs.map λp=>(p.1.map dl,V.int p.2))
noncomputable def Ab(ks:List Int)(vs:List V):HO:=.dK ((ks.zip vs).map λp=>(dl p.1,p.2))
section
variable(K:PySem.W.Frag)
mutual
noncomputable def Rep(F:Hp):V->D->Prop|v,.non=>v=.non|v,.bl b=>v=.bl b|v,.int i=>v=.int i|v,.str x=>v=.str x|v,.tup ds=>∃a xs,v=.ref a/\iB K F a xs/\aG F xs ds|v,.lst ds=>∃a xs,v=.ref a/\dJ K F a xs/\aG F xs ds|v,.dM m=>∃a o,v=.ref a/\F a=aj (.dC o m.ho)|v,.dv ks ds=>∃a o vs,v=.ref a/\F a=aj (.dC o (Ab ks vs))/\aG F vs ds/\ks.length=ds.length
noncomputable def aG(F:Hp):List V->List D->Prop|vs,[]=>vs=[]|vs,d::ds=>∃v r,vs=v::r/\Rep F v d/\aG F r ds
end
end
section
variable{K:PySem.W.Frag}{F F' H H':Hp}
theorem aN.fY{a:cw}{xs:List V}(e:aN H H')(h:iB K H a xs):iB K H' a xs:=by
 rcases h with(h|⟨o,h⟩)|h;.exact .inl (.inl (e _ _ h))
 .exact .inl (.inr ⟨o,e _ _ h⟩)
 .exact .inr h
mutual
theorem Rep.mono(e:aN F F'):∀{d:D}{v:V},Rep K F v d->Rep K F' v d|.non,_,h=>by rw[Rep]at h ⊢;exact h|.bl _,_,h=>by rw[Rep]at h ⊢;exact h|.int _,_,h=>by rw[Rep]at h ⊢;exact h|.str _,_,h=>by rw[Rep]at h ⊢;exact h|.tup ds,_,h=>by rw[Rep]at h ⊢;obtain⟨a,xs,rfl,hs,r⟩:=h;exact⟨a,xs,rfl,aN.fY e hs,aG.mono e r⟩|.lst ds,_,h=>by rw[Rep]at h ⊢;obtain⟨a,xs,rfl,hs,r⟩:=h;exact⟨a,xs,rfl,e.seq hs,aG.mono e r⟩|.dM m,_,h=>by rw[Rep]at h ⊢;obtain⟨a,o,rfl,hs⟩:=h;exact⟨a,o,rfl,e _ _ hs⟩|.dv ks ds,_,h=>by rw[Rep]at h ⊢;obtain⟨a,o,vs,rfl,hs,r,b⟩:=h;exact⟨a,o,vs,rfl,e _ _ hs,aG.mono e r,b⟩theorem aG.mono(e:aN F F'):∀{ds:List D}{vs:List V},aG K F vs ds->aG K F' vs ds|[],_,h=>by rw[aG]at h ⊢;exact h|d::ds,_,h=>by rw[aG]at h ⊢;obtain⟨v,r,rfl,h1,a⟩:=h;exact⟨v,r,rfl,Rep.mono e h1,aG.mono e a⟩end
theorem aG.nil:aG K F [] []:=by rw[aG]
theorem aG.cons{v:V}{d:D}{vs:List V}{ds:List D}(h:Rep K F v d)(t:aG K F vs ds):aG K F (v::vs) (d::ds):=by rw[aG];exact⟨v,vs,rfl,h,t⟩
theorem aG.cG{vs:List V}{d:D}{ds:List D}(h:aG K F vs (d::ds)):∃v r,vs=v::r/\Rep K F v d/\aG K F r ds:=by rw[aG]at h;exact h
theorem aG.dR{vs:List V}(h:aG K F vs []):vs=[]:=by rw[aG]at h;exact h
theorem aG.length:∀{ds:List D}{vs:List V},aG K F vs ds->vs.length=ds.length|[],_,h=>by rw[h.dR];rfl|d::ds,_,h=>by obtain⟨v,r,rfl,_,t⟩:=h.cG;simp[aG.length t]
theorem aG.get:∀{ds:List D}{vs:List V}{i:Nat}{d:D},aG K F vs ds->ds[i]?=aj d->∃v,vs[i]?=aj v/\Rep K F v d|[],_,_,_,h,e=>by simp at e|d::ds,_,0,_,h,e=>by obtain⟨v,r,rfl,h1,t⟩:=h.cG;simp at e;subst e;exact⟨v,rfl,h1⟩|d::ds,_,i+1,_,h,e=>by obtain⟨v,r,rfl,_,t⟩:=h.cG;simp at e;obtain⟨w,a,b⟩:=t.get e;exact⟨w,by simpa using a,b⟩
theorem aG.append:∀{ds es:List D}{vs a:List V},aG K F vs ds->aG K F a es->aG K F (vs++a) (ds++es)|[],_,_,_,h,h'=>by rw[h.dR];exact h'|d::ds,_,_,_,h,h'=>by obtain⟨v,r,rfl,h1,t⟩:=h.cG;exact .cons h1 (t.append h')
theorem aG.set{v:V}{d:D}(hr:Rep K F v d):∀{ds:List D}{vs:List V}(i:Nat),aG K F vs ds->aG K F (vs.set i v) (ds.set i d)|[],_,_,h=>by rw[h.dR];exact .nil|_::_,_,0,h=>by obtain⟨w,r,rfl,h1,t⟩:=h.cG;exact .cons hr t|_::_,_,i+1,h=>by obtain⟨w,r,rfl,h1,t⟩:=h.cG;exact .cons h1 (aG.set hr i t)
theorem aG.take:∀{ds:List D}{vs:List V}(n:Nat),aG K F vs ds->aG K F (vs.take n) (ds.take n)|[],_,n,h=>by rw[h.dR];simpa using aG.nil|_::_,_,0,h=>.nil|_::_,_,n+1,h=>by obtain⟨w,r,rfl,h1,t⟩:=h.cG;exact .cons h1 (t.take n)
theorem aG.drop:∀{ds:List D}{vs:List V}(n:Nat),aG K F vs ds->aG K F (vs.drop n) (ds.drop n)|[],_,n,h=>by rw[h.dR];simpa using aG.nil|_::_,_,0,h=>h|_::_,_,n+1,h=>by obtain⟨w,r,rfl,h1,t⟩:=h.cG;exact t.drop n
theorem aG.rep{ds:List D}{vs:List V}(h:aG K F vs ds):∀n,aG K F (cx n vs).flatten (cx n ds).flatten|0=>by simpa using aG.nil|n+1=>by simpa[g9]using h.append (aG.rep h n)
inductive Oc where|l(ds:List D)|d(m:Dc)|v(kvs:List (Int×D))
noncomputable def lst?:Sl->Option Oc|.own _ ds=>aj (.l ds)|.lent ds=>aj (.l ds)|.gV m=>aj (.d m)|.cR kvs=>aj (.v kvs)|_=>bx
noncomputable def lM(K:PySem.W.Frag)(F:Hp)(o:HO):Oc->Prop|.l ds=>∃xs,o=.lst xs/\aG K F xs ds|.d m=>o=m.ho|.v kvs=>∃vs,o=Ab (kvs.map (·.1)) vs/\aG K F vs (kvs.map (·.2))
theorem lM.mono{o:HO}{x:Oc}(e:aN F F')(h:lM K F o x):lM K F' o x:=by cases x with|l ds=>obtain⟨xs,a,h⟩:=h;exact⟨xs,a,h.mono e⟩|d m=>exact h|v kvs=>obtain⟨xs,a,h⟩:=h;exact⟨xs,a,h.mono e⟩
noncomputable def bj(ρ:List Sl)(σ:St)(i:Nat)(a:cw):Prop:=(∃s ds,ρ[i]?=aj s/\lst? s=aj ds)/\σ[i]?=aj (aj (V.ref a))
noncomputable def Own(ρ:List Sl)(σ:St)(a:cw):Prop:=∃i,bj ρ σ i a
structure GS(K:PySem.W.Frag)(F:Hp)(ρ:List Sl)(σ:St)(H:Hp):Prop where
 sub:aN F H
 len:ρ.length=σ.length
 val:∀(i:Nat)(b:Bool)(d:D),ρ[i]?=aj (Sl.val b d)->∃v:V,σ[i]?=aj (aj v)/\Rep K F v d
 own:∀(i:Nat)(s:Sl)(ds:Oc),ρ[i]?=aj s->lst? s=aj ds->∃(a:cw)(xs:HO),σ[i]?=aj (aj (V.ref a))/\H a=aj xs/\F a=bx/\lM K F xs ds
 dis:∀(i j:Nat)(a:cw),bj ρ σ i a->bj ρ σ j a->i=j
theorem GS.m7(g:GS K F ρ σ H)(i:Nat)(s:Sl)(ds:List D)(e:ρ[i]?=aj s)(b:lst? s=aj (.l ds)):∃(a:cw)(xs:List V),σ[i]?=aj (aj (V.ref a))/\H a=aj (.lst xs)/\F a=bx/\aG K F xs ds:=by obtain⟨a,o,h1,c,f,xs,rfl,h⟩:=g.own i s (.l ds) e b;exact⟨a,xs,h1,c,f,h⟩
noncomputable def uN:Sl->Bool|.val b _=>b|.own b _=>b|.lent _=>a_|.aV=>aK|.gV _=>aK|.cR _=>aK|.hold _=>a_
noncomputable def nG:Sl->Sl->Prop|.val a_ d,s=>s=.val a_ d|.own a_ _,s=>(∃ds,s=.own a_ ds)\/∃d,s=.val a_ d|.lent ds,s=>s=.lent ds|.hold ds,s=>s=.hold ds|_,_=>True
theorem nG.refl(s:Sl):nG s s:=by unfold nG;split<;>first|rfl|exact .inl ⟨_,rfl⟩|trivial
theorem nG.uN{s a:Sl}(h:nG s a)(l:uN s=a_):_H.uN a=a_:=by cases s with
 |aV=>cases l|gV _=>cases l|cR _=>cases l|val b d=>cases b with|true=>cases h;rfl|false=>cases l
 |own b d=>cases b with|true=>rcases h with⟨_,rfl⟩|⟨_,rfl⟩<;>rfl|false=>cases l
 |lent d=>cases h;rfl|hold d=>cases h;rfl
theorem nG.trans{s c a:Sl}(l:_H.uN s=a_)(h:nG s c)(h':nG c a):nG s a:=by cases s with
 |aV=>cases l|gV _=>cases l|cR _=>cases l|val b d=>cases b with|true=>cases h;exact h'|false=>cases l
 |own b d=>cases b with
   | true => rcases h with⟨_,rfl⟩|⟨d,rfl⟩;.exact h'
             .exact .inr ⟨d,h'⟩|false=>cases l
 |lent d=>cases h;exact h'|hold d=>cases h;exact h'
noncomputable def nt:Option HO->Option HO|some (.tup _)=>bx|o=>o
theorem iV{o:Option HO}(h:o=bx):nt o=bx:=by rw[h];rfl
theorem K7{H:Hp}{b:cw}{xs:List V}(h:H b=aj (.lst xs))(z:nt (H b)=bx):False:=by rw[h]at z;cases z
theorem Il{o:HO}{x:Oc}(h:lM K F o x)(z:nt (aj o)=bx):False:=by cases x with|l ds=>obtain⟨xs,rfl,_⟩:=h;cases z|d m=>cases m<;>(cases(show o=_ from h);cases z)|v kvs=>obtain⟨xs,rfl,_⟩:=h;cases z
structure aB(K:PySem.W.Frag)(F:Hp)(ρ:List Sl)(σ:St)(H:Hp)(F':Hp)(ρ':List Sl)(σ':St)(H':Hp):Prop where
 gs:GS K F' ρ' σ' H'
 cL:aN F F'
 xP:∀b,F b=bx->F' b≠bx->Own ρ σ b\/nt (H b)=bx
 keep:∀b o,H b=aj o->¬ Own ρ σ b->H' b=aj o
 vO:∀b,Own ρ' σ' b->Own ρ σ b\/H b=bx
 len:ρ'.length=ρ.length
 lk:∀(i:Nat)(s:Sl),ρ[i]?=aj s->uN s=a_->σ'[i]?=σ[i]?/\∃s',ρ'[i]?=aj s'/\nG s s'
theorem aB.refl{ρ:List Sl}{σ:St}(g:GS K F ρ σ H):aB K F ρ σ H F ρ σ H:=⟨g,aN.refl _,λb h h'=>absurd h h',λ_ _ h _=>h,λ_ h=>.inl h,rfl,λi s h _=>⟨rfl,s,h,.refl s⟩⟩
theorem aB.trans{F1 p m r:Hp}{ρ f j:List Sl}{σ g k:St}(a:aB K F ρ σ H F1 f g m)(b:aB K F1 f g m p j k r):aB K F ρ σ H p j k r:=by
 have back:∀c,Own f g c\/m c=bx->Own ρ σ c\/H c=bx:=λc h=>by
  rcases h with h|h;.exact a.vO c h
  . by_cases ho:Own ρ σ c;.exact .inl ho
    .right;cases e:H c with|none=>rfl|some o=>rw[a.keep c o e ho]at h;cases h
 refine⟨b.gs,a.cL.trans b.cL,λc h h'=>?_,λc o h n=>?_,λc h=>back c (b.vO c h),b.len.trans a.len,λi s h l=>?_⟩
 . by_cases e:F1 c=bx
   . by_cases ho:Own ρ σ c;.exact .inl ho
     . rcases b.xP c e h' with z|z;.exact(back c (.inl z)).imp id iV
       .right;cases q:H c with|none=>rfl|some o=>rw[a.keep c o q ho]at z;exact z
   .exact a.xP c h e
 . refine b.keep c o (a.keep c o h n) λh'=>?_;rcases a.vO c h' with h'|h';.exact n h'
   .rw[h]at h';cases h'
 .obtain⟨u,s1,h1,t⟩:=a.lk i s h l;obtain⟨w,s2,x,y⟩:=b.lk i s1 h1 (t.uN l);exact⟨w.trans u,s2,x,.trans l t y⟩
noncomputable def dq(K:PySem.W.Frag)(F H:Hp)(v:V)(d:D):Prop:=Rep K F v d\/∃a xs ds,v=.ref a/\H a=aj (.lst xs)/\aG K F xs ds/\d=.lst ds
noncomputable def cF(K:PySem.W.Frag)(F':Hp)(b:List Sl)(c:St)(H':Hp)(ρ:List Sl)(σ:St)(H:Hp)(v:V):R->Prop|.val d=>Rep K F' v d|.own ds=>∃a xs,v=.ref a/\H' a=aj (.lst xs)/\F' a=bx/\aG K F' xs ds/\¬ Own b c a/\(Own ρ σ a\/H a=bx)
theorem aN.cO{F:Hp}{a:cw}{o:HO}(h:F a=bx):aN F (upd F a o):=λb u e=>by
 have:b≠a:=by rintro rfl;rw[h]at e;cases e
 rw[aF this];exact e
theorem aB.dC{c:List Sl}{f:St}{r:R}(s:aB K F ρ σ H F' c f H')(h:cF K F' c f H' ρ σ H v r):∃g,aB K F ρ σ H g c f H'/\aN F' g/\Rep K g v r.d:=by cases r with|val d=>exact⟨F',s,.refl _,h⟩|own ds=>
   obtain⟨a,xs,rfl,h1,t,u,w,x⟩:=h;have sm:aN F' (upd F' a (.lst xs)):=aN.cO t;refine⟨upd F' a (.lst xs),⟨⟨λb o e=>?_,s.gs.len,λi b d e=>?_,λi sl k e p=>?_,s.gs.dis⟩,s.cL.trans sm,λb n q=>?_,s.keep,s.vO,s.len,s.lk⟩,sm,?_⟩
   . by_cases j:b=a;.subst j;rw[aH]at e;cases e;exact h1
     .rw[aF j]at e;exact s.gs.sub b o e
   .obtain⟨v,l,m⟩:=s.gs.val i b d e;exact⟨v,l,m.mono sm⟩
   . obtain⟨b,ys,l,m,y,z⟩:=s.gs.own i sl k e p;have j:b≠a:=by rintro rfl;exact w ⟨i,⟨sl,k,e,p⟩,l⟩
     exact⟨b,ys,l,m,by rw[aF j];exact y,z.mono sm⟩
   . by_cases j:b=a;.subst j;exact x.imp id iV
     .rw[aF j]at q;exact s.xP b n q
   .show Rep K _ _ (.lst ds);rw[Rep];exact⟨a,xs,rfl,dJ.of aH,u.mono sm⟩
theorem GS.pk{ρ:List Sl}{σ:St}{i:Nat}{d:D}(g:GS K F ρ σ H)(e:_H.pk ρ i=aj d):∃v:V,σ[i]?=aj (aj v)/\dq K F H v d:=by
 unfold _H.pk at e;split at e;.rename_i b d' h;cases e;obtain⟨v,h1,c⟩:=g.val i b d h;exact⟨v,h1,.inl c⟩
 .rename_i b ds h;cases e;obtain⟨a,xs,h1,c,j,f⟩:=g.m7 i _ ds h rfl;exact⟨.ref a,h1,.inr ⟨a,xs,ds,rfl,c,f,rfl⟩⟩
 .rename_i ds h;cases e;obtain⟨a,xs,h1,c,j,f⟩:=g.m7 i _ ds h rfl;exact⟨.ref a,h1,.inr ⟨a,xs,ds,rfl,c,f,rfl⟩⟩
 .cases e
structure Ext(F H F' H':Hp):Prop where
 hs:aN H H'
 fs:aN F F'
 sub:aN F' H'
 gr:∀b,F b=bx->F' b≠bx->nt (H b)=bx
theorem Ext.refl(h:aN F H):Ext F H F H:=⟨.refl _,.refl _,h,λ_ a b=>absurd a b⟩
theorem Ext.stp(g:GS K F ρ σ H)(e:Ext F H F' H'):aB K F ρ σ H F' ρ σ H':=by
 refine⟨⟨e.sub,g.len,λi b d h=>?_,λi s ds h h'=>?_,g.dis⟩,e.fs,λb n j=>.inr (e.gr b n j),λb o h _=>e.hs b o h,λ_ h=>.inl h,rfl,λi s h _=>⟨rfl,s,h,.refl s⟩⟩;.obtain⟨v,h1,c⟩:=g.val i b d h;exact⟨v,h1,c.mono e.fs⟩
 .obtain⟨a,xs,h1,c,k,f⟩:=g.own i s ds h h';refine⟨a,xs,h1,e.hs _ _ c,?_,f.mono e.fs⟩;cases q:F' a with|none=>rfl|some o=>have:=e.gr a k (by rw[q];simp);rw[c]at this;exact(Il f this).elim
noncomputable def cJ(K:PySem.W.Frag)(F' H' H:Hp)(v:V):R->Prop|.val d=>Rep K F' v d|.own ds=>∃a xs,v=.ref a/\H' a=aj (.lst xs)/\F' a=bx/\aG K F' xs ds/\H a=bx
theorem cJ.qm{r:R}(g:GS K F ρ σ H)(h:cJ K F' H' H v r):cF K F' ρ σ H' ρ σ H v r:=by cases r with|val d=>exact h|own ds=>obtain⟨a,xs,rfl,h1,l,m,f⟩:=h;refine⟨a,xs,rfl,h1,l,m,?_,.inr f⟩;rintro⟨i,⟨s,c,e,n⟩,o⟩;obtain⟨b,ys,j,k,_⟩:=g.own i s c e n;rw[o]at j;cases j;rw[f]at k;cases k
theorem cF.later{F1 j k l:Hp}{c f:List Sl}{g i:St}{r:R}(a:aB K F ρ σ H F1 c g j)(h:cF K k f i l c g j v r):cF K k f i l ρ σ H v r:=by cases r with|val d=>exact h|own ds=>
   obtain⟨b,xs,rfl,h1,m,n,p,h5⟩:=h;refine⟨b,xs,rfl,h1,m,n,p,?_⟩;rcases h5 with h5|h5;.exact a.vO b h5
   . by_cases ho:Own ρ σ b;.exact .inl ho
     .right;cases e:H b with|none=>rfl|some o=>rw[a.keep b o e ho]at h5;cases h5
end
end _H
end
namespace _H
open PySem _L Spec PyProof.Rows
variable{ρ' ρ ρ₀:List Sl}{es:List df}{K:PySem.W.Frag}{F H H₀:Hp}{σ:_L.St}{i n:Nat}{ds:List D}{x:Str}{v:V}{vs:List V}{op:nh}{p':Pos}{as:List Arg}
theorem aa{c e:Type}{x:Res c}{f:c->List Sl->Res e}{b:e}(h:x.bind f=.ok b ρ'):∃a ρ,x=.ok a ρ/\f a ρ=.ok b ρ':=by cases x with|ok a ρ=>exact⟨a,ρ,rfl,h⟩|exc _ _=>cases h|stuck=>cases h
theorem az{c:Type}{o:Option c}{a:c}(h:lift o ρ=.ok a ρ'):o=aj a/\ρ=ρ':=by cases o with|none=>cases h|some b=>cases h;exact⟨rfl,rfl⟩
theorem map_some{c e:Type}{o:Option c}{f:c->e}{b:e}(h:o.map f=aj b):∃a,o=aj a/\f a=b:=by cases o with|none=>cases h|some a=>cases h;exact⟨a,rfl,rfl⟩
theorem cA{c e:Type}{o:Option c}{f:c->Option e}{b:e}(h:o.bind f=aj b):∃a,o=aj a/\f a=aj b:=by cases o with|none=>cases h|some a=>exact⟨a,rfl,h⟩
theorem aZ{e:Type}{c:Prop}[Decidable c]{a b:e}(h:(if c then aj a else bx)=aj b):c/\a=b:=by
 split at h;.rename_i hc;cases h;exact⟨hc,rfl⟩
 .cases h
section
variable{X:Cx}{c:Call}{e a b:df}{p pa pb:P}{pos:Pos}
theorem dN{t t':TE}(h:PE X e t)(i:∀σ H Q,t' σ H Q->t σ H Q):PE X e t':=λf s σ H Q I q=>h f s σ H Q I (i σ H Q q)
theorem yD{t t':TT}(h:PT X e t)(i:∀σ H Q,t' σ H Q->t σ H Q):PT X e t':=λf s σ H Q I q=>h f s σ H Q I (i σ H Q q)
theorem Q6{t t':TT}(h:PW X e t)(i:∀σ H Q,t' σ H Q->t σ H Q):PW X e t':=λwh f s σ H Q I q=>h wh f s σ H Q I (i σ H Q q)
theorem ym{t t':TA}(h:PA X es t)(i:∀σ H Q,t' σ H Q->t σ H Q):PA X es t':=λpos f s σ H Q I q=>h pos f s σ H Q I (i σ H Q q)
inductive wy(K:PySem.W.Frag)(f:Ev)(σ:_L.St)(H:Hp)(Q:VK):Prop where|mk(F:Hp)(ρ:List Sl)(r:R)(ρ':List Sl)(g:GS K F ρ σ H)(e:f ρ=.ok r ρ')(k:∀v F' H',aB K F ρ σ H F' ρ' σ H'->cF K F' ρ' σ H' ρ σ H v r->Q v H')
inductive HD(K:PySem.W.Frag)(f:List Sl->Res Bool)(σ:_L.St)(H:Hp)(Q:Bool->Hp->Prop):Prop where|mk(F:Hp)(ρ:List Sl)(b:Bool)(ρ':List Sl)(g:GS K F ρ σ H)(e:f ρ=.ok b ρ')(k:∀F' H',aB K F ρ σ H F' ρ' σ H'->Q b H')
inductive afD(K:PySem.W.Frag)(f:List Sl->Res (List D))(σ:_L.St)(H:Hp)(Q:List V->Hp->Prop):Prop where|mk(F:Hp)(ρ:List Sl)(ds:List D)(ρ':List Sl)(g:GS K F ρ σ H)(e:f ρ=.ok ds ρ')(k:∀vs F' H',aB K F ρ σ H F' ρ' σ H'->aG K F' vs ds->Q vs H')
structure SX(X:Cx)(c:Call)(e:df)(p:P):Prop where ev:PE X e (wy X.K (_H.ev c p))var:∀i,isVar p=aj i->PE X e (j4 i)
noncomputable def SA(X:Cx)(c:Call)(es:List df)(ps:List P):Prop:=PA X es (afD X.K (evs c ps))/\ps.length=es.length
theorem SX.cu(h:SX X c e p):∃t,PE X e t/\∀{σ:_L.St}{H F:Hp}{ρ ρ':List Sl}{d:D}{Q:VK},GS X.K F ρ σ H->cu (isVar p) (_H.ev c p) ρ=.ok d ρ'->(∀v j f,aB X.K F ρ σ H j ρ' σ f->dq X.K j f v d->Q v f)->t σ H Q:=by cases hv:isVar p with|none=>refine⟨_,h.ev,λ{σ H F ρ ρ' d Q}g e k=>?_⟩;obtain⟨r,q,l,m⟩:=aa e;cases m;refine⟨F,ρ,r,_,g,l,λv j f s u=>?_⟩;obtain⟨o,w,_,y⟩:=s.dC u;exact k v o f w (.inl y)|some i=>refine⟨_,h.var i hv,λ{σ H F ρ ρ' d Q}g e k=>?_⟩;obtain⟨l,m⟩:=az e;subst m;obtain⟨v,h1,z⟩:=g.pk l;exact⟨v,h1,k v F H (.refl g) z⟩
theorem SX.iJ(J:SX X c a pa)(N:SX X c b pb):∃L h,PE X a L/\PE X b h/\∀{σ:_L.St}{H F:Hp}{ρ ρ':List Sl}{j:D×D}{R:V->V->Hp->Prop},GS X.K F ρ σ H->iJ (isVar pa) (_H.ev c pa) (isVar pb) (_H.ev c pb) ρ=.ok j ρ'->(∀v u w l,aB X.K F ρ σ H w ρ' σ l->dq X.K w l v j.1->dq X.K w l u j.2->R v u l)->L σ H λx z=>h σ z λy A=>R x y A:=by obtain⟨h,m,o⟩:=N.cu;cases hv:isVar pa with|none=>refine⟨_,h,J.ev,m,λ{σ H F ρ ρ' j R}g e k=>?_⟩;obtain⟨x,B,q,e⟩:=aa e;obtain⟨y,C,f,e⟩:=aa e;cases e;obtain⟨r,M,q,E⟩:=aa q;cases E;refine⟨F,ρ,r,_,g,q,λv w l s O=>?_⟩;obtain⟨F1,s1,_,Q⟩:=s.dC O;refine o s1.gs f λu U A s2 G=>?_;exact k v u U A (s1.trans s2) (.inl (Q.mono s2.cL)) G|some i=>refine⟨_,h,J.var i hv,m,λ{σ H F ρ ρ' j R}g e k=>?_⟩;obtain⟨x0,W,E,e⟩:=aa e;obtain⟨I,Y⟩:=az E;subst Y;obtain⟨y,B,q,e⟩:=aa e;obtain⟨x,C,f,e⟩:=aa e;cases e;have Z:=az f;clear f;obtain⟨f,e3⟩:=Z;subst e3;obtain⟨v,h1,_⟩:=g.pk I;refine⟨v,h1,o g q λu F1 z s1 G=>?_⟩;obtain⟨v',t,pv⟩:=s1.gs.pk f;rw[h1]at t;cases t;exact k v u F1 z s1 pv G
inductive rD(K:PySem.W.Frag)(f:D->D->Option R)(x y:V)(H:Hp)(Q:VK):Prop where|mk(F:Hp)(d e:D)(r:R)(sm:aN F H)(px:dq K F H x d)(py:dq K F H y e)(he:f d e=aj r)(k:∀v F' H',Ext F H F' H'->cJ K F' H' H v r->Q v H')
inductive rD1(K:PySem.W.Frag)(f:D->Option R)(x:V)(H:Hp)(Q:VK):Prop where|mk(F:Hp)(d:D)(r:R)(sm:aN F H)(px:dq K F H x d)(he:f d=aj r)(k:∀v F' H',Ext F H F' H'->cJ K F' H' H v r->Q v H')
theorem wG{E:df}{f:D->D->Option R}{q:P}(t:∀{m o},PE X a m->PE X b o->PE X E (Pu (rD X.K f) m o))(y:SX X c a pa)(z:SX X c b pb)(A:∀ρ,_H.ev c q ρ=(_H.iJ (isVar pa) (_H.ev c pa) (isVar pb) (_H.ev c pb) ρ).bind λj ρ=>lift (f j.1 j.2) ρ)(B:isVar q=bx):SX X c E q:=by obtain⟨m,o,h1,C,G⟩:=y.iJ z;refine⟨dN (t h1 C) ?_,λi h=>by rw[B]at h;cases h⟩;rintro σ H Q⟨F,ρ,r,ρ',g,e,k⟩;rw[A]at e;obtain⟨j,I,J,l⟩:=aa e;have L:=az l;clear l;obtain⟨l,M⟩:=L;subst M;refine G g J λv u N H' s O U=>⟨N,j.1,j.2,r,s.gs.sub,O,U,l,λw W Y x Z=>?_⟩;exact k w W Y (s.trans (x.stp s.gs)) (.later s (Z.qm s.gs))
theorem Vi{E:df}{f:D->Option R}{q:P}(m:∀{l},PE X a l->PE X E (tUn (rD1 X.K f) l))(o:SX X c a pa)(t:∀ρ,_H.ev c q ρ=(_H.cu (isVar pa) (_H.ev c pa) ρ).bind λx ρ=>lift (f x) ρ)(u:isVar q=bx):SX X c E q:=by obtain⟨l,h1,y⟩:=o.cu;refine⟨dN (m h1) ?_,λi h=>by rw[u]at h;cases h⟩;rintro σ H Q⟨F,ρ,r,ρ',g,e,k⟩;rw[t]at e;obtain⟨x,z,A,j⟩:=aa e;have B:=az j;clear j;obtain⟨j,C⟩:=B;subst C;refine y g A λv G N s I=>⟨G,x,r,s.gs.sub,I,j,λw J L x M=>?_⟩;exact k w J L (s.trans (x.stp s.gs)) (.later s (M.qm s.gs))
theorem GS.freeze{b:Bool}(g:GS K F ρ σ H)(e:ρ[i]?=aj (.own b ds)):∃v z,σ[i]?=aj (aj v)/\aB K F ρ σ H z (ρ.set i (.val b (.lst ds))) σ H/\Rep K z v (.lst ds):=by
 obtain⟨a,xs,h1,C,E,G⟩:=g.m7 i _ ds e rfl;have hi:i<ρ.length:=(eY e).1;have sm:aN F (upd F a (.lst xs)):=aN.cO E;have A:Rep K (upd F a (.lst xs)) (.ref a) (.lst ds):=by rw[Rep];exact⟨a,xs,rfl,dJ.of aH,G.mono sm⟩
 have I:Own ρ σ a:=⟨i,⟨_,_,e,rfl⟩,h1⟩;have r:∀j x,bj (ρ.set i (.val b (.lst ds))) σ j x->bj ρ σ j x/\j≠i:=λj x⟨⟨s,h,m,u⟩,y⟩=>by
  by_cases f:j=i;.subst f;rw[cv hi]at m;cases m;cases u
  .rw[fK f]at m;exact⟨⟨⟨s,h,m,u⟩,y⟩,f⟩
 refine⟨.ref a,upd F a (.lst xs),h1,⟨⟨λx o q=>?_,by simpa using g.len,λj J d q=>?_,λj s h q w=>?_,λj k x q w=>g.dis j k x (r j x q).1 (r k x w).1⟩,sm,λx n B=>?_,λ_ _ q _=>q,λx⟨j,q⟩=>.inl ⟨j,(r j x q).1⟩,by simp,λj s q l=>⟨rfl,?_⟩⟩,A⟩
 . by_cases t:x=a;.subst t;rw[aH]at q;cases q;exact C
   .rw[aF t]at q;exact g.sub x o q
 . by_cases f:j=i;.subst f;rw[cv hi]at q;cases q;exact⟨_,h1,A⟩
   .rw[fK f]at q;obtain⟨v,m,u⟩:=g.val j J d q;exact⟨v,m,u.mono sm⟩
 . by_cases f:j=i;.subst f;rw[cv hi]at q;cases q;cases w
   . rw[fK f]at q;obtain⟨x,ys,m,u,y,L⟩:=g.own j s h q w;have t:x≠a:=by rintro rfl;exact f (g.dis j i x ⟨⟨s,h,q,w⟩,m⟩ ⟨⟨_,_,e,rfl⟩,h1⟩)
     exact⟨x,ys,m,u,by rw[aF t];exact y,L.mono sm⟩
 . by_cases t:x=a;.subst t;exact .inl I
   .rw[aF t]at B;exact absurd n B
 . by_cases f:j=i;.subst f;rw[e]at q;cases q;refine⟨_,cv hi,?_⟩;cases b with|true=>exact .inr ⟨_,rfl⟩|false=>cases l
   .exact⟨s,by rw[fK f];exact q,.refl s⟩
theorem GS.Eb{m:Dc}(g:GS K F ρ σ H)(e:ρ[i]?=aj (.gV m)):∃a,σ[i]?=aj (aj (.ref a))/\H a=aj m.ho/\∀u,aB K F ρ σ H (upd F a (.dC u m.ho)) (ρ.set i (.val aK (.dM m))) σ (upd H a (.dC u m.ho))/\Rep K (upd F a (.dC u m.ho)) (.ref a) (.dM m):=by
 obtain⟨a,G,h1,I,J,L⟩:=g.own i _ _ e rfl;cases(show G=m.ho from L);have hi:i<ρ.length:=(eY e).1;refine⟨a,h1,I,λu=>?_⟩;have sm:aN F (upd F a (.dC u m.ho)):=aN.cO J;have B:Rep K (upd F a (.dC u m.ho)) (.ref a) (.dM m):=by rw[Rep];exact⟨a,u,rfl,aH⟩
 have C:Own ρ σ a:=⟨i,⟨_,_,e,rfl⟩,h1⟩;have w:∀j x,bj (ρ.set i (.val aK (.dM m))) σ j x->bj ρ σ j x/\j≠i:=λj x⟨⟨s,r,t,y⟩,A⟩=>by
  by_cases f:j=i;.subst f;rw[cv hi]at t;cases t;cases y
  .rw[fK f]at t;exact⟨⟨⟨s,r,t,y⟩,A⟩,f⟩
 refine⟨⟨⟨λx o q=>?_,by simpa using g.len,λj M d q=>?_,λj s r q z=>?_,λj k x q z=>g.dis j k x (w j x q).1 (w k x z).1⟩,sm,λx n E=>?_,λx o q n=>?_,λx⟨j,q⟩=>.inl ⟨j,(w j x q).1⟩,by simp,λj s q l=>⟨rfl,?_⟩⟩,B⟩
 . by_cases h:x=a;.subst h;rw[aH]at q ⊢;exact q
   .rw[aF h]at q ⊢;exact g.sub x o q
 . by_cases f:j=i;.subst f;rw[cv hi]at q;cases q;exact⟨_,h1,B⟩
   .rw[fK f]at q;obtain⟨v,t,y⟩:=g.val j M d q;exact⟨v,t,y.mono sm⟩
 . by_cases f:j=i;.subst f;rw[cv hi]at q;cases q;cases z
   . rw[fK f]at q;obtain⟨x,ys,t,y,A,N⟩:=g.own j s r q z;have h:x≠a:=by rintro rfl;exact f (g.dis j i x ⟨⟨s,r,q,z⟩,t⟩ ⟨⟨_,_,e,rfl⟩,h1⟩)
     exact⟨x,ys,t,by rw[aF h];exact y,by rw[aF h];exact A,N.mono sm⟩
 . by_cases h:x=a;.subst h;exact .inl C
   .rw[aF h]at E;exact absurd n E
 . have h:x≠a:=by rintro rfl;exact n C
   rw[aF h];exact q
 . by_cases f:j=i;.subst f;rw[e]at q;cases q;cases l
   .exact⟨s,by rw[fK f];exact q,.refl s⟩
theorem GS.Cy{kvs:List (Int×D)}(g:GS K F ρ σ H)(e:ρ[i]?=aj (.cR kvs)):∃a vs,σ[i]?=aj (aj (.ref a))/\H a=aj (Ab (kvs.map (·.1)) vs)/\∀t,aB K F ρ σ H (upd F a (.dC t (Ab (kvs.map (·.1)) vs))) (ρ.set i (.val aK (.dv (kvs.map (·.1)) (kvs.map (·.2))))) σ (upd H a (.dC t (Ab (kvs.map (·.1)) vs)))/\Rep K (upd F a (.dC t (Ab (kvs.map (·.1)) vs))) (.ref a) (.dv (kvs.map (·.1)) (kvs.map (·.2))):=by
 obtain⟨a,N,h1,E,G,I⟩:=g.own i _ _ e rfl;obtain⟨vs,rfl,J⟩:=I;have hi:i<ρ.length:=(eY e).1;refine⟨a,vs,h1,E,λt=>?_⟩;have sm:aN F (upd F a (.dC t (Ab (kvs.map (·.1)) vs))):=aN.cO G;have A:Rep K (upd F a (.dC t (Ab (kvs.map (·.1)) vs))) (.ref a) (.dv (kvs.map (·.1)) (kvs.map (·.2))):=by rw[Rep];exact⟨a,t,vs,rfl,aH,J.mono sm,by simp⟩
 have B:Own ρ σ a:=⟨i,⟨_,_,e,rfl⟩,h1⟩;have u:∀j x,bj (ρ.set i (.val aK (.dv (kvs.map (·.1)) (kvs.map (·.2))))) σ j x->bj ρ σ j x/\j≠i:=λj x⟨⟨s,m,r,w⟩,z⟩=>by
  by_cases f:j=i;.subst f;rw[cv hi]at r;cases r;cases w
  .rw[fK f]at r;exact⟨⟨⟨s,m,r,w⟩,z⟩,f⟩
 refine⟨⟨⟨λx o q=>?_,by simpa using g.len,λj L d q=>?_,λj s m q y=>?_,λj k x q y=>g.dis j k x (u j x q).1 (u k x y).1⟩,sm,λx n C=>?_,λx o q n=>?_,λx⟨j,q⟩=>.inl ⟨j,(u j x q).1⟩,by simp,λj s q l=>⟨rfl,?_⟩⟩,A⟩
 . by_cases h:x=a;.subst h;rw[aH]at q ⊢;exact q
   .rw[aF h]at q ⊢;exact g.sub x o q
 . by_cases f:j=i;.subst f;rw[cv hi]at q;cases q;exact⟨_,h1,A⟩
   .rw[fK f]at q;obtain⟨v,r,w⟩:=g.val j L d q;exact⟨v,r,w.mono sm⟩
 . by_cases f:j=i;.subst f;rw[cv hi]at q;cases q;cases y
   . rw[fK f]at q;obtain⟨x,ys,r,w,z,M⟩:=g.own j s m q y;have h:x≠a:=by rintro rfl;exact f (g.dis j i x ⟨⟨s,m,q,y⟩,r⟩ ⟨⟨_,_,e,rfl⟩,h1⟩)
     exact⟨x,ys,r,by rw[aF h];exact w,by rw[aF h];exact z,M.mono sm⟩
 . by_cases h:x=a;.subst h;exact .inl B
   .rw[aF h]at C;exact absurd n C
 . have h:x≠a:=by rintro rfl;exact n B
   rw[aF h];exact q
 . by_cases f:j=i;.subst f;rw[e]at q;cases q;cases l
   .exact⟨s,by rw[fK f];exact q,.refl s⟩
theorem Inv.Fw{X:Cx}{f:List (cw×Obj)}{s:cr}{a:cw}{kvs:List (Key×V)}(I:_L.Inv X f σ H s)(h:H a=aj (.dK kvs)):∃o,_L.Inv X f σ (upd H a (.dC o (.dK kvs))) s:=by obtain⟨hz,j,vs,r,g⟩:=(show bR X.prog X.w H s.heap a (.dK kvs)from I.hok a _ h);obtain⟨o,ho,_⟩:=g.typeIs;exact⟨o,I.write (h':=s.heap) (t':=s.toks) (by rw[h];exact trivial) (.inl rfl) (λb u _ e=>e) ⟨o,ho⟩ ⟨ho,hz,j,vs,r,g⟩⟩
theorem Uw(z:X.N[i]?=aj x)(A:pX X.env.scope x)(hd:(x==("__debug__":Str))=aK:=by decide)(t:(x==("__classdict__":Str))=aK:=by decide):SX X c (.Name x pos) (.var i):=by
 have h:=cU (X:=X) (pos:=pos) z A hd t;refine⟨?_,λj B=>by cases B;exact h⟩;rintro f s σ H Q I⟨F,ρ,r,ρ',g,e,k⟩;rw[_H.E1]at e;split at e;.rename_i b d q;cases e;obtain⟨v,h1,l⟩:=g.val i b d q;exact h f s σ H Q I ⟨v,h1,k v F H (.refl g) l⟩
 .rename_i b ds q;cases e;obtain⟨v,C,h1,l,m⟩:=g.freeze q;exact h f s σ H Q I ⟨v,h1,k v C H l m⟩
 .rename_i kvs q;cases e;obtain⟨a,h1,l,m⟩:=g.Eb q;refine cB (h f s σ H (λv w=>v=.ref a/\w=H) I ⟨.ref a,h1,rfl,rfl⟩) λu s1⟨v,H1,I1,r1,e1,e2⟩=>?_;subst e1 e2;obtain⟨o,y⟩:=Inv.Fw I1 l;exact⟨.ref a,_,y,r1,k _ _ _ (m o).1 (m o).2⟩
 .rename_i kvs q;cases e;obtain⟨a,vs,h1,l,m⟩:=g.Cy q;refine cB (h f s σ H (λv w=>v=.ref a/\w=H) I ⟨.ref a,h1,rfl,rfl⟩) λu s1⟨v,H1,I1,r1,e1,e2⟩=>?_;subst e1 e2;obtain⟨o,y⟩:=Inv.Fw I1 l;exact⟨.ref a,_,y,r1,k _ _ _ (m o).1 (m o).2⟩
 .cases e
theorem Ae{d:D}(h:PE X e (tC v))(hr:∀F,Rep X.K F v d):SX X c e (.con d):=⟨dN h λσ H Q⟨F,ρ,r,ρ',g,e,k⟩=>by rw[_H.E2]at e;cases e;exact k v F H (.refl g) (hr F),λi h=>by cases h⟩
theorem ak{i j}:SX X c (.Constant (.int i) j pos) (.con (.int i)):=Ae iY λF=>by rw[Rep]
theorem mV{i j}:SX X c (.Constant (.bool i) j pos) (.con (.bl i)):=Ae ZX λF=>by rw[Rep]
theorem j5{j}:SX X c (.Constant .none j pos) (.con .non):=Ae Tj λF=>by rw[Rep]
theorem dq.int{K:PySem.W.Frag}{F H:Hp}{v:V}{i:Int}(h:dq K F H v (.int i)):v=.int i:=by
 rcases h with h|⟨_,_,_,_,_,_,h⟩;.rw[Rep]at h;exact h
 .cases h
theorem dq.bl{K:PySem.W.Frag}{F H:Hp}{v:V}{i:Bool}(h:dq K F H v (.bl i)):v=.bl i:=by
 rcases h with h|⟨_,_,_,_,_,_,h⟩;.rw[Rep]at h;exact h
 .cases h
theorem dq.str{K:PySem.W.Frag}{F H:Hp}{v:V}{i:Str}(h:dq K F H v (.str i)):v=.str i:=by
 rcases h with h|⟨_,_,_,_,_,_,h⟩;.rw[Rep]at h;exact h
 .cases h
theorem dq.non{K:PySem.W.Frag}{F H:Hp}{v:V}(h:dq K F H v .non):v=.non:=by
 rcases h with h|⟨_,_,_,_,_,_,h⟩;.rw[Rep]at h;exact h
 .cases h
theorem dq.tup{K:PySem.W.Frag}{F H:Hp}{v:V}{ds:List D}(s:aN F H)(h:dq K F H v (.tup ds)):∃a xs,v=.ref a/\iB K H a xs/\aG K F xs ds/\Rep K F v (.tup ds):=by
 rcases h with h|⟨_,_,_,_,_,_,h⟩;.have h':=h;rw[Rep]at h;obtain⟨a,xs,rfl,h1,f⟩:=h;exact⟨a,xs,rfl,aN.fY s h1,f,h'⟩
 .cases h
theorem dq.lst{K:PySem.W.Frag}{F H:Hp}{v:V}{ds:List D}(s:aN F H)(h:dq K F H v (.lst ds)):∃a xs,v=.ref a/\dJ K H a xs/\aG K F xs ds:=by
 rcases h with h|⟨a,xs,es,h1,f,g,h⟩;.rw[Rep]at h;obtain⟨a,xs,rfl,h1,f⟩:=h;exact⟨a,xs,rfl,s.seq h1,f⟩
 .cases h;exact⟨a,xs,h1,dJ.of f,g⟩
theorem dq.dM{m:Dc}(s:aN F H)(h:dq K F H v (.dM m)):∃a o,v=.ref a/\H a=aj (.dC o m.ho):=by
 rcases h with h|⟨_,_,_,_,_,_,h⟩;.rw[Rep]at h;obtain⟨a,o,rfl,h⟩:=h;exact⟨a,o,rfl,s _ _ h⟩
 .cases h
theorem Kl{X:Cx}{f:List (cw×Obj)}{s:cr}{a:cw}{g:Obj}{m:Dc}(I:_L.Inv X f σ H s)(h:H a=aj (.dC g m.ho)):∃o,s.heap.get? a=aj o/\o.cls=.type "dict":=by have z:=(show bR X.prog X.w H s.heap a (.dC g m.ho)from I.hok a _ h).2;cases m with|k kvs=>obtain⟨_,_,vs,_,d2⟩:=(show bR X.prog X.w H s.heap a (.dK _)from z);exact d2.typeIs|t kvs=>obtain⟨_,_,xs,_,o,es,ep,h1,j,_⟩:=(show bR X.prog X.w H s.heap a (.dT _)from z);exact⟨o,h1,j.1⟩
theorem dq.dv{ks:List Int}(s:aN F H)(h:dq K F H v (.dv ks ds)):∃a o vs,v=.ref a/\H a=aj (.dC o (Ab ks vs))/\aG K F vs ds/\ks.length=ds.length:=by
 rcases h with h|⟨_,_,_,_,_,_,h⟩;.rw[Rep]at h;obtain⟨a,o,vs,rfl,h,h1,f⟩:=h;exact⟨a,o,vs,rfl,s _ _ h,h1,f⟩
 .cases h
theorem Jy{X:Cx}{f:List (cw×Obj)}{s:cr}{a:cw}{g:Obj}{ks:List Int}(I:_L.Inv X f σ H s)(h:H a=aj (.dC g (Ab ks vs))):∃o,s.heap.get? a=aj o/\o.cls=.type "dict":=by have z:=(show bR X.prog X.w H s.heap a (.dC g (Ab ks vs))from I.hok a _ h).2;obtain⟨_,_,vs,_,d2⟩:=(show bR X.prog X.w H s.heap a (.dK _)from z);exact d2.typeIs
theorem dq.items{d:D}(s:aN F H)(h:dq K F H v d)(e:items d=aj ds):∃a xs,v=.ref a/\(dJ K H a xs\/iB K H a xs)/\aG K F xs ds:=by cases d with|tup es=>cases e;obtain⟨a,xs,h1,f,g,_⟩:=h.tup s;exact⟨a,xs,h1,.inr f,g⟩|lst es=>cases e;obtain⟨a,xs,h1,f,g⟩:=h.lst s;exact⟨a,xs,h1,.inl f,g⟩|_=>cases e
theorem cJ.dg{Q:VK}{d:D}(s:aN F H)(r:Rep K F v d)(k:∀v g f,Ext F H g f->cJ K g f H v (.val d)->Q v f):Q v H:=k v F H (.refl s) r
theorem bO(i:Int):Rep K F (.int i) (.int i):=by rw[Rep]
theorem fu(i:Bool):Rep K F (.bl i) (.bl i):=by rw[Rep]
theorem RP(i:Str):Rep K F (.str i) (.str i):=by rw[Rep]
theorem Tt:Rep K F .non .non:=by rw[Rep]
theorem Aj{Q:VK}{xs:List V}{p:cw}(s:aN F H)(r:aG K F xs ds)(f:H p=bx)(k:∀v h g,Ext F H h g->cJ K h g H v (.own ds)->Q v g):Q (.ref p) (upd H p (.lst xs)):=by
 have j:F p=bx:=by cases q:F p with|none=>rfl|some o=>rw[s p o q]at f;cases f
 exact k _ F _ ⟨aN.cO f,.refl _,s.trans (aN.cO f),λ_ a b=>absurd a b⟩ ⟨p,xs,rfl,aH,j,r,f⟩
theorem Af{Q:VK}{xs:List V}{p:cw}(s:aN F H)(r:aG K F xs ds)(g:H p=bx)(k:∀v j h,Ext F H j h->cJ K j h H v (.val (.tup ds))->Q v h):Q (.ref p) (upd H p (.tup xs)):=by
 have m:F p=bx:=by cases q:F p with|none=>rfl|some o=>rw[s p o q]at g;cases g
 have sm:aN F (upd F p (.tup xs)):=aN.cO m;refine k _ (upd F p (.tup xs)) _ ⟨aN.cO g,sm,λb o e=>?_,λb n l=>?_⟩ ?_
 . by_cases f:b=p;.subst f;rw[aH]at e ⊢;exact e
   .rw[aF f]at e ⊢;exact s b o e
 . by_cases f:b=p;.subst f;exact iV g
   .rw[aF f]at l;exact absurd n l
 .show Rep K _ _ (.tup ds);rw[Rep];exact⟨p,xs,rfl,iB.of aH,r.mono sm⟩
end
theorem uz(k:Int)(t:Tok)(l:cw)(a:Array b_)(n:Nat)(b:Option cw)(sl:Array (Option b_)):rf (k6.«int.__rmul__» ⟨[.int k t,.ref l],[]⟩) (λ_ R s=>s.heap.get? l=aj ⟨.type "list",b,.seq a n,sl⟩/\R (.ok (.ret kN)) s):=.of_wp λprog w A R s h=>by obtain⟨c,g,d,e,os⟩:=s;obtain⟨f,h⟩:=h;wp_walk;exact⟨_,rfl,h⟩
theorem Gd(l:cw)(a:Array b_)(n:Nat)(b:Option cw)(sl:Array (Option b_))(k:Int)(t:Tok)(h0:¬(!Builtin.List.listFitsIndex k)=a_)(h1:¬a.size*k.toNat>(2^63-1)/8)(c:¬qE (a.size*k.toNat)=a_):rf (k6.«list.__mul__» ⟨[.ref l,.int k t],[]⟩) (λ_ R s=>s.heap.get? l=aj ⟨.type "list",b,.seq a n,sl⟩/\R (.ok (.ret (eg s.heap.objs.size))) {s with heap:=s.heap.push {cls:=.type "list",data:=.seq (qS (·++·) #[] (cx (if a.isEmpty=a_ then 0 else k.toNat) a))}}):=.of_wp λprog w A R s h=>by obtain⟨f,g,d,j,os⟩:=s;obtain⟨e,h⟩:=h;have hz:=AutoListH.joined_fits c;wp_walk using ga e;refine wpAny_ite_false (decide_eq_false (Nat.not_lt.mpr hz)) ?_;wp_walk;exact⟨_,rfl,h⟩
section
variable{X:Cx}{c:Call}{e a b d:df}{p pa pb pd:P}{pos:Pos}
theorem Ng:fX X (fS .Add) (λx y H Q=>∃l b xs o,x=.ref l/\y=.ref b/\dJ X.K H l xs/\dJ X.K H b o/\xs.length+o.length<=sizeLine/\∀p,H p=bx->Q (.ref p) (upd H p (.lst (xs++o)))):=by
 intro A s σ H x y v u Q I E G h;obtain⟨l,b,xs,o,rfl,rfl,J,L,hz,q⟩:=h;cases E;cases G;obtain⟨g,r,M,_⟩:=I.list J;obtain⟨f,B,t,_⟩:=I.list L;obtain⟨⟨cls,N,data,sl⟩,ho,hc,n,hd⟩:=id M.isList;obtain⟨⟨C,w,data2,z⟩,j,k,O,m⟩:=id t.isList;simp only at hc hd k m;subst hc hd k m;have e:g.toArray++f.toArray=(g++f).toArray:=by simp
 refine mx ⟨_,ho,rfl⟩ ⟨_,j,rfl⟩ noFill_list_add seq_list_add PySem.F.slot_list_add PySem.F.entry_list_add (PySem.F.args_list_add_2 _ _) (list_addW l b g.toArray f.toArray n O N w sl z (by simp only[cE];rw[<-r.length,<-B.length];exact hz)) ⟨ho,j,?_⟩;rw[e];exact⟨.ref _,_,I.Wx (t':=s.toks) (r.append B) (by rw[ek];exact hz),rfl,q _ I.fresh⟩
theorem Jb:fX X (fS .Add) (λx y H Q=>∃a b ys,x=.ref a/\y=.ref b/\iB X.K H a []/\iB X.K H b ys/\Q (.ref b) H):=by intro r s σ H x y v u Q I w z h;obtain⟨a,b,ys,rfl,rfl,A,B,q⟩:=h;cases w;cases z;obtain⟨l,r1,p1,_⟩:=I.tuple A;obtain⟨f,J,p2,_⟩:=I.tuple B;obtain⟨⟨cls,C,data,sl⟩,ho,hc,n,hd⟩:=id p1;obtain⟨⟨t,m,data2,o⟩,g,j,E,k⟩:=id p2;simp only at hc hd j k;subst hc hd j k;have G:l=[]:=r1.qM.mpr rfl;subst G;exact mx ⟨_,ho,rfl⟩ ⟨_,g,rfl⟩ mT oD slot_tuple_add entry_tuple_add (args_tuple_add_2 _ _) (tuple_addW0 a b _ f.toArray n E C m sl o (by simp)) ⟨ho,g,⟨.ref b,H,I,rfl,q⟩⟩
theorem aX:fX X (fS .Add) (rD X.K (uB .add)):=by
 rintro f s σ H x y v u Q I g h⟨F,d,e,r,sm,o,q,he,k⟩;replace he:rJ d e=aj r:=he;unfold rJ at he;split at he;.cases he;rw[o.int]at g;rw[q.int]at h;exact R3 f s σ H _ _ v u Q I g h ⟨_,_,rfl,rfl,cJ.dg sm (bO _) k⟩
 .rename_i xs ys;obtain⟨m,he⟩:=aZ he;subst he;obtain⟨a,vs,rfl,t,j⟩:=o.lst sm;obtain⟨b,w,rfl,z,l⟩:=q.lst sm;exact Ng f s σ H _ _ v u Q I g h ⟨a,b,vs,w,rfl,rfl,t,z,by rw[j.length,l.length];exact m,λp A=>Aj sm (j.append l) A k⟩
 . rename_i xs ys;obtain⟨m,he⟩:=aZ he;subst he;obtain⟨a,vs,rfl,t,j,C⟩:=o.tup sm;obtain⟨b,w,rfl,z,l,E⟩:=q.tup sm;by_cases h0:vs=[]
   . subst h0;have B:xs=[]:=by have:=j.length;exact gX this.symm
     subst B;exact Jb f s σ H _ _ v u Q I g h ⟨a,b,w,rfl,rfl,t,z,cJ.dg sm E k⟩
   . refine Ni f s σ H _ _ v u Q I g h ⟨a,b,vs,w,rfl,rfl,t,z,h0,by rw[j.length,l.length];exact m,λe=>?_,λ_ p A=>Af sm (j.append l) A k⟩;subst e;have B:ys=[]:=by have:=l.length;exact gX this.symm
     subst B;rw[gE]at k;exact cJ.dg sm C k
 .rename_i G J;obtain⟨m,he⟩:=aZ he;subst he;rw[o.str]at g;rw[q.str]at h;exact BV f s σ H _ _ v u Q I g h ⟨_,_,rfl,rfl,m,cJ.dg sm (RP _) k⟩
 .cases he
theorem dW:fX X (fS .Sub) (rD X.K (uB .sub)):=by
 rintro f s σ H x y v u Q I g h⟨F,d,e,r,sm,j,l,he,k⟩;replace he:yC d e=aj r:=he;unfold yC at he;split at he;.cases he;rw[j.int]at g;rw[l.int]at h;exact U0 f s σ H _ _ v u Q I g h ⟨_,_,rfl,rfl,cJ.dg sm (bO _) k⟩
 .cases he
theorem Np:fX X (fS .Mult) (λx y H Q=>∃l k xs,x=.ref l/\y=.int k/\dJ X.K H l xs/\-(2^63)<=k/\k<2^63/\xs.length*k.toNat<=sizeLine/\∀p,H p=bx->Q (.ref p) (upd H p (.lst (cx k.toNat xs).flatten))):=by
 intro w s σ H x y v u Q I A B h;obtain⟨l,k,xs,rfl,rfl,C,h1,E,hz,q⟩:=h;cases A;obtain⟨t,rfl⟩:=B;obtain⟨f,r,G,_⟩:=I.list C;obtain⟨⟨cls,z,data,sl⟩,ho,hc,n,hd⟩:=id G.isList;simp only at hc hd;subst hc hd;have g:f.toArray.size*k.toNat<=sizeLine:=by rw[cE,<-r.length];exact hz
 have o:¬ f.toArray.size*k.toNat>(2^63-1)/8:=by
  have:(sizeLine:Nat)<=(2^63-1)/8:=by decide
  omega
 have j:qS (·++·) #[] (cx (if f.toArray.isEmpty=a_ then 0 else k.toNat) f.toArray)=(cx k.toNat f).flatten.toArray:=by
  have f0:∀m:Nat,qS (·++·) #[] (cx m f.toArray)=(cx m f).flatten.toArray:=λm=>by have:=foldl_rep f m [];rw[nS]at this;exact this
  rw[f0];cases f with|nil=>simp|cons a L=>rw[if_neg (by simp)]
 refine ox (T:="list") (U:="int") (by decide) ⟨_,ho,rfl⟩ (λJ=>ma J k t) noFill_list_mul F.fills_int_mul F.slot_int_rmul repeat_list F.slot_int_index.lookup ?_;refine je F.slot_int_rmul (ma s k t) F.entry_int_rmul (F.args_int_rmul_2 _ _) (uz k t l f.toArray n z sl) ⟨ho,rfl,⟨_,ho,rfl⟩,?_⟩;refine je F.slot_list_mul ⟨_,ho,rfl⟩ F.entry_list_mul (F.args_list_mul_2 _ _) (Gd l f.toArray n z sl k t (by rw[fitsIndex_both h1 E];exact dc) o (by rw[Kf g];exact dc)) ⟨ho,?_⟩;rw[j];exact⟨.ref _,_,I.Wx (t':=s.toks) (r.rep k.toNat) (by rw[len_rep,n5];exact hz),rfl,q _ I.fresh⟩
theorem o8:fillsNumberSlot (.type "tuple") "mul"=fm aK:=PySem.fillsNumberSlot_seq (id:="tuple.__mul__") (r:=aj (.builtin "tuple.__rmul__")) slot_tuple_mul.lookup (by decide+kernel) PySem.F.slot_tuple_rmul.lookup (by decide+kernel)
theorem wF:seqRepeat? (.type "tuple")=fm (aj (.builtin "tuple.__mul__")):=by unfold seqRepeat?;rw[PySem.seqSlot_of (T:="tuple") (name:="__mul__") (id:="tuple.__mul__") slot_tuple_mul.lookup (by decide+kernel),PySem.seqSlot_of (T:="tuple") (name:="__rmul__") (id:="tuple.__rmul__") PySem.F.slot_tuple_rmul.lookup (by decide+kernel)];rfl
theorem qR(k:Int)(t:Tok)(l:cw)(f:Array b_)(n:Nat)(j:Option cw)(sl:Array (Option b_)):rf (k6.«int.__rmul__» ⟨[.int k t,.ref l],[]⟩) (λ_ R s=>s.heap.get? l=aj ⟨.type "tuple",j,.seq f n,sl⟩/\R (.ok (.ret kN)) s):=.of_wp λprog w A R s h=>by obtain⟨m,g,d,o,os⟩:=s;obtain⟨q,h⟩:=h;wp_walk;exact⟨_,rfl,h⟩
theorem Aq(l:cw)(f:Array b_)(n:Nat)(r:Option cw)(sl:Array (Option b_))(k:Int)(t:Tok)(h0:0<=k)(h1:k<2^63)(hz:f.size*k.toNat<=sizeLine)(u:0<f.size):rf (k6.«tuple.__mul__» ⟨[.ref l,.int k t],[]⟩) (λ_ R s=>s.heap.get? l=aj ⟨.type "tuple",r,.seq f n,sl⟩/\(k=1->R (.ok (.ret (eg l))) s)/\(k≠1->R (.ok (.ret (eg s.heap.objs.size))) {s with heap:=s.heap.push {cls:=.type "tuple",data:=.seq (qS (·++·) #[] (cx k.toNat f))}})):=.of_wp λprog w A R s h=>by
  obtain⟨y,g,d,I,os⟩:=s;obtain⟨o,z,B⟩:=h;have j:f.isEmpty=aK:=by cases e:f.isEmpty with|false=>rfl|true=>rw[Array.isEmpty_iff_size_eq_zero]at e;omega
  show cN _ _ (asIndex (.int k t)>>=_) _ _ _;wp_walk using ga o;have C:pf y l f:=⟨_,o,rfl,n,rfl⟩;rw[if_neg (by simp;omega)];refine ce (PyProof.Rows.tupleItemsOf_ C ?_);try dsimp only
  by_cases m:k=1;.rw[if_pos (by simp[m])];wp_walk using ga o;exact⟨_,rfl,z m⟩
  . have q:=B m;rw[if_neg (by simp[j,m])];by_cases E:k=0;.subst E;rw[if_pos (by simp)];unfold i9;refine ce (eA ?_);exact cK ⟨_,rfl,q⟩
    . have J:(f.size:Int)*k<=sizeLine:=by
       have:((f.size*k.toNat:Nat):Int)<=(sizeLine:Nat):=by exact_mod_cast hz
       rw[Int.natCast_mul,show((k.toNat:Nat):Int)=k by omega]at this;exact this
      have G:(sizeLine:Int)<=(2^63-1)/8:=by decide
      rw[if_neg (by simp[j];omega),if_neg (by omega),if_neg (by simp[Builtin.Tuple.tupleTooMany];omega)];unfold i9;refine ce (eA ?_ ?_);.exact cK ⟨_,rfl,q⟩
      .have:=foldl_rep f.toList k.toNat [];rw[nS,show f.toList.toArray=f by simp]at this;show(qS (·++·) #[] (cx k.toNat f)).size<=sizeLine;rw[show(#[]:Array b_)=([]:List b_).toArray from rfl,this,cE,len_rep,jp,n5];exact hz
theorem M6:fX X (fS .Mult) (λx y H Q=>∃l k xs,x=.ref l/\y=.int k/\iB X.K H l xs/\0<xs.length/\0<=k/\k<2^63/\xs.length*k.toNat<=sizeLine/\(k=1->Q (.ref l) H)/\(k≠1->∀p,H p=bx->Q (.ref p) (upd H p (.tup (cx k.toNat xs).flatten)))):=by
 intro w s σ H x y v u Q I A B h;obtain⟨l,k,xs,rfl,rfl,C,m,h1,E,hz,G,J⟩:=h;cases A;obtain⟨t,rfl⟩:=B;obtain⟨f,r,L,_⟩:=I.tuple C;obtain⟨⟨cls,z,data,sl⟩,ho,hc,n,hd⟩:=id L;simp only at hc hd;subst hc hd;have g:f.toArray.size*k.toNat<=sizeLine:=by rw[cE,<-r.length];exact hz
 have j:qS (·++·) #[] (cx k.toNat f.toArray)=(cx k.toNat f).flatten.toArray:=by have:=foldl_rep f k.toNat [];rw[nS]at this;exact this
 refine ox (T:="tuple") (U:="int") (by decide) ⟨_,ho,rfl⟩ (λM=>ma M k t) o8 F.fills_int_mul F.slot_int_rmul wF F.slot_int_index.lookup ?_;refine je F.slot_int_rmul (ma s k t) F.entry_int_rmul (F.args_int_rmul_2 _ _) (qR k t l f.toArray n z sl) ⟨ho,rfl,⟨_,ho,rfl⟩,?_⟩;refine je slot_tuple_mul ⟨_,ho,rfl⟩ PySem.F.entry_tuple_mul (PySem.F.args_tuple_mul_2 _ _) (Aq l f.toArray n z sl k t h1 E g (by rw[cE,<-r.length];exact m)) ⟨ho,λe=>⟨.ref l,H,I,rfl,G e⟩,λe=>?_⟩;rw[j];refine⟨.ref s.heap.objs.size,_,I.laid (t':=s.toks) (o:=.tup (cx k.toNat xs).flatten) (λb N q=>gU q) (dm) ?_,rfl,J e _ (I.hok.fresh (dm))⟩;exact⟨by rw[len_rep,n5];exact hz,_,r.rep k.toNat,kS _ _⟩
theorem dX:fX X (fS .Mult) (rD X.K (uB .mul)):=by
 rintro f s σ H x y v u Q I l g⟨F,d,e,r,sm,o,q,he,k⟩;replace he:pM d e=aj r:=he;unfold pM at he;split at he;.obtain⟨hc,he⟩:=aZ he;subst he;rw[o.int]at l;rw[q.int]at g;exact Vn f s σ H _ _ v u Q I l g ⟨_,_,rfl,rfl,hc,cJ.dg sm (bO _) k⟩
 . rename_i xs i;obtain⟨⟨h1,m,j⟩,he⟩:=aZ he;subst he;obtain⟨a,vs,rfl,t,h⟩:=o.lst sm;rw[q.int]at g;have w:i<2^63:=by have z:=n_ i.toNat m;have B:i.toNat<=16777216:=g_ z j;omega
   exact Np f s σ H _ _ v u Q I l g ⟨a,i,vs,rfl,rfl,t,by omega,w,by rw[h.length];exact j,λp A=>Aj sm (h.rep i.toNat) A k⟩
 . rename_i xs i;obtain⟨⟨h1,m,j⟩,he⟩:=aZ he;subst he;obtain⟨a,vs,rfl,t,h,C⟩:=o.tup sm;rw[q.int]at g;have w:i<2^63:=by have z:=n_ i.toNat m;have B:i.toNat<=16777216:=g_ z j;omega
   refine M6 f s σ H _ _ v u Q I l g ⟨a,i,vs,rfl,rfl,t,by rw[h.length];exact m,h1,w,by rw[h.length];exact j,λe=>?_,λe p A=>Af sm (h.rep i.toNat) A k⟩;subst e;refine cJ.dg sm ?_ k;have E:(cx (1:Int).toNat xs).flatten=xs:=by simp
   rw[E];exact C
 .cases he
theorem yl:fX X (fS .FloorDiv) (rD X.K (uB .fdiv)):=by
 rintro f s σ H x y v u Q I g h⟨F,d,e,r,sm,l,m,he,k⟩;replace he:rF d e=aj r:=he;unfold rF at he;split at he
 . rename_i i j;obtain⟨⟨h1,q⟩,he⟩:=aZ he;subst he;rw[l.int]at g;rw[m.int]at h;obtain⟨t,rfl⟩:=g;obtain⟨t',rfl⟩:=h;have o:j.natAbs.log2<9000:=by
    have:j.natAbs<2^200:=by
     have:(2:Nat)^200=1606938044258990275541962092341162602522202993782792835301376:=by decide
     omega
    have w:=(Nat.log2_lt (by omega)).mpr this;omega
   exact floordiv_int (by omega) (by rw[Int.fdiv_eq_ediv_of_nonneg i (by omega)];exact⟨.int _,H,I.tok _,⟨_,rfl⟩,cJ.dg sm (bO _) k⟩) (.inl (PyProof.noPylong_of_log2 o))
 .cases he
theorem fM:fX X (fS .Mod) (rD X.K (uB .mod)):=by
 rintro f s σ H x y v u Q I g h⟨F,d,e,r,sm,j,l,he,k⟩;replace he:yX d e=aj r:=he;unfold yX at he;split at he;.obtain⟨h1,he⟩:=aZ he;subst he;rw[j.int]at g;rw[l.int]at h;exact Wd f s σ H _ _ v u Q I g h ⟨_,_,rfl,rfl,h1,cJ.dg sm (bO _) k⟩
 .cases he
theorem gZ:fX X (fS .Pow) (rD X.K (uB .pow)):=by
 rintro f s σ H x y v u Q I g h⟨F,d,e,r,sm,j,l,he,k⟩;replace he:zM d e=aj r:=he;unfold zM at he;split at he;.obtain⟨⟨h1,o,m⟩,he⟩:=aZ he;subst he;rw[j.int]at g;rw[l.int]at h;exact Tz f s σ H _ _ v u Q I g h ⟨_,_,rfl,rfl,⟨h1,by omega,m⟩,cJ.dg sm (bO _) k⟩
 .cases he
theorem aC{o:Op}{op:lp}(ho:fX X (fS op) (rD X.K (uB o)))(f:SX X c a pa)(g:SX X c b pb):SX X c (.BinOp a op b pos) (.bin o pa pb):=wG (λh1 h=>Zm ho h1 h) f g (λρ=>rfl) rfl
theorem j9(j:SX X c a pa):SX X c (.UnaryOp .USub a pos) (.neg pa):=by refine Vi (f:=JR) (λh1=>Z3 ?_ h1) j (λρ=>rfl) rfl;rintro g s σ H x v Q I h⟨F,d,r,sm,l,he,k⟩;unfold JR at he;obtain⟨i,m,o⟩:=map_some he;subst o;cases d<;>cases m;rw[l.int]at h;exact Vb g s σ H _ v Q I h ⟨_,rfl,cJ.dg sm (bO _) k⟩
theorem Dl{f:Int->Int->Bool}(ho:fX X (d_ op) (Pq λi j=>.bl (f i j))):fX X (d_ op) (rD X.K λx y=>(Ma f x y).map λk=>.val (.bl k)):=by
 rintro g s σ H x y v u Q I l m⟨F,d,e,r,sm,o,q,he,k⟩;obtain⟨t,h,w⟩:=map_some (show(Ma f d e).map _=aj r from he);subst w;unfold Ma at h;split at h;.cases h;rw[o.int]at l;rw[q.int]at m;exact ho g s σ H _ _ v u Q I l m ⟨_,_,rfl,rfl,cJ.dg sm (fu _) k⟩
 .cases h
theorem Kz{f:Int->Int->Bool}(ho:fX X (d_ op) (Pq λi j=>.bl (f i j))){o:Cm}(hc:cm o=Ma f):fX X (d_ op) (rD X.K (qL o)):=by
 have e:qL o=λx y=>(Ma f x y).map λk=>.val (.bl k):=by funext x y;unfold qL;rw[hc]
 rw[e];exact Dl ho
theorem Wl:fX X (d_ .Lt) (rD X.K λx y=>(Ma (λi j=>decide (i<j)) x y).map λk=>.val (.bl k)):=Dl aaA
theorem xu:fX X (d_ .LtE) (rD X.K (qL .le)):=Kz Zu rfl
theorem jX:fX X (d_ .Gt) (rD X.K (qL .gt)):=Kz aar rfl
theorem vH{d:D}(h:dq K F H v d):decide (v=.non)=jJ d:=by cases d with
 |non=>rw[h.non];rfl|bl _=>rw[h.bl];rfl|int _=>rw[h.int];rfl|str _=>rw[h.str];rfl|tup _=>
   rcases h with h|⟨a,_,_,rfl,_⟩;.rw[Rep]at h;obtain⟨a,_,rfl,_⟩:=h;rfl
   .rfl|lst _=>
   rcases h with h|⟨a,_,_,rfl,_⟩;.rw[Rep]at h;obtain⟨a,_,rfl,_⟩:=h;rfl
   .rfl|dM _=>
   rcases h with h|⟨a,_,_,rfl,_⟩;.rw[Rep]at h;obtain⟨a,_,rfl,_⟩:=h;rfl
   .rfl|dv _ _=>
   rcases h with h|⟨a,_,_,rfl,_⟩;.rw[Rep]at h;obtain⟨a,_,_,rfl,_⟩:=h;rfl
   .rfl
theorem Im:fX X (d_ .Is) (rD X.K (qL .isN)):=by
 rintro f s σ H x y v u Q I h j⟨F,d,e,r,sm,l,m,he,k⟩;obtain⟨t,g,o⟩:=map_some (show(XD aK d e).map _=aj r from he);subst o;unfold XD at g;split at g;.cases g;exact Uj f s σ H x y v u Q I h j ⟨m.non,by rw[vH l];exact cJ.dg sm (fu _) k⟩
 .cases g
theorem Mr:fX X (d_ .IsNot) (rD X.K (qL .Qh)):=by
 rintro f s σ H x y v u Q I h j⟨F,d,e,r,sm,l,m,he,k⟩;obtain⟨t,g,o⟩:=map_some (show(XD a_ d e).map _=aj r from he);subst o;unfold XD at g;split at g;.cases g;exact Oa f s σ H x y v u Q I h j ⟨m.non,by rw[vH l];exact cJ.dg sm (fu _) k⟩
 .cases g
theorem v9{o:Cm}(ho:fX X (d_ op) (rD X.K (qL o)))(f:SX X c a pa)(g:SX X c b pb)(h:gi op b=aK):SX X c (.Compare a [op] [b] pos) (.cmp o pa pb):=wG (λh1 j=>Oh ho h1 j h) f g (λρ=>rfl) rfl
theorem JV{o E:Cm}{l:nh}(ho:fX X (d_ op) (rD X.K (qL o)))(A:fX X (d_ l) (rD X.K (qL E)))(G:SX X c a pa)(I:SX X c b pb)(hd:SX X c d pd)(J:lastMarks [op,l] [b,d]=aK:=by with_unfolding_all rfl):SX X c (.Compare a [op,l] [b,d] pos) (.chain o E pa pb pd):=by
 obtain⟨ta,tb,h1,L,M⟩:=G.iJ I;obtain⟨td,N,O⟩:=hd.cu;refine⟨dN (Hu ho A h1 L N J) ?_,λi h=>by cases h⟩;rintro σ H Q⟨F,ρ,r,ρ',g,e,k⟩;rw[_H.E9]at e;obtain⟨m,U,W,e⟩:=aa e;obtain⟨t,Y,j,e⟩:=aa e;have Z:=az j;clear j;obtain⟨j,B⟩:=Z;subst B;have f:flat m.2=a_/\cm o m.1 m.2=aj t:=by
  split at j;.rename_i hf;exact⟨hf,j⟩
  .cases j
 obtain⟨f,j⟩:=f;refine M g W λv u F' H' s pv y=>⟨F',m.1,m.2,.val (.bl t),s.gs.sub,pv,y,by unfold qL;rw[j];rfl,λw C H2 x q=>?_⟩;have s2:=s.trans (x.stp s.gs);have q:Rep X.K C w (.bl t):=q;rw[Rep]at q;subst q;refine⟨t,rfl,?_⟩;cases t with|false=>rw[if_neg dc]at e ⊢;cases e;exact k _ C H2 s2 (show Rep X.K C _ _ from fu _)|true=>
   rw[if_pos rfl]at e ⊢;obtain⟨z,ac,B,e⟩:=aa e;obtain⟨e4,e5⟩:=az e;subst e5;refine O s2.gs B λw F3 H3 s3 pw=>⟨F3,m.2,z,r,s3.gs.sub,?_,pw,e4,λw' F4 H4 x4 q=>?_⟩
   . have x1:=x.fs;have x2:=s3.cL;rcases y with y|⟨_,_,_,_,_,_,h⟩;.exact .inl ((y.mono x1).mono x2)
     .rw[h]at f;cases f
   .have s4:=s2.trans s3;exact k w' F4 H4 (s4.trans (x4.stp s4.gs)) (.later s4 (q.qm s4.gs))
end
section
variable{X:Cx}{c:Call}{e a b d:df}{p pa pb pd:P}{pos:Pos}{rest:List df}
theorem mX{x:D}{k:Bool}(h:xW x=aj k):x=.bl k:=by cases x<;>cases h;rfl
theorem dh{x:D}{k:Int}(h:gq x=aj k):x=.int k:=by cases x<;>cases h;rfl
theorem cF.bool{g j:Hp}{f:_L.St}{r:R}{k:Bool}(h:cF K g ρ' f j ρ σ H v r)(e:r.d=.bl k):v=.bl k:=by cases r with|val d=>cases(show d=.bl k from e);have h:Rep K g v (.bl k):=h;rw[Rep]at h;exact h|own ds=>cases e
noncomputable def ST(X:Cx)(c:Call)(e:df)(p:P):Prop:=PT X e (HD X.K (iU (_H.ev c p)))
noncomputable def SW(X:Cx)(c:Call)(e:df)(p:P):Prop:=PW X e (HD X.K (iU (_H.ev c p)))
theorem SW.st(h:SW X c e p):ST X c e p:=PW.pt h
theorem my{t:TE}{Q:Bool->Hp->Prop}(hi:∀Q,wy X.K (_H.ev c p) σ H Q->t σ H Q)(h:HD X.K (iU (_H.ev c p)) σ H Q):t σ H λx l=>∃k,x=.bl k/\Q k l:=by obtain⟨F,ρ,k,ρ',g,e,q⟩:=h;obtain⟨r,j,m,f⟩:=aa e;have o:=az f;clear f;obtain⟨f,u⟩:=o;subst u;exact hi _ ⟨F,ρ,r,j,g,m,λv w y s z=>⟨k,z.bool (mX f),q w y s⟩⟩
theorem ji(h:SX X c e p)(he:∀f,isTrue e X.env f=(do let v<-f;standAt e.pos;kD [v] (truthy v)):=by intro _;rfl):ST X c e p:=yD (Vh h.ev he) λσ H Q q=>my (λ_ z=>z) q
theorem bG{o:Cm}(ho:fX X (d_ op) (rD X.K (qL o)))(j:SX X c a pa)(l:SX X c b pb)(m:gi op b=aK):ST X c (.Compare a [op] [b] pos) (.cmp o pa pb):=by obtain⟨y,A,h1,B,C⟩:=j.iJ l;refine yD (Cz ho h1 B m) λσ H Q q=>my (t:=Pu (rD X.K (qL o)) y A) (λQ z=>?_) q;obtain⟨F,ρ,r,ρ',g,e,k⟩:=z;rw[_H.E8]at e;obtain⟨h,E,G,f⟩:=aa e;have I:=az f;clear f;obtain⟨f,J⟩:=I;subst J;refine C g G λv u L Y s M N=>⟨L,h.1,h.2,r,s.gs.sub,M,N,f,λw O U x W=>?_⟩;exact k w O U (s.trans (x.stp s.gs)) (.later s (W.qm s.gs))
theorem sE(l:ST X c a pa):ST X c (.UnaryOp .Not a pos) (.not pa):=by
 refine yD (Tq l) ?_;rintro σ H Q⟨F,ρ,k,ρ',g,e,q⟩;unfold iU at e;rw[_H.E5]at e;obtain⟨r,m,o,f⟩:=aa e;obtain⟨h,t,u,w⟩:=aa o;cases w;have y:=az f;clear f;obtain⟨f,z⟩:=y;subst z;have f:(!h)=k:=by cases f;rfl
 exact⟨F,ρ,h,_,g,u,λA j s=>by show Q (!h) j;rw[f];exact q A j s⟩
theorem MK(ρ:List Sl):iU (_H.ev c (.and pa pb)) ρ=(iU (_H.ev c pa) ρ).bind λx ρ=>if x then iU (_H.ev c pb) ρ else .ok aK ρ:=by unfold iU;rw[_H.E6];unfold iU;cases _H.ev c pa ρ with|exc _ _=>rfl|stuck=>rfl|ok r f=>simp only[Res.bind];cases h:xW r.d with|none=>rfl|some k=>cases k with|false=>rfl|true=>simp only[lift,if_true];cases _H.ev c pb f with|exc _ _=>rfl|stuck=>rfl|ok g j=>simp only[Res.bind];cases h2:xW g.d with|none=>rfl|some l=>rfl
theorem UG(ρ:List Sl):iU (_H.ev c (.or pa pb)) ρ=(iU (_H.ev c pa) ρ).bind λx ρ=>if x then .ok a_ ρ else iU (_H.ev c pb) ρ:=by unfold iU;rw[_H.E7];unfold iU;cases _H.ev c pa ρ with|exc _ _=>rfl|stuck=>rfl|ok r f=>simp only[Res.bind];cases h:xW r.d with|none=>rfl|some k=>cases k with|true=>rfl|false=>simp only[lift,iA,if_false];cases _H.ev c pb f with|exc _ _=>rfl|stuck=>rfl|ok g j=>simp only[Res.bind];cases h2:xW g.d with|none=>rfl|some l=>rfl
theorem PL(f:ST X c a pa):SW X c (.BoolOp .And [a] pos) pa:=Og f
theorem mq(f:ST X c a pa):SW X c (.BoolOp .Or [a] pos) pa:=Tg f
theorem UT(h:ST X c a pa)(j:SW X c (.BoolOp .And (b::rest) pos) pb):SW X c (.BoolOp .And (a::b::rest) pos) (.and pa pb):=by refine Q6 (VM h j) ?_;rintro σ H Q⟨F,ρ,k,ρ',g,e,q⟩;rw[MK]at e;obtain⟨x,f,l,e⟩:=aa e;refine⟨F,ρ,x,f,g,l,λF1 m s1=>?_⟩;cases x with|true=>rw[if_pos rfl]at e ⊢;exact⟨F1,f,k,ρ',s1.gs,e,λo r s2=>q o r (s1.trans s2)⟩|false=>rw[if_neg dc]at e ⊢;cases e;exact q F1 m s1
theorem mJ(h:ST X c a pa)(j:SW X c (.BoolOp .Or (b::rest) pos) pb):SW X c (.BoolOp .Or (a::b::rest) pos) (.or pa pb):=by refine Q6 (Ze h j) ?_;rintro σ H Q⟨F,ρ,k,ρ',g,e,q⟩;rw[UG]at e;obtain⟨x,f,l,e⟩:=aa e;refine⟨F,ρ,x,f,g,l,λF1 m s1=>?_⟩;cases x with|true=>rw[if_pos rfl]at e ⊢;cases e;exact q F1 m s1|false=>rw[if_neg dc]at e ⊢;exact⟨F1,f,k,ρ',s1.gs,e,λo r s2=>q o r (s1.trans s2)⟩
theorem Vx(j:SX X c a pa):SX X c (.UnaryOp .Not a pos) (.not pa):=by refine⟨dN (R7 j.ev) ?_,λi h=>by cases h⟩;rintro σ H Q⟨F,ρ,r,ρ',g,e,k⟩;rw[_H.E5]at e;obtain⟨x,l,m,o⟩:=aa e;cases o;exact my (c:=c) (λ_ z=>z) ⟨F,ρ,x,_,g,m,λf q s=>k _ f q s (show Rep X.K f _ _ from fu _)⟩
theorem qz{op}(f:SX X c a pa):PE X (.BoolOp op [a] pos) (wy X.K (_H.ev c pa)):=J4 f.ev
theorem Bm(o:SX X c a pa)(q:PE X (.BoolOp .And (b::rest) pos) (wy X.K (_H.ev c pb))):SX X c (.BoolOp .And (a::b::rest) pos) (.and pa pb):=by refine⟨dN (Tu o.ev q) ?_,λi h=>by cases h⟩;rintro σ H Q⟨F,ρ,r,ρ',g,e,k⟩;rw[_H.E6]at e;obtain⟨x,f,s,e⟩:=aa e;refine my (c:=c) (λ_ z=>z) (Q:=λx j=>if x=a_ then wy X.K (_H.ev c pb) σ j Q else Q (.bl aK) j) ⟨F,ρ,x,f,g,s,λF1 j s1=>?_⟩;cases x with|true=>rw[if_pos rfl]at e ⊢;obtain⟨y,t,u,w⟩:=aa e;cases w;obtain⟨A,B,C,l⟩:=aa u;have E:=az l;clear l;obtain⟨l,G⟩:=E;subst G;refine⟨F1,f,A,_,s1.gs,C,λv m I s2 J=>?_⟩;rw[J.bool (mX l)];exact k _ m I (s1.trans s2) (show Rep X.K m _ _ from fu _)|false=>rw[if_neg dc]at e ⊢;cases e;exact k _ F1 j s1 (show Rep X.K F1 _ _ from fu _)
theorem aah(o:SX X c a pa)(q:PE X (.BoolOp .Or (b::rest) pos) (wy X.K (_H.ev c pb))):SX X c (.BoolOp .Or (a::b::rest) pos) (.or pa pb):=by refine⟨dN (Hx o.ev q) ?_,λi h=>by cases h⟩;rintro σ H Q⟨F,ρ,r,ρ',g,e,k⟩;rw[_H.E7]at e;obtain⟨x,f,s,e⟩:=aa e;refine my (c:=c) (λ_ z=>z) (Q:=λx j=>if x=a_ then Q (.bl a_) j else wy X.K (_H.ev c pb) σ j Q) ⟨F,ρ,x,f,g,s,λF1 j s1=>?_⟩;cases x with|true=>rw[if_pos rfl]at e ⊢;cases e;exact k _ F1 j s1 (show Rep X.K F1 _ _ from fu _)|false=>rw[if_neg dc]at e ⊢;obtain⟨y,t,u,w⟩:=aa e;cases w;obtain⟨A,B,C,l⟩:=aa u;have E:=az l;clear l;obtain⟨l,G⟩:=E;subst G;refine⟨F1,f,A,_,s1.gs,C,λv m I s2 J=>?_⟩;rw[J.bool (mX l)];exact k _ m I (s1.trans s2) (show Rep X.K m _ _ from fu _)
theorem oV(hc:ST X c e p)(w:SX X c a pa)(y:SX X c b pb):SX X c (.IfExp e a b pos) (.Mm p pa pb):=by refine⟨dN (La hc w.ev y.ev) ?_,λi h=>by cases h⟩;rintro σ H Q⟨F,ρ,r,ρ',g,e,k⟩;rw[_H.E10]at e;obtain⟨x,f,z,e⟩:=aa e;refine⟨F,ρ,x,f,g,z,λF1 B s1=>?_⟩;cases x with|true=>rw[if_pos rfl]at e ⊢;obtain⟨j,l,m,o⟩:=aa e;cases o;refine⟨F1,f,j,_,s1.gs,m,λv A q s2 s=>?_⟩;obtain⟨t,s3,_,u⟩:=s2.dC s;exact k v t q (s1.trans s3) u|false=>rw[if_neg dc]at e ⊢;obtain⟨j,l,m,o⟩:=aa e;cases o;refine⟨F1,f,j,_,s1.gs,m,λv A q s2 s=>?_⟩;obtain⟨t,s3,_,u⟩:=s2.dC s;exact k v t q (s1.trans s3) u
theorem wA:∀{ps:List P}{ρ ρ':List Sl}{ds:List D},evs c ps ρ=.ok ds ρ'->ds.length=ps.length|[],_,_,_,h=>by rw[Jd]at h;cases h;rfl|p::ps,_,_,_,h=>by rw[Ja]at h;obtain⟨r,f,_,h⟩:=aa h;obtain⟨xs,g,j,h⟩:=aa h;cases h;simp[wA j]
theorem aW:SA X c [] []:=⟨ym cV λσ H Q⟨F,ρ,ds,ρ',g,e,k⟩=>by rw[Jd]at e;cases e;exact k [] F H (.refl g) .nil,rfl⟩
theorem Dz{ps:List P}(h:SX X c a pa)(hr:SA X c es ps)(hs:cy (a::es) X.env=(aK,eB a X.env)::cy es X.env:=by rfl):SA X c (a::es) (pa::ps):=by refine⟨ym (bf h.ev hr.1 hs) ?_,by simp[hr.2]⟩;rintro σ H Q⟨F,ρ,ds,ρ',g,e,k⟩;rw[Ja]at e;obtain⟨r,f,j,e⟩:=aa e;obtain⟨xs,l,m,e⟩:=aa e;cases e;refine⟨F,ρ,r,f,g,j,λv y z s o=>?_⟩;obtain⟨F1,s1,_,q⟩:=s.dC o;refine⟨F1,f,xs,_,s1.gs,m,λvs t u s2 w=>?_⟩;exact k _ t u (s1.trans s2) (.cons (q.mono s2.cL) w)
theorem Ext.PK{h j:Hp}{Q:VK}{xs:List V}(s:aB K j ρ σ h F ρ' σ H)(r:aG K F xs ds)(k:∀v g f,aB K j ρ σ h g ρ' σ f->cF K g ρ' σ f ρ σ h v (.val (.tup ds))->Q v f)(p:cw)(l:H p=bx):Q (.ref p) (upd H p (.tup xs)):=Af s.gs.sub r l λv g f x m=>k v g f (s.trans (x.stp s.gs)) m
theorem eG{ps:List P}{x1}(h:SA X c es ps)(hz:ps.length<=sizeLine:=by decide):SX X c (.Tuple es x1 pos) (.tup ps):=by refine⟨dN (Sv h.1) ?_,λi h=>by cases h⟩;rintro σ H Q⟨F,ρ,r,ρ',g,e,k⟩;rw[_H.E11]at e;obtain⟨ds,l,f,e⟩:=aa e;cases e;exact⟨F,ρ,ds,_,g,f,λvs o q s j=>⟨by rw[j.length,wA f];exact hz,λp m=>Ext.PK s j k p m⟩⟩
theorem dG{ps:List P}(h:SA X c es ps)(hz:ps.length<=sizeLine:=by decide):SX X c (.List es pos) (.lst ps):=by refine⟨dN (Ce h.1) ?_,λi h=>by cases h⟩;rintro σ H Q⟨F,ρ,r,ρ',g,e,k⟩;rw[_H.E12]at e;obtain⟨ds,l,f,e⟩:=aa e;cases e;exact⟨F,ρ,ds,_,g,f,λvs u w s j=>⟨by rw[j.length,wA f];exact hz,λp m=>Aj s.gs.sub j m λv o q x t=>k v o q (s.trans (x.stp s.gs)) (.later s (t.qm s.gs))⟩⟩
theorem JB{i:Int}{d:D}(h:at' ds i=aj d):∃j,_L.ir ds.length i=aj j/\ds[j]?=aj d:=cA h
theorem aez:IxR X (rD X.K LR):=by
 rintro f slice g s σ H x y v u Q I m l⟨F,d,e,r,sm,t,A,he,k⟩hs;unfold LR at he;obtain⟨ds,B,he⟩:=cA he;obtain⟨i,C,he⟩:=cA he;obtain⟨z,E,he⟩:=map_some he;subst he;cases dh C;rw[A.int]at l;obtain⟨p,xs,rfl,hq,o⟩:=t.items sm B;obtain⟨j,h1,G⟩:=JB E;obtain⟨w,J,q⟩:=o.get G;have h:Hf xs i=aj w:=by unfold Hf;rw[o.length,h1];exact J
 rcases hq with hq|hq;.exact xH f slice g s σ H _ _ v u Q I m l ⟨p,xs,i,w,rfl,rfl,hq,h,cJ.dg sm q k⟩ hs
 .exact Up f slice g s σ H _ _ v u Q I m l ⟨p,xs,i,w,rfl,rfl,hq,h,cJ.dg sm q k⟩ hs
theorem au(g:SX X c a pa)(h:SX X c b pb)(hs:xM b:=by intro _ _;rfl):SX X c (.Subscript a b pos) (.idx pa pb):=wG (f:=LR) (λh1 j=>JW aez h1 j hs) g h (λρ=>rfl) rfl
noncomputable def Nj(K:PySem.W.Frag)(f:D->Option R):List V->Hp->VK->Prop:=λxs H Q=>∃x,xs=[x]/\rD1 K f x H Q
theorem pJ{E:df}{f:D->Option R}{q:P}(l:∀{t},PA X [a] t->PE X E (tCB (Nj X.K f) t))(m:SX X c a pa)(o:∀ρ,_H.ev c q ρ=(_H.cu (isVar pa) (_H.ev c pa) ρ).bind λx ρ=>lift (f x) ρ)(u:isVar q=bx)(hs:cy [a] X.env=(aK,eB a X.env)::cy [] X.env:=by rfl):SX X c E q:=by obtain⟨N,h1,y⟩:=m.cu;refine⟨dN (l (bf h1 cV hs)) ?_,λi h=>by rw[u]at h;cases h⟩;rintro σ H Q⟨F,ρ,r,ρ',g,e,k⟩;rw[o]at e;obtain⟨x,z,A,j⟩:=aa e;have B:=az j;clear j;obtain⟨j,C⟩:=B;subst C;refine y g A λv G O s I=>⟨v,rfl,G,x,r,s.gs.sub,I,j,λw J L x M=>?_⟩;exact k w J L (s.trans (x.stp s.gs)) (.later s (M.qm s.gs))
theorem Zc:eO X (.builtin "len") (Nj X.K λx=>blt .len [x]):=by rintro f s σ H xs g Q I r⟨x,h,F,d,j,sm,l,he,k⟩;obtain⟨ds,m,he⟩:=map_some (show(items d).map _=aj j from he);subst he;obtain⟨p,ys,rfl,o,q⟩:=l.items sm m;exact xq f s σ H xs g Q I r ⟨p,ys,h,o,by rw[q.length];exact cJ.dg sm (bO _) k⟩
theorem SM:eO X (.type "list") (Nj X.K λx=>blt .list [x]):=by rintro f s σ H xs g Q I r⟨x,h,F,d,j,sm,m,he,k⟩;obtain⟨ds,o,he⟩:=map_some (show(items d).map _=aj j from he);subst he;obtain⟨p,ys,rfl,q,t⟩:=m.items sm o;exact xf f s σ H xs g Q I r ⟨p,ys,h,q,λl u=>Aj sm t u k⟩
theorem Nx:eO X (.type "tuple") (Nj X.K λx=>blt .tuple [x]):=by rintro f s σ H xs j Q I r⟨x,m,F,d,t,sm,o,he,k⟩;obtain⟨ds,g,he⟩:=map_some (show(items d).map _=aj t from he);subst he;cases d with|tup es=>cases g;obtain⟨a,ys,rfl,h,q,rt⟩:=o.tup sm;exact lK f s σ H xs j Q I r ⟨a,ys,m,.inr ⟨h,cJ.dg sm rt k⟩⟩|lst es=>cases g;obtain⟨a,ys,rfl,h,q⟩:=o.lst sm;exact lK f s σ H xs j Q I r ⟨a,ys,m,.inl ⟨h,λl u=>Af sm q u k⟩⟩|_=>cases g
theorem ig(f:x="len")(g:Gl X x)(j:X.mg x=bx)(k:SX X c a pa)(hs:cy [a] X.env=(aK,eB a X.env)::cy [] X.env:=by rfl):SX X c (.Call (.Name x p') [a] [] pos) (.blt .len [pa]):=by subst f;exact pJ (λh=>fC Zc g j PySem.boot_len h (he:=hs)) k (λρ=>rfl) rfl hs
theorem oF(f:x="list")(g:Gl X x)(j:X.mg x=bx)(k:SX X c a pa)(hs:cy [a] X.env=(aK,eB a X.env)::cy [] X.env:=by rfl):SX X c (.Call (.Name x p') [a] [] pos) (.blt .list [pa]):=by subst f;exact pJ (λh=>pq SM g j (by decide+kernel) h (he:=hs)) k (λρ=>rfl) rfl hs
theorem rP(f:x="tuple")(g:Gl X x)(j:X.mg x=bx)(k:SX X c a pa)(hs:cy [a] X.env=(aK,eB a X.env)::cy [] X.env:=by rfl):SX X c (.Call (.Name x p') [a] [] pos) (.blt .tuple [pa]):=by subst f;exact pJ (λh=>pq Nx g j (by decide+kernel) h (he:=hs)) k (λρ=>rfl) rfl hs
end
noncomputable def Ff(K:PySem.W.Frag)(np:Nat)(f:List Sl->Res R):Sp:=λvs H Q _=>vs.length=np/\∃F args r a,GS K F args (vs.map aj) H/\f args=.ok r a/\∀v e b c,aB K F args (vs.map aj) H e a b c->cF K e a b c args (vs.map aj) H v r->Q v c
section
variable{K:PySem.W.Frag}
noncomputable def Be(K:PySem.W.Frag)(F:Hp)(ρ:List Sl)(σ:_L.St)(H:Hp)(ρ₀:List Sl)(H₀:Hp)(v:V):Arg->Prop|.dat d=>Rep K F v d|.tmp ds=>∃x xs,v=.ref x/\H x=aj (.lst xs)/\F x=bx/\aG K F xs ds/\¬ Own ρ σ x/\(Own ρ₀ σ x\/H₀ x=bx)|.dD i=>σ[i]?=aj (aj v)
structure uA(K:PySem.W.Frag)(F:Hp)(ρ:List Sl)(σ:_L.St)(H:Hp)(ρ₀:List Sl)(H₀:Hp)(as:List Arg)(vs:List V):Prop where
 len:as.length=vs.length
 one:∀(j:Nat)(a:Arg)(v:V),as[j]?=aj a->vs[j]?=aj v->Be K F ρ σ H ρ₀ H₀ v a
 dis:∀(j k:Nat)(ds es:List D)(x:cw),as[j]?=aj (.tmp ds)->as[k]?=aj (.tmp es)->vs[j]?=aj (.ref x)->vs[k]?=aj (.ref x)->j=k
theorem Be.later{b f:Hp}{a:Arg}(s:aB K F ρ σ H b ρ' σ f)(h:Be K F ρ σ H ρ₀ H₀ v a):Be K b ρ' σ f ρ₀ H₀ v a:=by cases a with|dat d=>exact Rep.mono s.cL h|dD i=>exact h|tmp ds=>
   obtain⟨x,xs,h1,c,g,j,e,k⟩:=h;refine⟨x,xs,h1,s.keep x _ c e,?_,j.mono s.cL,λo=>?_,k⟩;.cases q:b x with|none=>rfl|some o=>
       rcases s.xP x g (by rw[q];simp)with z|z;.exact absurd z e
       .exact(K7 c z).elim
   . rcases s.vO x o with z|z;.exact e z
     .rw[c]at z;cases z
theorem uA.nil:uA K F ρ σ H ρ₀ H₀ [] []:=⟨rfl,λj a v h=>by simp at h,λj k ds es x h=>by simp at h⟩
theorem uA.cons{F H H₀:Hp}{ρ ρ₀:List Sl}{σ:_L.St}{a:Arg}{v:V}{as:List Arg}{vs:List V}(h:Be K F ρ σ H ρ₀ H₀ v a)(t:uA K F ρ σ H ρ₀ H₀ as vs)(hd:∀ds x,a=.tmp ds->v=.ref x->∀(k:Nat)es,as[k]?=aj (.tmp es)->vs[k]?≠aj (.ref x)):uA K F ρ σ H ρ₀ H₀ (a::as) (v::vs):=by
 refine⟨by simp[t.len],λj b u h1 c=>?_,λj k ds es x h1 c e f=>?_⟩;.cases j with|zero=>simp at h1 c;subst h1;subst c;exact h|succ j=>exact t.one j b u (by simpa using h1) (by simpa using c)
 .cases j with
   |zero=>cases k with|zero=>rfl|succ k=>simp at h1 e;exact absurd (by simpa using f) (hd ds x h1 e k es (by simpa using c))
   |succ j=>cases k with|zero=>simp at c f;exact absurd (by simpa using e) (hd es x c f j ds (by simpa using h1))|succ k=>rw[t.dis j k ds es x (by simpa using h1) (by simpa using c) (by simpa using e) (by simpa using f)]
noncomputable def Ho(ρ:List Sl):Arg->Sl->Prop|.dat d,s=>s=.val aK d|.tmp ds,s=>s=.own aK ds|.dD i,s=>(∃b d,ρ[i]?=aj (.val b d)/\s=.val aK d)\/(∃b ds,ρ[i]?=aj (.own b ds)/\s=.own a_ ds)\/∃ds,ρ[i]?=aj (.lent ds)/\s=.lent ds
theorem sY{ρ:List Sl}:∀{as:List Arg}{c:List Nat}{args:List Sl},cC ρ as c=aj args->args.length=as.length/\(∀(j:Nat)(a:Arg)(s:Sl),as[j]?=aj a->args[j]?=aj s->Ho ρ a s)/\(∀(j:Nat)(i:Nat)(s:Sl)ds,as[j]?=aj (.dD i)->args[j]?=aj s->lst? s=aj ds->i∉c)/\(∀(j k:Nat)(i:Nat)(s t:Sl)ds es,as[j]?=aj (.dD i)->as[k]?=aj (.dD i)->args[j]?=aj s->args[k]?=aj t->lst? s=aj ds->lst? t=aj es->j=k)
 |[],c,args,h=>by rw[Br]at h;cases h;exact⟨rfl,λj a s h=>by simp at h,λj i s ds h=>by simp at h,λj k i s t ds es h=>by simp at h⟩|a::as,c,args,h=>by--the agg slot,the agh
   have key:∃s0 r u,args=s0::r/\cC ρ as u=aj r/\Ho ρ a s0/\((∃i ds,a=.dD i/\lst? s0=aj ds/\u=i::c/\i∉c)\/((∀i ds,a=.dD i->lst? s0≠aj ds)/\u=c)):=by cases a with|dat d=>rw[Bt]at h;obtain⟨r,g,l⟩:=map_some h;exact⟨_,r,c,l.symm,g,rfl,.inr ⟨λi ds z=>(by cases z),rfl⟩⟩|tmp d=>rw[Ar]at h;obtain⟨r,g,l⟩:=map_some h;exact⟨_,r,c,l.symm,g,rfl,.inr ⟨λi ds z=>(by cases z),rfl⟩⟩|dD i=>
      rw[sZ]at h;split at h;.rename_i b d q;obtain⟨r,g,l⟩:=map_some h;exact⟨_,r,c,l.symm,g,.inl ⟨b,d,q,rfl⟩,.inr ⟨λ_ _ _ z=>(by cases z),rfl⟩⟩
      . rename_i b ds q;split at h;.cases h
        .rename_i o;obtain⟨r,g,l⟩:=map_some h;exact⟨_,r,_,l.symm,g,.inr (.inl ⟨b,ds,q,rfl⟩),.inl ⟨i,_,rfl,rfl,rfl,by simpa using o⟩⟩
      . rename_i ds q;split at h;.cases h
        .rename_i o;obtain⟨r,g,l⟩:=map_some h;exact⟨_,r,_,l.symm,g,.inr (.inr ⟨ds,q,rfl⟩),.inl ⟨i,_,rfl,rfl,rfl,by simpa using o⟩⟩
      .cases h
   obtain⟨s0,r,u,rfl,hr,A,o⟩:=key;obtain⟨M,l2,B,N⟩:=sY hr;have sub:∀i,i∉u->i∉c:=λi hi J=>by
    rcases o with⟨_,_,_,_,rfl,_⟩|⟨_,rfl⟩;.exact hi (dI _ J)
    .exact hi J
   refine⟨by simp[M],λj b s h1 f=>?_,λj i s ds h1 f p=>?_,λj k i s t ds es h1 f p y C E=>?_⟩;.cases j with|zero=>simp at h1 f;subst h1;subst f;exact A|succ j=>exact l2 j b s (by simpa using h1) (by simpa using f)
   .cases j with|zero=>
       simp at h1 f;subst h1;subst f;rcases o with⟨L,_,e,_,_,m⟩|⟨m,_⟩;.cases e;exact m
       .exact absurd p (m i ds rfl)|succ j=>exact sub i (B j i s ds (by simpa using h1) (by simpa using f) p)
   . have O:∀(k:Nat)(t:Sl)es,a=.dD i->lst? s0=aj ds->(as[k]?=aj (.dD i))->r[k]?=aj t->lst? t=aj es->False:=λk t es w G I ht he=>by
      rcases o with⟨L,_,e,_,rfl,m⟩|⟨m,_⟩;.rw[w]at e;cases e;exact B k i t es I ht he hU
      .exact m i ds w G
     have Q:∀(k:Nat)(t:Sl)es,a=.dD i->lst? s0=aj es->(as[k]?=aj (.dD i))->r[k]?=aj t->lst? t=aj ds->False:=λk t es w G I ht he=>by
      rcases o with⟨L,_,e,_,rfl,m⟩|⟨m,_⟩;.rw[w]at e;cases e;exact B k i t ds I ht he hU
      .exact m i es w G
     cases j with
     |zero=>cases k with|zero=>rfl|succ k=>simp at h1 p;subst p;exact(O k t es h1 C (by simpa using f) (by simpa using y) E).elim
     |succ j=>cases k with|zero=>simp at f y;subst y;exact(Q j s es f E (by simpa using h1) (by simpa using p) C).elim|succ k=>rw[N j k i s t ds es (by simpa using h1) (by simpa using f) (by simpa using p) (by simpa using y) C E]
theorem uA.get(A:uA K F ρ σ H ρ₀ H₀ as vs){args:List Sl}{j:Nat}{s:Sl}(c:args.length=as.length)(h:args[j]?=aj s):∃a v,as[j]?=aj a/\vs[j]?=aj v/\Be K F ρ σ H ρ₀ H₀ v a:=by
 have e:j<args.length:=(eY h).1;have h1:j<as.length:=by omega
 have b:j<vs.length:=by rw[<-A.len];exact h1
 exact⟨as[j],vs[j],by simp[h1],by simp[b],A.one j _ _ (by simp[h1]) (by simp[b])⟩
theorem args_gs{args:List Sl}(g:GS K F ρ σ H)(A:uA K F ρ σ H ρ₀ H₀ as vs)(h:cC ρ as []=aj args):GS K F args (vs.map aj) H:=by
 obtain⟨I,l2,l3,Z⟩:=sY h;have M:∀{j:Nat}{v:V},vs[j]?=aj v->(vs.map aj)[j]?=aj (aj v):=λe=>by rw[eM,e];rfl
 have dn:∀{j:Nat}{v:V},(vs.map aj)[j]?=aj (aj v)->vs[j]?=aj v:=λ{j v}e=>by rw[eM]at e;cases q:vs[j]?with|none=>rw[q]at e;cases e|some w=>rw[q]at e;cases e;rfl
 refine⟨g.sub,by rw[I,A.len,dQ],λj b d e=>?_,λj s ds e J=>?_,λj k x⟨⟨s,ds,e1,e2⟩,N⟩⟨⟨t,es,f1,f2⟩,f3⟩=>?_⟩;.obtain⟨a,v,h1,u,m⟩:=A.get I e;have B:=l2 j a _ h1 e;refine⟨v,M u,?_⟩;cases a with|dat d'=>cases B;exact m|tmp ds=>cases B|dD i=>
     rcases B with⟨O,d',r,c⟩|⟨_,_,_,c⟩|⟨_,_,c⟩;.cases c;obtain⟨w,f,p⟩:=g.val i O d r;have m:σ[i]?=aj (aj v):=m;rw[m]at f;cases f;exact p
     .cases c
     .cases c
 .obtain⟨a,v,h1,u,m⟩:=A.get I e;have B:=l2 j a _ h1 e;cases a with|dat d'=>cases B;cases J|tmp es=>cases B;cases J;obtain⟨x,xs,rfl,c,f,p,_⟩:=m;exact⟨x,_,M u,c,f,xs,rfl,p⟩|dD i=>
     have m:σ[i]?=aj (aj v):=m;rcases B with⟨O,d',r,c⟩|⟨O,es,r,c⟩|⟨es,r,c⟩;.cases c;cases J
     .cases c;cases J;obtain⟨x,xs,f,p⟩:=g.own i _ _ r rfl;rw[m]at f;cases f;exact⟨x,xs,M u,p⟩
     .cases c;cases J;obtain⟨x,xs,f,p⟩:=g.own i _ _ r rfl;rw[m]at f;cases f;exact⟨x,xs,M u,p⟩
 . obtain⟨a,v,h1,u,m⟩:=A.get I e1;obtain⟨Q,v',C,L,E⟩:=A.get I f1;have N:=dn N;have f3:=dn f3;rw[u]at N;cases N;rw[L]at f3;cases f3;have s1:=l2 j a _ h1 e1;have s2:=l2 k Q _ C f1;have U:∀{i:Nat}{s:Sl}{ds:Oc},lst? s=aj ds->Ho ρ (.dD i) s->∃G o,ρ[i]?=aj G/\lst? G=aj o:=λ{i s ds}l z=>by
    rcases z with⟨_,_,_,z⟩|⟨b,es,q,_⟩|⟨es,q,_⟩;.subst z;cases l
    .exact⟨_,_,q,rfl⟩
    .exact⟨_,_,q,rfl⟩
   cases a with
   |dat d=>cases s1;cases e2|tmp WR=>cases Q with|dat d=>cases s2;cases f2|tmp Y=>exact A.dis j k WR Y x h1 C u L|dD i=>obtain⟨y,_,r,_,_,_,c,_⟩:=m;cases r;obtain⟨G,o,f,p⟩:=U f2 s2;exact absurd ⟨i,⟨G,o,f,p⟩,E⟩ c
   |dD i=>obtain⟨G,o,f,p⟩:=U e2 s1;cases Q with|dat d=>cases s2;cases f2|tmp Y=>obtain⟨y,_,r,_,_,_,c,_⟩:=E;cases r;exact absurd ⟨i,⟨G,o,f,p⟩,m⟩ c|dD i'=>obtain⟨W,X,q5,q6⟩:=U f2 s2;have:=g.dis i i' x ⟨⟨G,o,f,p⟩,m⟩ ⟨⟨W,X,q5,q6⟩,E⟩;subst this;exact Z j k i s t ds es h1 C e1 f1 e2 f2
theorem oM{as:List Arg}{ss:List Sl}:∀(ρ:List Sl)(n i:Nat),(fG as ss n ρ)[i]?=(ρ[i]?).map λs=>eV s (bh (n+i) as ss)
 |[],n,i=>by simp[rW,lW]|s::ρ,n,0=>by simp[rW,lW]|s::ρ,n,i+1=>by
   rw[lW];simp only[kA];rw[oM ρ (n+1) i];have:n+1+i=n+(i+1):=by omega
   rw[this]
theorem pF{as:List Arg}{ss:List Sl}:∀(ρ:List Sl)(n:Nat),(fG as ss n ρ).length=ρ.length|[],n=>rfl|s::ρ,n=>by rw[lW];simp[pF ρ]
theorem jb{i:Nat}:∀{as:List Arg}{ss:List Sl}{t:Sl},bh i as ss=aj t->∃j:Nat,as[j]?=aj (.dD i)/\ss[j]?=aj t
 |[],_,_,h=>by simp[bh]at h|a::as,[],_,h=>by cases a<;>simp[bh]at h|a::as,s::ss,t,h=>by
   have b:bh i as ss=aj t->∃j:Nat,(a::as)[j]?=aj (.dD i)/\(s::ss)[j]?=aj t:=λh=>by obtain⟨j,h1,c⟩:=jb h;exact⟨j+1,by simpa using h1,by simpa using c⟩
   cases a with|dat d=>exact b (by simpa[bh]using h)|tmp d=>exact b (by simpa[bh]using h)|dD k=>
     rw[bh]at h;split at h;.rename_i e;cases h;subst e;exact⟨0,rfl,rfl⟩
     .exact b h
theorem mj{i:Nat}:∀{as:List Arg}{ss:List Sl},as.length=ss.length->bh i as ss=bx->∀j:Nat,as[j]?≠aj (.dD i)
 |[],_,_,_=>λj h=>by simp at h|a::as,[],b,_=>by simp at b|a::as,s::ss,b,h=>λj c=>by
   have f:as.length=ss.length:=by simpa using b
   have g:bh i as ss=bx/\a≠.dD i:=by cases a with|dat d=>exact⟨by simpa[bh]using h,by simp⟩|tmp d=>exact⟨by simpa[bh]using h,by simp⟩|dD k=>
      rw[bh]at h;split at h;.cases h
      .rename_i l;exact⟨h,λe=>l (by cases e;rfl)⟩
   cases j with|zero=>simp at c;exact g.2 c|succ j=>exact mj f g.1 j (by simpa using c)
theorem yS{Q X H':Hp}{args c:List Sl}{Y:_L.St}(s0:aB K Q ρ₀ σ H₀ F ρ σ H)(A:uA K F ρ σ H ρ₀ H₀ as vs)(hb:cC ρ as []=aj args)(s:aB K F args (vs.map aj) H X c Y H'):aB K Q ρ₀ σ H₀ X (fG as c 0 ρ) σ H'/\∀v r,cF K X c Y H' args (vs.map aj) H v r->cF K X (fG as c 0 ρ) σ H' ρ₀ σ H₀ v r:=by
 have g:=s0.gs;obtain⟨M,l2,l3,l4⟩:=sY hb;have up:∀{j:Nat}{v:V},vs[j]?=aj v->(vs.map aj)[j]?=aj (aj v):=λe=>by rw[eM,e];rfl
 have dn:∀{j:Nat}{v:V},(vs.map aj)[j]?=aj (aj v)->vs[j]?=aj v:=λ{j v}e=>by rw[eM]at e;cases q:vs[j]?with|none=>rw[q]at e;cases e|some w=>rw[q]at e;cases e;rfl
 have la:as.length=c.length:=by rw[s.len,M]--whose are the lists that the callee holds
 have own:∀b,Own args (vs.map aj) b->(∃(j:Nat)(ds:List D),as[j]?=aj (Arg.tmp ds)/\vs[j]?=aj (V.ref b)/\¬ Own ρ σ b/\(Own ρ₀ σ b\/H₀ b=bx))\/Own ρ σ b:=λb⟨j,⟨sl,ds,E,U⟩,e3⟩=>by obtain⟨a,v,h1,C,J⟩:=A.get M E;have s1:=l2 j a _ h1 E;have e3:=dn e3;rw[C]at e3;cases e3;cases a with|dat d=>cases s1;cases U|tmp es=>obtain⟨x,_,k,_,_,_,f,N⟩:=J;cases k;exact .inl ⟨j,es,h1,C,f,N⟩|dD i=>
    right;rcases s1 with⟨_,_,_,z⟩|⟨b',es,q,_⟩|⟨es,q,_⟩;.subst z;cases U
    .exact⟨i,⟨_,_,q,rfl⟩,J⟩
    .exact⟨i,⟨_,_,q,rfl⟩,J⟩
 have back:∀b,Own ρ σ b\/H b=bx->Own ρ₀ σ b\/H₀ b=bx:=λb h=>by
  rcases h with h|h;.exact s0.vO b h
  . by_cases ho:Own ρ₀ σ b;.exact .inl ho
    .right;cases e:H₀ b with|none=>rfl|some o=>rw[s0.keep b o e ho]at h;cases h
 have L:∀b,Own args (vs.map aj) b->Own ρ₀ σ b\/H₀ b=bx:=λb h=>by
  rcases own b h with⟨_,_,_,_,_,z⟩|z;.exact z
  .exact back b (.inl z)--a name's slot behind the call
 have slot:∀{i:Nat}{t:Sl},(fG as c 0 ρ)[i]?=aj t->∃s1,ρ[i]?=aj s1/\t=eV s1 (bh i as c):=λ{i t}h=>by rw[oM]at h;obtain⟨s1,E,U⟩:=map_some h;exact⟨s1,E,by rw[<-U,n4]⟩
 have ae:∀{i:Nat}{s1:Sl},ρ[i]?=aj s1->(fG as c 0 ρ)[i]?=aj (eV s1 (bh i as c)):=λ{i s1}h=>by rw[oM,h,n4];rfl--what the callee left of a list that was lent to it
 have lent:∀{i j:Nat}{s1 t:Sl}{ds:List D},ρ[i]?=aj s1->lst? s1=aj (.l ds)->as[j]?=aj (.dD i)->c[j]?=aj t->∃v s2,σ[i]?=aj (aj v)/\Y[j]?=aj (aj v)/\args[j]?=aj s2/\nG s2 t/\((∃b,s1=.own b ds/\s2=.own a_ ds)\/(s1=.lent ds/\s2=.lent ds)):=λ{i j s1 t ds}h1 C J h4=>by
  have Z:j<args.length:=by rw[M];exact(eY J).1
  have E:args[j]?=aj args[j]:=by simp[Z]
  obtain⟨a,v,k,f,N⟩:=A.get M E;rw[J]at k;cases k;have q4:=l2 j _ _ J E;have kind:(∃b,s1=.own b ds/\args[j]=.own a_ ds)\/(s1=.lent ds/\args[j]=.lent ds):=by
   rcases q4 with⟨_,_,z,_⟩|⟨b,es,z,z'⟩|⟨es,z,z'⟩;.rw[h1]at z;cases z;cases C
   .rw[h1]at z;cases z;cases C;exact .inl ⟨b,rfl,z'⟩
   .rw[h1]at z;cases z;cases C;exact .inr ⟨rfl,z'⟩
  have lk:uN args[j]=a_:=by rcases kind with⟨_,_,z⟩|⟨_,z⟩<;>rw[z]<;>rfl
  obtain⟨u,s',y,z3⟩:=s.lk j _ E lk;rw[h4]at y;cases y;exact⟨v,_,N,by rw[u];exact up f,E,z3,kind⟩
 have Qk:∀{i:Nat}{x:cw},bj (fG as c 0 ρ) σ i x->bj ρ σ i x:=λ{i x}⟨⟨t,ds,E,U⟩,e3⟩=>by obtain⟨s1,k,f⟩:=slot E;refine⟨?_,e3⟩;cases s1 with|aV=>subst f;cases U|val b d=>subst f;cases U|own b es=>exact⟨_,_,k,rfl⟩|lent es=>exact⟨_,_,k,rfl⟩|gV m=>exact⟨_,_,k,rfl⟩|cR m=>exact⟨_,_,k,rfl⟩|hold _=>subst f;cases U
 refine⟨?_,λv r h=>?_⟩;rotate_left;.cases r with|val d=>exact h|own ds=>
     obtain⟨x,xs,h1,C,J,h4,h5,h6⟩:=h;refine⟨x,xs,h1,C,J,h4,λ⟨i,h⟩=>?_,?_⟩
     . have hO:=Qk h;obtain⟨⟨s1,WR,k,f⟩,N⟩:=hO;obtain⟨x',ai,w1,w2,_⟩:=g.own i s1 WR k f;rw[N]at w1;cases w1;rcases h6 with h6|h6
       . rcases own x h6 with⟨_,_,_,_,z,_⟩|_;.exact z ⟨i,⟨s1,WR,k,f⟩,N⟩
         .--a name was lent
           obtain⟨j,⟨sl,es,w3,w4⟩,w5⟩:=h6;obtain⟨a',v',G,O,y3⟩:=A.get M w3;have sa:=l2 j a' _ G w3;have w5:=dn w5;rw[O]at w5;cases w5;cases a' with|dat d=>cases sa;cases w4|tmp al=>obtain⟨_,_,u1,_,_,_,u2,_⟩:=y3;cases u1;exact u2 ⟨i,⟨s1,WR,k,f⟩,N⟩|dD i'=>
             have ex:∃s' ac,ρ[i']?=aj s'/\lst? s'=aj ac:=by
              rcases sa with⟨_,_,_,z⟩|⟨b,es,q,_⟩|⟨es,q,_⟩;.subst z;cases w4
              .exact⟨_,_,q,rfl⟩
              .exact⟨_,_,q,rfl⟩
             have:=g.dis i i' x ⟨⟨s1,WR,k,f⟩,N⟩ ⟨ex,y3⟩;subst this;have hk:∃Qj,WR=.l Qj:=by
              rcases sa with⟨_,_,_,z⟩|⟨b,es,q,_⟩|⟨es,q,_⟩;.subst z;cases w4
              .rw[k]at q;cases q;cases f;exact⟨_,rfl⟩
              .rw[k]at q;cases q;cases f;exact⟨_,rfl⟩
             obtain⟨Qj,rfl⟩:=hk;have Z:j<c.length:=by rw[<-la];exact(eY G).1
             have B:c[j]?=aj c[j]:=by simp[Z]
             obtain⟨v2,s2,u1,u2,u3,u4,u5⟩:=lent k f G B;rw[N]at u1;cases u1--the slot behind the call is a list's
             obtain⟨⟨t,dt,t1,t2⟩,_⟩:=h;obtain⟨s3,t3,t4⟩:=slot t1;rw[k]at t3;cases t3;have lo:∃t5,bh i as c=aj t5:=by cases I:bh i as c with|none=>exact absurd G (mj la I j)|some t5=>exact⟨t5,rfl⟩
             obtain⟨t5,I⟩:=lo;obtain⟨j2,t6,t7⟩:=jb I;have am:j2<args.length:=by rw[M];exact(eY t6).1
             obtain⟨_,s6,_,ap,af,ar,ag⟩:=lent k f t6 t7;have ah:j2=j:=by
              have a1:lst? s6=aj (.l Qj):=by rcases ag with⟨_,_,z⟩|⟨_,z⟩<;>rw[z]<;>rfl
              have a2:lst? s2=aj (.l Qj):=by rcases u5 with⟨_,_,z⟩|⟨_,z⟩<;>rw[z]<;>rfl
              exact l4 j2 j i s6 s2 _ _ t6 G af u3 a1 a2
             subst ah;rw[B]at t7;cases t7;rw[I]at t4;refine h5 ⟨j2,?_,u2⟩;rcases u5 with⟨b,u,y⟩|⟨u,y⟩
             . subst u;subst y;rcases u4 with⟨d2,z⟩|⟨d2,z⟩;.exact⟨_,.l d2,B,by rw[z];rfl⟩
               .rw[z]at t4;subst t4;cases t2
             .subst u;subst y;exact⟨_,.l Qj,B,by rw[show c[j2]=.lent Qj from u4];rfl⟩
       .rw[w2]at h6;cases h6
     . rcases h6 with h6|h6;.exact L x h6
       .exact back x (.inr h6)
 refine⟨⟨s.gs.sub,by rw[pF];exact g.len,λi b d e=>?_,λi t ds e B=>?_,λi j x h1 C=>g.dis i j x (Qk h1) (Qk C)⟩,s0.cL.trans s.cL,λb n n'=>?_,λb o h n=>?_,λb⟨i,h⟩=>back b (.inl ⟨i,Qk h⟩),by rw[pF];exact s0.len,λi s1 h l=>?_⟩;.--data
   obtain⟨s1,k,f⟩:=slot e;cases s1 with|aV=>cases f|lent es=>cases f|gV _=>cases f|cR _=>cases f|hold _=>cases f|val b' d'=>cases f;obtain⟨v,u,y⟩:=g.val i b d k;exact⟨v,u,y.mono s.cL⟩|own b' es=>cases I:bh i as c with|none=>rw[I]at f;cases f|some t=>rw[I]at f;obtain⟨j,u,y⟩:=jb I;obtain⟨v,s2,G,O,y3,y4,p⟩:=lent k rfl u y;cases t with|aV=>cases f|own _ _=>cases f|lent _=>cases f|gV _=>cases f|cR _=>cases f|hold _=>cases f|val b2 d2=>cases f;obtain⟨w,W,x2⟩:=s.gs.val j b2 d y;rw[O]at W;cases W;exact⟨v,G,x2⟩
 .--lists
   obtain⟨s1,k,f⟩:=slot e--a list that was not lent
   have stay:∀es,lst? s1=aj es->(∀j:Nat,as[j]?≠aj (.dD i))->t=s1->∃(a:cw)(xs:HO),σ[i]?=aj (aj (V.ref a))/\H' a=aj xs/\X a=bx/\lM K X xs ds:=λes he hn ht=>by
    subst ht;rw[he]at B;cases B;obtain⟨a,xs,u,y,z3,z4⟩:=g.own i _ ds k he;have no:¬ Own args (vs.map aj) a:=λh=>by obtain⟨j,⟨sl,es,w1,w2⟩,w3⟩:=h;obtain⟨a',v,h1,C,J⟩:=A.get M w1;have sa:=l2 j a' _ h1 w1;have w3:=dn w3;rw[C]at w3;cases w3;cases a' with|dat d=>cases sa;cases w2|tmp es=>obtain⟨x,_,G,_,_,_,O,_⟩:=J;cases G;exact O ⟨i,⟨_,ds,k,he⟩,u⟩|dD i'=>
       have:∃s' ac,ρ[i']?=aj s'/\lst? s'=aj ac:=by
        rcases sa with⟨_,_,_,z⟩|⟨b,es,q,_⟩|⟨es,q,_⟩;.subst z;cases w2
        .exact⟨_,_,q,rfl⟩
        .exact⟨_,_,q,rfl⟩
       have:=g.dis i i' a ⟨⟨_,ds,k,he⟩,u⟩ ⟨this,J⟩;subst this;exact hn j h1
    refine⟨a,xs,u,s.keep a _ y no,?_,z4.mono s.cL⟩;cases q:X a with|none=>rfl|some o=>
      rcases s.xP a z3 (by rw[q];simp)with z|z;.exact absurd z no
      .rw[y]at z;exact(Il z4 z).elim
   cases I:bh i as c with
   |none=>have hn:=mj la I;rw[I]at f;cases s1 with|aV=>subst f;cases B|val b' d'=>subst f;cases B|own b' es=>exact stay _ rfl hn f|lent es=>exact stay _ rfl hn f|gV m=>exact stay _ rfl hn f|cR m=>exact stay _ rfl hn f|hold _=>subst f;cases B
   |some t2=>rw[I]at f;obtain⟨j,u,y⟩:=jb I;cases s1 with
     |aV=>subst f;cases B|val b' d'=>subst f;cases B|hold _=>subst f;cases B|gV m=>
       have Z:j<args.length:=by rw[M];exact(eY u).1
       rcases l2 j _ _ u (show args[j]?=aj args[j]by simp[Z])with⟨_,_,z,_⟩|⟨_,_,z,_⟩|⟨_,z,_⟩<;>(rw[k]at z;cases z)|cR m=>
       have Z:j<args.length:=by rw[M];exact(eY u).1
       rcases l2 j _ _ u (show args[j]?=aj args[j]by simp[Z])with⟨_,_,z,_⟩|⟨_,_,z,_⟩|⟨_,z,_⟩<;>(rw[k]at z;cases z)|own b' es=>
       obtain⟨v,s2,G,O,y3,y4,p⟩:=lent k rfl u y;have:t2≠.aV/\∀x,t2≠.lent x:=by
        rcases p with⟨_,_,p⟩|⟨p,_⟩;.subst p;rcases y4 with⟨_,rfl⟩|⟨_,rfl⟩<;>simp
        .cases p
       cases t2 with
       |aV=>exact absurd rfl this.1|hold x=>
         rcases p with⟨_,_,p⟩|⟨p,_⟩;.subst p;rcases y4 with⟨_,h⟩|⟨_,h⟩<;>cases h
         .cases p|gV x=>
         rcases p with⟨_,_,p⟩|⟨p,_⟩;.subst p;rcases y4 with⟨_,h⟩|⟨_,h⟩<;>cases h
         .cases p|cR x=>
         rcases p with⟨_,_,p⟩|⟨p,_⟩;.subst p;rcases y4 with⟨_,h⟩|⟨_,h⟩<;>cases h
         .cases p|lent x=>exact absurd rfl (this.2 x)|val b2 d2=>subst f;cases B|own b2 av=>subst f;cases B;obtain⟨a,xs,W,x2⟩:=s.gs.own j _ _ y rfl;rw[O]at W;cases W;exact⟨a,xs,G,x2⟩
     |lent es=>
       obtain⟨v,s2,G,O,y3,y4,p⟩:=lent k rfl u y;have ht:t=.lent es:=by rw[f];cases t2<;>rfl
       subst ht;cases B;rcases p with⟨_,p,_⟩|⟨_,p⟩;.cases p
       .subst p;cases(show t2=.lent es from y4);obtain⟨a,xs,W,x2⟩:=s.gs.own j _ _ y rfl;rw[O]at W;cases W;exact⟨a,xs,G,x2⟩
 . by_cases q:F b=bx
   . rcases s.xP b q n' with z|z;.exact(L b z).imp id iV
     . by_cases ho:Own ρ₀ σ b;.exact .inl ho
       .right;cases f:H₀ b with|none=>rfl|some o=>rw[s0.keep b o f ho]at z;exact z
   .exact s0.xP b n q
 . refine s.keep b o (s0.keep b o h n) λz=>?_;rcases L b z with z|z;.exact n z
   .rw[h]at z;cases z
 .obtain⟨E,s2,C,k2⟩:=s0.lk i s1 h l;refine⟨E,_,ae C,?_⟩;have YK:=k2.uN l;refine nG.trans l k2 ?_;cases s2 with
   |aV=>cases YK|gV _=>cases YK|cR _=>cases YK|hold _=>exact nG.refl _|val b d=>exact nG.refl _|lent es=>cases bh i as c with|none=>rfl|some t=>cases t<;>rfl
   |own b es=>cases b with|false=>cases YK|true=>cases bh i as c with|none=>exact .inl ⟨_,rfl⟩|some t=>cases t with|aV=>exact .inl ⟨_,rfl⟩|lent _=>exact .inl ⟨_,rfl⟩|gV _=>exact .inl ⟨_,rfl⟩|cR _=>exact .inl ⟨_,rfl⟩|hold _=>exact .inl ⟨_,rfl⟩|own _ ds=>exact .inl ⟨_,rfl⟩|val _ d=>exact .inr ⟨_,rfl⟩
theorem uA.rebase{F1 g k l:Hp}{c f:List Sl}(a:aB K F ρ σ H F1 c σ g)(A:uA K k f σ l c g as vs):uA K k f σ l ρ H as vs:=by refine⟨A.len,λj b v h1 m=>?_,A.dis⟩;have h:=A.one j b v h1 m;cases b with|dat d=>exact h|dD i=>exact h|tmp ds=>
   obtain⟨x,xs,p,q,r,s,t,q6⟩:=h;refine⟨x,xs,p,q,r,s,t,?_⟩;rcases q6 with q6|q6;.exact a.vO x q6
   . by_cases ho:Own ρ σ x;.exact .inl ho
     .right;cases e:H x with|none=>rfl|some o=>rw[a.keep x o e ho]at q6;cases q6
theorem uA.aao{F1 c e f:Hp}{a b:List Sl}{r:R}(s1:aB K F ρ σ H F1 a σ c)(g:cF K F1 a σ c ρ σ H v r)(s2:aB K F1 a σ c e b σ f)(A:uA K e b σ f a c as vs):uA K e b σ f ρ H (pP r::as) (v::vs):=by
 have h1:Be K F1 a σ c ρ H v (pP r):=by cases r with|val d=>exact g|own ds=>exact g
 refine .cons (h1.later s2) (A.rebase s1) λds x m ev k es o j=>?_;cases r with|val d=>cases m|own p=>
   obtain⟨y,xs,l,q,u,w,s,B⟩:=g;rw[ev]at l;cases l;have h:=A.one k _ _ o j;obtain⟨z,C,t,_,_,_,_,w6⟩:=h;cases t;rcases w6 with w6|w6;.exact s w6
   .rw[q]at w6;cases w6
end
section
variable{K:PySem.W.Frag}{F F1 H H1:Hp}{ρ ρ1 ρ2:List Sl}{σ σ1:_L.St}
theorem xj{s:Sl}(h:put ρ i s=aj ρ1):∃s0,ρ[i]?=aj s0/\uN s0=aK/\ρ1=ρ.set i s:=by
 unfold put at h;split at h;.rename_i q;cases h;exact⟨_,q,rfl,rfl⟩
 .rename_i q;cases h;exact⟨_,q,rfl,rfl⟩
 .rename_i q;cases h;exact⟨_,q,rfl,rfl⟩
 .cases h
theorem aB.put{r:R}(s:aB K F ρ σ H F1 ρ1 σ1 H1)(y:cF K F1 ρ1 σ1 H1 ρ σ H v r)(h:_H.put ρ1 i (lF r)=aj ρ2):aB K F ρ σ H F1 ρ2 (σ1.set i (aj v)) H1:=by
 obtain⟨s0,h0,B,rfl⟩:=xj h;have hi:i<ρ1.length:=(eY h0).1;have m:i<σ1.length:=by rw[<-s.gs.len];exact hi
 have f:∀{j:Nat}{a:cw},j≠i->bj (ρ1.set i (lF r)) (σ1.set i (aj v)) j a->bj ρ1 σ1 j a:=λ{j a}c⟨⟨t,ds,o,p⟩,g⟩=>by rw[fK c]at o g;exact⟨⟨t,ds,o,p⟩,g⟩
 have q:∀{a:cw},bj (ρ1.set i (lF r)) (σ1.set i (aj v)) i a->¬ Own ρ1 σ1 a/\(Own ρ σ a\/H a=bx):=λ{a}⟨⟨t,ds,o,p⟩,g⟩=>by rw[cv hi]at o;rw[cv m]at g;cases o;cases g;cases r with|val d=>cases p|own es=>obtain⟨x,xs,I,C,E,G,J,L⟩:=y;cases I;exact⟨J,L⟩
 refine⟨⟨s.gs.sub,by simp[s.gs.len],λj b d e=>?_,λj t ds e z=>?_,λj k a h1 A=>?_⟩,s.cL,s.xP,s.keep,λa⟨j,c⟩=>?_,by simp[s.len],λj t e l=>?_⟩
 . by_cases c:j=i;.subst c;rw[cv hi]at e;cases r with|own es=>cases e|val d'=>cases e;exact⟨v,cv m,y⟩
   .rw[fK c]at e ⊢;exact s.gs.val j b d e
 . by_cases c:j=i;.subst c;rw[cv hi]at e;cases r with|val d'=>cases e;cases z|own es=>cases e;cases z;obtain⟨x,xs,rfl,C,E,G,_⟩:=y;exact⟨x,_,cv m,C,E,xs,rfl,G⟩
   .rw[fK c]at e ⊢;exact s.gs.own j t ds e z
 . by_cases c:j=i
   . by_cases u:k=i;.rw[c,u]
     .subst c;exact absurd ⟨k,f u A⟩ (q h1).1
   . by_cases u:k=i;.subst u;exact absurd ⟨j,f c h1⟩ (q A).1
     .exact s.gs.dis j k a (f c h1) (f u A)
 . by_cases w:j=i;.subst w;exact(q c).2
   .exact s.vO a ⟨j,f w c⟩
 . obtain⟨o,t1,p,g⟩:=s.lk j t e l;have c:j≠i:=by rintro rfl;rw[h0]at p;cases p;rw[g.uN l]at B;cases B
   exact⟨by rw[fK c];exact o,t1,by rw[fK c];exact p,g⟩
theorem GS.mut{x:Nat}{b:Bool}{es:List D}{a:cw}{ys:List V}(g:GS K F ρ σ H)(e:ρ[x]?=aj (.own b ds))(p:σ[x]?=aj (aj (.ref a)))(r:aG K F ys es):aB K F ρ σ H F (ρ.set x (.own b es)) σ (upd H a (.lst ys)):=by
 have hi:x<ρ.length:=(eY e).1;have w:bj ρ σ x a:=⟨⟨_,_,e,rfl⟩,p⟩;obtain⟨J,xs,h1,L,y,M⟩:=g.m7 x _ ds e rfl;rw[p]at h1;cases h1;have h:∀{j:Nat}{c:cw},bj (ρ.set x (.own b es)) σ j c->bj ρ σ j c:=λ{j c}⟨⟨t,dt,m,s⟩,q3⟩=>by
  by_cases f:j=x;.subst f;exact⟨⟨_,_,e,rfl⟩,q3⟩
  .rw[fK f]at m;exact⟨⟨t,dt,m,s⟩,q3⟩
 refine⟨⟨λc o q=>?_,by simp[g.len],λj A d q=>?_,λj t dt q u=>?_,λj k c m s=>g.dis j k c (h m) (h s)⟩,.refl _,λc n B=>absurd n B,λc o q n=>?_,λc⟨j,q⟩=>.inl ⟨j,h q⟩,by simp,λj t q l=>⟨rfl,?_⟩⟩
 . have:c≠a:=by rintro rfl;rw[y]at q;cases q
   rw[aF this];exact g.sub c o q
 . by_cases f:j=x;.subst f;rw[cv hi]at q;cases q
   .rw[fK f]at q;exact g.val j A d q
 . by_cases f:j=x;.subst f;rw[cv hi]at q;cases q;cases u;exact⟨a,_,p,aH,y,ys,rfl,r⟩
   . rw[fK f]at q;obtain⟨c,C,z,E,G,I⟩:=g.own j t dt q u;have:c≠a:=by rintro rfl;exact f (g.dis j x c ⟨⟨t,dt,q,u⟩,z⟩ w)
     exact⟨c,C,z,by rw[aF this];exact E,G,I⟩
 . have:c≠a:=by rintro rfl;exact n ⟨x,w⟩
   rw[aF this];exact q
 . by_cases f:j=x;.subst f;rw[e]at q;cases q;refine⟨_,cv hi,?_⟩;cases b with|true=>exact .inl ⟨_,rfl⟩|false=>cases l
   .exact⟨t,by rw[fK f];exact q,.refl t⟩
theorem GS.lend{b:Bool}(g:GS K F ρ σ H)(e:ρ[i]?=aj (.own b ds)):GS K F (ρ.set i (.lent ds)) σ H:=by
 have hi:i<ρ.length:=(eY e).1;have f:∀{j:Nat}{c:cw},bj (ρ.set i (.lent ds)) σ j c->bj ρ σ j c:=λ{j c}⟨⟨t,dt,h,l⟩,q3⟩=>by
  by_cases a:j=i;.subst a;exact⟨⟨_,_,e,rfl⟩,q3⟩
  .rw[fK a]at h;exact⟨⟨t,dt,h,l⟩,q3⟩
 refine⟨g.sub,by simp[g.len],λj o d q=>?_,λj t dt q m=>?_,λj k c h l=>g.dis j k c (f h) (f l)⟩
 . by_cases a:j=i;.subst a;rw[cv hi]at q;cases q
   .rw[fK a]at q;exact g.val j o d q
 . by_cases a:j=i;.subst a;rw[cv hi]at q;cases q;cases m;exact g.own j _ _ e rfl
   .rw[fK a]at q;exact g.own j t dt q m
theorem aB.aP{b:Bool}(g:GS K F ρ σ H)(e:ρ[i]?=aj (.own b ds))(s:aB K F (ρ.set i (.lent ds)) σ H F1 ρ1 σ1 H1):aB K F ρ σ H F1 (ρ1.set i (.own b ds)) σ1 H1/\∀v r,cF K F1 ρ1 σ1 H1 (ρ.set i (.lent ds)) σ H v r->cF K F1 (ρ1.set i (.own b ds)) σ1 H1 ρ σ H v r:=by
 have hi:i<ρ.length:=(eY e).1;have h1:(ρ.set i (.lent ds))[i]?=aj (.lent ds):=cv hi;obtain⟨C,E,z,G⟩:=s.lk i _ h1 rfl;cases(show E=.lent ds from G);have u:i<ρ1.length:=(eY z).1;have A:∀{j:Nat}{c:cw},bj (ρ.set i (.lent ds)) σ j c->bj ρ σ j c:=λ{j c}⟨⟨t,dt,f,p⟩,m⟩=>by
  by_cases a:j=i;.subst a;exact⟨⟨_,_,e,rfl⟩,m⟩
  .rw[fK a]at f;exact⟨⟨t,dt,f,p⟩,m⟩
 have I:∀{c:cw},Own ρ σ c->Own (ρ.set i (.lent ds)) σ c:=λ{c}⟨j,⟨t,dt,f,p⟩,m⟩=>by
  by_cases a:j=i;.subst a;exact⟨j,⟨_,_,h1,rfl⟩,m⟩
  .exact⟨j,⟨t,dt,by rw[fK a];exact f,p⟩,m⟩
 have y:∀{j:Nat}{c:cw},bj (ρ1.set i (.own b ds)) σ1 j c->bj ρ1 σ1 j c:=λ{j c}⟨⟨t,dt,f,p⟩,m⟩=>by
  by_cases a:j=i;.subst a;exact⟨⟨_,_,z,rfl⟩,m⟩
  .rw[fK a]at f;exact⟨⟨t,dt,f,p⟩,m⟩
 have w:∀{c:cw}{h:Hp},Own (ρ.set i (.lent ds)) σ c\/h c=bx->Own ρ σ c\/h c=bx:=λ{c h}q=>q.imp (λ⟨j,q⟩=>⟨j,A q⟩) id;have J:∀{c:cw}{h:Hp},Own (ρ.set i (.lent ds)) σ c\/nt (h c)=bx->Own ρ σ c\/nt (h c)=bx:=λ{c h}q=>q.imp (λ⟨j,q⟩=>⟨j,A q⟩) id;refine⟨⟨⟨s.gs.sub,by simp[s.gs.len],λj L d q=>?_,λj t dt q B=>?_,λj k c f p=>s.gs.dis j k c (y f) (y p)⟩,s.cL,λc n M=>J (s.xP c n M),λc o q n=>s.keep c o q λ⟨j,x⟩=>n ⟨j,A x⟩,λc⟨j,q⟩=>w (s.vO c ⟨j,y q⟩),by simpa using s.len,λj t q l=>?_⟩,λv r h=>?_⟩
 . by_cases a:j=i;.subst a;rw[cv u]at q;cases q
   .rw[fK a]at q;exact s.gs.val j L d q
 . by_cases a:j=i;.subst a;rw[cv u]at q;cases q;cases B;exact s.gs.own j _ _ z rfl
   .rw[fK a]at q;exact s.gs.own j t dt q B
 . by_cases a:j=i;.subst a;rw[e]at q;cases q;refine⟨C,_,cv u,?_⟩;cases b with|true=>exact .inl ⟨_,rfl⟩|false=>cases l
   .obtain⟨N,t',O,Q⟩:=s.lk j t (by rw[fK a];exact q) l;exact⟨N,t',by rw[fK a];exact O,Q⟩
 .cases r with|val d=>exact h|own es=>obtain⟨x,xs,f,p,m,U,W,X⟩:=h;exact⟨x,xs,f,p,m,U,λ⟨j,q⟩=>W ⟨j,y q⟩,w X⟩
theorem GS.give(g:GS K F ρ σ H)(e:ρ[i]?=aj (.own aK ds)):∃v,σ[i]?=aj (aj v)/\aB K F ρ σ H F (ρ.set i .aV) σ H/\cF K F (ρ.set i .aV) σ H ρ σ H v (.own ds):=by
 have hi:i<ρ.length:=(eY e).1;obtain⟨a,xs,h1,r,s,u⟩:=g.m7 i _ ds e rfl;have f:∀{j:Nat}{c:cw},bj (ρ.set i .aV) σ j c->bj ρ σ j c/\j≠i:=λ{j c}⟨⟨t,dt,h,m⟩,q3⟩=>by
  by_cases b:j=i;.subst b;rw[cv hi]at h;cases h;cases m
  .rw[fK b]at h;exact⟨⟨⟨t,dt,h,m⟩,q3⟩,b⟩
 have o:bj ρ σ i a:=⟨⟨_,_,e,rfl⟩,h1⟩;refine⟨.ref a,h1,⟨⟨g.sub,by simp[g.len],λj w d q=>?_,λj t dt q p=>?_,λj k c h m=>g.dis j k c (f h).1 (f m).1⟩,.refl _,λc n y=>absurd n y,λ_ _ q _=>q,λc⟨j,q⟩=>.inl ⟨j,(f q).1⟩,by simp,λj t q l=>⟨rfl,?_⟩⟩,a,xs,rfl,r,s,u,λ⟨j,q⟩=>?_,.inl ⟨i,o⟩⟩
 . by_cases b:j=i;.subst b;rw[cv hi]at q;cases q
   .rw[fK b]at q;exact g.val j w d q
 . by_cases b:j=i;.subst b;rw[cv hi]at q;cases q;cases p
   .rw[fK b]at q;exact g.own j t dt q p
 . by_cases b:j=i;.subst b;rw[e]at q;cases q;cases l
   .exact⟨t,by rw[fK b];exact q,.refl t⟩
 .exact(f q).2 (g.dis j i a (f q).1 o)
theorem GS.more{τ:List (Option V)}(g:GS K F ρ σ H)(u:τ.length=n):GS K F (ρ++cx n .aV) (σ++τ) H:=by
 have get:∀{j:Nat}{t:Sl},(ρ++cx n Sl.aV)[j]?=aj t->t≠.aV->ρ[j]?=aj t/\j<ρ.length:=λ{j t}q ne=>by
  by_cases h:j<ρ.length;.rw[dP h]at q;exact⟨q,h⟩
  . rw[fw (by omega),ip]at q;split at q;.cases q;exact absurd rfl ne
    .cases q
 have m:∀{j:Nat}{v:Option V},j<ρ.length->(σ[j]?=aj v↔(σ++τ)[j]?=aj v):=λ{j v}h=>by rw[dP (by rw[<-g.len];exact h)]
 have e:∀{j:Nat}{c:cw},bj (ρ++cx n .aV) (σ++τ) j c->bj ρ σ j c:=λ{j c}⟨⟨t,dt,o,l⟩,q3⟩=>by obtain⟨h1,f⟩:=get o (by rintro rfl;cases l);exact⟨⟨t,dt,h1,l⟩,(m f).mpr q3⟩
 refine⟨g.sub,by simp[g.len,u],λj b d q=>?_,λj t dt q s=>?_,λj k c o l=>g.dis j k c (e o) (e l)⟩;.obtain⟨h1,f⟩:=get q (by simp);obtain⟨v,p,r⟩:=g.val j b d h1;exact⟨v,(m f).mp p,r⟩
 .obtain⟨h1,f⟩:=get q (by rintro rfl;cases s);obtain⟨a,xs,p,r⟩:=g.own j t dt h1 s;exact⟨a,xs,(m f).mp p,r⟩
theorem aB.less{τ:List (Option V)}{m:Nat}(L:m=ρ.length)(g:GS K F ρ σ H)(hn:τ.length=n)(s:aB K F (ρ++cx n .aV) (σ++τ) H F1 ρ1 σ1 H1):aB K F ρ σ H F1 (ρ1.take m) (σ1.take m) H1/\∀v r,cF K F1 ρ1 σ1 H1 (ρ++cx n .aV) (σ++τ) H v r->cF K F1 (ρ1.take m) (σ1.take m) H1 ρ σ H v r:=by
 subst L;have M:ρ.length<=ρ1.length:=by rw[s.len];simp
 have l2:ρ.length<=σ1.length:=by rw[<-s.gs.len];exact M
 have z:∀{y:Type}{l:List y}{j:Nat}{x:y},(l.take ρ.length)[j]?=aj x->l[j]?=aj x/\j<ρ.length:=λ{y l j x}q=>by
  rw[lf]at q;split at q;.exact⟨q,by assumption⟩
  .cases q
 have B:∀{y:Type}{l:List y}{j:Nat}{x:y},j<ρ.length->l[j]?=aj x->(l.take ρ.length)[j]?=aj x:=λ{y l j x}f q=>by rw[lf,if_pos f];exact q
 have C:∀{c:cw},Own (ρ++cx n .aV) (σ++τ) c->Own ρ σ c:=λ{c}⟨j,⟨t,dt,e,p⟩,u⟩=>by
  by_cases f:j<ρ.length;.rw[dP f]at e;rw[dP (by rw[<-g.len];exact f)]at u;exact⟨j,⟨t,dt,e,p⟩,u⟩
  . rw[fw (by omega),ip]at e;split at e;.cases e;cases p
    .cases e
 have N:∀{c:cw},Own ρ σ c->Own (ρ++cx n .aV) (σ++τ) c:=λ{c}⟨j,⟨t,dt,e,p⟩,u⟩=>by have f:j<ρ.length:=(eY e).1;exact⟨j,⟨t,dt,by rw[dP f];exact e,p⟩,by rw[dP (by rw[<-g.len];exact f)];exact u⟩
 have A:∀{j:Nat}{c:cw},bj (ρ1.take ρ.length) (σ1.take ρ.length) j c->bj ρ1 σ1 j c:=λ{j c}⟨⟨t,dt,e,p⟩,u⟩=>⟨⟨t,dt,(z e).1,p⟩,(z u).1⟩;have w:∀{c:cw}{h:Hp},Own (ρ++cx n .aV) (σ++τ) c\/h c=bx->Own ρ σ c\/h c=bx:=λ{c h}q=>q.imp C id;have O:∀{c:cw}{h:Hp},Own (ρ++cx n .aV) (σ++τ) c\/nt (h c)=bx->Own ρ σ c\/nt (h c)=bx:=λ{c h}q=>q.imp C id;refine⟨⟨⟨s.gs.sub,by simp only[li];omega,λj b d q=>?_,λj t dt q Q=>?_,λj k c e p=>s.gs.dis j k c (A e) (A p)⟩,s.cL,λc a b=>O (s.xP c a b),λc o q n=>s.keep c o q λx=>n (C x),λc⟨j,q⟩=>w (s.vO c ⟨j,A q⟩),by simp only[li];omega,λj t q l=>?_⟩,λv r h=>?_⟩;.obtain⟨h1,E⟩:=z q;obtain⟨v,G,I⟩:=s.gs.val j b d h1;exact⟨v,B E G,I⟩
 .obtain⟨h1,E⟩:=z q;obtain⟨a,xs,G,I⟩:=s.gs.own j t dt h1 Q;exact⟨a,xs,B E G,I⟩
 .have f:j<ρ.length:=(eY q).1;obtain⟨J,t',U,W⟩:=s.lk j t (by rw[dP f];exact q) l;rw[dP (by rw[<-g.len];exact f)]at J;refine⟨?_,t',B f U,W⟩;rw[lf,if_pos f];exact J
 .cases r with|val d=>exact h|own es=>obtain⟨x,xs,e,p,u,X,Y,Z⟩:=h;exact⟨x,xs,e,p,u,X,λ⟨j,q⟩=>Y ⟨j,A q⟩,w Z⟩
end
section
variable{X:Cx}{c:Call}{n:Nat}{e a b d:df}{p pa pb pd:P}{pos:Pos}{es:List df}{ps:List P}
inductive afl(K:PySem.W.Frag)(f:List Sl->Res (List Arg))(σ:_L.St)(H:Hp)(Q:List V->Hp->Prop):Prop where|mk(F:Hp)(ρ:List Sl)(as:List Arg)(ρ':List Sl)(g:GS K F ρ σ H)(e:f ρ=.ok as ρ')(k:∀vs F' H',aB K F ρ σ H F' ρ' σ H'->uA K F' ρ' σ H' ρ H as vs->Q vs H')
noncomputable def SG(X:Cx)(c:Call)(es:List df)(ps:List P):Prop:=PA X es (afl X.K (uy c ps))
theorem aD:SG X c [] []:=ym cV λσ H Q⟨F,ρ,as,ρ',g,e,k⟩=>by rw[JS]at e;cases e;exact k [] F H (.refl g) .nil
theorem O8(q:SX X c a pa)(hr:SG X c es ps)(hs:cy (a::es) X.env=(aK,eB a X.env)::cy es X.env:=by rfl):SG X c (a::es) (pa::ps):=by cases hv:isVar pa with|none=>refine ym (bf q.ev hr hs) ?_;rintro σ H Q⟨F,ρ,as,ρ',g,e,k⟩;rw[Bl,hv]at e;obtain⟨r,f,s,e⟩:=aa e;obtain⟨xs,h,j,e⟩:=aa e;cases e;refine⟨F,ρ,r,f,g,s,λv F1 B s1 t=>⟨F1,f,xs,_,s1.gs,j,λvs l m s2 A=>k _ l m (s1.trans s2) (uA.aao s1 t s2 A)⟩⟩|some i=>refine ym (bf (q.var i hv) hr hs) ?_;rintro σ H Q⟨F,ρ,as,ρ',g,e,k⟩;rw[Bl,hv]at e;obtain⟨x0,u,w,e⟩:=aa e;obtain⟨o,y⟩:=az w;subst y;obtain⟨xs,h,j,e⟩:=aa e;cases e;obtain⟨v,h1,_⟩:=g.pk o;exact⟨v,h1,F,ρ,xs,_,g,j,λvs l m s2 A=>k _ l m s2 (.cons h1 A λds x z=>by cases z)⟩
theorem Mp{k f:Nat}{t:cw}{fd:hP}{j:List Str}(J:oX X.prog X.w X.K X.mg X.base Io k t fd j (Ff X.K j.length (c f)))(hr:jA k X.A)(L:Gl X x)(M:X.mg x=aj (.ref t))(N:keepIn X.K (.ref t)=a_)(O:Binds X.K fd j [])(U:SG X c (e::es) ps)(W:(e::es).length=j.length)(u:(x==("__debug__":Str))=aK:=by decide)(he:cy (e::es) X.env=(aK,eB e X.env)::cy es X.env:=by rfl)(hpl:(hX pos (cy es X.env)).any (·.1)=aK:=by rfl)(y:ps.length=(e::es).length:=by rfl):SX X c (.Call (.Name x p') (e::es) [] pos) (.call f ps):=by
 refine⟨dN (wN (E:=E0) J hr L M N O .nil Jp U u he hpl) ?_,λi h=>by cases h⟩;rintro σ H Q⟨F,ρ,r,ρ',g,e,k⟩;rw[_H.E15]at e;obtain⟨as,z,G,e⟩:=aa e;unfold ik at e;split at e;.cases e
 . rename_i args m;split at e
   . rename_i r' l hc;cases e;refine⟨F,ρ,as,z,g,G,λvs F1 Y s1 A=>?_⟩;have o:vs.length=j.length:=by
      have:∀{ps:List P}{ρ ρ':List Sl}{as:List Arg},uy c ps ρ=.ok as ρ'->as.length=ps.length:=by intro ps;induction ps with|nil=>intro ρ ρ' as h;rw[JS]at h;cases h;rfl|cons q j I=>
         intro ρ ρ' as h;rw[Bl]at h;split at h;.obtain⟨_,_,_,h⟩:=aa h;obtain⟨xs,B,C,h⟩:=aa h;cases h;simp[I C]
         .obtain⟨_,_,_,h⟩:=aa h;obtain⟨xs,B,C,h⟩:=aa h;cases h;simp[I C]
      rw[<-A.len,this G,y,W]
     show Ff X.K j.length (c f) (vs++[]) Y Q E0;rw[gE];refine⟨o,F1,args,r,l,args_gs s1.gs A m,hc,λv Z ac H' s rr=>?_⟩;obtain⟨z1,z2⟩:=yS s1 A m s;exact k v Z H' z1 (z2 v r rr)
   .cases e
   .cases e
noncomputable def KY(K:PySem.W.Frag)(D:Ends)(h:Hp)(ρ':List Sl)(f:_L.St)(g:Hp)(ρ:List Sl)(σ:_L.St)(H:Hp)(fl:Fl):Prop:=match fl with|.next=>D.nx f g|.brk=>D.bk f g|.cont=>D.ct f g|.ret r=>∀v,cF K h ρ' f g ρ σ H v r->D.rt v g
inductive tEx(K:PySem.W.Frag)(f:List Sl->Res Fl)(D:Ends)(σ:_L.St)(H:Hp):Prop where|mk(F:Hp)(ρ:List Sl)(fl:Fl)(ρ':List Sl)(g:GS K F ρ σ H)(e:f ρ=.ok fl ρ')(k:∀F' σ' H',aB K F ρ σ H F' ρ' σ' H'->KY K D F' ρ' σ' H' ρ σ H fl)
noncomputable def SS(X:Cx)(c:Call)(n:Nat)(st:eK)(s:S):Prop:=PS X st (tEx X.K (ex c n s))
noncomputable def SB(X:Cx)(c:Call)(n:Nat)(st:List eK)(s:List S):Prop:=yM X st (tEx X.K (gh c n s))
theorem du{st:eK}{t t':TS}(h:PS X st t)(i:∀D σ H,t' D σ H->t D σ H):PS X st t':=λf s σ H D I q=>h f s σ H D I (i D σ H q)
theorem pC{st:List eK}{t t':TS}(h:yM X st t)(i:∀D σ H,t' D σ H->t D σ H):yM X st t':=λf s σ H D I q=>h f s σ H D I (i D σ H q)
theorem xs0{c:Call}:gh c n [] ρ=.ok .next ρ:=rfl
theorem Vf{c:Call}{s:S}{r:List S}:gh c n (s::r) ρ=(ex c n s ρ).bind λfl ρ=>match fl with|.next=>gh c n r ρ|fl=>.ok fl ρ:=rfl
theorem aq:SB X c n [] []:=pC De λD σ H⟨F,ρ,fl,ρ',g,e,k⟩=>by rw[xs0]at e;cases e;exact k F σ H (.refl g)
theorem aQ{st:eK}{s:S}{f:List eK}{ss:List S}(h1:SS X c n st s)(m:SB X c n f ss):SB X c n (st::f) (s::ss):=by refine pC (mQ h1 m) ?_;rintro D σ H⟨F,ρ,fl,ρ',g,e,k⟩;rw[Vf]at e;obtain⟨f1,h,j,e⟩:=aa e;cases f1 with
 |next=>refine⟨F,ρ,.next,h,g,j,λF1 o y s1=>⟨F1,h,fl,ρ',s1.gs,e,λt l u s2=>?_⟩⟩;have q:=k t l u (s1.trans s2);cases fl with|next=>exact q|brk=>exact q|cont=>exact q|ret r=>exact λv w=>q v (w.later s1)
 |brk=>cases e;exact⟨F,ρ,.brk,_,g,j,k⟩|cont=>cases e;exact⟨F,ρ,.cont,_,g,j,k⟩|ret r=>cases e;exact⟨F,ρ,.ret r,_,g,j,k⟩
theorem V2{st:eK}:SS X c n st .bad:=du Jr λD σ H⟨F,ρ,fl,ρ',g,e,k⟩=>by rw[_H.X4]at e;cases e
theorem Hx{t1 t2:TE}(h1:PE X e t1)(g:PE X e t2):PE X e (λσ H Q=>t1 σ H Q\/t2 σ H Q):=λf s σ H Q I h=>h.elim (h1 f s σ H Q I) (g f s σ H Q I)
theorem R5(he:SX X c e p):SS X c n (.Return (aj e) pos) (.ret p):=by
 have plain:∀(D:Ends)(σ:_L.St)(H:Hp),(∃F ρ fl ρ',GS X.K F ρ σ H/\((_H.ev c p ρ).bind λr ρ=>.ok (Fl.ret r) ρ)=.ok fl ρ'/\∀j f h,aB X.K F ρ σ H j ρ' f h->(match fl with|.next=>D.nx f h|.brk=>D.bk f h|.cont=>D.ct f h|.ret r=>∀v,cF X.K j ρ' f h ρ σ H v r->D.rt v h))->wy X.K (_H.ev c p) σ H D.rt:=λD σ H⟨F,ρ,fl,ρ',g,e,k⟩=>by obtain⟨r,l,m,e⟩:=aa e;cases e;exact⟨F,ρ,r,_,g,m,λv F1 o s1 s=>k F1 σ o s1 v s⟩
 cases hv:isVar p with|none=>refine du (J9 he.ev) λD σ H⟨F,ρ,fl,ρ',g,e,k⟩=>plain D σ H ⟨F,ρ,fl,ρ',g,?_,k⟩;rw[_H.X10,hv]at e;exact e|some i=>--by the name itself:its own list is handed back,else its data
   have t:p=.var i:=by cases p<;>cases hv;rfl
   subst t;refine du (J9 (Hx (he.var i hv) he.ev)) ?_;rintro D σ H⟨F,ρ,fl,ρ',g,e,k⟩;rw[_H.X10,hv]at e;dsimp only at e;split at e;.rename_i ds q;cases e;obtain⟨v,h1,u,w⟩:=g.give q;exact .inl ⟨v,h1,k F σ H u v w⟩
   .exact .inr (plain D σ H ⟨F,ρ,fl,ρ',g,e,k⟩)
theorem fP{m o:List eK}{s t:List S}(hc:ST X c e p)(u:SB X c n m s)(w:SB X c n o t):SS X c n (.If e m o pos) (.ifs p s t):=by refine du (Ro hc u w) ?_;rintro D σ H⟨F,ρ,fl,ρ',g,e,k⟩;rw[_H.X12]at e;obtain⟨x,j,y,e⟩:=aa e;refine⟨F,ρ,x,j,g,y,λF1 z s1=>?_⟩;have go:∀{f:List Sl->Res Fl},f j=.ok fl ρ'->tEx X.K f D σ z:=λ{f}h=>⟨F1,j,fl,ρ',s1.gs,h,λA l B s2=>by have q:=k A l B (s1.trans s2);cases fl with|next=>exact q|brk=>exact q|cont=>exact q|ret r=>exact λv C=>q v (C.later s1)⟩;cases x with|true=>rw[if_pos rfl]at e;exact go e|false=>rw[if_neg dc]at e;exact go e
theorem iW{f:Pos}(l:X.N.Nodup)(hi:X.N[i]?=aj x)(m:Loc X.env.scope x)(he:SX X c e p)(hs:fT e (aj (.Name x f)) pos.line X.env=fm aK:=by rfl)(o:X.fn x=a_\/X.env.scope.names.lookup x=aj .local:=by first|(left;rfl)|(right;rfl)|assumption):SS X c n (.Assign [.Name x f] e pos) (.asg i p):=by refine du (sW l hi m he.ev hs o) ?_;rintro D σ H⟨F,ρ,fl,ρ',g,e,k⟩;rw[_H.X6]at e;obtain⟨r,j,q,e⟩:=aa e;obtain⟨s,t,h,e⟩:=aa e;cases e;have u:=az h;clear h;obtain⟨h,z⟩:=u;exact⟨F,ρ,r,j,g,q,λv F1 w s1 y=>k F1 _ w (s1.put y h)⟩
end
end _H
namespace _L
open PySem Spec PyProof.Rows
variable{env:Env}{scope:ke}{X:Cx}
noncomputable def vL(X:Cx)(scope:ke)(N':List Str)(cl:List (Str×cw))(C:cw)(s₀:cr)(H₀:Hp)(ex:List cw):Cx:={X with N:=N',s₀:=s₀,H₀:=H₀,env:=compEnvC scope cl C X.env,outer:=X.stack,stack:=X.stack,ex:=ex,fn:=λx=>scope.names.lookup x==aj .cell,pn:=[],xe:=λ_ _=>False}
theorem Ca(l:List (Str×kx)):∀(cs:List (Str×cw)),(∀n,(n,eJ)∈l->∃c,env.cells.lookup n=aj c)->(∀n c,cs.lookup n=aj c->env.cells.lookup n=aj c)->∃ cl,(forIn l cs (λ(x:Str × kx)(r:List (Str × cw))=>(if(x.2==eJ)=a_ then(do let a<-cellOf env x.1;fm (h_ ((x.1,a)::r)))else fm (h_ r):Sem (ForInStep (List (Str × cw))))):Sem (List (Str × cw)))=fm cl/\(∀n c,cl.lookup n=aj c->env.cells.lookup n=aj c)/\(∀n,((n,eJ)∈l\/(cs.lookup n).isSome)->(cl.lookup n).isSome):=by induction l with|nil=>intro cs _ h;exact⟨cs,rfl,h,λn hn=>by rcases hn with hn|hn;cases hn;exact hn⟩|cons y l i=>
   obtain⟨n,k⟩:=y;intro cs b hc;rw[List.forIn_cons];by_cases f:k=.free
   . subst f;obtain⟨a,j⟩:=b n hU;obtain⟨cl,e,h1,g⟩:=i ((n,a)::cs) (λm hm=>b m (dI _ hm)) λm c hm=>by
      rw[f_]at hm;split at hm;.rename_i q;have q:=eq_of_beq q;subst q;cases hm;exact j
      .exact hc m c hm
     refine⟨cl,?_,h1,λm hm=>g m ?_⟩
     . rw[<-e];have:cellOf env n=fm a:=by unfold cellOf;rw[j]
       simp only[beq_self_eq_true,if_true,this];rfl
     . rcases hm with hm|hm
       . rcases de.mp hm with hm|hm;.cases hm;right;simp[f_]
         .exact .inl hm
       . right;rw[f_];split;.rfl
         .exact hm
   . obtain⟨cl,e,h1,g⟩:=i cs (λm hm=>b m (dI _ hm)) hc;refine⟨cl,?_,h1,λm hm=>g m ?_⟩
     . rw[<-e];have:(k==eJ)=aK:=by simpa using f
       simp only[this,iA,if_false];rfl
     . rcases hm with hm|hm
       . rcases de.mp hm with hm|hm;.cases hm;exact absurd rfl f
         .exact .inl hm
       .exact .inr hm
theorem Bq(a:∀n,(n,eJ)∈scope.names->∃c,env.cells.lookup n=aj c):∃cl,closureFor scope env=fm cl/\(∀n c,cl.lookup n=aj c->env.cells.lookup n=aj c)/\∀n,(n,eJ)∈scope.names->(cl.lookup n).isSome:=by obtain⟨cl,e,h1,b⟩:=Ca (env:=env) scope.names [] a (by simp);refine⟨cl,?_,h1,λn f=>b n (.inl f)⟩;unfold closureFor;exact(congrArg (λt=>t>>=λr=>fm r) e).trans rfl
theorem fj{env:Env}:∀(names:List (Str×kx))(x:Str),(names.map λ(n,k)=>if(k==eJ&&env.scope.kind==.function&&env.kindOf n==aj .cell)then(n,gx)else(n,k)).lookup x=(names.lookup x).map λk=>if(k==eJ&&env.scope.kind==.function&&env.kindOf x==aj .cell)=a_ then gx else k
 |[],x=>rfl|(n,k)::r,x=>by
   have a:=fj (env:=env) r x;show List.lookup x ((if(k==eJ&&env.scope.kind==.function&&env.kindOf n==aj .cell)=a_ then(n,gx)else(n,k))::_)=_;by_cases hc:(k==eJ&&env.scope.kind==.function&&env.kindOf n==aj .cell)=a_;.rw[if_pos hc,f_,f_];cases hx:x==n with|true=>have:=eq_of_beq hx;subst this;show aj gx=aj (if _ then _ else _);rw[if_pos hc]|false=>exact a
   .rw[if_neg hc,f_,f_];cases hx:x==n with|true=>have:=eq_of_beq hx;subst this;show aj k=aj (if _ then _ else _);rw[if_neg hc]|false=>exact a
noncomputable def aaa(N N':List Str)(a:ke):Bool:=(N.zip N').all λp=>(p.1==p.2&&a.names.lookup p.2==aj .free)||(a.names.lookup p.2!=aj .local&&a.names.lookup p.2!=aj .cell&&a.names.lookup p.2!=aj .free)
structure fZ(X:Cx)(scope:ke)(N':List Str)(n:Nat):Prop where
 kind:scope.kind=.function
 cons:∀y∈scope.names,scope.names.lookup y.1=aj y.2
 names:∀y∈scope.names,y.2=.local->scope.names.lookup y.1=aj .local
 cap:∀y∈scope.names,y.2=.free->X.env.scope.names.lookup y.1=aj .cell\/X.env.scope.names.lookup y.1=aj .free
 len:N'.length=X.N.length+n
 same:aaa X.N N' scope=a_
theorem fZ.get{N':List Str}{n:Nat}(c:fZ X scope N' n){i:Nat}{x:Str}(hi:i<X.N.length)(h:N'[i]?=aj x)(a:pX (jo scope X.env) x):X.N[i]?=aj x/\scope.names.lookup x=aj .free:=by
 have hz:(X.N.zip N')[i]?=aj (X.N[i],x):=by rw[List.getElem?_zip_eq_some];exact⟨by simp[hi],h⟩
 have:=(fH.mp c.same) _ (dV hz);simp only[md,eW]at this;rcases this with⟨h1,b⟩|⟨⟨h1,b⟩,f⟩;.have h1:=eq_of_beq h1;have b:=eq_of_beq b;exact⟨by simp[hi,h1],b⟩
 . exfalso;have h1:scope.names.lookup x≠aj .local:=by simpa using h1
   have b:scope.names.lookup x≠aj .cell:=by simpa using b
   have f:scope.names.lookup x≠aj .free:=by simpa using f
   have e:=fj (env:=X.env) scope.names x;have a:(jo scope X.env).names.lookup x=aj .local\/(jo scope X.env).names.lookup x=aj .cell\/(jo scope X.env).names.lookup x=aj .free:=a;rw[show(jo scope X.env).names.lookup x=_ from e]at a;cases q:scope.names.lookup x with|none=>rw[q]at a;simp at a|some k=>
     rw[q]at a h1 b f;have g:(k==eJ)=aK:=by cases k<;>first|rfl|exact absurd rfl f
     simp only[kB,g,mM,iA,if_false,Option.some.injEq]at a;rcases a with rfl|rfl|rfl;.exact h1 rfl
     .exact b rfl
     .exact f rfl
structure CI(cl:List (Str×cw))(z:Nat)(h:eP)(acc:List (Str×cw)):Prop where from':∀n c,acc.lookup n=aj c->cl.lookup n=aj c\/(z<=c/\h.IsCell c bx)inj:∀n n' c,acc.lookup n=aj c->acc.lookup n'=aj c->n=n'
theorem Kq{cl:List (Str×cw)}{z:Nat}(i:∀n c,cl.lookup n=aj c->c<z):∀(names:List (Str×kx))(h:eP)(f:List (Str×cw)),z<=h.objs.size->CI cl z h f->CI cl z (pushCells h names) (kl h.objs.size names f)/\(∀n,(f.lookup n).isSome->((kl h.objs.size names f).lookup n).isSome)/\(∀n,((∃c,f.lookup n=aj c/\z<=c)\/(n,gx)∈names)->∃c,(kl h.objs.size names f).lookup n=aj c/\z<=c)/\(∀n c,(n,gx)∉names->(kl h.objs.size names f).lookup n=aj c->f.lookup n=aj c)
 |[],h,f,hz,x=>by
   refine⟨x,λ_ q=>q,λn q=>?_,λ_ _ _ q=>q⟩;rcases q with q|q;.exact q
   .cases q|(name,kind)::r,h,f,hz,x=>by
   unfold pushCells kl;by_cases l:kind=.cell
   . subst l;rw[if_pos (by rfl),if_pos (by rfl)];have p:CI cl z (h.push {cls:=.type "cell",data:=.cell bx}) ((name,h.objs.size)::f):=by
      have lt:∀n c,f.lookup n=aj c->c<h.objs.size:=λn c e=>by
       rcases x.from' n c e with q|q;.exact eh (i n c q) hz
       .exact q.2.lt
      refine⟨λn c e=>?_,λn m c e j=>?_⟩
      . rw[f_]at e;split at e;.cases e;exact .inr ⟨hz,_,dA _ rfl,rfl⟩
        . rcases x.from' n c e with q|q;.exact .inl q
          .exact .inr ⟨q.1,q.2.keeps λb o e=>gU e⟩
      . rw[f_]at e j;split at e<;>split at j;.rename_i _ a _ b;rw[eq_of_beq a,eq_of_beq b]
        .cases e;exact absurd (lt m _ j) (hV _)
        .cases j;exact absurd (lt n _ e) (hV _)
        .exact x.inj n m c e j
     have g:=Kq i r (h.push {cls:=.type "cell",data:=.cell bx}) ((name,h.objs.size)::f) (by rw[kg];omega) p;rw[kg]at g;refine⟨g.1,λn q=>g.2.1 n ?_,λn q=>g.2.2.1 n ?_,λn c q e=>?_⟩
     . rw[f_];split;.rfl
       .exact q
     . rcases q with⟨c,e,hc⟩|q
       . left;rw[f_];split;.exact⟨_,rfl,hz⟩
         .exact⟨c,e,hc⟩
       . rcases de.mp q with q|q;.cases q;left;exact⟨_,by simp[f_],hz⟩
         .exact .inr q
     . have:=g.2.2.2 n c (λz=>q (dI _ z)) e;rw[f_]at this;split at this;.rename_i a;exact absurd (by rw[eq_of_beq a];exact hU) q
       .exact this
   . have k:(kind==gx)=aK:=by simpa using l
     rw[if_neg (by rw[k];decide),if_neg (by rw[k];decide)];have g:=Kq i r h f hz x;refine⟨g.1,g.2.1,λn q=>g.2.2.1 n ?_,λn c q e=>g.2.2.2 n c (λz=>q (dI _ z)) e⟩;rcases q with q|q;.exact .inl q
     . rcases de.mp q with q|q;.cases q;exact absurd rfl l
       .exact .inr q
structure Ko(X:Cx)(scope:ke)(z:Nat)(h:eP)(cs:List (Str×cw)):Prop where
 from':∀n c,cs.lookup n=aj c->X.env.cells.lookup n=aj c\/(z<c/\h.IsCell c bx)inj:∀n n' c,cs.lookup n=aj c->cs.lookup n'=aj c->n=n'
 has:∀n,(scope.names.lookup n=aj .free\/scope.names.lookup n=aj .cell)->∃c,cs.lookup n=aj c
 fre:∀n c,scope.names.lookup n=aj .free->cs.lookup n=aj c->X.env.cells.lookup n=aj c
 own:∀n c,scope.names.lookup n=aj .cell->cs.lookup n=aj c->z<c
theorem Gj{M:rd}{A:fb}{E:b_->cr->Prop}{s:cr}{N':List Str}{n:Nat}{cl:List (Str×cw)}{Q:Env->cr->Prop}(ok:fZ X scope N' n)(h:∀n c,X.env.cells.lookup n=aj c->c<s.heap.objs.size)(f:∀x y c,X.env.cells.lookup x=aj c->X.env.cells.lookup y=aj c->x=y)(a:∀n c,cl.lookup n=aj c->X.env.cells.lookup n=aj c)(l:∀n,(n,eJ)∈scope.names->(cl.lookup n).isSome)(m:∀ cs h',h'.Ns s.heap.objs.size (λ_=>bx)->(∀ b o,s.heap.get? b=aj o->h'.get? b=aj o)->Ko X scope s.heap.objs.size h' cs->Q {scope:=scope,locals:=s.heap.objs.size,globals:=X.env.globals,cells:=cs,qual:=X.env.qual,func:=bx,code:=X.env.code,frame:=X.env.frame,builtins:=X.env.builtins} {s with heap:=h'}):cN M A (nV scope X.env.globals cl [] X.env.qual bx .none (aj X.env)) Q E s:=by
 simp only[nV,Option.isSome_some,if_true];refine ce (wpAny_alloc ?_);refine ce (wpAny_layCells _ (λname kind cells=>by cases i:kind==gx<;>simp[i]) _ _ _ _ ?_);have ck:=Kq (cl:=cl) (z:=s.heap.objs.size+1) (λn c e=>Nat.lt_succ_of_lt (h n c (a n c e))) scope.names (s.heap.push {cls:=.type "dict",data:=.dict #[]}) cl (by rw[kg];exact dm) ⟨λn c e=>.inl e,λn k c e g=>f n k c (a n c e) (a k c g)⟩;obtain⟨c1,c2,c3,c4⟩:=ck;rw[show({s with heap:=s.heap.push {cls:=.type "dict",data:=.dict #[]}}:cr).heap.objs.size=(s.heap.push {cls:=.type "dict",data:=.dict #[]}).objs.size from rfl];refine ce ?_;rw[List.forIn_nil];refine cK (cK (m _ _ ((Heap.Ns.new s.heap (.type "dict")).keeps (pushCells_keeps _ _)) (λb o e=>pushCells_keeps _ _ b o (gU e)) ⟨λn c e=>?_,c1.inj,λn q=>?_,λn c q e=>?_,λn c q e=>?_⟩))
 . rcases c1.from' n c e with z|z;.exact .inl (a n c z)
   .exact .inr ⟨z.1,z.2⟩
 . rcases q with q|q;.exact mI.mp (c2 n (l n (PySem.mem_of_lookup q)))
   .obtain⟨c,e,_⟩:=c3 n (.inr (PySem.mem_of_lookup q));exact⟨c,e⟩
 .refine a n c (c4 n c (λz=>?_) e);have:=ok.cons _ z;rw[q]at this;cases this
 .obtain⟨p,g,j⟩:=c3 n (.inr (PySem.mem_of_lookup q));rw[e]at g;cases g;exact j
section
variable{X:Cx}{pins:List (cw×Obj)}{σ:_L.St}{H:Hp}{s:cr}{scope:ke}{N':List Str}{n:Nat}{fp:List cw}{cl:List (Str×cw)}
theorem Js{h1:eP}{m:Str->Option b_}{t:Nat}{cs:List (Str×cw)}(ok:fZ X scope N' n)(I:Inv X pins σ H s)(G:∀b∈fp,p6 X pins H b/\b<s.heap.objs.size)(w:Ko X scope s.heap.objs.size h1 cs)(U:h1.Ns s.heap.objs.size m)(j:∀b u,s.heap.get? b=aj u->h1.get? b=aj u):Inv (vL X scope N' cs s.heap.objs.size s H fp) [] (σ++cx n bx) H {s with heap:=h1,toks:=t}:=by
 have J:∀x,scope.names.lookup x=aj .free->(jo scope X.env).names.lookup x=aj .cell\/(jo scope X.env).names.lookup x=aj .free:=λx h=>by
  have e:=fj (env:=X.env) scope.names x;rw[h]at e;have L:(jo scope X.env).names.lookup x=_:=e;rw[L];simp only[kB];split;.exact .inl rfl
  .exact .inr rfl
 refine⟨⟨I.ok.mod,ok.kind,I.ok.glob,I.ok.blt,dm,λx y c h1 W=>w.inj x y c h1 W,λx z=>?_,λx c h e=>lj (w.own x c (eq_of_beq (show(scope.names.lookup x==aj gx)=a_ from h)) e),I.ok.hd,I.ok.frames,.inl rfl,λb B=>?_,I.bs,g_ I.ok.Rv I.sz,λb u e B=>?_,λb B M=>?_,I.stack,I.Dg⟩,rfl,I.bare,Un.kept j,⟨m,U,λi x v Y C Z=>?_⟩,λx c e=>?_,I.hok.fresh (dm),λx c e=>?_,λp hp=>(by cases hp),I.hok.kept j,?_⟩;.--a aa6 name has its cell
   have z:(jo scope X.env).names.lookup x=aj .cell\/(jo scope X.env).names.lookup x=aj .free:=z;have e:=fj (env:=X.env) scope.names x;have L:(jo scope X.env).names.lookup x=_:=e;rw[L]at z;refine w.has x ?_;cases q:scope.names.lookup x with|none=>rw[q]at z;simp at z|some k=>
     rw[q]at z;by_cases hk:k=.free;.rw[hk];exact .inl rfl
     . have g:(k==eJ)=aK:=by simpa using hk
       simp only[kB,g,mM,iA,if_false,Option.some.injEq]at z;rcases z with rfl|rfl;.exact .inr rfl
       .exact absurd rfl hk
 . obtain⟨f,lt⟩:=G b B;refine⟨ej lt,λx c e=>?_⟩;rcases w.from' x c e with e|e;.exact f.2.2.2.2.1 x c e
   .rintro rfl;exact absurd (n7 e.1 lt) (hV _)
 . obtain⟨f,lt⟩:=G b B;rcases f.2.2.2.1 with h|h;.exact I.ok.Lb b u e h
   .have this:b<X.base.objs.size:=dL e;exact absurd (eh this (g_ I.ok.Rv h)) (hV _)
 . obtain⟨f,lt⟩:=G b B;rcases de.mp (I.wz b M)with h|h;.exact f.2.1 h
   .exact f.2.2.1 h
 .--the names
   have hi:i<σ.length:=by
    by_cases hi:i<σ.length;.exact hi
    .rw[fw (by omega),ip]at C;split at C<;>cases C
   rw[dP hi]at C;obtain⟨N,o⟩:=ok.get (by rw[<-I.len];exact hi) Y Z;have hk:=ok.cap (x,.free) (PySem.mem_of_lookup o) rfl;obtain⟨m0,ac,hl⟩:=I.loc;obtain⟨u,r,l⟩:=hl i x v N C (.inr hk);refine⟨u,r,.inr ⟨J x o,?_⟩⟩;rcases l with⟨g,_⟩|⟨_,c,hc,A⟩;.have g:X.env.scope.names.lookup x=aj .local:=g;rcases hk with hk|hk<;>(rw[g]at hk;cases hk)
   .obtain⟨c',E⟩:=w.has x (.inl o);have:=w.fre x c' o E;rw[hc]at this;cases this;refine⟨c,E,?_⟩;obtain⟨oc,O,Q⟩:=A;exact⟨oc,j c oc O,Q⟩
 . rcases w.from' x c e with e|e;.obtain⟨v,oc,O,Q⟩:=I.cell x c e;exact⟨v,oc,j c oc O,Q⟩
   .exact⟨_,e.2⟩
 . rcases w.from' x c e with e|e;.exact I.lO x c e
   .exact I.hok.fresh (lj e.1)
 .show(σ++cx n bx).length=N'.length;rw[ek,oj,I.len,ok.len]
theorem wj{prog:dE}{w:eH}{A:fb}{R:Result->cr->Prop}{p a iter:df}{ifs:List df}{pos:Pos}{it q:b_}(I:Nat->cr->Prop)(t:∀ n s,I n s->cN (c_ prog w) A (pyNext it) (λr b=>match r with|none=>R (.ok .next) b|some v=>cN (c_ prog w) A (k7 a it v) (λ_ b=>cN (c_ prog w) A (k5 a env v) (λ_ j=>cN (c_ prog w) A (forIn ifs a_ λc r=>if r=a_ then do let ok<-isTrue c env (eB c env);fm (h_ ok)else fm (h_ r)) (λok g=>if ok=a_ then cN (c_ prog w) A (eB p env) (λx k=>cN (c_ prog w) A (call (.builtin "list.append") [q,x]) (λ_ l=>∃m,m<n/\I m l) (nB (c_ prog w) A env λe i=>R (.error e) i) k) (nB (c_ prog w) A env λe i=>R (.error e) i) g else ∃m,m<n/\I m g) (nB (c_ prog w) A env λe i=>R (.error e) i) j) (nB (c_ prog w) A env λe i=>R (.error e) i) b) (nB (c_ prog w) A env λe i=>R (.error e) i) b) (nB (c_ prog w) A env λe i=>R (.error e) i) s)(n:Nat){s:cr}(h:I n s):k4 (c_ prog w) A (.compLoop (.ListComp p [⟨a,iter,ifs,0⟩] scope pos) 0 it q env) R s:=by refine codeAny_loop rfl I (λn s B=>?_) n h;show cN _ A ((compTurn (.ListComp p [⟨a,iter,ifs,0⟩] scope pos) 0 it q env).onRaise (λx=>do noteFrame x env;theTreesLotGoes x)) _ _ s;refine wpAny_noted ?_;rw[compTurn_list];refine ce (lS (ce (ew (t n s B) (λr b f=>?_) λ_ _ h'=>h')));cases r with|none=>exact cK f|some v=>refine ce (ew f (λ_ b f=>?_) λ_ _ h'=>h');refine ce (ew f (λ_ j u=>ce (ew u (λok g o=>?_) λ_ _ h'=>h')) λ_ _ h'=>h');cases ok with|false=>exact cK ⟨rfl,o⟩|true=>exact ce (ce (ew o (λx k y=>ce (ew y (λ_ l z=>cK (cK ⟨rfl,z⟩)) λ_ _ h'=>h')) λ_ _ h'=>h'))
noncomputable def U4(X:Cx)(ifs:List df)(t:TT):Prop:=∀(pins:List (cw × Obj))(s:cr)(σ:_L.St)(H:Hp)(Q:Bool->Hp->Prop),Inv X pins σ H s->t σ H Q->cN (c_ X.prog X.w) X.A (forIn ifs a_ λc r=>if r=a_ then do let ok<-isTrue c X.env (eB c X.env);fm (h_ ok)else fm (h_ r)) (TP X pins σ Q) X.xe s
theorem Od:U4 X [] (λ_ H Q=>Q a_ H):=λpins s σ H Q I h=>wpAny_tests_nil ⟨H,I,h⟩
theorem Ol{c:df}{t:TT}(h:PT X c t):U4 X [c] t:=λpins s σ H Q I q=>wpAny_tests_one (h pins s σ H Q I q)
noncomputable def QS(J:It)(g:TG)(tt:TT)(te:TE)(D:cw)(Q:Hp->Prop)(W:Nat->Nat->List V->_L.St->Hp->Prop):Prop:=∀ i m ys σ H,W i m ys σ H->H D=aj (.lst ys)/\((J.stop i H/\Q H)\/(J.go i H/\∀ x e,J.Ld i H x e->g x σ e λa j=>tt a j λb f=>if b=a_ then te a f λy h=>h D=aj (.lst ys)/\ys.length<sizeLine/\∃c,c<m/\W (i+1) c (ys++[y]) a (upd h D (.lst (ys++[y])))else ∃c,c<m/\W (i+1) c ys a f))
theorem uT{E:b_->cr->Prop}{af a iter:df}{ifs:List df}{pos:Pos}{it:cw}{tn:Nat->eP->Prop}{J:It}{g:TG}{tt:TT}{te:TE}{Q:cw->Hp->Prop}{RR:b_->cw->Result->cr->Prop}(hc:X.calm=a_)(ok:fZ X scope N' n)(I:Inv X pins σ H s)(bo:∀n c,cl.lookup n=aj c->X.env.cells.lookup n=aj c)(Cp:∀n,(n,eJ)∈scope.names->(cl.lookup n).isSome)(T:Turn X.prog X.w X.K a J fp it tn)(h0:tn 0 s.heap)(hf:∀b∈fp,p6 X pins H b)(hg:∀cl C s₀ H₀ ex,PG (vL X scope N' cl C s₀ H₀ ex) a g)(ht:∀cl C s₀ H₀ ex,U4 (vL X scope N' cl C s₀ H₀ ex) ifs tt)(he:∀cl C s₀ H₀ ex,PE (vL X scope N' cl C s₀ H₀ ex) af te)(hw:∀D,H D=bx->∃W,(∃m,W 0 m [] (σ++cx n bx) (upd H D (.lst [])))/\QS J g tt te D (Q D) W)(bp:∀D C B l,Q D l->(∃m,B.heap.Ns C m)->p6 X pins l C->Inv X pins σ l B->RR (.ref D) C (.ok .next) B):cN (c_ X.prog X.w) X.A (newList []) (λav aw=>cN (c_ X.prog X.w) X.A (nV scope X.env.globals cl [] X.env.qual bx .none (aj X.env)) (λal ax=>k4 (c_ X.prog X.w) X.A (.compStart (.ListComp af [⟨a,iter,ifs,0⟩] scope pos) 0 (.ref it) av {al with scope:=jo scope X.env}) (RR av al.locals) ax) E aw) E s:=by
 refine eA (Gj ok (λx c e=>?lt) I.ok.inj bo Cp (λcs M am hold bc=>?_));case lt=>obtain⟨v,z⟩:=I.cell x c e;exact eh z.lt (by show _<=(s.heap.push _).objs.size;rw[kg];exact le_succ _)
 dsimp only at am hold bc ⊢--the new list,tracked
 have I3:Inv X pins σ (upd H s.heap.objs.size (.lst [])) {s with heap:=s.heap.push {cls:=.type "list",data:=.seq ([]:List b_).toArray}}:=I.Wx (t':=s.toks) .nil (um);generalize ap:({s with heap:=s.heap.push {cls:=.type "list",data:=.seq ([]:List b_).toArray}}:cr)=s3 at I3;have hsz:s3.heap.objs.size=s.heap.objs.size+1:=by rw[<-ap];exact kg _ _
 have RD:s3.heap=s.heap.push {cls:=.type "list",data:=.seq ([]:List b_).toArray}:=by rw[<-ap]
 obtain⟨W,⟨m0,w0⟩,ay⟩:=hw s.heap.objs.size I.fresh;have aE:∀{h':eP},(∀b o,s.heap.get? b=aj o->h'.get? b=aj o)->tn 0 h':=λk=>T.keep _ _ _ h0 λb j o e=>k b o e;have ag:∀b∈fp,p6 X pins (upd H s.heap.objs.size (.lst [])) b/\b<s3.heap.objs.size:=λb j=>by obtain⟨o,e,_⟩:=T.obj 0 _ h0 b j;have lt:=dL e;obtain⟨f1,f2⟩:=hf b j;exact⟨⟨by rw[aF (ej lt)];exact f1,f2⟩,by rw[hsz];exact Nat.lt_succ_of_lt lt⟩
 rw[<-RD]at am hold bc ⊢;have I4:=Js (t:=s3.toks) ok I3 ag bc am hold;have aI:∀b o,s.heap.get? b=aj o->M.get? b=aj o:=λb o e=>hold b o (by rw[RD];exact gU e);generalize U:vL X scope N' cs s3.heap.objs.size s3 (upd H s.heap.objs.size (.lst [])) fp=G at I4;have hA:G.A=X.A:=by rw[<-U];rfl
 have N:G.prog=X.prog:=by rw[<-U];rfl
 have O:G.w=X.w:=by rw[<-U];rfl
 have aS:G.K=X.K:=by rw[<-U];rfl
 have Y:G.calm=a_:=by rw[<-U];exact hc
 have bq:G.xe=λ_ _=>False:=by rw[<-U];rfl
 have aT:G.env=compEnvC scope cs s3.heap.objs.size X.env:=by rw[<-U];rfl
 have br:PG G a g:=by rw[<-U];exact hg _ _ _ _ _
 have bt:U4 G ifs tt:=by rw[<-U];exact ht _ _ _ _ _
 have bv:PE G af te:=by rw[<-U];exact he _ _ _ _ _
 have ff:∀{l:Hp}{b:cw},b∈fp->l b=bx->p6 G [] l b:=λ{l b}j hn=>by
  obtain⟨f,lt⟩:=ag b j;rw[<-U];refine⟨hn,ej lt,λbP=>?_,.inl j,λx c e=>?_,λp hp=>by cases hp⟩
  . rcases de.mp (I3.wz b bP)with h|h;.exact f.2.1 h
    .exact f.2.2.1 h
  . rcases bc.from' x c e with e|e;.exact f.2.2.2.2.1 x c e
    .rintro rfl;exact absurd (n7 e.1 lt) (hV _)--behind the block
 have fin:∀{L:_L.St}{l:Hp}{B:cr},Inv G [] L l B->Q s.heap.objs.size l->RR (.ref s.heap.objs.size) s3.heap.objs.size (.ok .next) B:=λ{L l B}J' q=>by
  rw[<-U]at J';have hC:l s3.heap.objs.size=bx:=J'.free;obtain⟨hh,gg,dd,bS,bX⟩:=B;have ca:bX=s3.os:=J'.os;subst ca;refine bp _ _ _ l q (let⟨m,hm,_⟩:=J'.loc;⟨m,hm⟩) ?_ (I3.call (h':=hh) (g':=gg) (d':=dd) (t':=bS) (ch:=fp) J'.base J'.hok J'.bare λb j=>?_);.exact I3.FQ (dm) hC
  .obtain⟨f,lt⟩:=ag b j;exact⟨f.2.2.2.1,f.2.1,f.2.2.2.2.1,f.2.2.2.2.2⟩
 have ac:k4 (c_ X.prog X.w) X.A (.compLoop (.ListComp af [⟨a,iter,ifs,0⟩] scope pos) 0 (.ref it) (.ref s.heap.objs.size) G.env) (RR (.ref s.heap.objs.size) s3.heap.objs.size) {s3 with heap:=M,toks:=s3.toks}:=by
  refine wj (λk B=>∃i ys L l,Inv G [] L l B/\tn i B.heap/\(∀b∈fp,l b=bx)/\W i k ys L l) (λk s5 hI=>?_) m0 ⟨0,[],_,_,I4,aE aI,λb j=>(ag b j).1.1,w0⟩;obtain⟨i,ys,ah,H5,I5,t5,f5,w5⟩:=hI;obtain⟨hD,ar⟩:=ay i k ys ah H5 w5;have ai:∀{Z:b_->cr->Prop},∀(e:b_)(B:cr),G.xe e B->Z e B:=λe B z=>by rw[bq]at z;exact fv z
  rcases ar with⟨stop,q⟩|⟨go,step⟩;.have z:=T.done G N O aS Y i [] s5 ah H5 (λ_ _=>False) I5 (λb j=>ff j (f5 b j)) t5 stop;rw[hA]at z;refine ew z (?_) λ_ _ z=>fv z;rintro r s6⟨hr,I6⟩;subst hr;exact fin I6 q
  . have z:=T.item G N O aS Y i [] s5 ah H5 (λ_ _=>False) I5 (λb j=>ff j (f5 b j)) t5 go;rw[hA]at z;refine ew z (?_) λ_ _ z=>fv z;rintro r s6⟨u,hr,z6⟩;subst hr;refine ew z6 (?_) λ_ _ z=>fv z;rintro _ s7⟨x,H7,I7,r7,y7,t7,f7⟩;have cb:=I7.pinned (λb j=>ff j (f7 b j)) (T.obj _ _ t7)--what the pins keep
    have back:∀{L:_L.St}{l:Hp}{B:cr},Inv G ([]++rZ fp s7.heap) L l B->Inv G [] L l B/\tn (i+1) B.heap/\∀b∈fp,l b=bx:=λ{L l B}J'=>by refine⟨J'.nF,T.keep _ _ _ t7 λb j o e=>(J'.pin (b,o) (fy _ (fy _ (jf j e)))).1,λb j=>?_⟩;obtain⟨o,e,_⟩:=T.obj _ _ t7 b j;exact(J'.pin (b,o) (fy _ (fy _ (jf j e)))).2.1
    have z7:=br _ s7 ah H7 x u _ cb r7 (step x H7 y7);rw[hA,N,O]at z7;refine ew z7 (?_) ai;rintro _ s8⟨ae,H8,I8,q8⟩;have z8:=bt _ s8 ae H8 _ I8 q8;rw[hA,N,O]at z8;refine ew z8 (?_) ai;rintro b s9⟨H9,I9,q9⟩;cases b with|false=>rw[if_neg dc]at q9 ⊢;obtain⟨m',hm,w'⟩:=q9;obtain⟨b1,b2,b3⟩:=back I9;exact⟨m',hm,i+1,ys,ae,H9,b1,b2,b3,w'⟩|true=>rw[if_pos rfl]at q9 ⊢;have z9:=bv _ s9 ae H9 _ I9 q9;rw[hA,N,O]at z9;refine ew z9 (?_) ai;rintro y ju⟨yv,ba,cf,ci,cn,bi,m',hm,w'⟩;have bm:=pB _ ju ae ba (.ref s.heap.objs.size) [yv] (.ref s.heap.objs.size) [y] (λv bn=>bn=upd ba s.heap.objs.size (.lst (ys++[yv]))) cf rfl (.cons ci .nil) ⟨_,ys,yv,rfl,rfl,cn,bi,rfl⟩;rw[hA,N,O]at bm;refine ew bm (?_) ai;rintro _ JH⟨_,bn,cp,_,cq⟩;subst cq;obtain⟨b1,b2,b3⟩:=back cp;exact⟨m',hm,i+1,ys++[yv],ae,_,b1,b2,b3,w'⟩
 have e3:({s3 with heap:=M,toks:=s3.toks}:cr)={s with heap:=M}:=by rw[<-ap]
 rw[aT,e3]at ac;exact codeAny_compStart_list ac (T.self _ 0 _ _ _ (aE aI) ac)
end
section
variable{X:Cx}{elt target iter:df}{ifs:List df}{scope:ke}{pos:Pos}{N':List Str}{n:Nat}{wi:TI}{g:TG}{tt:TT}{te:TE}
noncomputable def vC(n:Nat)(wi:TI)(g:TG)(tt:TT)(te:TE):TE:=λσ H Q=>wi σ H λJ a=>∀D,a D=bx->∃W,(∃m,W 0 m [] (σ++cx n bx) (upd a D (.lst [])))/\QS J g tt te D (λb=>Q (.ref D) b) W
theorem nH{a:List (cw×Obj)}{σ:_L.St}{H:Hp}{s:cr}(I:Inv X a σ H s)(ok:fZ X scope N' n):∃cl,closureFor scope X.env=fm cl/\(∀n c,cl.lookup n=aj c->X.env.cells.lookup n=aj c)/\∀n,(n,eJ)∈scope.names->(cl.lookup n).isSome:=Bq λm b=>I.ok.has m (ok.cap (m,.free) b rfl)
theorem OJ(hc:X.calm=a_)(ok:fZ X scope N' n)(hi:PI X target iter wi)(r:∀cl C s₀ H₀ ex,PG (vL X scope N' cl C s₀ H₀ ex) target g)(ht:∀cl C s₀ H₀ ex,U4 (vL X scope N' cl C s₀ H₀ ex) ifs tt)(he:∀cl C s₀ H₀ ex,PE (vL X scope N' cl C s₀ H₀ ex) elt te)(hs:∀x,ft iter X.env x=fm x:=by intro _;rfl):PE X (.ListComp elt [⟨target,iter,ifs,0⟩] scope pos) (vC n wi g tt te):=by intro a s σ H Q I h;obtain⟨cl,c,i,t⟩:=nH I ok;rw[eval_ListComp];refine oB (use:=bx) rfl hs c ok.kind ok.names (cB (hi a s σ H _ I h) λv s1 h1=>cB h1 λu s2 y=>?_);obtain⟨it,M,N,J,O,rfl,z,T,t0,f2,B⟩:=y;refine uT (Q:=λD j=>Q (.ref D) j) (RR:=λk C=>compPost (c_ X.prog X.w) X.A X.xe bx (EP X a σ Q) k C) hc ok z i t T t0 f2 r ht he B λD C E j q l f G=>?_;obtain⟨m,l⟩:=l;refine⟨m,l,λh' p=>⟨.ref D,j,?_,rfl,q⟩⟩;exact G.turned (t':=E.toks) (λb o L e=>p.extBut b o L e) f.1 f.2.1 f.2.2.2.1 f.2.2.2.2.1 f.2.2.2.2.2
theorem Ex{i:Nat}{x:Str}{c j:Pos}(hc:X.calm=a_)(U:X.N.Nodup)(r:X.N[i]?=aj x)(W:Loc X.env.scope x)(ok:fZ X scope N' n)(hi:PI X target iter wi)(Y:∀cl C s₀ H₀ ex,PG (vL X scope N' cl C s₀ H₀ ex) target g)(ht:∀cl C s₀ H₀ ex,U4 (vL X scope N' cl C s₀ H₀ ex) ifs tt)(he:∀cl C s₀ H₀ ex,PE (vL X scope N' cl C s₀ H₀ ex) elt te)(t:fT (.ListComp elt [⟨target,iter,ifs,0⟩] scope pos) (aj (.Name x c)) j.line X.env=fm a_)(hs:∀x,ft iter X.env x=fm x:=by intro _;rfl)(Z:X.fn x=a_\/X.env.scope.names.lookup x=aj .local:=by first|(left;rfl)|(right;rfl)|assumption):PS X (.Assign [.Name x c] (.ListComp elt [⟨target,iter,ifs,0⟩] scope pos) j) (KC (vC n wi g tt te) (iI i)):=by
 intro f s σ H D I h;obtain⟨cl,k,u,Cp⟩:=nH I ok;rw[exec_Assign_Name_used _ _ _ _ t];refine ce (lS (ce ?_));show cN _ X.A (do let _<-comprehension (.ListComp elt [⟨target,iter,ifs,0⟩] scope pos) scope X.env _ (newList []) aK (eB iter X.env) (aj (k5 (.Name x c) X.env))) _ _ s;refine ce (ew (oB (use:=aj (k5 (.Name x c) X.env)) (Q:=λ_ p=>SP X f D .next p) rfl hs k ok.kind ok.names (cB (hi f s σ H _ I h) λv s1 h1=>cB h1 λac s2 h2=>?_)) (λ_ p hq=>cK (cK hq)) λ_ _ e=>e);obtain⟨it,fp,tn,J,H2,rfl,I2,T,t0,f2,hw⟩:=h2;refine uT (Q:=λDa y=>D.nx (σ.set i (aj (.ref Da))) y) (RR:=λB C=>compPost (c_ X.prog X.w) X.A X.xe (aj (k5 (.Name x c) X.env)) (λ_ p=>SP X f D .next p) B C) hc ok I2 u Cp T t0 f2 Y ht he hw λDa C p y q E l I'=>?_;obtain⟨m,E⟩:=E;show cN _ X.A (k5 (.Name x c) X.env (.ref Da)) _ _ _;refine wpAny_assign_Name (vq I' U r W (show RelV (.ref Da) (.ref Da)from rfl) (?_) Z);rintro G L⟨a,sb,ha⟩;have M:C≠a:=by
  rcases ha with rfl|ha;.exact l.2.1
  .exact λz=>l.2.2.2.2.1 x a ha z.symm
 refine⟨m,E.sameBut sb M,λh' O=>⟨_,y,?_,q⟩⟩;exact L.turned (t':=G.toks) (λb o hb e=>O.extBut b o hb e) l.1 l.2.1 l.2.2.2.1 l.2.2.2.2.1 l.2.2.2.2.2
noncomputable def afA(K:PySem.W.Frag)(c:TE):TI:=λσ H R=>c σ H λx b=>∃a,x=.ref a/\(((∃xs,dJ K b a xs)/\R (Ww K a) b)\/((∃xs,iB K b a xs)/\R (XJ K a) b))
theorem Bj{u l:df}{r:TE}(w:PE X l r):PI X u l (afA X.K r):=by
 intro f s σ H R I h;refine cB (w f s σ H _ I h) ?_;rintro v s1⟨x,t,c,r1,j⟩;obtain⟨a,e,j⟩:=j;subst e;cases r1;rcases j with⟨⟨xs,k⟩,q⟩|⟨⟨xs,k⟩,q⟩
 . obtain⟨i,y,p,hz⟩:=c.list k;refine ml p.isList ?_;refine⟨s1.heap.objs.size,[s1.heap.objs.size],_,_,t,rfl,c.kept (t':=s1.toks) λb o e=>gU e,FW a _,⟨_,dA _ rfl,rfl,rfl⟩,λb m=>?_,q⟩;have e:b=s1.heap.objs.size:=by simpa using m
   subst e;exact c.FQ (dm) (c.hok.fresh (dm))
 . obtain⟨i,y,p,hz⟩:=c.tuple k;refine iN (show s1.heap.IsTuple a i.toArray from p) ?_;refine⟨s1.heap.objs.size,[s1.heap.objs.size],_,_,t,rfl,c.kept (t':=s1.toks) λb o e=>gU e,BZ a _,⟨_,dA _ rfl,rfl,rfl⟩,λb m=>?_,q⟩;have e:b=s1.heap.objs.size:=by simpa using m
   subst e;exact c.FQ (dm) (c.hok.fresh (dm))
end
end _L
namespace _H
open PySem _L Spec PyProof.Rows
variable{v:V}{i m:Nat}{K:PySem.W.Frag}{F H:Hp}{ρ:List Sl}{σ:_L.St}{x:Str}{p':Pos}{is:List Nat}{ds:List D}{s:cr}{A:fb}{u':b_}
structure Walk(K:PySem.W.Frag)(F:Hp)(ρ:List Sl)(σ:_L.St)(H:Hp)(ul:List Sl->List Sl)(J:It)(ds:List D)(F1:Hp)(ρ1:List Sl)(H1:Hp):Prop where
 gs:GS K F1 ρ1 σ H1
 src:∀(n k:Nat)(F':Hp)(ρ':List Sl)(σ':_L.St)(H':Hp),aB K F1 (ρ1++cx n .aV) (σ++cx n bx) H1 F' ρ' σ' H'->(∀d,ds[k]?=aj d->J.go k H'/\∀x lH,J.Ld k H' x lH->∃F'',Ext F' H' F'' lH/\Rep K F'' x d)/\(ds.length<=k->J.stop k H')fin:∀F2 ρ2 σ2 H2,aB K F1 ρ1 σ H1 F2 ρ2 σ2 H2->aB K F ρ σ H F2 (ul ρ2) σ2 H2/\∀v r,cF K F2 ρ2 σ2 H2 ρ1 σ H1 v r->cF K F2 (ul ρ2) σ2 H2 ρ σ H v r
inductive tIt(K:PySem.W.Frag)(iv:Option Nat)(f:Ev)(σ:_L.St)(H:Hp)(R:It->Hp->Prop):Prop where|mk(F:Hp)(ρ:List Sl)(ds:List D)(ρ1:List Sl)(g:GS K F ρ σ H)(e:srcOf iv f ρ=.ok ds ρ1)(k:∀J F1 H1,Walk K F ρ σ H (aP ρ iv) J ds F1 ρ1 H1->R J H1)
section
variable{K:PySem.W.Frag}{F F1 H H1:Hp}{ρ ρ1:List Sl}{σ:_L.St}{ds:List D}{a:cw}
theorem Ed{xs:List V}{f b:Hp}(g:iB K b a xs)(r:aG K f xs ds)(s:aN f b)(k:Nat):(∀d,ds[k]?=aj d->(XJ K a).go k b/\∀x j,(XJ K a).Ld k b x j->∃c,Ext f b c j/\Rep K c x d)/\(ds.length<=k->(XJ K a).stop k b):=by refine⟨λd hd=>?_,λh=>⟨xs,g,by rw[r.length];exact h⟩⟩;obtain⟨w,h1,l⟩:=r.get hd;refine⟨⟨xs,w,g,h1⟩,?_⟩;rintro x j⟨e,y⟩;subst e;have:=y xs g;rw[h1]at this;cases this;exact⟨f,.refl s,l⟩
theorem rE{xs:List V}{f b:Hp}(g:dJ K b a xs)(r:aG K f xs ds)(s:aN f b)(k:Nat):(∀d,ds[k]?=aj d->(Ww K a).go k b/\∀x j,(Ww K a).Ld k b x j->∃c,Ext f b c j/\Rep K c x d)/\(ds.length<=k->(Ww K a).stop k b):=by refine⟨λd hd=>?_,λh=>⟨xs,g,by rw[r.length];exact h⟩⟩;obtain⟨w,h1,l⟩:=r.get hd;refine⟨⟨xs,w,g,h1⟩,?_⟩;rintro x j⟨e,y⟩;subst e;have:=y xs g;rw[h1]at this;cases this;exact⟨f,.refl s,l⟩
theorem xY{ul:List Sl->List Sl}{d:D}(s:aB K F ρ σ H F1 ρ1 σ H1)(r:Rep K F1 v d)(hi:items d=aj ds)(fin:∀f b c g,aB K F1 ρ1 σ H1 f b c g->aB K F ρ σ H f (ul b) c g/\∀v r,cF K f b c g ρ1 σ H1 v r->cF K f (ul b) c g ρ σ H v r):∃a,v=.ref a/\(((∃xs,dJ K H1 a xs)/\Walk K F ρ σ H ul (Ww K a) ds F1 ρ1 H1)\/((∃xs,iB K H1 a xs)/\Walk K F ρ σ H ul (XJ K a) ds F1 ρ1 H1)):=by cases d with|tup es=>cases hi;rw[Rep]at r;obtain⟨a,xs,rfl,h1,h⟩:=r;exact⟨a,rfl,.inr ⟨⟨xs,aN.fY s.gs.sub h1⟩,s.gs,λn k o j l p e=>Ed (aN.fY e.gs.sub (aN.fY e.cL h1)) (h.mono e.cL) e.gs.sub k,fin⟩⟩|lst es=>cases hi;rw[Rep]at r;obtain⟨a,xs,rfl,h1,h⟩:=r;exact⟨a,rfl,.inl ⟨⟨xs,s.gs.sub.seq h1⟩,s.gs,λn k o j l p e=>rE (e.gs.sub.seq (e.cL.seq h1)) (h.mono e.cL) e.gs.sub k,fin⟩⟩|_=>cases hi
theorem vo{ul:List Sl->List Sl}(g:GS K F ρ1 σ H)(e:ρ1[i]?=aj (.lent ds))(fin:∀f b c h,aB K F ρ1 σ H f b c h->aB K F ρ σ H f (ul b) c h/\∀v r,cF K f b c h ρ1 σ H v r->cF K f (ul b) c h ρ σ H v r):∃a,σ[i]?=aj (aj (.ref a))/\(∃xs,dJ K H a xs)/\Walk K F ρ σ H ul (Ww K a) ds F ρ1 H:=by obtain⟨a,xs,h1,p,C,E⟩:=g.m7 i _ ds e rfl;have hi:i<ρ1.length:=(eY e).1;refine⟨a,h1,⟨xs,dJ.of p⟩,g,λn k G q u I j=>?_,fin⟩;obtain⟨l,t,w,y⟩:=j.lk i _ (by rw[dP hi];exact e) rfl;cases(show t=.lent ds from y);rw[dP (by rw[<-g.len];exact hi),h1]at l;obtain⟨J,ys,o,z,L,B⟩:=j.gs.m7 i _ ds w rfl;rw[l]at o;cases o;exact rE (dJ.of z) B j.gs.sub k
end
section
variable{X:Cx}{c:Call}{n:Nat}{e a b d tg:df}{p pa pb pd:P}{pos:Pos}
theorem oh{t t':TI}(h:PI X tg e t)(i:∀σ H R,t' σ H R->t σ H R):PI X tg e t':=λf s σ H R I q=>h f s σ H R I (i σ H R q)
noncomputable def SI(X:Cx)(c:Call)(tg e:df)(p:P):Prop:=PI X tg e (tIt X.K (isVar p) (_H.ev c p))
theorem cM(h:SX X c e p):SI X c tg e p:=by unfold SI;cases hv:isVar p with|none=>refine oh (Bj h.ev) ?_;rintro σ H R⟨F,ρ,ds,u,g,e,k⟩;obtain⟨r,f,L,t⟩:=aa e;have y:=az t;clear t;obtain⟨t,B⟩:=y;subst B;refine⟨F,ρ,r,_,g,L,λv U W s C=>?_⟩;obtain⟨l,s2,_,M⟩:=s.dC C;obtain⟨a,E,G⟩:=xY (ul:=aP ρ bx) s2 M t λY N O Z s3=>⟨s2.trans s3,λv r C=>C.later s2⟩;exact⟨a,E,G.imp (λ⟨z,w⟩=>⟨z,k _ _ _ w⟩) (λ⟨z,w⟩=>⟨z,k _ _ _ w⟩)⟩|some i=>
   refine oh (Bj (h.var i hv)) ?_;rintro σ H R⟨F,ρ,ds,u,g,e,k⟩;unfold srcOf at e;dsimp only at e;split at e
   . rename_i b d q;have y:=az e;clear e;obtain⟨t,B⟩:=y;subst B;obtain⟨v,h1,Q⟩:=g.val i b d q;have fin:∀l f j o,aB X.K F ρ σ H l f j o->aB X.K F ρ σ H l (aP ρ (aj i) f) j o/\∀v r,cF X.K l f j o ρ σ H v r->cF X.K l (aP ρ (aj i) f) j o ρ σ H v r:=λl f j o s=>by unfold aP;dsimp only;rw[q];exact⟨s,λ_ _ z=>z⟩
     obtain⟨a,E,G⟩:=xY (ul:=aP ρ (aj i)) (.refl g) Q t fin;exact⟨v,h1,a,E,G.imp (λ⟨z,w⟩=>⟨z,k _ _ _ w⟩) (λ⟨z,w⟩=>⟨z,k _ _ _ w⟩)⟩
   . rename_i b I q;cases e;have hi:i<ρ.length:=(eY q).1;have fin:∀l f j o,aB X.K F (ρ.set i (.lent ds)) σ H l f j o->aB X.K F ρ σ H l (aP ρ (aj i) f) j o/\∀v r,cF X.K l f j o (ρ.set i (.lent ds)) σ H v r->cF X.K l (aP ρ (aj i) f) j o ρ σ H v r:=λl f j o s=>by unfold aP;dsimp only;rw[q];exact aB.aP g q s
     obtain⟨a,h1,J,w⟩:=vo (ul:=aP ρ (aj i)) (g.lend q) (cv hi) fin;exact⟨_,h1,a,rfl,.inl ⟨J,k _ _ _ w⟩⟩
   . rename_i I q;cases e;have fin:∀l f j o,aB X.K F ρ σ H l f j o->aB X.K F ρ σ H l (aP ρ (aj i) f) j o/\∀v r,cF X.K l f j o ρ σ H v r->cF X.K l (aP ρ (aj i) f) j o ρ σ H v r:=λl f j o s=>by unfold aP;dsimp only;rw[q];exact⟨s,λ_ _ z=>z⟩
     obtain⟨a,h1,J,w⟩:=vo (ul:=aP ρ (aj i)) g q fin;exact⟨_,h1,a,rfl,.inl ⟨J,k _ _ _ w⟩⟩
   .cases e
theorem zB{F1 g:Hp}{f:List Sl}(s:aB K F ρ σ H F1 f σ g)(i j:Int):Walk K F ρ σ H (aP ρ bx) (Yp i (j-i).toNat) ((dr (j-i).toNat).map λ(k:Nat)=>D.int (i+(k:Int))) F1 f g:=by
 refine⟨s.gs,λn k o q t I u=>⟨λd hd=>?_,λh=>?_⟩,λJ w y L s3=>⟨s.trans s3,λv r z=>z.later s⟩⟩;.rw[eM]at hd;obtain⟨m,B,C⟩:=map_some hd;obtain⟨h1,l⟩:=eY B;rw[List.getElem_range]at l;subst l;subst C;rw[k3]at h1;refine⟨h1,?_⟩;rintro x M⟨E,G⟩;subst E;subst G;exact⟨o,.refl u.gs.sub,bO _⟩
 .rw[dQ,k3]at h;exact h
theorem gA(t:x="range")(u:Gl X x)(w:X.mg x=bx)(y:SX X c a pa)(hs:cy [a] X.env=[(aK,eB a X.env)]:=by rfl):SI X c tg (.Call (.Name x p') [a] [] pos) (.uC (.con (.int 0)) pa):=by
 subst t;obtain⟨U,h1,z⟩:=y.cu;refine oh (uY u w (bf h1 cV hs) hs) ?_;rintro σ H R⟨F,ρ,ds,B,g,e,k⟩;obtain⟨r,C,q,h⟩:=aa e;have l:=az h;clear h;obtain⟨h,E⟩:=l;subst E;rw[_H.E20]at q;obtain⟨W,G,I,f⟩:=aa q;have l:=az f;clear f;obtain⟨f,J⟩:=l;subst J;obtain⟨Y,L,M,o⟩:=aa I;cases o;obtain⟨i,f1,f⟩:=cA f;obtain⟨j,f2,f⟩:=cA f;obtain⟨⟨b1,b2,b3,b4⟩,f⟩:=aZ f;have f1:i=0:=by cases f1;rfl
 subst f1;subst f;cases h;cases dh f2;refine z g M λv N O s Q=>⟨j,by rw[Q.int],by omega,by omega,?_⟩;have:=zB s 0 j;rw[qo]at this;refine k _ N O ?_;rw[qo];exact this
theorem N8(y:x="range")(z:Gl X x)(B:X.mg x=bx)(C:SX X c a pa)(E:SX X c b pb)(hs:cy [a,b] X.env=[(aK,eB a X.env),(aK,eB b X.env)]:=by rfl)(h:cy [b] X.env=[(aK,eB b X.env)]:=by rfl):SI X c tg (.Call (.Name x p') [a,b] [] pos) (.uC pa pb):=by subst y;obtain⟨Y,Z,h1,G,I⟩:=C.iJ E;refine oh (Gh z B (bf h1 (bf G cV h) (by rw[hs,h])) hs h) ?_;rintro σ H R⟨F,ρ,ds,J,g,e,k⟩;obtain⟨r,L,o,l⟩:=aa e;have q:=az l;clear l;obtain⟨l,M⟩:=q;subst M;rw[_H.E20]at o;obtain⟨xy,N,O,f⟩:=aa o;have q:=az f;clear f;obtain⟨f,Q⟩:=q;subst Q;obtain⟨i,f1,f⟩:=cA f;obtain⟨j,f2,f⟩:=cA f;obtain⟨⟨b1,b2,b3,b4⟩,f⟩:=aZ f;subst f;cases l;refine I g O λv u U W s t w=>⟨i,j,?_,by omega,k _ U W (zB s i j)⟩;have o:=dh f1;have l:=dh f2;rw[o]at t;rw[l]at w;rw[t.int,w.int]
end
section
variable{X:Cx}{c:Call}{n:Nat}{e a b d tg iter:df}{p pa pb pd:P}{pos:Pos}{body:List eK}{ss:List S}
noncomputable def IV(K:PySem.W.Frag)(bd:List Sl->D->Option (List Sl))(g:TG):Prop:=∀(x:V)(d:D)(F:Hp)(ρ f:List Sl)(σ:_L.St)(H:Hp)(Q:_L.St->Hp->Prop),GS K F ρ σ H->Rep K F x d->bd ρ d=aj f->(∀h,aB K F ρ σ H F f h H->Q h H)->g x σ H Q
theorem xr(i:Nat):IV K (λρ d=>put ρ i (.val aK d)) (iI i):=λx d F ρ f σ H Q g r h k=>k _ (aB.put (r:=.val d) (.refl g) r h)
theorem dz:∀(is:List Nat)(gs:Hj),(∀(xs:List V)(ds:List D)(F:Hp)(ρ f:List Sl)(σ:_L.St)(H:Hp)(Q:_L.St->Hp->Prop),GS K F ρ σ H->aG K F xs ds->putAll ρ is ds=aj f->(∀j,aB K F ρ σ H F f j H->Q j H)->gs xs σ H Q)->∀i,∀(xs:List V)(ds:List D)(F:Hp)(ρ f:List Sl)(σ:_L.St)(H:Hp)(Q:_L.St->Hp->Prop),GS K F ρ σ H->aG K F xs ds->putAll ρ (i::is) ds=aj f->(∀j,aB K F ρ σ H F f j H->Q j H)->K8 (iI i) gs xs σ H Q:=by intro is gs o i xs ds F ρ f σ H Q g r h k;cases ds with|nil=>simp[jM,iZ,oY,o6]at h|cons d ds=>obtain⟨v,vs,rfl,h1,q⟩:=r.cG;rw[iZ]at h;obtain⟨l,t,u⟩:=cA h;have s1:=aB.put (r:=.val d) (.refl g) h1 t;refine⟨v,vs,rfl,o vs ds F l f _ H _ s1.gs q u λj s2=>k j (s1.trans s2)⟩
theorem kJ:∀(xs:List V)(ds:List D)(F:Hp)(ρ f:List Sl)(σ:_L.St)(H:Hp)(Q:_L.St->Hp->Prop),GS K F ρ σ H->aG K F xs ds->putAll ρ [] ds=aj f->(∀j,aB K F ρ σ H F f j H->Q j H)->Vu xs σ H Q:=by intro xs ds F ρ f σ H Q g r h k;cases ds with|nil=>rw[jM]at h;cases h;exact⟨r.dR,k σ (.refl g)⟩|cons d ds=>simp[jM,iZ,oY,o6]at h
theorem lV:∀{is:List Nat}{ds:List D}{ρ f:List Sl},putAll ρ is ds=aj f->ds.length=is.length|[],[],_,_,_=>rfl|[],_::_,_,_,h=>by simp[jM,iZ,oY,o6]at h|_::_,[],_,_,h=>by simp[jM,iZ,oY,o6]at h|i::is,d::ds,ρ,f,h=>by rw[iZ]at h;obtain⟨g,k,j⟩:=cA h;simp[lV j]
theorem pA{gs:Hj}(q:m=is.length)(h:∀(xs:List V)(ds:List D)(F:Hp)(ρ f:List Sl)(σ:_L.St)(H:Hp)(Q:_L.St->Hp->Prop),GS K F ρ σ H->aG K F xs ds->putAll ρ is ds=aj f->(∀l,aB K F ρ σ H F f l H->Q l H)->gs xs σ H Q):IV K (λρ d=>cz ρ is aK d) (Uy K m gs):=by intro x d F ρ f σ H Q g r j k;replace j:cz ρ is aK d=aj f:=j;cases d with|tup ds=>replace j:putAll ρ is ds=aj f:=j;rw[Rep]at r;obtain⟨a,xs,rfl,h1,o⟩:=r;exact⟨a,xs,rfl,aN.fY g.sub h1,by rw[o.length,lV j,q],h xs _ F ρ f σ H Q g o j k⟩|_=>cases j
theorem pG{g:TG}{one:Bool}(hp:kP (c_ X.prog X.w) X.A X.env X.xe)(hc:X.calm=a_)(hi:SI X c tg iter p)(hg:PG X tg g)(Z:IV X.K (λρ d=>cz ρ is one d) g)(hb:SB X c n body ss)(hs:∀x,ft iter X.env x=fm x:=by intro _;rfl):SS X c n (.For tg iter body [] pos) (.jB p is one ss):=by
 refine du (Bx hp hc hi hg hb hs) ?_;rintro D σ H⟨F,ρ,fl,t,g0,e,k⟩;rw[_H.X13]at e;obtain⟨ds,o,e1,e⟩:=aa e;obtain⟨ae,E,e2,e⟩:=aa e;cases e;refine⟨F,ρ,ds,o,g0,e1,λJ F1 H1 w=>?_⟩;have src:∀(i:Nat)(O:Hp)(t:List Sl)(h:_L.St)(j:Hp),aB X.K F1 o σ H1 O t h j->(∀d,ds[i]?=aj d->J.go i j/\∀x lH,J.Ld i j x lH->∃G,Ext O j G lH/\Rep X.K G x d)/\(ds.length<=i->J.stop i j):=λi O t h j s=>w.src 0 i O t h j (by simpa using s);refine⟨λi m q Q=>∃C f,aB X.K F1 o σ H1 C f q Q/\m=ds.length-i/\i<=ds.length/\fV is one (gh c n ss) (ds.drop i) f=.ok fl E,⟨_,F1,o,.refl w.gs,rfl,um,e2⟩,?_⟩;rintro i m q Q⟨C,f,U,rfl,af,l⟩;obtain⟨s1,s2⟩:=src i C f q Q U;by_cases u:i<ds.length
 . right;have hd:ds[i]?=aj ds[i]:=by simp[u]
   obtain⟨go,step⟩:=s1 _ hd;refine⟨go,λh j=>∃m',m'<ds.length-i/\∃C f,aB X.K F1 o σ H1 C f h j/\m'=ds.length-(i+1)/\i+1<=ds.length/\fV is one (gh c n ss) (ds.drop (i+1)) f=.ok fl E,λh j z=>z,λx j y=>?_⟩;obtain⟨F2,ext,rx⟩:=step x j y;have I:=U.trans (ext.stp U.gs);rw[fE u,v5]at l;cases hbd:cz f is one ds[i]with|none=>rw[hbd]at l;cases l|some L=>rw[hbd]at l;obtain⟨M,B,eb,l⟩:=aa l;refine Z x _ F2 f L q j _ I.gs rx hbd λag sb=>?_;have WT:=I.trans sb;refine⟨F2,L,M,B,WT.gs,eb,λW N H4 s4=>?_⟩;have Y:=WT.trans s4;cases M with|next=>exact⟨_,by omega,W,B,Y,rfl,u,l⟩|cont=>exact⟨_,by omega,W,B,Y,rfl,u,l⟩|brk=>cases l;exact k W N H4 (w.fin _ _ _ _ Y).1|ret r=>cases l;intro v rr;obtain⟨z1,z2⟩:=w.fin _ _ _ _ Y;exact k W N H4 z1 v (z2 v r (rr.later WT))
 . left;have ac:ds.drop i=[]:=by rw[kc];omega
   rw[ac,Ak]at l;cases l;exact⟨s2 (by omega),k C q Q (w.fin _ _ _ _ U).1⟩
theorem oO(i:Nat):(λ(ρ:List Sl)(d:D)=>cz ρ [i] a_ d)=λρ d=>put ρ i (.val aK d):=by funext ρ d;rfl
theorem Py{f:Pos}(h:kP (c_ X.prog X.w) X.A X.env X.xe)(hc:X.calm=a_)(j:X.N.Nodup)(g:X.N[i]?=aj x)(k:Loc X.env.scope x)(hi:SI X c (.Name x f) iter p)(l:SB X c n body ss)(hs:∀x,ft iter X.env x=fm x:=by intro _;rfl)(o:X.fn x=a_\/X.env.scope.names.lookup x=aj .local:=by first|(left;rfl)|(right;rfl)|assumption):SS X c n (.For (.Name x f) iter body [] pos) (.jB p [i] a_ ss):=pG h hc hi (aO j g k o) (by rw[oO];exact xr i) l hs
theorem Ax(M:kP (c_ X.prog X.w) X.A X.env X.xe)(ht:ST X c e p)(O:SB X c n body ss):SS X c n (.While e body [] pos) (.whl p ss):=by refine du (K9 M ht O) ?_;rintro D σ H⟨F,ρ,fl,o,g,e,k⟩;rw[_H.X14]at e;refine⟨λm j E=>∃q f,aB X.K F ρ σ H q f j E/\su (iU (_H.ev c p)) (gh c n ss) m f=.ok fl o,⟨n,F,ρ,.refl g,e⟩,?_⟩;rintro m j E⟨q,f,G,h⟩;cases m with|zero=>rw[Ug]at h;cases h|succ m=>rw[JN]at h;obtain⟨b,t,Q,h⟩:=aa h;refine⟨q,f,b,t,G.gs,Q,λF1 U s1=>?_⟩;have s2:=G.trans s1;cases b with|false=>rw[if_neg dc]at h;cases h;exact k F1 j U s2|true=>rw[if_pos rfl]at h;obtain⟨u,l,W,h⟩:=aa h;refine(show ∃N:_L.St->Hp->Prop,_/\_ from⟨λy I=>∃J,J<m+1/\∃q f,aB X.K F ρ σ H q f y I/\su (iU (_H.ev c p)) (gh c n ss) J f=.ok fl o,λy I z=>z,F1,t,u,l,s2.gs,W,λC B L s4=>?_⟩);have s5:=s2.trans s4;cases u with|next=>exact⟨m,by omega,C,l,s5,h⟩|cont=>exact⟨m,by omega,C,l,s5,h⟩|brk=>cases h;exact k C B L s5|ret r=>cases h;exact λv Y=>k C B L s5 v (Y.later s2)
end
section
variable{X:Cx}{c:Call}{n:Nat}{e elt tg iter:df}{p ps pe:P}{pos:Pos}{scope:ke}{N':List Str}{ifs:List df}
theorem Vd{t t':TE}(h:PE X e t)(i:∀σ H Q,σ.length=X.N.length->t' σ H Q->t σ H Q):PE X e t':=λa s σ H Q I q=>h a s σ H Q I (i σ H Q I.len q)
theorem V5{st:eK}{t t':TS}(h:PS X st t)(i:∀D σ H,σ.length=X.N.length->t' D σ H->t D σ H):PS X st t':=λa s σ H D I q=>h a s σ H D I (i D σ H I.len q)
noncomputable def pK(K:PySem.W.Frag)(m:Nat)(is:List Nat)(one:Bool)(g:TG):Prop:=∀(x:V)(d:D)(F:Hp)(ρ b:List Sl)(σ:_L.St)(H:Hp)(Q:_L.St->Hp->Prop),GS K F ρ σ H->Rep K F x d->cz ρ is one d=aj b->(∀a,aB K F ρ σ H F b a H->a.take m=σ.take m->Q a H)->g x σ H Q
theorem take_set{b:Type}{l:List b}{a:b}(h:m<=i):(l.set i a).take m=l.take m:=by rw[List.take_set_of_le h]
theorem bQ(h:m<=i):pK K m [i] a_ (iI i):=λx d F ρ a σ H Q g r b k=>k _ (aB.put (r:=.val d) (.refl g) r b) (take_set h)
noncomputable def Mz(K:PySem.W.Frag)(m:Nat)(is:List Nat)(gs:Hj):Prop:=∀(xs:List V)(ds:List D)(F:Hp)(ρ b:List Sl)(σ:_L.St)(H:Hp)(Q:_L.St->Hp->Prop),GS K F ρ σ H->aG K F xs ds->putAll ρ is ds=aj b->(∀a,aB K F ρ σ H F b a H->a.take m=σ.take m->Q a H)->gs xs σ H Q
theorem iR{gs:Hj}(hi:m<=i)(j:Mz K m is gs):Mz K m (i::is) (K8 (iI i) gs):=by intro xs ds F ρ a σ H Q g r h k;cases ds with|nil=>simp[jM,iZ,oY,o6]at h|cons d ds=>obtain⟨v,vs,rfl,h1,l⟩:=r.cG;rw[iZ]at h;obtain⟨b,o,q⟩:=cA h;have s1:=aB.put (r:=.val d) (.refl g) h1 o;exact⟨v,vs,rfl,j vs ds F b a _ H _ s1.gs l q λf s2 z=>k f (s1.trans s2) (z.trans (take_set hi))⟩
theorem wY:Mz K m [] Vu:=by intro xs ds F ρ a σ H Q g r h k;cases ds with|nil=>rw[jM]at h;cases h;exact⟨r.dR,k σ (.refl g) rfl⟩|cons d ds=>simp[jM,iZ,oY,o6]at h
theorem wW{gs:Hj}{l:Nat}(o:l=is.length)(h:Mz K m is gs):pK K m is aK (Uy K l gs):=by intro x d F ρ b σ H Q g r f k;cases d with|tup ds=>replace f:putAll ρ is ds=aj b:=f;rw[Rep]at r;obtain⟨a,xs,rfl,h1,j⟩:=r;exact⟨a,xs,rfl,aN.fY g.sub h1,by rw[j.length,lV f,o],h xs _ F ρ b σ H Q g j f k⟩|_=>cases f
noncomputable def SQ(X:Cx)(c:Call)(ifs:List df)(t:Option P):Prop:=U4 X ifs (HD X.K (mO c t))
theorem cZ:SQ X c [] bx:=λa s σ H Q I⟨F,ρ,k,ρ',g,e,q⟩=>by rw[mO]at e;cases e;exact Od a s σ H Q I (q F H (.refl g))
theorem lq(h:ST X c e p):SQ X c [e] (aj p):=λa s σ H Q I⟨F,ρ,k,ρ',g,e,q⟩=>by rw[mO]at e;exact Ol h a s σ H Q I ⟨F,ρ,k,ρ',g,e,q⟩
theorem aB.yg{F1 j:Hp}{f:List Sl}{g:_L.St}{Da:cw}{o:HO}(s:aB K F ρ σ H F1 f g j)(h:H Da=bx)(q:F1 Da=bx)(ho:¬ Own f g Da):aB K F ρ σ H F1 f g (upd j Da o):=by
 refine⟨⟨λb u e=>?_,s.gs.len,s.gs.val,λi t ds e k=>?_,s.gs.dis⟩,s.cL,s.xP,λb u e n=>?_,s.vO,s.len,s.lk⟩
 . have:b≠Da:=by rintro rfl;rw[q]at e;cases e
   rw[aF this];exact s.gs.sub b u e
 . obtain⟨a,xs,l,r,w,y⟩:=s.gs.own i t ds e k;have:a≠Da:=by rintro rfl;exact ho ⟨i,⟨t,ds,e,k⟩,l⟩
   exact⟨a,xs,l,by rw[aF this];exact r,w,y⟩
 . have:b≠Da:=by rintro rfl;rw[h]at e;cases e
   rw[aF this];exact s.keep b u e n
theorem JD{b r:List Sl}{ul:List Sl->List Sl}{ti:TI}{one:Bool}{u:List Sl->Res Bool}{el:Ev}{g:TG}{Q:VK}{xs:List D}(hm:σ.length=m)(ah:pK K m is one g)(ai:∀R:It->Hp->Prop,(∀J F1 W,Walk K F ρ σ H ul J ds F1 b W->R J W)->ti σ H R)(ap:ds.length<=lim)(e2:turns is one u el ds [] (b++cx n .aV)=.ok xs r)(k:∀v F' H',aB K F ρ σ H F' (ul (r.take b.length)) σ H'->cF K F' (ul (r.take b.length)) σ H' ρ σ H v (.own xs)->Q v H'):vC n ti g (HD K u) (wy K el) σ H Q:=by
 refine ai _ λJ F1 W w Da O=>?_;have al:b.length=σ.length:=w.gs.len;have gm:=w.gs.more (n:=n) (τ:=cx n bx) (by simp);have fD:F1 Da=bx:=by cases q:F1 Da with|none=>rfl|some o=>rw[w.gs.sub Da o q]at O;cases O
 have nO:¬ Own (b++cx n .aV) (σ++cx n bx) Da:=λ⟨i,⟨t,dt,q1,q2⟩,q3⟩=>by obtain⟨a,ys,z1,z2,_⟩:=gm.own i t dt q1 q2;rw[q3]at z1;cases z1;rw[O]at z2;cases z2
 refine⟨λi mm ys f G=>∃E h l,aB K F1 (b++cx n .aV) (σ++cx n bx) W E h f G/\f.take m=σ/\G Da=aj (.lst ys)/\E Da=bx/\¬ Own h f Da/\aG K E ys l/\l.length<=i/\mm=ds.length-i/\i<=ds.length/\turns is one u el (ds.drop i) l h=.ok xs r,⟨_,F1,_,[],(aB.refl gm).yg O fD nO,by rw[mh (by omega),iF (by omega)],aH,fD,nO,.nil,um,rfl,um,e2⟩,?_⟩;rintro i mm ys f G⟨E,h,l,Y,I,Z,hF,hO,rs,ar,rfl,av,j⟩;refine⟨Z,?_⟩--what stays of the new list through a step
 have stay:∀{L U:Hp}{M:List Sl}{B:_L.St},aB K E h f G L M B U->U Da=aj (.lst ys)/\L Da=bx/\¬ Own M B Da:=λ{L U M B}s=>by
  refine⟨s.keep Da _ Z hO,?_,λo=>?_⟩;.cases q:L Da with|none=>rfl|some o=>
      rcases s.xP Da hF (by rw[q];simp)with z|z;.exact absurd z hO
      .exact(K7 Z z).elim
  . rcases s.vO Da o with z|z;.exact hO z
    .rw[Z]at z;cases z
 obtain⟨s1,s2⟩:=w.src n i E h f G Y;by_cases C:i<ds.length
 . right;have hd:ds[i]?=aj ds[i]:=by simp[C]
   obtain⟨go,step⟩:=s1 _ hd;refine⟨go,λx U y=>?_⟩;obtain⟨L,ext,rx⟩:=step x U y;have t2:=ext.stp Y.gs;rw[fE C,qY]at j;cases hbd:cz h is one ds[i]with|none=>rw[hbd]at j;cases j|some ac=>rw[hbd]at j;obtain⟨bb,N,eb,j⟩:=aa j;refine ah x _ L h ac f U _ t2.gs rx hbd λB sb ae=>?_;have t3:=t2.trans sb;refine⟨L,ac,bb,N,t3.gs,eb,λF4 H4 s4=>?_⟩;have t4:=t3.trans s4;cases bb with|false=>rw[if_neg dc]at j;obtain⟨y1,y2,y3⟩:=stay t4;exact⟨_,by omega,F4,N,l,Y.trans t4,ae.trans I,y1,y2,y3,rs.mono t4.cL,by omega,rfl,C,j⟩|true=>
       rw[if_pos rfl]at j;obtain⟨re,af,ee,j⟩:=aa j;refine(show wy K el B H4 _ from⟨F4,N,re,af,t4.gs,ee,λv F5 H5 s5 rr=>?_⟩);obtain⟨F6,s6,_,rp⟩:=s5.dC rr;have t6:=t4.trans s6;obtain⟨y1,y2,y3⟩:=stay t6;have ag:ys.length<sizeLine:=by have h1:=rs.length;have h2:lim=sizeLine:=rfl;omega
       exact⟨y1,ag,_,by omega,F6,af,l++[re.d],(Y.trans t6).yg O y2 y3,ae.trans I,aH,y2,y3,(rs.mono t6.cL).append (.cons rp .nil),by simp;omega,rfl,C,j⟩
 . left;have am:ds.drop i=[]:=by rw[kc];omega
   rw[am,xK]at j;cases j;refine⟨s2 (by omega),?_⟩;obtain⟨l1,l2⟩:=aB.less (m:=b.length) rfl w.gs (by simp) Y;have hst:f.take b.length=σ:=by rw[al,hm];exact I
   rw[hst]at l1;have rr:cF K E r f G (b++cx n .aV) (σ++cx n bx) W (.ref Da) (.own xs):=⟨Da,ys,rfl,Z,hF,rs,hO,.inr O⟩;have RG:=l2 _ _ rr;rw[hst]at RG;obtain⟨z1,z2⟩:=w.fin _ _ _ _ l1;exact k _ E G z1 (z2 _ _ RG)
theorem Ez{iv:Option Nat}{f:Ev}{one:Bool}{b:List Sl->Res Bool}{w:Ev}{g:TG}{Q:VK}{r:R}{j:List Sl}(z:σ.length=m)(q:pK K m is one g)(B:GS K F ρ σ H)(e:((srcOf iv f ρ).bind λds a=>if ds.length<=lim then(turns is one b w ds [] (a++cx n .aV)).bind λxs l=>Res.ok (R.own xs) (aP ρ iv (l.take a.length))else .stuck)=.ok r j)(k:∀v y t,aB K F ρ σ H y j σ t->cF K y j σ t ρ σ H v r->Q v t):vC n (tIt K iv f) g (HD K b) (wy K w) σ H Q:=by
 obtain⟨ds,u,C,e⟩:=aa e;split at e;.rename_i o;obtain⟨xs,E,G,e⟩:=aa e;cases e;exact JD z q (λR h=>⟨F,ρ,ds,u,B,C,h⟩) o G k
 .cases e
theorem cH{g:TG}{one:Bool}{t:Option P}(hc:X.calm=a_)(ok:fZ X scope N' n)(hi:SI X c tg iter ps)(b:∀cl C s₀ H₀ ex,PG (vL X scope N' cl C s₀ H₀ ex) tg g)(a:pK X.K X.N.length is one g)(ht:∀cl C s₀ H₀ ex,SQ (vL X scope N' cl C s₀ H₀ ex) c ifs t)(he:∀cl C s₀ H₀ ex,SX (vL X scope N' cl C s₀ H₀ ex) c elt pe)(hs:∀x,ft iter X.env x=fm x:=by intro _;rfl):SX X c (.ListComp elt [⟨tg,iter,ifs,0⟩] scope pos) (.comp ps n is one t pe):=by refine⟨Vd (OJ (tt:=HD X.K (mO c t)) (te:=wy X.K (_H.ev c pe)) hc ok hi b ht (λcl C s₀ H₀ ex=>(he cl C s₀ H₀ ex).ev) hs) ?_,λi h=>by cases h⟩;rintro σ H Q f⟨F,ρ,r,j,l,e,k⟩;rw[_H.E19]at e;exact Ez f a l e k
theorem CZ{a b:Pos}{nn:Nat}{g:TG}{one:Bool}{t:Option P}(hc:X.calm=a_)(q:X.N.Nodup)(h:X.N[i]?=aj x)(u:Loc X.env.scope x)(ok:fZ X scope N' n)(hi:SI X c tg iter ps)(w:∀cl C s₀ H₀ ex,PG (vL X scope N' cl C s₀ H₀ ex) tg g)(j:pK X.K X.N.length is one g)(ht:∀cl C s₀ H₀ ex,SQ (vL X scope N' cl C s₀ H₀ ex) c ifs t)(he:∀cl C s₀ H₀ ex,SX (vL X scope N' cl C s₀ H₀ ex) c elt pe)(l:fT (.ListComp elt [⟨tg,iter,ifs,0⟩] scope pos) (aj (.Name x a)) b.line X.env=fm a_:=by rfl)(hs:∀x,ft iter X.env x=fm x:=by intro _;rfl)(y:X.fn x=a_\/X.env.scope.names.lookup x=aj .local:=by first|(left;rfl)|(right;rfl)|assumption):SS X c nn (.Assign [.Name x a] (.ListComp elt [⟨tg,iter,ifs,0⟩] scope pos) b) (.asg i (.comp ps n is one t pe)):=by refine V5 (Ex (tt:=HD X.K (mO c t)) (te:=wy X.K (_H.ev c pe)) hc q h u ok hi w ht (λcl C s₀ H₀ ex=>(he cl C s₀ H₀ ex).ev) l hs y) ?_;rintro D σ H z⟨F,ρ,fl,B,E,e,k⟩;rw[_H.X6]at e;obtain⟨r,G,o,e⟩:=aa e;obtain⟨I,J,f,e⟩:=aa e;cases e;have L:=az f;clear f;obtain⟨f,Q⟩:=L;rw[_H.E19]at o;exact Ez z j E o λv F1 M s1 O=>k F1 _ M (s1.put O f)
end
section
variable{X:Cx}{c:Call}{n:Nat}{e a b d:df}{p pa pb pd:P}{pos:Pos}{es:List df}{ps:List P}
noncomputable def tyN:D->String|.non=>"NoneType"|.bl _=>"bool"|.int _=>"int"|.str _=>"str"|.tup _=>"tuple"|.lst _=>"list"|.dM _=>"dict"|.dv _ _=>"dict"
noncomputable def tyS:Ty->String|.none=>"NoneType"|.bool=>"bool"|.int=>"int"|.str=>"str"|.tuple=>"tuple"|.list=>"list"
theorem aag(K:PySem.W.Frag)(t:Ty)(d:D):PySem.W.kitOne K (.type (tyN d)) (.type (tyS t))=aj (cW t d):=by cases t<;>cases d<;>rfl
theorem Y7{k:List (cw×Obj)}{x:V}{u:b_}{dt:D}(I:_L.Inv X k σ H s)(sm:aN F H)(g:dq X.K F H x dt)(f:RelV x u):(∃r,PySem.W.KitX X.K u (.type (tyN dt)) r/\r s.heap)/\u≠.builtin "__main__.__loader__#opaque":=by cases dt with|non=>rw[g.non]at f;cases f;exact⟨⟨_,PySem.W.kitx_none,trivial⟩,nofun⟩|bl y=>rw[g.bl]at f;cases f;exact⟨⟨_,PySem.W.kitx_bool,trivial⟩,nofun⟩|int i=>rw[g.int]at f;obtain⟨t,rfl⟩:=f;exact⟨⟨_,PySem.W.kitx_int,trivial⟩,nofun⟩|str y=>rw[g.str]at f;obtain⟨t,rfl⟩:=f;exact⟨⟨_,PySem.W.kitx_str,trivial⟩,nofun⟩|tup ds=>obtain⟨q,xs,rfl,h,_⟩:=g.tup sm;cases f;obtain⟨l,_,⟨o,h1,j,_⟩,_⟩:=I.tuple h;exact⟨⟨_,PySem.W.kitx_tuple,⟨o,h1,j⟩⟩,nofun⟩|lst ds=>obtain⟨q,xs,rfl,h,_⟩:=g.lst sm;cases f;obtain⟨l,_,w,_⟩:=I.list h;obtain⟨o,h1,j,_⟩:=w.isList;exact⟨⟨_,PySem.W.kitx_list,⟨o,h1,j⟩⟩,nofun⟩|dM m=>obtain⟨q,_,rfl,h⟩:=g.dM sm;cases f;obtain⟨o,h1,j⟩:=Kl I h;exact⟨⟨_,kitx_dict,⟨o,h1,j⟩⟩,nofun⟩|dv ks ds=>obtain⟨q,_,vs,rfl,h,_⟩:=g.dv sm;cases f;obtain⟨o,h1,j⟩:=Jy I h;exact⟨⟨_,kitx_dict,⟨o,h1,j⟩⟩,nofun⟩
theorem R0(t:Ty):eO X (.builtin "isinstance") (λxs H Q=>∃x F dt,xs=[x,.ty (tyS t)]/\aN F H/\dq X.K F H x dt/\Q (.bl (cW t dt)) H):=by rintro g s σ H xs w Q I r⟨x,F,dt,h,sm,j,q⟩;subst h;obtain⟨u,k,rfl,l,rt⟩:=r.two;cases(show k=fR (tyS t)from rt);obtain⟨⟨y,Z,hz⟩,f⟩:=Y7 I sm j l;exact PySem.W.kia_one Z I.Vv hz (aag _ t dt) f λo=>⟨.bl _,H,I.tok o,rfl,q⟩
theorem KZ:fe "isinstance"=aj (.builtin "isinstance"):=by decide+kernel
theorem qZ{y:Str}{p2:Pos}(t:Ty)(u:x="isinstance")(w:Gl X x)(z:X.mg x=bx)(B:SX X c a pa)(f:Gl X y)(j:X.mg y=bx)(C:fe y=aj (.type (tyS t)))(l:y≠"__name__":=by decide)(o:(y==("__debug__":Str))=aK:=by decide)(hs:cy [a,.Name y p2] X.env=(aK,eB a X.env)::cy [.Name y p2] X.env:=by rfl):SX X c (.Call (.Name x p') [a,.Name y p2] [] pos) (.inst [t] pa):=by subst u;obtain⟨N,h1,E⟩:=B.cu;refine⟨dN (fC (R0 t) w z KZ (bf h1 (bf (Mu (v:=.ty (tyS t)) f j C rfl l o) cV) hs) (he:=hs)) ?_,λi h=>by cases h⟩;rintro σ H Q⟨F,ρ,r,G,g,e,k⟩;rw[_H.E18]at e;obtain⟨dt,I,J,e⟩:=aa e;cases e;refine E g J λv q L s M=>⟨v,q,dt,rfl,s.gs.sub,M,k _ q L s ?_⟩;show Rep X.K q _ _;rw[jS,List.any_nil,Bool.or_false];exact fu _
inductive rBn(K:PySem.W.Frag)(f:List D->Option R)(xs:List V)(H:Hp)(Q:VK):Prop where|mk(F:Hp)(ds:List D)(r:R)(sm:aN F H)(rs:aG K F xs ds)(he:f ds=aj r)(k:∀v F' H',Ext F H F' H'->cJ K F' H' H v r->Q v H')
theorem Q9{E:df}{f:List D->Option R}{q:P}(o:∀{t},PA X es t->PE X E (tCB (rBn X.K f) t))(u:SA X c es ps)(y:∀ρ,_H.ev c q ρ=(evs c ps ρ).bind λds ρ=>lift (f ds) ρ)(z:isVar q=bx):SX X c E q:=by refine⟨dN (o u.1) ?_,λi h=>by rw[z]at h;cases h⟩;rintro σ H Q⟨F,ρ,r,B,g,e,k⟩;rw[y]at e;obtain⟨ds,l,C,j⟩:=aa e;have G:=az j;clear j;obtain⟨j,I⟩:=G;subst I;exact⟨F,ρ,ds,l,g,C,λvs J U s L=>⟨J,ds,r,s.gs.sub,L,j,λw M N x O=>k w M N (s.trans (x.stp s.gs)) (.later s (O.qm s.gs))⟩⟩
theorem Qw{xs:List V}{i j:Int}(h:aG K F xs [.int i,.int j]):xs=[.int i,.int j]:=by obtain⟨v,r,rfl,h1,g⟩:=h.cG;obtain⟨u,l,rfl,f,k⟩:=g.cG;rw[Rep]at h1 f;rw[h1,f,k.dR]
theorem inv2{f:Blt}{g:Int->Int->Int}{r:R}(h0:blt f []=bx)(h1:∀a,blt f [a]=bx)(o:∀a b c l,blt f (a::b::c::l)=bx)(q:∀a b,fL a=aK->blt f [a,b]=bx)(t:∀i b,fL b=aK->blt f [.int i,b]=bx)(hi:∀i j,blt f [.int i,.int j]=aj (.val (.int (g i j))))(he:blt f ds=aj r):∃i j,ds=[.int i,.int j]/\r=.val (.int (g i j)):=by
 rcases ds with _|⟨a,_|⟨b,_|⟨c,l⟩⟩⟩;.rw[h0]at he;cases he
 .rw[h1]at he;cases he
 . by_cases h:fL a=a_
   . obtain⟨i,rfl⟩:∃i,a=.int i:=by cases a<;>first|exact⟨_,rfl⟩|cases h
     by_cases k:fL b=a_
     . obtain⟨j,rfl⟩:∃j,b=.int j:=by cases b<;>first|exact⟨_,rfl⟩|cases k
       rw[hi]at he;cases he;exact⟨i,j,rfl,rfl⟩
     .rw[t i b (by simpa using k)]at he;cases he
   .rw[q a b (by simpa using h)]at he;cases he
 .rw[o]at he;cases he
theorem U3(hc:X.calm=a_):eO X (.builtin "min") (rBn X.K (blt .min2)):=by rintro f s σ H xs o Q I r⟨F,ds,t,sm,q,he,k⟩;obtain⟨i,j,rfl,rfl⟩:=inv2 (g:=λi j=>if j<i then j else i) rfl (λa=>by cases a<;>rfl) (λa b c l=>by cases a<;>first|rfl|(cases b<;>rfl)) (λa b h=>by cases a<;>first|rfl|cases h) (λi b h=>by cases b<;>first|rfl|cases h) (λ_ _=>rfl) he;rw[Qw q]at r;exact FZ hc f s σ H _ o Q I r ⟨_,_,rfl,cJ.dg sm (bO _) k⟩
theorem Va(hc:X.calm=a_):eO X (.builtin "max") (rBn X.K (blt .max2)):=by rintro f s σ H xs o Q I r⟨F,ds,t,sm,q,he,k⟩;obtain⟨i,j,rfl,rfl⟩:=inv2 (g:=λi j=>if i<j then j else i) rfl (λa=>by cases a<;>rfl) (λa b c l=>by cases a<;>first|rfl|(cases b<;>rfl)) (λa b h=>by cases a<;>first|rfl|cases h) (λi b h=>by cases b<;>first|rfl|cases h) (λ_ _=>rfl) he;rw[Qw q]at r;exact GX hc f s σ H _ o Q I r ⟨_,_,rfl,cJ.dg sm (bO _) k⟩
theorem boot_min:fe "min"=aj (.builtin "min"):=by decide+kernel
theorem boot_max:fe "max"=aj (.builtin "max"):=by decide+kernel
theorem qG(f:x="min")(hc:X.calm=a_)(g:Gl X x)(j:X.mg x=bx)(k:SA X c [a,b] [pa,pb])(hs:cy [a,b] X.env=(aK,eB a X.env)::cy [b] X.env:=by rfl)(hpl:(hX pos (cy [b] X.env)).any (·.1)=aK:=by rfl):SX X c (.Call (.Name x p') [a,b] [] pos) (.blt .min2 [pa,pb]):=by subst f;exact Q9 (λh=>fC (U3 hc) g j boot_min h (he:=hs) (hpl:=hpl)) k (λρ=>rfl) rfl
theorem nY(f:x="max")(hc:X.calm=a_)(g:Gl X x)(j:X.mg x=bx)(k:SA X c [a,b] [pa,pb])(hs:cy [a,b] X.env=(aK,eB a X.env)::cy [b] X.env:=by rfl)(hpl:(hX pos (cy [b] X.env)).any (·.1)=aK:=by rfl):SX X c (.Call (.Name x p') [a,b] [] pos) (.blt .max2 [pa,pb]):=by subst f;exact Q9 (λh=>fC (Va hc) g j boot_max h (he:=hs) (hpl:=hpl)) k (λρ=>rfl) rfl
end
section
variable{X:Cx}{c:Call}{n:Nat}{e a b d:df}{p pa pb pd:P}{pos:Pos}{es:List df}{ps:List P}
theorem qC(g:GS K F ρ σ H)(h:zN ρ i=aj ds):∃a xs,σ[i]?=aj (aj (V.ref a))/\dJ K H a xs:=by
 unfold zN at h;split at h;.rename_i q;cases h;obtain⟨v,h1,f⟩:=g.pk q;obtain⟨a,xs,rfl,j,_⟩:=f.lst g.sub;exact⟨a,xs,h1,j⟩
 .cases h
theorem nC{k:Nat}{h f:Pos}(I:X.N[k]?=aj x)(J:pX X.env.scope x)(hi:SX X c b pb)(he:SX X c e p)(L:∀ v,k5 (.Subscript (.Name x h) b f) X.env v=(do
  let l<-kD [v] (eB (.Name x h) X.env)let iv<-kD [v,l] (eB b X.env)standAt f
  kD [v,l,iv] (nv l iv v)release [v,l,iv] []):=by intro _;rfl)(hs:lT [.Subscript (.Name x h) b f] e pos.line X.env=fm aK:=by rfl)(M:l6 [.Subscript (.Name x h) b f] e X.env=fm bx:=by rfl)(h1:(kw [.Subscript (.Name x h) b f] X.env).map (·.2)=[k5 (.Subscript (.Name x h) b f) X.env]:=by rfl)(hd:(x==("__debug__":Str))=aK:=by decide)(u:(x==("__classdict__":Str))=aK:=by decide):SS X c n (.Assign [.Subscript (.Name x h) b f] e pos) (.zR k pb p):=by
 obtain⟨ti,w,y⟩:=hi.cu;refine du (Ui he.ev (Vc (cU I J hd u) w set_list L) hs M h1) ?_;rintro D σ H⟨F,ρ,fl,O,g,e,Q⟩;rw[_H.X8]at e;obtain⟨r,z,U,e⟩:=aa e;obtain⟨x0,C,t,e⟩:=aa e;have W:=az t;clear t;obtain⟨t,Y⟩:=W;subst Y;obtain⟨dk,Z,e2,e⟩:=aa e;refine⟨F,ρ,r,z,g,U,λv F1 H1 s1 rr=>?_⟩;obtain⟨F2,s2,_,rp⟩:=s1.dC rr;obtain⟨o,ho,_⟩:=s2.gs.pk t;refine⟨o,ho,y s2.gs e2 λvi F3 H3 s3 pi=>?_⟩;split at e
 . rename_i bb ds B q;split at e;.rename_i j hj;cases e;obtain⟨ad,xs,E,q2,q3,G⟩:=s3.gs.m7 k _ ds q rfl;rw[ho]at E;cases E;refine⟨ad,xs,B,j,rfl,pi.int,q2,by rw[G.length];exact hj,?_⟩;exact Q F3 σ _ ((s2.trans s3).trans (s3.gs.mut q ho (G.set (rp.mono s3.cL) j)))
   .cases e
 .cases e
theorem eU{k:Nat}{o h f:Pos}(G:X.N[k]?=aj x)(I:pX X.env.scope x)(he:SX X c e p)(j:(h.endLine==f.line)=a_:=by rfl)(hs:cy [e] X.env=(aK,eB e X.env)::cy [] X.env:=by rfl)(l:gS (.Name x o) "append" X.env (eB (.Name x o) X.env)=eB (.Name x o) X.env:=by rfl)(t:((hX f (cy [e] X.env)).all (λx=>!x.1)&&(ln f (jx [] X.env)).all (λx=>x.1.isSome)&&decide ([e].length+([]:List iL).length+(if([]:List iL).isEmpty then 0 else 1)<30))=a_:=by rfl)(w:fT (.Call (.Attribute (.Name x o) "append" h) [e] [] f) bx pos.line X.env=fm aK:=by rfl)(hd:(x==("__debug__":Str))=aK:=by decide)(y:(x==("__classdict__":Str))=aK:=by decide):SS X c n (.Expr (.Call (.Attribute (.Name x o) "append" h) [e] [] f) pos) (.app k p):=by
 refine du (qK (yu plainAttrs_list PySem.F.slot_list_append PySem.F.type_list_append pB (cU G I hd y) (bf he.ev cV hs) l t j hs) w) ?_;rintro D σ H⟨F,ρ,fl,J,g,e,L⟩;rw[_H.X9]at e;obtain⟨d0,M,u,e⟩:=aa e;have O:=az u;clear u;obtain⟨u,Q⟩:=O;subst Q;obtain⟨r,z,U,e⟩:=aa e;obtain⟨a,xs,h1,W⟩:=qC g u;refine⟨.ref a,h1,.inl ⟨rfl,xs,W⟩,F,ρ,r,z,g,U,λv F1 H1 s1 Y=>?_⟩;obtain⟨Z,s2,_,rp⟩:=s1.dC Y;split at e
 . rename_i bb ds q;split at e;.rename_i B;cases e;obtain⟨ad,ys,C,q2,q3,E⟩:=s2.gs.m7 k _ ds q rfl;rw[h1]at C;cases C;exact⟨_,ys,v,rfl,rfl,q2,by rw[E.length];exact B,L Z σ _ (s2.trans (s2.gs.mut q h1 (E.append (.cons rp .nil))))⟩
   .cases e
 .cases e
theorem Ue{j:Nat}{y:Str}{l o pt:Pos}{kt k2 WM}(hc:X.calm=a_)(C:X.N.Nodup)(hi:X.N[i]?=aj x)(E:X.N[j]?=aj y)(q:i≠j)(G:X.env.scope.names.lookup x=aj .local)(I:X.env.scope.names.lookup y=aj .local)(J:SX X c a pa)(L:SX X c b pb)(M:l6 [.Tuple [.Name x l,.Name y o] kt pt] (.Tuple [a,b] k2 WM) X.env=fm (aj [x,y]):=by rfl)(hs:lT [.Tuple [.Name x l,.Name y o] kt pt] (.Tuple [a,b] k2 WM) pos.line X.env=fm aK:=by rfl)(h1:cy [a,b] X.env=(aK,eB a X.env)::cy [b] X.env:=by rfl)(O:cy [b] X.env=(aK,eB b X.env)::cy [] X.env:=by rfl):SS X c n (.Assign [.Tuple [.Name x l,.Name y o] kt pt] (.Tuple [a,b] k2 WM) pos) (.par i j pa pb):=by refine du (_L.Tn hc C hi E q G I (bf J.ev (bf L.ev cV O) h1) M hs) ?_;rintro D σ H⟨F,ρ,fl,Q,g,e,k⟩;rw[_H.X7]at e;obtain⟨r,f,U,e⟩:=aa e;obtain⟨B,t,W,e⟩:=aa e;obtain⟨Y,Z,h,e⟩:=aa e;cases e;have zz:=az h;clear h;obtain⟨h,e4⟩:=zz;obtain⟨ac,e5,e6⟩:=cA h;refine⟨F,ρ,r,f,g,U,λv F1 H1 s1 rr=>?_⟩;obtain⟨F2,s2,_,rp⟩:=s1.dC rr;refine⟨F2,f,B,t,s2.gs,W,λu F3 H3 s3 w=>?_⟩;obtain⟨F4,s4,_,z⟩:=s3.dC w;refine⟨v,u,rfl,?_⟩;have t4:=s2.trans s4;have t5:=t4.put (r:=.val r.d) (v:=v) (rp.mono s4.cL) e5;exact k F4 _ H3 (t5.put (r:=.val B.d) (v:=u) z e6)
theorem Hr{bs:List Bool}(h:ds.mapM xW=aj bs):ds=bs.map D.bl:=by induction ds generalizing bs with|nil=>simp at h;subst h;rfl|cons d ds f=>rw[mapM_cons]at h;cases hd:xW d with|none=>rw[hd]at h;cases h|some k=>rw[hd]at h;cases hr:ds.mapM xW with|none=>rw[hr]at h;cases h|some r=>rw[hr]at h;cases h;rw[da,<-f hr,mX hd]
theorem El{K:PySem.W.Frag}{F:Hp}:∀{bs:List Bool}{xs:List V},aG K F xs (bs.map D.bl)->xs=bs.map V.bl|[],_,h=>h.dR|k::bs,_,h=>by obtain⟨v,r,rfl,h1,f⟩:=h.cG;rw[Rep]at h1;rw[h1,El f];rfl
theorem Ek:∀{bs:List Bool}{f:List b_},Vals (bs.map V.bl) f->f=bs.map j_|[],_,h=>h.zero|k::bs,_,.cons r t=>by rw[da,<-Ek t,show _=_ from r]
theorem Ny{id:String}{f:List Bool->Bool}(hc:X.calm=a_)(rule:∀{x:b_}{Q:b_->cr->Prop}{s:cr},cN (c_ X.prog X.w) X.A.in1 (p5 x) (λit g=>∃ I G t n P St y,it=.ref I/\Walks X.prog X.w X.A.in1 I G t n P St/\St 0 g.heap/\TruthOf X.prog X.w X.A.in1 P y/\∀h' B,(∀b o,b∉t->g.heap.get? b=aj o->h'.get? b=aj o)->Q (.bool (f ((dr n).map y))) {g with heap:=h',toks:=B}) X.xe s->cN (c_ X.prog X.w) X.A (call (.builtin id) [x]) Q X.xe s):eO X (.builtin id) (λxs H Q=>∃p ys bs,xs=[.ref p]/\dJ X.K H p ys/\ys=bs.map V.bl/\Q (.bl (f bs)) H):=by
 rintro C s σ H xs us Q I r⟨p,ys,bs,J,L,M,k⟩;subst J;subst M;obtain⟨u,rfl,N⟩:=r.one;cases N;obtain⟨O,U,l,hz⟩:=I.list L;have h:=Ek U;subst h;refine rule (ml l.isList ?_);have q:p≠s.heap.objs.size:=by obtain⟨o,h1,_⟩:=l.isList;exact ej (dL h1)
 refine⟨s.heap.objs.size,_,_,_,_,_,λi=>bs.getD i aK,rfl,Walks.list (prog:=X.prog) (w:=X.w) (A:=X.A.in1) (show X.A.in1.handled=bx from I.ok.hd hc) s.heap.objs.size p q (bs.map j_).toArray,⟨⟨_,dA _ rfl,rfl,rfl⟩,?_⟩,?_,λh' B kp=>?_⟩;.obtain⟨o,h1,E⟩:=l.isList;exact⟨o,gU h1,E⟩
 . intro i v s' Q' E' j W;have Y:v=.bool (bs.getD i aK):=by
    have j:(bs.map j_)[i]?=aj v:=by simpa using j
    rw[eM]at j;obtain⟨k',Z,e2⟩:=map_some j;rw[<-e2,eu,Z];rfl
   subst Y;exact fI W
 . have e:f ((dr (bs.map j_).toArray.size).map λi=>bs.getD i aK)=f bs:=by
    congr 1;apply ll;.simp
    .intro i h1 E;simp at h1;simp[h1]
   rw[e];exact⟨.bl _,H,I.kept (λb o z=>kp b o (by simp;exact ej (dL z)) (gU z)),rfl,k⟩
theorem Z7(hc:X.calm=a_):eO X (.builtin "all") (Nj X.K λx=>blt .all [x]):=by rintro g s σ H xs q Q I r⟨x,t,F,d,u,sm,w,he,k⟩;obtain⟨bs,y,he⟩:=map_some (show((Bh d).bind λds=>ds.mapM xW).map _=aj u from he);subst he;obtain⟨ds,j,B⟩:=cA y;have C:=Hr B;cases d with|lst es=>cases j;obtain⟨p,ys,rfl,E,l⟩:=w.lst sm;rw[C]at l;refine Ny (f:=λbs=>bs.all id) hc (λh=>call_all_walk (ew h (λit o⟨I,fp,wr,n,P,Sx,tr,h1,h2,h3,h4,h5⟩=>⟨I,fp,wr,n,P,Sx,tr,h1,h2,h3,h4,λh' G kp=>?_⟩) λ_ _ z=>z)) g s σ H xs q Q I r ⟨p,ys,bs,t,E,El l,cJ.dg sm (fu _) k⟩;have z:=h5 h' G kp;rw[List.all_map]at z;exact z|_=>cases j
theorem boot_all:fe "all"=aj (.builtin "all"):=by decide+kernel
theorem An(f:x="all")(hc:X.calm=a_)(g:Gl X x)(j:X.mg x=bx)(k:SX X c a pa)(hs:cy [a] X.env=(aK,eB a X.env)::cy [] X.env:=by rfl):SX X c (.Call (.Name x p') [a] [] pos) (.blt .all [pa]):=by subst f;exact pJ (λh=>fC (Z7 hc) g j boot_all h (he:=hs)) k (λρ=>rfl) rfl hs
end
section
variable{K:PySem.W.Frag}
theorem jF:∀{xs ys:List D},xs.length≠ys.length->lD xs ys=aK|[],[],h=>absurd rfl h|[],_::_,_=>by simp[mz,jd,qW,tU]|_::_,[],_=>by simp[mz,jd,qW,tU]|x::xs,y::ys,h=>by rw[jd,jF (xs:=xs) (ys:=ys) (by simpa using h),mN]
theorem gM:∀{xs ys:List D},xs.length=ys.length->lD xs ys=(dr xs.length).all λj=>lg (xs.getD j .non) (ys.getD j .non)|[],[],_=>by rw[mz];rfl|[],_::_,h=>by simp at h|_::_,[],h=>by simp at h|x::xs,y::ys,h=>by rw[jd,gM (xs:=xs) (ys:=ys) (by simpa using h),ei,List.range_succ_eq_map,kM,List.all_map];rfl
mutual
theorem zq:∀d:D,lg d d=a_|.non=>rfl|.bl _=>by exact beq_self_eq_true _|.int _=>by exact beq_self_eq_true _|.str _=>by exact beq_self_eq_true _|.tup ds=>by exact kY ds|.lst ds=>by exact kY ds|.dM _=>by exact decide_eq_true rfl|.dv ks ds=>by show(decide (ks=ks)&&lD ds ds)=a_;rw[kY ds];simp
theorem kY:∀ds:List D,lD ds ds=a_|[]=>by rw[mz]|d::ds=>by rw[jd,zq d,kY ds];rfl
end
theorem fO{d e:D}(b:flat d=a_)(h1:Rep K F v d)(a:Rep K F v e):d=e:=by cases d with
 |tup _=>cases b|lst _=>cases b|dM _=>cases b|dv _ _=>cases b|non=>rw[Rep]at h1;subst h1;cases e with|non=>rfl|tup _=>rw[Rep]at a;obtain⟨_,_,q,_⟩:=a;cases q|lst _=>rw[Rep]at a;obtain⟨_,_,q,_⟩:=a;cases q|dM _=>rw[Rep]at a;obtain⟨_,_,q,_⟩:=a;cases q|dv _ _=>rw[Rep]at a;obtain⟨_,_,_,q,_⟩:=a;cases q|_=>rw[Rep]at a;cases a
 |bl k=>rw[Rep]at h1;subst h1;cases e with|bl _=>rw[Rep]at a;cases a;rfl|tup _=>rw[Rep]at a;obtain⟨_,_,q,_⟩:=a;cases q|lst _=>rw[Rep]at a;obtain⟨_,_,q,_⟩:=a;cases q|dM _=>rw[Rep]at a;obtain⟨_,_,q,_⟩:=a;cases q|dv _ _=>rw[Rep]at a;obtain⟨_,_,_,q,_⟩:=a;cases q|_=>rw[Rep]at a;cases a
 |int k=>rw[Rep]at h1;subst h1;cases e with|int _=>rw[Rep]at a;cases a;rfl|tup _=>rw[Rep]at a;obtain⟨_,_,q,_⟩:=a;cases q|lst _=>rw[Rep]at a;obtain⟨_,_,q,_⟩:=a;cases q|dM _=>rw[Rep]at a;obtain⟨_,_,q,_⟩:=a;cases q|dv _ _=>rw[Rep]at a;obtain⟨_,_,_,q,_⟩:=a;cases q|_=>rw[Rep]at a;cases a
 |str k=>rw[Rep]at h1;subst h1;cases e with|str _=>rw[Rep]at a;cases a;rfl|tup _=>rw[Rep]at a;obtain⟨_,_,q,_⟩:=a;cases q|lst _=>rw[Rep]at a;obtain⟨_,_,q,_⟩:=a;cases q|dM _=>rw[Rep]at a;obtain⟨_,_,q,_⟩:=a;cases q|dv _ _=>rw[Rep]at a;obtain⟨_,_,_,q,_⟩:=a;cases q|_=>rw[Rep]at a;cases a
theorem MJ{X:Cx}{u:List (cw×Obj)}(I:_L.Inv X u σ H s)(sm:aN F H):∀n:Nat,(∀d:D,jz n d=a_->∀(v:V)(e:D),Rep X.K F v d->Rep X.K F v e->d=e):=by
 have N:∀{a:cw}{xs ys:List V},iB X.K F a xs->dJ X.K F a ys->False:=λ{a xs ys}h1 b=>by obtain⟨_,_,⟨o,g,j,_⟩,_⟩:=I.tuple (aN.fY sm h1);obtain⟨_,_,w,_⟩:=I.list (sm.seq b);obtain⟨C,c,f,_⟩:=w.isList;rw[g]at c;cases c;rw[j]at f;exact absurd f (by decide)
 have O:∀{a:cw}{kvs:Dc},Rep X.K F (.ref a) (.dM kvs)->∃o,s.heap.get? a=aj o/\o.cls=.type "dict":=λ{a kvs}h=>by rw[Rep]at h;obtain⟨y,_,q,E⟩:=h;cases q;exact Kl I (sm _ _ E)
 have Q:∀{a:cw}{xs:List V}{kvs:Dc},iB X.K F a xs->Rep X.K F (.ref a) (.dM kvs)->False:=λ{a xs kvs}h1 b=>by obtain⟨_,_,⟨o,g,j,_⟩,_⟩:=I.tuple (aN.fY sm h1);obtain⟨C,c,f⟩:=O b;rw[g]at c;cases c;rw[j]at f;exact absurd f (by decide)
 have ld:∀{a:cw}{xs:List V}{kvs:Dc},dJ X.K F a xs->Rep X.K F (.ref a) (.dM kvs)->False:=λ{a xs kvs}h1 b=>by obtain⟨_,_,w,_⟩:=I.list (sm.seq h1);obtain⟨o,g,j,_⟩:=w.isList;obtain⟨C,c,f⟩:=O b;rw[g]at c;cases c;rw[j]at f;exact absurd f (by decide)
 have z:∀{a:cw}{ks:List Int}{es:List D},Rep X.K F (.ref a) (.dv ks es)->∃o,s.heap.get? a=aj o/\o.cls=.type "dict":=λ{a ks es}h=>by rw[Rep]at h;obtain⟨y,_,_,q,E,_⟩:=h;cases q;exact Jy I (sm _ _ E)
 have G:∀{a:cw}{xs:List V}{ks:List Int}{es:List D},iB X.K F a xs->Rep X.K F (.ref a) (.dv ks es)->False:=λ{a xs ks es}h1 b=>by obtain⟨_,_,⟨o,g,j,_⟩,_⟩:=I.tuple (aN.fY sm h1);obtain⟨C,c,f⟩:=z b;rw[g]at c;cases c;rw[j]at f;exact absurd f (by decide)
 have J:∀{a:cw}{xs:List V}{ks:List Int}{es:List D},dJ X.K F a xs->Rep X.K F (.ref a) (.dv ks es)->False:=λ{a xs ks es}h1 b=>by obtain⟨_,_,w,_⟩:=I.list (sm.seq h1);obtain⟨o,g,j,_⟩:=w.isList;obtain⟨C,c,f⟩:=z b;rw[g]at c;cases c;rw[j]at f;exact absurd f (by decide)
 intro n;induction n with
 |zero=>intro d hd v e h1 b;cases d with|tup _=>simp[cj,bN,cg,bY,bZ,bU]at hd|lst _=>simp[cj,bN,cg,bY,bZ,bU]at hd|dM _=>simp[cj,bN,cg,bY,bZ,bU]at hd|dv _ _=>simp[cj,bN,cg,bY,bZ,bU]at hd|non=>exact fO rfl h1 b|bl k=>exact fO rfl h1 b|int k=>exact fO rfl h1 b|str k=>exact fO rfl h1 b
 |succ n U=>
   have all:∀{xs:List V}{ds es:List D},ds.all (jz n)=a_->aG X.K F xs ds->aG X.K F xs es->ds=es:=λ{xs ds}=>by induction ds generalizing xs with|nil=>intro es _ h1 b;rw[h1.dR]at b;have:=b.length;exact(gX this.symm).symm|cons d ds L=>intro es p h1 b;rw[kM,eW]at p;obtain⟨v,r,rfl,g,j⟩:=h1.cG;cases es with|nil=>cases b.dR|cons e es=>obtain⟨Y,Z,W,c,f⟩:=b.cG;cases W;rw[U d p.1 v e g c,L p.2 j f]
   intro d hd v e h1 b;cases d with
   |dM _=>simp[cj,bN,cg,bY,bZ,bU]at hd|dv _ _=>simp[cj,bN,cg,bY,bZ,bU]at hd|tup ds=>
     have p:ds.all (jz n)=a_:=by simpa[cj,bN,cg,bY,bZ,bU]using hd
     rw[Rep]at h1;obtain⟨a,xs,rfl,l,M⟩:=h1;cases e with|tup es=>rw[Rep]at b;obtain⟨y,ys,q,t,B⟩:=b;cases q;have:=I.oK (aN.fY sm l) (aN.fY sm t);subst this;rw[all p M B]|lst es=>rw[Rep]at b;obtain⟨y,ys,q,t,B⟩:=b;cases q;exact(N l t).elim|dM _=>exact(Q l b).elim|dv _ _=>exact(G l b).elim|_=>rw[Rep]at b;cases b
   |lst ds=>
     have p:ds.all (jz n)=a_:=by simpa[cj,bN,cg,bY,bZ,bU]using hd
     rw[Rep]at h1;obtain⟨a,xs,rfl,l,M⟩:=h1;cases e with|lst es=>rw[Rep]at b;obtain⟨y,ys,q,t,B⟩:=b;cases q;have:=I.qT (sm.seq l) (sm.seq t);subst this;rw[all p M B]|tup es=>rw[Rep]at b;obtain⟨y,ys,q,t,B⟩:=b;cases q;exact(N t l).elim|dM _=>exact(ld l b).elim|dv _ _=>exact(J l b).elim|_=>rw[Rep]at b;cases b
   |non=>exact fO rfl h1 b|bl k=>exact fO rfl h1 b|int k=>exact fO rfl h1 b|str k=>exact fO rfl h1 b
theorem Fe{d e:D}{u:V}{c:b_}(hd:flat d=a_)(he:flat e=a_)(h1:Rep K F v d)(a:Rep K F u e)(r1:RelV v c)(b:RelV u u'):gT A s c u' (lg d e):=by cases d with
 |tup _=>cases hd|lst _=>cases hd|dM _=>cases hd|dv _ _=>cases hd|non=>rw[Rep]at h1;subst h1;cases(show c=.none from r1);cases e with|tup _=>cases he|lst _=>cases he|dM _=>cases he|dv _ _=>cases he|non=>rw[Rep]at a;subst a;cases(show u'=.none from b);exact k_ _|bl _=>rw[Rep]at a;subst a;cases(show u'=.bool _ from b);exact none_bool _|int _=>rw[Rep]at a;subst a;obtain⟨t,rfl⟩:=b;exact none_int _ _|str _=>rw[Rep]at a;subst a;obtain⟨t,rfl⟩:=b;exact none_str _ _
 |bl _=>rw[Rep]at h1;subst h1;cases(show c=.bool _ from r1);cases e with|tup _=>cases he|lst _=>cases he|dM _=>cases he|dv _ _=>cases he|non=>rw[Rep]at a;subst a;cases(show u'=.none from b);exact bool_none _|bl _=>rw[Rep]at a;subst a;cases(show u'=.bool _ from b);exact bool_bool _ _|int _=>rw[Rep]at a;subst a;obtain⟨t,rfl⟩:=b;exact bool_int _ _ _|str _=>rw[Rep]at a;subst a;obtain⟨t,rfl⟩:=b;exact bool_str _ _ _
 |int _=>rw[Rep]at h1;subst h1;obtain⟨t0,rfl⟩:=r1;cases e with|tup _=>cases he|lst _=>cases he|dM _=>cases he|dv _ _=>cases he|non=>rw[Rep]at a;subst a;cases(show u'=.none from b);exact int_none _ _|bl _=>rw[Rep]at a;subst a;cases(show u'=.bool _ from b);exact int_bool _ _ _|int _=>rw[Rep]at a;subst a;obtain⟨t,rfl⟩:=b;exact int_int _ _ _ _|str _=>rw[Rep]at a;subst a;obtain⟨t,rfl⟩:=b;exact int_str _ _ _ _
 |str _=>rw[Rep]at h1;subst h1;obtain⟨t0,rfl⟩:=r1;cases e with|tup _=>cases he|lst _=>cases he|dM _=>cases he|dv _ _=>cases he|non=>rw[Rep]at a;subst a;cases(show u'=.none from b);exact str_none _ _|bl _=>rw[Rep]at a;subst a;cases(show u'=.bool _ from b);exact str_bool _ _ _|int _=>rw[Rep]at a;subst a;obtain⟨t,rfl⟩:=b;exact str_int _ _ _ _|str _=>rw[Rep]at a;subst a;obtain⟨t,rfl⟩:=b;exact str_str _ _ _ _
theorem nM{e:D}{u:V}{a:cw}{g:Array b_}(ht:s.heap.IsTuple a g)(b:A.units<gc)(he:flat e=a_)(c:Rep K F u e)(f:RelV u u'):gT A s (.ref a) u' (lg (.tup ds) e)/\gT A s u' (.ref a) (lg e (.tup ds)):=by cases e with|tup _=>cases he|lst _=>cases he|dM _=>cases he|dv _ _=>cases he|non=>rw[Rep]at c;subst c;cases(show u'=.none from f);exact⟨SeqAt.EqAt.tuple_none ht b,SeqAt.EqAt.none_tuple ht b⟩|bl _=>rw[Rep]at c;subst c;cases(show u'=.bool _ from f);exact⟨SeqAt.EqAt.tuple_bool _ ht b,SeqAt.EqAt.bool_tuple _ ht b⟩|int _=>rw[Rep]at c;subst c;obtain⟨t,rfl⟩:=f;exact⟨SeqAt.EqAt.tuple_int _ _ ht b,SeqAt.EqAt.int_tuple _ _ ht b⟩|str _=>rw[Rep]at c;subst c;obtain⟨t,rfl⟩:=f;exact⟨SeqAt.EqAt.tuple_str _ _ ht b,SeqAt.EqAt.str_tuple _ _ ht b⟩
theorem nJ{e:D}{u:V}{a:cw}{g:Array b_}(ht:s.heap.IsList a g)(b:A.units<gc)(he:flat e=a_)(c:Rep K F u e)(f:RelV u u'):gT A s (.ref a) u' (lg (.lst ds) e)/\gT A s u' (.ref a) (lg e (.lst ds)):=by cases e with|tup _=>cases he|lst _=>cases he|dM _=>cases he|dv _ _=>cases he|non=>rw[Rep]at c;subst c;cases(show u'=.none from f);exact⟨SeqAt.EqAt.list_none ht b,SeqAt.EqAt.none_list ht b⟩|bl _=>rw[Rep]at c;subst c;cases(show u'=.bool _ from f);exact⟨SeqAt.EqAt.list_bool _ ht b,SeqAt.EqAt.bool_list _ ht b⟩|int _=>rw[Rep]at c;subst c;obtain⟨t,rfl⟩:=f;exact⟨SeqAt.EqAt.list_int _ _ ht b,SeqAt.EqAt.int_list _ _ ht b⟩|str _=>rw[Rep]at c;subst c;obtain⟨t,rfl⟩:=f;exact⟨SeqAt.EqAt.list_str _ _ ht b,SeqAt.EqAt.str_list _ _ ht b⟩
theorem yP{n:Nat}{d:D}(h:jz n d=a_)(h0:n=0):flat d=a_:=by subst h0;cases d<;>first|rfl|simp[cj,bN,cg,bY,bZ,bU]at h
theorem adx{X:Cx}{G:List (cw×Obj)}(I:_L.Inv X G σ H s)(sm:aN F H):∀(n:Nat)(A:fb),A.units+n<gc->∀(d e:D),jz n d=a_->jz n e=a_->∀(v u:V)(J u':b_),Rep X.K F v d->Rep X.K F u e->RelV v J->RelV u u'->gT A s J u' (lg d e):=by intro n;induction n with|zero=>intro A Z d e hd he v u J u' h1 f r1 g;exact Fe (yP hd rfl) (yP he rfl) h1 f r1 g|succ n ih=>
   intro A Z d e hd he v u J u' h1 f r1 g;have c:A.units<gc:=by omega
   have N:A.in1.units+n<gc:=by show A.units+1+n<gc;omega--items by place
   have L:∀{xs ys:List V}{q ws:List b_}{ds es:List D}{j:Nat}(B:j<q.toArray.size)(C:j<ws.toArray.size),ds.all (jz n)=a_->es.all (jz n)=a_->Vals xs q->Vals ys ws->aG X.K F xs ds->aG X.K F ys es->gT A.in1 s q.toArray[j] ws.toArray[j] (lg (ds.getD j .non) (es.getD j .non)):=λ{xs ys q ws ds es j}B C a1 a2 E h p1 p2=>by
    have B:j<q.length:=by simpa using B
    have C:j<ws.length:=by simpa using C
    have r:j<ds.length:=by rw[<-p1.length,E.length];exact B
    have l2:j<es.length:=by rw[<-p2.length,h.length];exact C
    obtain⟨x,g1,g2⟩:=p1.get (show ds[j]?=aj ds[j]by simp[r]);obtain⟨y,g3,g4⟩:=p2.get (show es[j]?=aj es[j]by simp[l2]);obtain⟨W,g5,g6⟩:=E.get g1;obtain⟨Y,g7,g8⟩:=h.get g3;have e1:q.toArray[j]=W:=by have:=(eY g5).2;simpa using this
    have e2:ws.toArray[j]=Y:=by have:=(eY g7).2;simpa using this
    have e3:ds.getD j .non=ds[j]:=by simp[iq,r]
    have e4:es.getD j .non=es[j]:=by simp[iq,l2]
    rw[e1,e2,e3,e4];exact ih A.in1 N _ _ (fH.mp a1 _ (jI r)) (fH.mp a2 _ (jI l2)) x y W Y g2 g4 g6 g8--the same object
   have same:∀{a:cw},v=.ref a->u=.ref a->gT A s J u' (lg d e):=λ{a}q1 q2=>by subst q1;subst q2;have:=MJ I sm (n+1) d hd _ e h1 f;subst this;rw[zq];cases r1;cases g;exact k_ _
   cases d with
   |dM _=>simp[cj,bN,cg,bY,bZ,bU]at hd|dv _ _=>simp[cj,bN,cg,bY,bZ,bU]at hd|tup ds=>
     have O:ds.all (jz n)=a_:=by simpa[cj,bN,cg,bY,bZ,bU]using hd
     have k:=h1;rw[Rep]at k;obtain⟨a,xs,rfl,Q,M⟩:=k;cases r1;obtain⟨q,E,p1,_⟩:=I.tuple (aN.fY sm Q)
     cases e with|dM _=>simp[cj,bN,cg,bY,bZ,bU]at he|dv _ _=>simp[cj,bN,cg,bY,bZ,bU]at he|tup es=>
       have U:es.all (jz n)=a_:=by simpa[cj,bN,cg,bY,bZ,bU]using he
       have l:=f;rw[Rep]at l;obtain⟨b,ys,rfl,o,t⟩:=l;by_cases p:a=b;.subst p;exact same rfl rfl
       . cases g;obtain⟨ws,h,p2,_⟩:=I.tuple (aN.fY sm o);refine .of_refs p ?_;have z:=SeqAt.RcAt.tuples (A:=A) (e:=λj=>lg (ds.getD j .non) (es.getD j .non)) p1 p2 c λj B C=>L B C O U E h M t;have r:q.toArray.size=ds.length:=by rw[cE,<-E.length,M.length]
         have l2:ws.toArray.size=es.length:=by rw[cE,<-h.length,t.length]
         rw[r,l2]at z;have e0:lg (.tup ds) (.tup es)=((dr (min ds.length es.length)).all (λj=>lg (ds.getD j .non) (es.getD j .non))&&ds.length==es.length):=by
          rw[pqt];by_cases w:ds.length=es.length;.rw[gM w,w];simp
          . rw[jF w];have:(ds.length==es.length)=aK:=by simpa using w
            rw[this,mN]
         rw[e0];exact z|lst es=>rw[Rep]at f;obtain⟨b,ys,rfl,o,t⟩:=f;cases g;obtain⟨ws,h,p2,_⟩:=I.list (sm.seq o);exact SeqAt.EqAt.tuple_list p1 p2.isList c|non=>exact(nM p1 c rfl f g).1|bl _=>exact(nM p1 c rfl f g).1|int _=>exact(nM p1 c rfl f g).1|str _=>exact(nM p1 c rfl f g).1
   |lst ds=>
     have O:ds.all (jz n)=a_:=by simpa[cj,bN,cg,bY,bZ,bU]using hd
     have k:=h1;rw[Rep]at k
     obtain⟨a,xs,rfl,Q,M⟩:=k;cases r1;obtain⟨q,E,p1,_⟩:=I.list (sm.seq Q);cases e with|dM _=>simp[cj,bN,cg,bY,bZ,bU]at he|dv _ _=>simp[cj,bN,cg,bY,bZ,bU]at he|lst es=>
       have U:es.all (jz n)=a_:=by simpa[cj,bN,cg,bY,bZ,bU]using he
       have l:=f;rw[Rep]at l;obtain⟨b,ys,rfl,o,t⟩:=l;by_cases p:a=b;.subst p;exact same rfl rfl
       . cases g;obtain⟨ws,h,p2,_⟩:=I.list (sm.seq o);refine .of_refs p ?_;have r:q.toArray.size=ds.length:=by rw[cE,<-E.length,M.length]
         have l2:ws.toArray.size=es.length:=by rw[cE,<-h.length,t.length]
         rw[pql];by_cases w:ds.length=es.length;.have z:=SeqAt.RcAt.lists (A:=A) (e:=λj=>lg (ds.getD j .non) (es.getD j .non)) p1.isList p2.isList (by rw[r,l2,w]) c λj B C=>L B C O U E h M t;rw[r]at z;rw[gM w];exact z
         .rw[jF w];exact lists_lengths p1.isList p2.isList (by rw[r,l2];simpa using w) c|tup es=>rw[Rep]at f;obtain⟨b,ys,rfl,o,t⟩:=f;cases g;obtain⟨ws,h,p2,_⟩:=I.tuple (aN.fY sm o);exact SeqAt.EqAt.list_tuple p1.isList p2 c|non=>exact(nJ p1.isList c rfl f g).1|bl _=>exact(nJ p1.isList c rfl f g).1|int _=>exact(nJ p1.isList c rfl f g).1|str _=>exact(nJ p1.isList c rfl f g).1
   |non|bl _|int _|str _=>cases e with|dM _=>simp[cj,bN,cg,bY,bZ,bU]at he|dv _ _=>simp[cj,bN,cg,bY,bZ,bU]at he|tup es=>rw[Rep]at f;obtain⟨b,ys,rfl,o,t⟩:=f;cases g;obtain⟨ws,h,p2,_⟩:=I.tuple (aN.fY sm o);exact(nM p2 c rfl h1 r1).2|lst es=>rw[Rep]at f;obtain⟨b,ys,rfl,o,t⟩:=f;cases g;obtain⟨ws,h,p2,_⟩:=I.list (sm.seq o);exact(nJ p2.isList c rfl h1 r1).2|_=>exact Fe rfl rfl h1 f r1 g
end
section
variable{X:Cx}{pins:List (cw×Obj)}{σ:_L.St}{H F:Hp}{s:cr}{A:fb}
noncomputable abbrev RC(A:fb)(s:cr)(v u:b_)(k:Bool):Prop:=SeqAt.RcAt A s v u k/\SeqAt.RcNeAt A s v u (!k)
inductive Top(X:Cx)(F H:Hp)(s:cr):b_->D->Prop where|non:Top X F H s .none .non|bl(b:Bool):Top X F H s (.bool b) (.bl b)|int(i:Int)(t:Tok):Top X F H s (.int i t) (.int i)|str(x:Str)(t:Tok):Top X F H s (.str x t) (.str x)|tup{a:cw}{us:List b_}{xs:List V}{ds:List D}(ht:s.heap.IsTuple a us.toArray)(hv:Vals xs us)(hr:aG X.K F xs ds):Top X F H s (.ref a) (.tup ds)|lst{a:cw}{us:List b_}{xs:List V}{ds:List D}(ht:s.heap.IsList a us.toArray)(hv:Vals xs us)(hr:aG X.K F xs ds):Top X F H s (.ref a) (.lst ds)
theorem wV(I:_L.Inv X pins σ H s)(sm:aN F H){f:b_}{d:D}(hd:jz 8 d=a_)(h:dq X.K F H v d)(r:RelV v f):Top X F H s f d:=by cases d with|dM _=>simp[cj,bN,cg,bY,bZ,bU]at hd|dv _ _=>simp[cj,bN,cg,bY,bZ,bU]at hd|non=>rw[h.non]at r;cases r;exact .non|bl b=>rw[h.bl]at r;cases r;exact .bl b|int i=>rw[h.int]at r;obtain⟨t,rfl⟩:=r;exact .int i t|str x=>rw[h.str]at r;obtain⟨t,rfl⟩:=r;exact .str x t|tup ds=>obtain⟨a,xs,rfl,h1,c,_⟩:=h.tup sm;cases r;obtain⟨g,e,p1,_⟩:=I.tuple h1;exact .tup p1 e c|lst ds=>obtain⟨a,xs,rfl,h1,c⟩:=h.lst sm;cases r;obtain⟨g,e,p1,_⟩:=I.list h1;exact .lst p1.isList e c
theorem aaO(I:_L.Inv X pins σ H s)(sm:aN F H){n:Nat}(hu:A.units+(n+1)<gc){d e:D}(hd:jz (n+1) d=a_)(he:jz (n+1) e=a_){J:b_}(h1:Top X F H s J d)(w:Top X F H s u' e):RC A s J u' (lg d e):=by
 have c:A.units<gc:=by omega
 have G:A.in1.units+n<gc:=by show A.units+1+n<gc;omega
 have r:∀{xs ys:List V}{q ws:List b_}{ds es:List D}{j:Nat}(k:j<q.toArray.size)(l:j<ws.toArray.size),ds.all (jz n)=a_->es.all (jz n)=a_->Vals xs q->Vals ys ws->aG X.K F xs ds->aG X.K F ys es->gT A.in1 s q.toArray[j] ws.toArray[j] (lg (ds.getD j .non) (es.getD j .non)):=λ{xs ys q ws ds es j}k l Q U L M p1 p2=>by
  have k:j<q.length:=by simpa using k
  have l:j<ws.length:=by simpa using l
  have o:j<ds.length:=by rw[<-p1.length,L.length];exact k
  have l2:j<es.length:=by rw[<-p2.length,M.length];exact l
  obtain⟨x,W,Y⟩:=p1.get (show ds[j]?=aj ds[j]by simp[o]);obtain⟨y,Z,g4⟩:=p2.get (show es[j]?=aj es[j]by simp[l2]);obtain⟨N,g5,g6⟩:=L.get W;obtain⟨O,g7,g8⟩:=M.get Z;have e1:q.toArray[j]=N:=by have:=(eY g5).2;simpa using this
  have e2:ws.toArray[j]=O:=by have:=(eY g7).2;simpa using this
  have e3:ds.getD j .non=ds[j]:=by simp[iq,o]
  have e4:es.getD j .non=es[j]:=by simp[iq,l2]
  rw[e1,e2,e3,e4];exact adx I sm n A.in1 G _ _ (fH.mp Q _ (jI o)) (fH.mp U _ (jI l2)) x y N O Y g4 g6 g8
 cases h1 with
 |non=>cases w with|non=>exact⟨SeqAt.RcAt.none_none,SeqAt.RcNeAt.none_none⟩|bl b=>exact⟨SeqAt.RcAt.none_bool _,SeqAt.RcNeAt.none_bool _⟩|int i t=>exact⟨SeqAt.RcAt.none_int _ _,SeqAt.RcNeAt.none_int _ _⟩|str i t=>exact⟨SeqAt.RcAt.none_str _ _,SeqAt.RcNeAt.none_str _ _⟩|tup ht _ _=>exact⟨SeqAt.RcAt.none_tuple ht c,SeqAt.RcNeAt.none_tuple ht c⟩|lst ht _ _=>exact⟨SeqAt.RcAt.none_list ht c,SeqAt.RcNeAt.none_list ht c⟩
 |bl b0=>cases w with|non=>exact⟨SeqAt.RcAt.bool_none _,SeqAt.RcNeAt.bool_none _⟩|bl b=>exact⟨SeqAt.RcAt.bool_bool _ _,SeqAt.RcNeAt.bool_bool _ _⟩|int i t=>exact⟨SeqAt.RcAt.bool_int _ _ _,SeqAt.RcNeAt.bool_int _ _ _⟩|str i t=>exact⟨SeqAt.RcAt.bool_str _ _ _,SeqAt.RcNeAt.bool_str _ _ _⟩|tup ht _ _=>exact⟨SeqAt.RcAt.bool_tuple _ ht c,SeqAt.RcNeAt.bool_tuple _ ht c⟩|lst ht _ _=>exact⟨SeqAt.RcAt.bool_list _ ht c,SeqAt.RcNeAt.bool_list _ ht c⟩
 |int i0 t0=>cases w with|non=>exact⟨SeqAt.RcAt.int_none _ _,SeqAt.RcNeAt.int_none _ _⟩|bl b=>exact⟨SeqAt.RcAt.int_bool _ _ _,SeqAt.RcNeAt.int_bool _ _ _⟩|int i t=>exact⟨SeqAt.RcAt.int_int _ _ _ _,SeqAt.RcNeAt.int_int _ _ _ _⟩|str i t=>exact⟨SeqAt.RcAt.int_str _ _ _ _,SeqAt.RcNeAt.int_str _ _ _ _⟩|tup ht _ _=>exact⟨SeqAt.RcAt.int_tuple _ _ ht c,SeqAt.RcNeAt.int_tuple _ _ ht c⟩|lst ht _ _=>exact⟨SeqAt.RcAt.int_list _ _ ht c,int_list _ _ ht c⟩
 |str i0 t0=>cases w with|non=>exact⟨SeqAt.RcAt.str_none _ _,SeqAt.RcNeAt.str_none _ _⟩|bl b=>exact⟨SeqAt.RcAt.str_bool _ _ _,SeqAt.RcNeAt.str_bool _ _ _⟩|int i t=>exact⟨SeqAt.RcAt.str_int _ _ _ _,SeqAt.RcNeAt.str_int _ _ _ _⟩|str i t=>exact⟨SeqAt.RcAt.str_str _ _ _ _,SeqAt.RcNeAt.str_str _ _ _ _⟩|tup ht _ _=>exact⟨SeqAt.RcAt.str_tuple _ _ ht c,SeqAt.RcNeAt.str_tuple _ _ ht c⟩|lst ht _ _=>exact⟨SeqAt.RcAt.str_list _ _ ht c,str_list _ _ ht c⟩
 |@tup a q xs ds ht u hr=>
   have z:ds.all (jz n)=a_:=by simpa[cj,bN,cg,bY,bZ,bU]using hd
   cases w with|non=>exact⟨SeqAt.RcAt.tuple_none ht c,SeqAt.RcNeAt.tuple_none ht c⟩|bl b=>exact⟨SeqAt.RcAt.tuple_bool _ ht c,SeqAt.RcNeAt.tuple_bool _ ht c⟩|int i t=>exact⟨SeqAt.RcAt.tuple_int _ _ ht c,SeqAt.RcNeAt.tuple_int _ _ ht c⟩|str i t=>exact⟨SeqAt.RcAt.tuple_str _ _ ht c,SeqAt.RcNeAt.tuple_str _ _ ht c⟩|lst h _ _=>exact⟨SeqAt.RcAt.tuple_list ht h c,SeqAt.RcNeAt.tuple_list ht h c⟩|@tup b ws ys es h f g=>
     have B:es.all (jz n)=a_:=by simpa[cj,bN,cg,bY,bZ,bU]using he
     have o:q.toArray.size=ds.length:=by rw[cE,<-u.length,hr.length]
     have l2:ws.toArray.size=es.length:=by rw[cE,<-f.length,g.length]
     have C:=SeqAt.RcAt.tuples (A:=A) (e:=λj=>lg (ds.getD j .non) (es.getD j .non)) ht h c λj k l=>r k l z B u f hr g;have E:=SeqAt.RcNeAt.tuples (A:=A) (e:=λj=>lg (ds.getD j .non) (es.getD j .non)) ht h c λj k l=>r k l z B u f hr g;rw[o,l2]at C E;have e0:lg (.tup ds) (.tup es)=((dr (min ds.length es.length)).all (λj=>lg (ds.getD j .non) (es.getD j .non))&&ds.length==es.length):=by
      rw[pqt];by_cases p:ds.length=es.length;.rw[gM p,p];simp
      . rw[jF p];have:(ds.length==es.length)=aK:=by simpa using p
        rw[this,mN]
     rw[e0];exact⟨C,E⟩
 |@lst a q xs ds ht u hr=>
   have z:ds.all (jz n)=a_:=by simpa[cj,bN,cg,bY,bZ,bU]using hd
   cases w with|non=>exact⟨SeqAt.RcAt.list_none ht c,SeqAt.RcNeAt.list_none ht c⟩|bl b=>exact⟨SeqAt.RcAt.list_bool _ ht c,SeqAt.RcNeAt.list_bool _ ht c⟩|int i t=>exact⟨SeqAt.RcAt.list_int _ _ ht c,list_int _ _ ht c⟩|str i t=>exact⟨SeqAt.RcAt.list_str _ _ ht c,list_str _ _ ht c⟩|tup h _ _=>exact⟨SeqAt.RcAt.list_tuple ht h c,SeqAt.RcNeAt.list_tuple ht h c⟩|@lst b ws ys es h f g=>
     have B:es.all (jz n)=a_:=by simpa[cj,bN,cg,bY,bZ,bU]using he
     have o:q.toArray.size=ds.length:=by rw[cE,<-u.length,hr.length]
     have l2:ws.toArray.size=es.length:=by rw[cE,<-f.length,g.length]
     rw[pql];by_cases p:ds.length=es.length;.have C:=SeqAt.RcAt.lists (A:=A) (e:=λj=>lg (ds.getD j .non) (es.getD j .non)) ht h (by rw[o,l2,p]) c λj k l=>r k l z B u f hr g;have E:=SeqAt.RcNeAt.lists (A:=A) (e:=λj=>lg (ds.getD j .non) (es.getD j .non)) ht h (by rw[o,l2,p]) c λj k l=>r k l z B u f hr g;rw[o]at C E;rw[gM p];exact⟨C,E⟩
     .rw[jF p];exact⟨lists_lengths ht h (by rw[o,l2];simpa using p) c,SeqAt.RcNeAt.lists_lengths ht h (by rw[o,l2];simpa using p) c⟩
theorem oR(b:X.A.units+8<gc):fX X (d_ .Eq) (rD X.K (qL .eq)):=by rintro pins s σ H x y v u Q I c f⟨F,d,e,r,sm,g,h,he,k⟩;obtain⟨t,a,j⟩:=map_some (show(J6 d e).map _=aj r from he);subst j;unfold J6 at a;obtain⟨hd,a⟩:=aZ a;rw[eW]at hd;subst a;exact(aaO I sm (n:=7) b hd.1 hd.2 (wV I sm hd.1 g c) (wV I sm hd.2 h f)).1 _ _ _ _ ⟨.bl _,H,I,rfl,cJ.dg sm (fu _) k⟩
theorem iu(b:X.A.units+8<gc):fX X (d_ .NotEq) (rD X.K (qL .ne)):=by rintro pins s σ H x y v u Q I c f⟨F,d,e,r,sm,g,h,he,k⟩;obtain⟨t,a,j⟩:=map_some (show(Ks d e).map _=aj r from he);subst j;unfold Ks at a;obtain⟨hd,a⟩:=aZ a;rw[eW]at hd;subst a;exact(aaO I sm (n:=7) b hd.1 hd.2 (wV I sm hd.1 g c) (wV I sm hd.2 h f)).2 _ _ _ _ ⟨.bl _,H,I,rfl,cJ.dg sm (fu _) k⟩
end
section
variable{Pg:dE}{w:eH}{K:PySem.W.Frag}{mg:Str->Option b_}{base:eP}
theorem ZC{qual:Str}{st:eK}{f:cw}{fd:hP}{N ps:List Str}{k n:Nat}{c:Call}{d:Fd}(C:gO K x qual st f fd)(S:aL N ps (aA st))(h1:d.np=ps.length)(t:d.nn=N.length)(G:∀(cdv:b_)(A:fb)(outer:List Env)(s:cr)(H:Hp)(E:XK),jA k (A.deeper (lm qual (aA st) s.heap.objs.size f cdv))->SB (Ci Io Pg w K mg base N qual (aA st) f cdv A outer s H E).nox c n (gj st) d.body):oX Pg w K mg base Io (k+1) f fd ps (Ff K ps.length (λargs=>enter c n d args)):=by
 refine C.ok S (λvs H Q E h=>h.1) λcdv A outer s H vs Q E hr h=>?_;obtain⟨u,F,args,r,o,g,e,q⟩:=h;refine⟨_,G cdv A outer s H E hr,?_⟩;replace e:enter c n d args=.ok r o:=e;unfold enter at e;split at e
 . rename_i hc;obtain⟨c1,c2⟩:=hc;have I:=g.more (n:=d.nn-d.np) (τ:=cx (N.length-vs.length) bx) (by simp[h1,t,u]);have p:args.length=d.np:=c1;have go:∀{fl:Fl}{a:List Sl},gh c n d.body (args++cx (d.nn-d.np) .aV)=.ok fl a->(∀l b j,aB K F (args++cx (d.nn-d.np) .aV) (start N vs) H l a b j->(match fl with|.next=>Q .non j|.brk=>False|.cont=>False|.ret r=>∀v,cF K l a b j (args++cx (d.nn-d.np) .aV) (start N vs) H v r->Q v j))->tEx K (gh c n d.body) {nx:=λ_ j=>Q .non j,rt:=Q} (start N vs) H:=λ{fl a}z k=>⟨F,_,fl,a,I,z,λl b j s=>by have:=k l b j s;cases fl<;>exact this⟩;split at e;.rename_i a z;cases e;refine go z λl b j s=>?_;obtain⟨y,B⟩:=aB.less (m:=d.np) p.symm g (by simp[h1,t,u]) s;exact q .non l _ j y (show Rep K l _ _ from Tt)
   .rename_i L a z;cases e;refine go z λl b j s v J=>?_;obtain⟨y,B⟩:=aB.less (m:=d.np) p.symm g (by simp[h1,t,u]) s;exact q v l _ j y (B v r J)
   .split at e<;>cases e
 .cases e
structure aU(Pg:dE)(w:eH)(K:PySem.W.Frag)(mg:Str->Option b_)(base:eP)(k:Nat)(c:Call)(i:Nat)(x:Str)(np:Nat):Prop where ex:∃fa fd qs,oX Pg w K mg base Io k fa fd qs (Ff K qs.length (c i))/\mg x=aj (.ref fa)/\keepIn K (.ref fa)=a_/\Binds K fd qs []/\qs.length=np
end
section
variable{X:Cx}{c:Call}{n k:Nat}{e a b:df}{es:List df}{p pa pb:P}{ps:List P}{pos:Pos}
theorem sv(i:Nat)(g:X.N[i]?=aj x:=by rfl)(h:pX X.env.scope x:=by first|exact fh rfl|exact eS (fh rfl)|exact eS (eS rfl))(hd:(x==("__debug__":Str))=aK:=by rfl)(f:(x==("__classdict__":Str))=aK:=by rfl):SX X c (.Name x pos) (.var i):=Uw g h hd f
theorem dB{np:Nat}(C:aU X.prog X.w X.K X.mg X.base k c i x np)(hr:jA k X.A)(h:SG X c (e::es) ps)(j:Gl X x:=by rfl)(l:(e::es).length=np:=by rfl)(f:(x==("__debug__":Str))=aK:=by rfl)(he:cy (e::es) X.env=(aK,eB e X.env)::cy es X.env:=by rfl)(hpl:(hX pos (cy es X.env)).any (·.1)=aK:=by rfl)(g:ps.length=(e::es).length:=by rfl):SX X c (.Call (.Name x p') (e::es) [] pos) (.call i ps):=by obtain⟨u,fd,y,h1,o,q,r,t⟩:=C.ex;exact Mp h1 hr j o q r h (l.trans t.symm) f he hpl g
noncomputable def QQ(names outer:List (Str×kx))(N N':List Str)(n:Nat):Bool:=(names.all λy=>names.lookup y.1==aj y.2)&&(names.all λy=>y.2!=.local||names.lookup y.1==aj .local)&&(names.all λy=>y.2!=.free||outer.lookup y.1==aj .cell||outer.lookup y.1==aj .free)&&N'.length==N.length+n&&((N.zip N').all λp=>(p.1==p.2&&names.lookup p.2==aj .free)||(names.lookup p.2!=aj .local&&names.lookup p.2!=aj .cell&&names.lookup p.2!=aj .free))
theorem ux{scope:ke}{N':List Str}(g:scope.kind=.function)(h:QQ scope.names X.env.scope.names X.N N' n=a_):fZ X scope N' n:=by
 unfold QQ at h;simp only[eW]at h;obtain⟨⟨⟨⟨h1,j⟩,l⟩,o⟩,q⟩:=h;refine⟨g,λy f=>eq_of_beq (fH.mp h1 y f),λy f e=>?_,λy f e=>?_,by simpa using o,q⟩;.have:=fH.mp j y f;rw[e]at this;simpa using this
 . have:=fH.mp l y f;rw[e]at this;simp only[md]at this;rcases this with(z|z)|z;.cases z
   .exact .inl (eq_of_beq z)
   .exact .inr (eq_of_beq z)
theorem bw(h:jA k A):A.units+8<gc:=by have:=h.un;omega
end
end _H
namespace PySem
section
variable{prog:dE}{w:eH}{A:fb}{E:b_->cr->Prop}{s:cr}
theorem m9{it l:cw}{i:Nat}{items:Array b_}{x:b_}{Q:b_->cr->Prop}(a:s.heap.IsTupleIter it l i)(e:s.heap.IsTuple l items)(f:items[i]?=aj x)(g:∀h',h'.IsTupleIter it l (i+1)->SameBut it s.heap h'->Q x {s with heap:=h'}):cN (c_ prog w) A (nextOf (.ref it)) Q E s:=by obtain⟨o,ho,hc,hd⟩:=id a;obtain⟨h,b,_,j,c⟩:=e;unfold nextOf;refine ce (iS (name:=kH "__next__") a.typeIs F.slot_tuple_iterator_next (i8 F.slot_tuple_iterator_next a.typeIs F.entry_tuple_iterator_next ?_ (F.args_tuple_iterator_next_1 _)));show cN _ _ (field (.ref it) 0>>=_) _ _ s;refine ce (jq ho hd (x:=.ref l) rfl ?_);show cN _ _ (if(eg l==eN)=a_ then _ else _) _ _ s;rw[if_neg (show ¬((eg l==eN)=a_)from dc)];show cN _ _ (field (.ref it) 1>>=_) _ _ s;refine ce (jq ho hd (x:=.int i 0) rfl ?_);show cN _ _ (seqItems? (.ref l)>>=_) _ _ s;refine ce (wpAny_seqItems b c ?_);simp only[kq,f];refine ce (wpAny_setField ho hd (by simp) (cK ⟨x,rfl,cK (g _ ?_ (mB ..))⟩));exact⟨_,iX _ ho (Obj.isFreed_of_fields (Obj.data_mapFields hd _)),(Obj.cls_mapFields ..).trans hc,by rw[Obj.data_mapFields hd];simp[rawInt]⟩
theorem iT{it l:cw}{i:Nat}{items:Array b_}{Q:b_->cr->Prop}(g:A.handled=bx)(b:s.heap.IsTupleIter it l i)(h:s.heap.IsTuple l items)(j:items[i]?=bx)(k:∀h' e,Heap.ExtBut it s.heap h'->(∃o,h'.get? e=aj o/\o.cls=.type "StopIteration")->E (.ref e) {s with heap:=h'}):cN (c_ prog w) A (nextOf (.ref it)) Q E s:=by
 obtain⟨o,ho,hc,hd⟩:=id b;obtain⟨n,c,_,p,f⟩:=h;unfold nextOf;refine ce (iS (name:=kH "__next__") b.typeIs F.slot_tuple_iterator_next (i8 F.slot_tuple_iterator_next b.typeIs F.entry_tuple_iterator_next ?_ (F.args_tuple_iterator_next_1 _)));show cN _ _ (field (.ref it) 0>>=_) _ _ s;refine ce (jq ho hd (x:=.ref l) rfl ?_);show cN _ _ (if(eg l==eN)=a_ then _ else _) _ _ s;rw[if_neg (show ¬((eg l==eN)=a_)from dc)];show cN _ _ (field (.ref it) 1>>=_) _ _ s;refine ce (jq ho hd (x:=.int i 0) rfl ?_);show cN _ _ (seqItems? (.ref l)>>=_) _ _ s;refine ce (wpAny_seqItems c f ?_);simp only[kq,j];refine ce (l9 (ce (wpAny_setField ho hd (by simp) ?_)));show cN _ _ (newExc (.type "StopIteration") []>>=_) _ _ _;refine ce ?_;simp only[newExc,newTuple];refine ce (eA ?_ (by size_fits));refine ce (m:=firstArgMember _ _) (wpAny_of_eq (a:=eN) (by first|rfl|(simp only[firstArgMember];rfl)) ?_);refine eA ?_ (by size_fits);simp only[raiseNew];refine ce (wpAny_handled ?_);first|rw[show A.in1.handled=bx from g]|rw[g]
 refine ce (cK (wpAny_throw ?_));exact k _ _ (((mB ..).extBut.push _).push _) ⟨_,dA _ rfl,rfl⟩
end
theorem jH(l:cw)(items:Array b_)(n:Nat)(b:Option cw)(sl:Array (Option b_)):rf (k6.«enumerate.__new__» ⟨[.type "enumerate",.ref l],[]⟩) (λ_ R s=>s.heap.get? l=aj {cls:=.type "tuple",dict:=b,data:=.seq items n,slots:=sl}/\R (.ok (.ret (.ref (s.heap.push {cls:=.type "tuple_iterator",data:=.fields #[.ref l,.int 0 0]}).objs.size))) {s with heap:=(s.heap.push {cls:=.type "tuple_iterator",data:=.fields #[.ref l,.int 0 0]}).push {cls:=.type "enumerate",data:=.fields #[.none,.bool aK,.ref s.heap.objs.size,rawInt 0,.none,.none]}}):=.of_wp λprog w A R s h=>by
  obtain⟨i,g,d,j,os⟩:=s;obtain⟨a,h⟩:=h;have f:=sub_enumerate;have e:Heap.IsTuple (Shared.heap ⟨i,g,d,j,os⟩) l items:=⟨_,a,rfl,n,rfl⟩;wp_walk using ga a;refine wpAny_stack_any λst=>cK ?_;split
  . rename_i c _ _ _ _ _;cases(c==fR "enumerate");.wp_walk using ga a,iN e;exact⟨_,rfl,h⟩
    .wp_walk using ga a,iN e;exact⟨_,rfl,h⟩
  .wp_walk using ga a,iN e;exact⟨_,rfl,h⟩
section
variable{prog:dE}{w:eH}{A:fb}{E:b_->cr->Prop}{s:cr}
theorem jD{l:cw}{items:Array b_}{Q:b_->cr->Prop}(e:s.heap.IsTuple l items)(h:∀ h',IsEnum h' (s.heap.objs.size+1) s.heap.objs.size 0 .none->h'.IsTupleIter s.heap.objs.size l 0->h'.objs.size=s.heap.objs.size+2->(∀b o,s.heap.get? b=aj o->h'.get? b=aj o)->Q (.ref (s.heap.objs.size+1)) {s with heap:=h'}):cN (c_ prog w) A (call (.type "enumerate") [.ref l]) Q E s:=by
 obtain⟨⟨c,a,dt,sl⟩,f,hc,n,hd⟩:=e;replace hc:c=.type "tuple":=hc;replace hd:dt=.seq items n:=hd;subst hc hd;refine callType_new F.called_enumerate (by decide) (F.typeCall_enumerate_1 _) (F.newCall_enumerate_1 _) (λobj=>F.args_object_init_2 obj _) F.entry_enumerate_new (jH l items n a sl) ⟨f,?_⟩;have hz:(s.heap.push {cls:=.type "tuple_iterator",data:=.fields #[.ref l,.int 0 0]}).objs.size=s.heap.objs.size+1:=kg ..;show _/\_;rw[hz];have he:IsEnum ((s.heap.push {cls:=.type "tuple_iterator",data:=.fields #[.ref l,.int 0 0]}).push {cls:=.type "enumerate",data:=.fields #[.none,.bool aK,.ref s.heap.objs.size,rawInt 0,.none,.none]}) (s.heap.objs.size+1) s.heap.objs.size 0 .none:=by have:=dA (s.heap.push {cls:=.type "tuple_iterator",data:=.fields #[.ref l,.int 0 0]}) (o:={cls:=.type "enumerate",data:=.fields #[.none,.bool aK,.ref s.heap.objs.size,rawInt 0,.none,.none]}) rfl;rw[hz]at this;exact this
 refine⟨⟨_,he,rfl⟩,h _ he ⟨_,gU (dA _ rfl),rfl,rfl⟩ (by rw[kg,hz]) λb o x=>gU (gU x)⟩
end
end PySem
namespace _L
open PySem Spec PyProof.Rows
variable{prog:dE}{w:eH}{A:fb}
section
variable{X:Cx}{pins:List (cw×Obj)}{σ:_L.St}{H:Hp}{s:cr}
theorem Inv.Jq{ch:List cw}{h':eP}{o:HO}{t':Nat}(I:Inv X pins σ H s)(k:∀b u,b∉ch->s.heap.get? b=aj u->h'.get? b=aj u)(l:∀b∈ch,∃u,h'.get? b=aj u)(g:∀b∈ch,p6 X pins H b)(i:bR X.prog X.w (upd H s.heap.objs.size o) h' s.heap.objs.size o):Inv X pins σ (upd H s.heap.objs.size o) {s with heap:=h',toks:=t'}:=by
 have fr:H s.heap.objs.size=bx:=I.hok.fresh (dm);have j:∀b u,H b=aj u->b∉ch:=λb u e a=>by rw[(g b a).1]at e;cases e
 have h:∀b u,H b=aj u->upd H s.heap.objs.size o b=aj u:=λb u e=>by
  have:b≠s.heap.objs.size:=by rintro rfl;rw[fr]at e;cases e
  rw[aF this];exact e
 refine I.call (g':=s.gens) (d':=s.drawn) (ch:=ch) ⟨λb u e n _ f=>k b u f e,λb u e n _ f=>⟨u.slots,k b u f e⟩,λb u e n f=>?_,λb u e f=>⟨u,k b u f e⟩,λb xs e=>h b _ e,λb m u e=>h b _ e,λb ps e=>⟨#[],by rw[h b _ e];simp⟩⟩ ?_ I.bare λb a=>⟨(g b a).2.2.2.1,(g b a).2.1,(g b a).2.2.2.2.1,(g b a).2.2.2.2.2⟩;.have:b≠s.heap.objs.size:=ej (dL e);rw[aF this];exact n
 . intro b u e;by_cases a:b=s.heap.objs.size;.subst a;rw[aH]at e;cases e;exact i
   . rw[aF a]at e;refine(I.hok b u e).stay (λc v hc q=>k c v ?_ q) (λc q=>h c _ q) λc xs q=>h c _ q;rcases hc with rfl|hc;.exact j _ _ e
     .exact j _ _ hc
end
noncomputable def yV(K:PySem.W.Frag)(a:cw):It:=⟨λi H=>∃xs x,dJ K H a xs/\xs[i]?=aj x,λi H x b=>∃T v,H T=bx/\x=.ref T/\b=upd H T (.tup [.int (i:Int),v])/\∀xs,dJ K H a xs->xs[i]?=aj v,λi H=>∃xs,dJ K H a xs/\xs.length<=i⟩
theorem Sy(f:A.handled=bx)(it l:cw)(c:l≠it)(items:Array b_):Draws prog w A it [it,l] items.size (λi v=>items[i]?=aj v) (λi h=>h.IsListIter it l i/\h.IsList l items)where
 live:=λ_ _ st=>let⟨o,ho,_⟩:=st.1;⟨o,ho⟩;frame:=λ_ _ _ st e=>⟨(let⟨o,ho,r⟩:=st.1;⟨o,e it (by simp) o ho,r⟩),(let⟨o,ho,r⟩:=st.2;⟨o,e l (by simp) o ho,r⟩)⟩;item:=λi s Q E hi st g=>by refine wpAny_nextOf_list_item st.1 st.2 (x:=items[i]) (by simp[hi]) λh' a b=>?_;exact g _ h' s.toks (by simp[hi]) ⟨a,(let⟨o,ho,r⟩:=st.2;⟨o,b.extBut l o c ho,r⟩)⟩ b
 done:=λs Q E st j=>qd f st.1 st.2 (by simp) j
theorem Gu(b:A.handled=bx)(it l:cw)(items:Array b_)(n:Nat)(c:items.size<=n):Draws prog w A it [it,l] n (λ_ _=>True) (λi h=>i=n/\h.IsListIter it l i/\h.IsList l items)where live:=λ_ _ st=>let⟨o,ho,_⟩:=st.2.1;⟨o,ho⟩;frame:=λ_ _ _ st a=>⟨st.1,(let⟨o,ho,r⟩:=st.2.1;⟨o,a it (by simp) o ho,r⟩),(let⟨o,ho,r⟩:=st.2.2;⟨o,a l (by simp) o ho,r⟩)⟩;item:=λi s Q E hi st f=>absurd st.1 (ej hi);done:=λs Q E st e=>qd b st.2.1 st.2.2 (by simp;exact c) e
theorem FT{P:dE}{K:PySem.W.Frag}{p:List df}{x1}{tp:Pos}(a it e:cw)(m:e≠it):Turn P w K (.Tuple p x1 tp) (yV K a) [e,it] e (λi h=>(∃g,IsEnum h e it (i:Int) g)/\h.IsListIter it a i)where
 mem:=by simp
 obj:=λi h st b hb=>by
  obtain⟨⟨g,h1⟩,o,j,G,h4⟩:=st;rcases de.mp hb with rfl|hb;.exact⟨_,h1,λv z=>by cases z⟩
  . have:b=it:=by simpa using hb
    subst this;exact⟨o,j,λv z=>by rw[h4]at z;cases z⟩
 keep:=λi h h' st k=>by obtain⟨⟨g,h1⟩,o,j,G⟩:=st;exact⟨⟨g,k e (by simp) _ h1⟩,o,k it (by simp) _ j,G⟩
 item:=λX Z hw hK hc i t s σ H E I J st go=>by
  subst Z hw hK;obtain⟨⟨g,he⟩,l⟩:=st;obtain⟨xs,x,L,B⟩:=go;obtain⟨c,M,pl,hz⟩:=I.list L;have N:s.heap.IsList a c.toArray:=pl.isList;obtain⟨oa,O,n,_⟩:=id N;have ac:e≠a:=by rintro rfl;rw[he]at O;cases O;exact absurd (show fR "enumerate"=fR _ from n) (by decide)
  have ae:a≠it:=by rintro rfl;obtain⟨o,j,G,_⟩:=id l;rw[j]at O;cases O;rw[G]at n;exact absurd n (by decide)
  have af:i<c.toArray.size:=by rw[cE,<-M.length];exact(eY B).1
  refine o3 (Sy (show X.A.in1.handled=bx from I.ok.hd hc) it a ae c.toArray) he ⟨l,N⟩ af m (by simp[m,ac]) λy h' tk U ag hst ht hsz kp=>?_;refine⟨_,rfl,nK ag λC Lr Y=>?_⟩;obtain⟨u,ah,ai⟩:=M.get B;have al:y=u:=by
   have U:c[i]?=aj y:=by simpa using U
   rw[ah]at U;cases U;rfl
  subst al;have hT:∀b∈[e,it],b≠s.heap.objs.size:=λb hb=>by
   rcases de.mp hb with rfl|hb;.exact ej (dL he)
   . have:b=it:=by simpa using hb
     subst this;obtain⟨o,j,_⟩:=id l;exact ej (dL j)
  have am:s.heap.objs.size≠e:=(hT e (by simp)).symm;have ap:∀b o,b∉[e,it]->s.heap.get? b=aj o->C.get? b=aj o:=λb o hb q=>by have h1:b≠e:=λz=>hb (by simp[z]);have j:b≠it:=λz=>hb (by simp[z]);exact Y.extBut b o h1 (kp b o h1 j q)
  have zU:C.get? s.heap.objs.size=aj {cls:=.type "tuple",data:=.seq #[.int i tk,y]}:=Y.extBut _ _ am ht;refine⟨.ref s.heap.objs.size,upd H s.heap.objs.size (.tup [.int (i:Int),x]),?_,rfl,⟨_,x,I.fresh,rfl,rfl,λys ar=>?_⟩,⟨⟨_,Lr⟩,?_⟩,λb hb=>?_⟩
  . refine I.Jq (ch:=[e,it]) (t':=tk+1) ap (λb hb=>?_) (λb hb=>(J b hb)) ⟨(by show 2<=sizeLine;decide),[.int i tk,y],.cons ⟨_,rfl⟩ (.cons ai .nil),⟨_,zU,rfl,_,rfl⟩⟩;rcases de.mp hb with rfl|hb;.exact⟨_,Lr⟩
    . have:b=it:=by simpa using hb
      subst this;obtain⟨o,j,_⟩:=id hst.1;exact⟨o,Y.extBut _ _ (gu m) j⟩
  .rw[I.qT ar L];exact B
  .obtain⟨o,j,r⟩:=hst.1;exact⟨o,Y.extBut _ _ (gu m) j,r⟩
  .rw[aF (hT b hb)];exact(J b hb).1
 done:=λX Z hw hK hc i t s σ H E I J st stop=>by subst Z hw hK;obtain⟨⟨g,he⟩,l⟩:=st;obtain⟨xs,L,B⟩:=stop;obtain⟨c,M,pl,hz⟩:=I.list L;have N:s.heap.IsList a c.toArray:=pl.isList;refine pE (Gu (show X.A.in1.handled=bx from I.ok.hd hc) it a c.toArray i (by rw[cE,<-M.length];exact B)) he ⟨rfl,l,N⟩ λh' hs=>⟨rfl,?_⟩;have f:=J it (by simp);exact I.turned (t':=s.toks) (λb o hb q=>hs b o hb q) f.1 f.2.1 f.2.2.2.1 f.2.2.2.2.1 f.2.2.2.2.2
 self:=λA i s Q E st q=>mn st.1.choose_spec q
noncomputable def Al(K:PySem.W.Frag)(a:cw):It:=⟨λi H=>∃xs x,iB K H a xs/\xs[i]?=aj x,λi H x b=>∃T v,H T=bx/\x=.ref T/\b=upd H T (.tup [.int (i:Int),v])/\∀xs,iB K H a xs->xs[i]?=aj v,λi H=>∃xs,iB K H a xs/\xs.length<=i⟩
theorem Wz(f:A.handled=bx)(it l:cw)(c:l≠it)(items:Array b_):Draws prog w A it [it,l] items.size (λi v=>items[i]?=aj v) (λi h=>h.IsTupleIter it l i/\h.IsTuple l items)where
 live:=λ_ _ st=>let⟨o,ho,_⟩:=st.1;⟨o,ho⟩;frame:=λ_ _ _ st e=>⟨(let⟨o,ho,r⟩:=st.1;⟨o,e it (by simp) o ho,r⟩),(let⟨o,ho,r⟩:=st.2;⟨o,e l (by simp) o ho,r⟩)⟩;item:=λi s Q E hi st g=>by refine m9 st.1 st.2 (x:=items[i]) (by simp[hi]) λh' a b=>?_;exact g _ h' s.toks (by simp[hi]) ⟨a,(let⟨o,ho,r⟩:=st.2;⟨o,b.extBut l o c ho,r⟩)⟩ b
 done:=λs Q E st j=>iT f st.1 st.2 (by simp) j
theorem G7(b:A.handled=bx)(it l:cw)(items:Array b_)(n:Nat)(c:items.size<=n):Draws prog w A it [it,l] n (λ_ _=>True) (λi h=>i=n/\h.IsTupleIter it l i/\h.IsTuple l items)where live:=λ_ _ st=>let⟨o,ho,_⟩:=st.2.1;⟨o,ho⟩;frame:=λ_ _ _ st a=>⟨st.1,(let⟨o,ho,r⟩:=st.2.1;⟨o,a it (by simp) o ho,r⟩),(let⟨o,ho,r⟩:=st.2.2;⟨o,a l (by simp) o ho,r⟩)⟩;item:=λi s Q E hi st f=>absurd st.1 (ej hi);done:=λs Q E st e=>iT b st.2.1 st.2.2 (by simp;exact c) e
theorem GD{P:dE}{K:PySem.W.Frag}{p:List df}{x1}{tp:Pos}(a it e:cw)(m:e≠it):Turn P w K (.Tuple p x1 tp) (Al K a) [e,it] e (λi h=>(∃g,IsEnum h e it (i:Int) g)/\h.IsTupleIter it a i)where
 mem:=by simp
 obj:=λi h st b hb=>by
  obtain⟨⟨g,h1⟩,o,j,G,h4⟩:=st;rcases de.mp hb with rfl|hb;.exact⟨_,h1,λv z=>by cases z⟩
  . have:b=it:=by simpa using hb
    subst this;exact⟨o,j,λv z=>by rw[h4]at z;cases z⟩
 keep:=λi h h' st k=>by obtain⟨⟨g,h1⟩,o,j,G⟩:=st;exact⟨⟨g,k e (by simp) _ h1⟩,o,k it (by simp) _ j,G⟩
 item:=λX Z hw hK hc i t s σ H E I J st go=>by
  subst Z hw hK;obtain⟨⟨g,he⟩,l⟩:=st;obtain⟨xs,x,L,B⟩:=go;obtain⟨c,M,pl,hz⟩:=I.tuple L;have N:s.heap.IsTuple a c.toArray:=pl;obtain⟨oa,O,n,_⟩:=id N;have ac:e≠a:=by rintro rfl;rw[he]at O;cases O;exact absurd (show fR "enumerate"=fR _ from n) (by decide)
  have ae:a≠it:=by rintro rfl;obtain⟨o,j,G,_⟩:=id l;rw[j]at O;cases O;rw[G]at n;exact absurd n (by decide)
  have af:i<c.toArray.size:=by rw[cE,<-M.length];exact(eY B).1
  refine o3 (Wz (show X.A.in1.handled=bx from I.ok.hd hc) it a ae c.toArray) he ⟨l,N⟩ af m (by simp[m,ac]) λy h' tk U ag hst ht hsz kp=>?_;refine⟨_,rfl,nK ag λC Lr Y=>?_⟩;obtain⟨u,ah,ai⟩:=M.get B;have al:y=u:=by
   have U:c[i]?=aj y:=by simpa using U
   rw[ah]at U;cases U;rfl
  subst al;have hT:∀b∈[e,it],b≠s.heap.objs.size:=λb hb=>by
   rcases de.mp hb with rfl|hb;.exact ej (dL he)
   . have:b=it:=by simpa using hb
     subst this;obtain⟨o,j,_⟩:=id l;exact ej (dL j)
  have am:s.heap.objs.size≠e:=(hT e (by simp)).symm;have ap:∀b o,b∉[e,it]->s.heap.get? b=aj o->C.get? b=aj o:=λb o hb q=>by have h1:b≠e:=λz=>hb (by simp[z]);have j:b≠it:=λz=>hb (by simp[z]);exact Y.extBut b o h1 (kp b o h1 j q)
  have zU:C.get? s.heap.objs.size=aj {cls:=.type "tuple",data:=.seq #[.int i tk,y]}:=Y.extBut _ _ am ht;refine⟨.ref s.heap.objs.size,upd H s.heap.objs.size (.tup [.int (i:Int),x]),?_,rfl,⟨_,x,I.fresh,rfl,rfl,λys ar=>?_⟩,⟨⟨_,Lr⟩,?_⟩,λb hb=>?_⟩
  . refine I.Jq (ch:=[e,it]) (t':=tk+1) ap (λb hb=>?_) (λb hb=>(J b hb)) ⟨(by show 2<=sizeLine;decide),[.int i tk,y],.cons ⟨_,rfl⟩ (.cons ai .nil),⟨_,zU,rfl,_,rfl⟩⟩;rcases de.mp hb with rfl|hb;.exact⟨_,Lr⟩
    . have:b=it:=by simpa using hb
      subst this;obtain⟨o,j,_⟩:=id hst.1;exact⟨o,Y.extBut _ _ (gu m) j⟩
  .rw[I.oK ar L];exact B
  .obtain⟨o,j,r⟩:=hst.1;exact⟨o,Y.extBut _ _ (gu m) j,r⟩
  .rw[aF (hT b hb)];exact(J b hb).1
 done:=λX Z hw hK hc i t s σ H E I J st stop=>by subst Z hw hK;obtain⟨⟨g,he⟩,l⟩:=st;obtain⟨xs,L,B⟩:=stop;obtain⟨c,M,pl,hz⟩:=I.tuple L;have N:s.heap.IsTuple a c.toArray:=pl;refine pE (G7 (show X.A.in1.handled=bx from I.ok.hd hc) it a c.toArray i (by rw[cE,<-M.length];exact B)) he ⟨rfl,l,N⟩ λh' hs=>⟨rfl,?_⟩;have f:=J it (by simp);exact I.turned (t':=s.toks) (λb o hb q=>hs b o hb q) f.1 f.2.1 f.2.2.2.1 f.2.2.2.2.1 f.2.2.2.2.2
 self:=λA i s Q E st q=>mn st.1.choose_spec q
section
variable{X:Cx}{elts:List df}{x1:Nat}{tp:Pos}
noncomputable def adU(K:PySem.W.Frag)(c:TE):TI:=λσ H R=>c σ H λx b=>∃a,x=.ref a/\(((∃xs,dJ K b a xs)/\R (yV K a) b)\/((∃xs,iB K b a xs)/\R (Al K a) b))
theorem boot_enumerate:fe "enumerate"=aj (.type "enumerate"):=by decide+kernel
theorem IW{a:df}{t:TE}{p pos:Pos}(v:Gl X "enumerate")(y:X.mg "enumerate"=bx)(z:PE X a t)(hs:cy [a] X.env=[(aK,eB a X.env)]:=by rfl):PI X (.Tuple elts x1 tp) (.Call (.Name "enumerate" p) [a] [] pos) (adU X.K t):=by
 intro e s σ H R I h;refine Call_ (jW I v y boot_enumerate (fo (cB ((bf z cV hs) pos e s σ H (λvs c=>match vs with|[x]=>∃a,x=.ref a/\(((∃xs,dJ X.K c a xs)/\R (yV X.K a) c)\/((∃xs,iB X.K c a xs)/\R (Al X.K a) c))|_=>False) I h) ?_) hs rfl));rintro E s1⟨vs,c,f,r1,j⟩
 . obtain⟨ad,q,k⟩:∃ad,(((∃xs,dJ X.K c ad xs)/\R (yV X.K ad) c)\/((∃xs,iB X.K c ad xs)/\R (Al X.K ad) c))/\vs=[.ref ad]:=by cases vs with|nil=>cases j|cons x r=>cases r with|nil=>obtain⟨ad,rfl,q⟩:=j;exact⟨ad,q,rfl⟩|cons _ _=>cases j
   subst k;obtain⟨u,rfl,B⟩:=r1.one;cases B;have fin:∀(h':eP)(i:Nat->eP->Prop)(J:It),Turn X.prog X.w X.K (.Tuple elts x1 tp) J [s1.heap.objs.size+1,s1.heap.objs.size] (s1.heap.objs.size+1) i->i 0 h'->IsEnum h' (s1.heap.objs.size+1) s1.heap.objs.size 0 .none->(∀b o,s1.heap.get? b=aj o->h'.get? b=aj o)->R J c->cN (c_ X.prog X.w) X.A (p5 (.ref (s1.heap.objs.size+1))) (PIE X e σ (.Tuple elts x1 tp) R) X.xe {s1 with heap:=h'}:=λh' i J T t0 he kp q=>by
    refine mn he ⟨_,_,i,J,c,rfl,f.kept (t':=s1.toks) kp,T,t0,λb hb=>?_,q⟩;have g:s1.heap.objs.size<=b:=by
     rcases de.mp hb with rfl|hb;.exact le_succ _
     . have:b=s1.heap.objs.size:=by simpa using hb
       rw[this];exact dm
    exact f.FQ g (f.hok.fresh g)
   rcases q with⟨⟨xs,l⟩,q⟩|⟨⟨xs,l⟩,q⟩;.obtain⟨m,C,n,hz⟩:=f.list l;exact call_enumerate_list n.isList λh' he hi hsz kp=>fin h' _ _ (FT ad s1.heap.objs.size (s1.heap.objs.size+1) (Nat.succ_ne_self _)) ⟨⟨_,he⟩,hi⟩ he kp q
   .obtain⟨m,C,n,hz⟩:=f.tuple l;exact jD n λh' he hi hsz kp=>fin h' _ _ (GD ad s1.heap.objs.size (s1.heap.objs.size+1) (Nat.succ_ne_self _)) ⟨⟨_,he⟩,hi⟩ he kp q
end
end _L
namespace _H
open PySem _L Spec PyProof.Rows
section
variable{K:PySem.W.Frag}{F F1 H H1:Hp}{ρ ρ1:List Sl}{σ:_L.St}{ds:List D}{a:cw}
theorem yG{c e:Hp}{T:cw}{v w:V}{d1 d2:D}(sm:aN c e)(g:e T=bx)(r1:Rep K c v d1)(h:Rep K c w d2):∃b,Ext c e b (upd e T (.tup [v,w]))/\Rep K b (.ref T) (.tup [d1,d2]):=Af (Q:=λv f=>∃b,Ext c e b f/\Rep K b v (.tup [d1,d2])) sm (.cons r1 (.cons h .nil)) g λv b f x i=>⟨b,x,i⟩
theorem rT{xs:List V}{e b:Hp}(f:dJ K b a xs)(r:aG K e xs ds)(s:aN e b)(k:Nat):(∀d,(ds.mapIdx λi d=>D.tup [.int (i:Int),d])[k]?=aj d->(yV K a).go k b/\∀x g,(yV K a).Ld k b x g->∃c,Ext e b c g/\Rep K c x d)/\((ds.mapIdx λi d=>D.tup [.int (i:Int),d]).length<=k->(yV K a).stop k b):=by refine⟨λd hd=>?_,λh=>⟨xs,f,by rw[r.length];simpa using h⟩⟩;rw[oz]at hd;obtain⟨d0,j,l⟩:=map_some hd;subst l;obtain⟨w,h1,m⟩:=r.get j;refine⟨⟨xs,w,f,h1⟩,?_⟩;rintro x g⟨T,v,n,o,p,y⟩;subst o;subst p;have:=y xs f;rw[h1]at this;cases this;exact yG s n (bO _) m
theorem za{xs:List V}{e b:Hp}(f:iB K b a xs)(r:aG K e xs ds)(s:aN e b)(k:Nat):(∀d,(ds.mapIdx λi d=>D.tup [.int (i:Int),d])[k]?=aj d->(Al K a).go k b/\∀x g,(Al K a).Ld k b x g->∃c,Ext e b c g/\Rep K c x d)/\((ds.mapIdx λi d=>D.tup [.int (i:Int),d]).length<=k->(Al K a).stop k b):=by refine⟨λd hd=>?_,λh=>⟨xs,f,by rw[r.length];simpa using h⟩⟩;rw[oz]at hd;obtain⟨d0,j,l⟩:=map_some hd;subst l;obtain⟨w,h1,m⟩:=r.get j;refine⟨⟨xs,w,f,h1⟩,?_⟩;rintro x g⟨T,v,n,o,p,y⟩;subst o;subst p;have:=y xs f;rw[h1]at this;cases this;exact yG s n (bO _) m
end
section
variable{X:Cx}{c:Call}{e a:df}{pa:P}{pos:Pos}{elts:List df}{x1:Nat}{tp:Pos}
theorem Sg{x:Str}{A:Pos}(B:x="enumerate")(C:Gl X x)(E:X.mg x=bx)(G:SX X c a pa)(hs:cy [a] X.env=[(aK,eB a X.env)]:=by rfl):SI X c (.Tuple elts x1 tp) (.Call (.Name x A) [a] [] pos) (.enm pa):=by subst B;refine oh (IW C E G.ev hs) ?_;rintro σ H R⟨F,ρ,ds,I,g,e,k⟩;obtain⟨r,J,w,j⟩:=aa e;have m:=az j;clear j;obtain⟨j,L⟩:=m;subst L;rw[_H.E21]at w;obtain⟨r0,h,M,l⟩:=aa w;have m:=az l;clear l;obtain⟨l,N⟩:=m;subst N;obtain⟨es,f1,f2⟩:=map_some l;subst f2;cases j;refine⟨F,ρ,r0,_,g,M,λv y z s i=>?_⟩;obtain⟨U,s2,_,f⟩:=s.dC i;cases hd:r0.d with|tup o=>rw[hd]at f1 f;cases f1;rw[Rep]at f;obtain⟨ad,xs,rfl,h1,p⟩:=f;exact⟨ad,rfl,.inr ⟨⟨xs,aN.fY s2.gs.sub h1⟩,k _ _ _ ⟨s2.gs,λn k y q t z b=>za (aN.fY b.gs.sub (aN.fY b.cL h1)) (p.mono b.cL) b.gs.sub k,λO h u Q s3=>⟨s2.trans s3,λv r i=>i.later s2⟩⟩⟩⟩|lst o=>rw[hd]at f1 f;cases f1;rw[Rep]at f;obtain⟨ad,xs,rfl,h1,p⟩:=f;exact⟨ad,rfl,.inl ⟨⟨xs,s2.gs.sub.seq h1⟩,k _ _ _ ⟨s2.gs,λn k y q t z b=>rT (b.gs.sub.seq (b.cL.seq h1)) (p.mono b.cL) b.gs.sub k,λO h u Q s3=>⟨s2.trans s3,λv r i=>i.later s2⟩⟩⟩⟩|_=>rw[hd]at f1;cases f1
end
end _H
namespace _H
open PySem _L Spec PyProof.Rows
structure bC(K:PySem.W.Frag)(x:Str)(st:eK):Prop where ex:∃f fd,PySem.W.nsIn K dS x=aj (aj (.ref f))/\gO K x x st f fd
section
variable{Pg:dE}{w:eH}{K:PySem.W.Frag}{mg:Str->Option b_}{base h:eP}
theorem T8{x:Str}{st:eK}{f:cw}{oc:b_}{g i:Option cw}{b:Array (Option b_)}{kV e j cdv ct:b_}(a:PySem.W.nsIn K dS x=aj (aj (.ref f)))(l:K.lookup f=aj ⟨oc,g,.func (PySem.W.fnOf x x (jl st) (gj st) (aA st) .none kV e j i cdv ct),b⟩)(c:PySem.W.codeIn K cdv x=a_)(k:keepIn K (.ref f)=a_):bC K x st:=⟨_,_,a,Ve l c k⟩
theorem bL{Γ:Tab}{wl i np:Nat}{x:Str}{st:eK}{ps:List Str}(X:K.In h)(G:h.Ns dS mg)(D:bC K x st)(j:ps.length=np)(k:∀(kV g l:b_)(m:Option cw)(cdv ct:b_)(c:List b_),c.length=ps.length->rb (PySem.W.fnOf x x (jl st) (gj st) (aA st) .none kV g l m cdv ct) ⟨c,[]⟩=fm (ps.zip c)):aU Pg w K mg base 0 (run Γ wl 0) i x np:=by obtain⟨f,fd,a,F⟩:=D.ex;exact⟨f,fd,ps,⟨λvs H Q E s=>s.1,λA outer s H args c vs Q E hr e b v sp=>by obtain⟨_,F,as,r,n,_,z,_⟩:=sp;cases z⟩,mg_of X G a,F.kp,F.binds k,j⟩
theorem bJ{Γ:Tab}{wl n i np:Nat}{x:Str}{st:eK}{ps:List Str}{d:Fd}(X:K.In h)(G:h.Ns dS mg)(D:bC K x st)(j:ps.length=np)(b:Γ i=aj d)(k:∀(kV c l:b_)(m:Option cw)(cdv ct:b_)(g:List b_),g.length=ps.length->rb (PySem.W.fnOf x x (jl st) (gj st) (aA st) .none kV c l m cdv ct) ⟨g,[]⟩=fm (ps.zip g))(ok:∀f fd,gO K x x st f fd->oX Pg w K mg base Io (n+1) f fd ps (Ff K np (λargs=>enter (run Γ wl n) wl d args))):aU Pg w K mg base (n+1) (run Γ wl (n+1)) i x np:=by
 obtain⟨f,fd,a,F⟩:=D.ex;refine⟨f,fd,ps,?_,mg_of X G a,F.kp,F.binds k,j⟩;have e:run Γ wl (n+1) i=λargs=>enter (run Γ wl n) wl d args:=by funext args;show(match Γ i with|some d=>enter (run Γ wl n) wl d args|none=>.stuck)=_;rw[b]
 rw[e,j];exact ok f fd F
theorem vM{F:Hp}:∀ns:List Int,aG K F (ns.map V.int) (ns.map D.int)|[]=>.nil|n::ns=>.cons (bO n) (vM ns)
theorem Gw{H:Hp}{a:cw}{ns:List Int}{g:List Sl->Res R}{as:List Sl}(l:dJ K H a (ns.map V.int))(hr:g [.val aK (.lst (ns.map D.int))]=.ok (.val (.bl a_)) as):Ff K 1 g [.ref a] H (λv _=>v=.bl a_) λ_ _ _=>False:=by
 refine⟨rfl,H,_,_,as,⟨.refl _,rfl,λi b d e=>?_,λi s ds e k=>?_,λi j c h=>?_⟩,hr,λv m n o s f=>?_⟩;.match i,e with|0,e=>cases e;refine⟨.ref a,rfl,?_⟩;rw[Rep];exact⟨a,_,rfl,l,vM ns⟩|i+1,e=>simp at e
 .match i,e with|0,e=>cases e;cases k|i+1,e=>simp at e
 .obtain⟨⟨s,ds,e,k⟩,_⟩:=h;match i,e with|0,e=>cases e;cases k|i+1,e=>simp at e
 .have f:Rep K m v (.bl a_):=f;rw[Rep]at f;exact f
end
end _H
namespace _H
open PySem
variable{n:Nat}{c:Call}{ρ:List Sl}{is:List Nat}{ds:List D}
noncomputable def Res.sat{b:Type}(Q:b->List Sl->Prop)(x:Res b):Prop:=match x with|.ok a ρ=>Q a ρ|.exc _ _=>False|.stuck=>False
section
variable{α β:Type}{Q Q':α->List Sl->Prop}
@[simp]theorem Wo{a:α}{ρ:List Sl}:(Res.ok a ρ).sat Q=Q a ρ:=rfl
@[simp]theorem aby{k:Nat}{ρ:List Sl}:(Res.exc k ρ:Res α).sat Q=False:=rfl
@[simp]theorem Xc:(Res.stuck:Res α).sat Q=False:=rfl
theorem bB{x:Res β}{f:β->List Sl->Res α}:(x.bind f).sat Q=x.sat λa ρ=>(f a ρ).sat Q:=by cases x<;>rfl
@[simp]theorem ab6{p:Prop}[Decidable p]{x y:Res α}:(if p then x else y).sat Q=((p->x.sat Q)/\(¬ p->y.sat Q)):=by by_cases h:p<;>simp[h]
@[simp]theorem Mi{a:α}{ρ:List Sl}:(lift (aj a) ρ).sat Q=Q a ρ:=rfl
@[simp]theorem Mj{ρ:List Sl}:(lift (bx:Option α) ρ).sat Q=False:=rfl
@[simp]theorem MF{p:Prop}[Decidable p]{a:α}{ρ:List Sl}:(lift (if p then aj a else bx) ρ).sat Q=(p/\Q a ρ):=by by_cases h:p<;>simp[h]
theorem Res.sat.imp{x:Res α}(h:x.sat Q)(k:∀a ρ,Q a ρ->Q' a ρ):x.sat Q':=by cases x with|ok a ρ=>exact k a ρ h|exc _ _=>exact h|stuck=>exact h
theorem sat_iff{x:Res α}:x.sat Q↔∃a ρ,x=.ok a ρ/\Q a ρ:=by cases x with|ok a ρ=>exact⟨λh=>⟨a,ρ,rfl,h⟩,λ⟨_,_,e,h⟩=>by cases e;exact h⟩|exc _ _=>exact⟨λh=>h.elim,λ⟨_,_,e,_⟩=>by cases e⟩|stuck=>exact⟨λh=>h.elim,λ⟨_,_,e,_⟩=>by cases e⟩
end
noncomputable def fr:Sl->Bool|.aV=>a_|.val b _=>!b|.own b _=>!b|.lent _=>aK|.gV _=>aK|.cR _=>aK|.hold _=>aK
@[simp]theorem ad5:fr .aV=a_:=rfl
@[simp]theorem adm{b:Bool}{d:D}:fr (.val b d)=!b:=rfl
@[simp]theorem afh{b:Bool}{d:List D}:fr (.own b d)=!b:=rfl
@[simp]theorem acS{d:List D}:fr (.lent d)=aK:=rfl
theorem Wq(ρ:List Sl)(i:Nat)(s:Sl):put ρ i s=match ρ[i]?with|some t=>if fr t=a_ then aj (ρ.set i s)else bx|none=>bx:=by unfold put;cases h:ρ[i]?with|none=>rfl|some t=>cases t with|aV=>rfl|val b d=>cases b<;>rfl|own b d=>cases b<;>rfl|lent d=>rfl|gV m=>rfl|cR m=>rfl|hold m=>rfl
theorem Jz{Γ:Tab}{w i:Nat}{d:Fd}{args:List Sl}(h:Γ i=aj d):run Γ w (n+1) i args=enter (run Γ w n) w d args:=by rw[run,h]
noncomputable def fin(np:Nat):Fl->List Sl->Option (R×List Sl)|.next,ρ=>aj (.val .non,ρ.take np)|.ret r,ρ=>aj (r,ρ.take np)|_,_=>bx
noncomputable def eQ(np:Nat)(Q:R->List Sl->Prop)(fl:Fl)(ρ:List Sl):Prop:=match fl with|.next=>Q (.val .non) (ρ.take np)|.ret r=>Q r (ρ.take np)|_=>False
noncomputable def sQ(c:Call)(n:Nat)(r:List S)(Q:Fl->List Sl->Prop)(fl:Fl)(ρ:List Sl):Prop:=match fl with|.next=>(gh c n r ρ).sat Q|fl=>Q fl ρ
noncomputable def fQ(J:List Sl->Prop)(Q:Fl->List Sl->Prop)(fl:Fl)(ρ:List Sl):Prop:=match fl with|.next=>J ρ|.cont=>J ρ|.brk=>Q .next ρ|.ret v=>Q (.ret v) ρ
section
variable{np:Nat}{Q:R->List Sl->Prop}{ρ:List Sl}{v:R}{c:Call}{n:Nat}{r:List S}{Q':Fl->List Sl->Prop}{J:List Sl->Prop}
@[simp]theorem abR:eQ np Q .next ρ=Q (.val .non) (ρ.take np):=rfl
@[simp]theorem afm:eQ np Q (.ret v) ρ=Q v (ρ.take np):=rfl
@[simp]theorem afB:eQ np Q .brk ρ=False:=rfl
@[simp]theorem ab8:eQ np Q .cont ρ=False:=rfl
@[simp]theorem acK:sQ c n r Q' .next ρ=(gh c n r ρ).sat Q':=rfl
@[simp]theorem adD:sQ c n r Q' (.ret v) ρ=Q' (.ret v) ρ:=rfl
@[simp]theorem af3:sQ c n r Q' .brk ρ=Q' .brk ρ:=rfl
@[simp]theorem aco:sQ c n r Q' .cont ρ=Q' .cont ρ:=rfl
@[simp]theorem abG:fQ J Q' .next ρ=J ρ:=rfl
@[simp]theorem ab4:fQ J Q' .cont ρ=J ρ:=rfl
@[simp]theorem aeB:fQ J Q' .brk ρ=Q' .next ρ:=rfl
@[simp]theorem ae0:fQ J Q' (.ret v) ρ=Q' (.ret v) ρ:=rfl
end
theorem Fx{d:Fd}{args:List Sl}{Q:R->List Sl->Prop}(a:args.length=d.np)(hd:d.np<=d.nn)(h:(gh c n d.body (args++cx (d.nn-d.np) .aV)).sat (eQ d.np Q)):(enter c n d args).sat Q:=by unfold enter;rw[if_pos ⟨a,hd⟩];revert h;cases gh c n d.body (args++cx (d.nn-d.np) .aV)with|stuck=>exact λh=>fv h|exc _ _=>exact λh=>fv h|ok fl ρ=>cases fl<;>first|exact id|exact λh=>fv h
theorem aM{Γ:Tab}{w i:Nat}{d:Fd}{args:List Sl}{Q:R->List Sl->Prop}(a:Γ i=aj d)(b:args.length=d.np)(hd:d.np<=d.nn)(h:(gh (run Γ w n) w d.body (args++cx (d.nn-d.np) .aV)).sat (eQ d.np Q)):(run Γ w (n+1) i args).sat Q:=by rw[Jz a];exact Fx b hd h
theorem ao{s:S}{r:List S}{Q:Fl->List Sl->Prop}(h:(ex c n s ρ).sat (sQ c n r Q)):(gh c n (s::r) ρ).sat Q:=by rw[Vf,bB];refine h.imp λfl a q=>?_;cases fl<;>exact q
theorem G5{s:S}{r:List S}{Q:Fl->List Sl->Prop}(h:(ex c n s ρ).sat (sQ c n r Q)):sQ c n (s::r) Q .next ρ:=ao h
@[simp]theorem abq{c:Call}{n:Nat}{ρ:List Sl}{Q:Fl->List Sl->Prop}:(gh c n [] ρ).sat Q=Q .next ρ:=by rw[xs0];rfl
theorem dY{s:S}{r:List S}{Q:Fl->List Sl->Prop}(M:List Sl->Prop)(h:(ex c n s ρ).sat λfl a=>fl=.next/\M a)(k:∀a,M a->(gh c n r a).sat Q):(gh c n (s::r) ρ).sat Q:=ao (h.imp λfl a⟨e,q⟩=>by subst e;exact k a q)
theorem cP{is:List Nat}{one:Bool}{body:List Sl->Res Fl}(J:List D->List Sl->Prop){Q:Fl->List Sl->Prop}(b:∀d r ρ,J (d::r) ρ->∃a,cz ρ is one d=aj a/\(body a).sat (fQ (J r) Q))(f:∀ρ,J [] ρ->Q .next ρ):∀{ds:List D}{ρ:List Sl},J ds ρ->(fV is one body ds ρ).sat Q|[],ρ,j=>f ρ j|d::r,ρ,j=>by obtain⟨a,e,h⟩:=b d r ρ j;rw[v5,e];show((body a).bind _).sat Q;rw[bB];refine h.imp λfl g q=>?_;cases fl with|next=>exact cP J b f q|cont=>exact cP J b f q|brk=>exact q|ret v=>exact q
theorem lr{is:List Nat}{one:Bool}{a:List Sl->Res Bool}{p:Ev}(J:List Sl->Prop)(g:D->Option D){Q:List D->List Sl->Prop}:∀{ds f:List D}{ρ:List Sl},J ρ->(∀ d,d ∈ ds->∀ ρ,J ρ->∃ i,cz ρ is one d=aj i/\(a i).sat λb l=>if b=a_ then(p l).sat λr s=>g d=aj r.d/\J s else g d=bx/\J l)->(∀ ρ,J ρ->Q (f++ds.filterMap g) ρ)->(turns is one a p ds f ρ).sat Q|[],f,ρ,j,h,k=>by rw[xK];simpa using k ρ j|d::r,f,ρ,j,h,k=>by obtain⟨i,e,h1⟩:=h d (by simp) ρ j;rw[qY,e];show((a i).bind _).sat Q;rw[bB];refine h1.imp λb l q=>?_;cases b with|true=>rw[if_pos rfl]at q;rw[if_pos rfl,bB];refine q.imp λx s⟨u,j3⟩=>?_;refine lr J g j3 (λd' m=>h d' (by simp[m])) λo t=>?_;have:=k o t;rw[ib,u]at this;rw[fN];exact this|false=>rw[if_neg (by simp)]at q;rw[if_neg (by simp)];refine lr J g q.2 (λd' m=>h d' (by simp[m])) λo t=>?_;have:=k o t;rw[ib,q.1]at this;exact this
theorem Bu{one:Bool}{b:Ev}(J:List Sl->Prop)(g:D->D){Q:List D->List Sl->Prop}(j:J ρ)(h:∀d,d∈ds->∀ρ,J ρ->∃a,cz ρ is one d=aj a/\(b a).sat λr f=>g d=r.d/\J f)(k:∀ρ,J ρ->Q (ds.map g) ρ):(turns is one (mO c bx) b ds [] ρ).sat Q:=lr J (λd=>aj (g d)) j (λd hd ρ j=>by obtain⟨a,e,h1⟩:=h d hd ρ j;refine⟨a,e,?_⟩;rw[mO,Wo,if_pos rfl];exact h1.imp λr f q=>⟨by rw[q.1],q.2⟩) λρ j=>by simpa using k ρ j
section
variable{ρ l:List Sl}{a:Sl}{i j:Int}{k m:Nat}{b b':Bool}{s:Str}{d:D}{ds es:List D}{e f:Ev}{x:Option Sl}{c:Call}
@[simp]theorem VD:cW .int .non=aK:=rfl
@[simp]theorem Yk:cW .int (.bl b)=a_:=rfl
@[simp]theorem Tv:cW .int (.int i)=a_:=rfl
@[simp]theorem R1:cW .int (.str s)=aK:=rfl
@[simp]theorem T3:cW .int (.tup ds)=aK:=rfl
@[simp]theorem VH:cW .int (.lst ds)=aK:=rfl
@[simp]theorem Qy:cW .bool .non=aK:=rfl
@[simp]theorem V1:cW .bool (.bl b)=a_:=rfl
@[simp]theorem Rf:cW .bool (.int i)=aK:=rfl
@[simp]theorem Q7:cW .bool (.str s)=aK:=rfl
@[simp]theorem Qu:cW .bool (.tup ds)=aK:=rfl
@[simp]theorem QJ:cW .bool (.lst ds)=aK:=rfl
@[simp]theorem VJ:cW .str .non=aK:=rfl
@[simp]theorem YB:cW .str (.bl b)=aK:=rfl
@[simp]theorem Th:cW .str (.int i)=aK:=rfl
@[simp]theorem Wf:cW .str (.str s)=a_:=rfl
@[simp]theorem T7:cW .str (.tup ds)=aK:=rfl
@[simp]theorem Ux:cW .str (.lst ds)=aK:=rfl
@[simp]theorem O6:cW .tuple .non=aK:=rfl
@[simp]theorem QH:cW .tuple (.bl b)=aK:=rfl
@[simp]theorem Nq:cW .tuple (.int i)=aK:=rfl
@[simp]theorem Ov:cW .tuple (.str s)=aK:=rfl
@[simp]theorem Nu:cW .tuple (.tup ds)=a_:=rfl
@[simp]theorem PJ:cW .tuple (.lst ds)=aK:=rfl
@[simp]theorem Rm:cW .list .non=aK:=rfl
@[simp]theorem RX:cW .list (.bl b)=aK:=rfl
@[simp]theorem Rq:cW .list (.int i)=aK:=rfl
@[simp]theorem Rh:cW .list (.str s)=aK:=rfl
@[simp]theorem Qz:cW .list (.tup ds)=aK:=rfl
@[simp]theorem QL:cW .list (.lst ds)=a_:=rfl
@[simp]theorem Rp:cW .none .non=a_:=rfl
@[simp]theorem R4:cW .none (.bl b)=aK:=rfl
@[simp]theorem QD:cW .none (.int i)=aK:=rfl
@[simp]theorem QZ:cW .none (.str s)=aK:=rfl
@[simp]theorem Q4:cW .none (.tup ds)=aK:=rfl
@[simp]theorem Qv:cW .none (.lst ds)=aK:=rfl
@[simp]theorem YD:jJ .non=a_:=rfl
@[simp]theorem aaj:jJ (.bl b)=aK:=rfl
@[simp]theorem Xk:jJ (.int i)=aK:=rfl
@[simp]theorem Yc:jJ (.str s)=aK:=rfl
@[simp]theorem Xv:jJ (.tup ds)=aK:=rfl
@[simp]theorem Yy:jJ (.lst ds)=aK:=rfl
@[simp]theorem ZG:flat .non=a_:=rfl
@[simp]theorem acC:flat (.bl b)=a_:=rfl
@[simp]theorem zf:flat (.int i)=a_:=rfl
@[simp]theorem aaF:flat (.str s)=a_:=rfl
@[simp]theorem ZS:flat (.tup ds)=aK:=rfl
@[simp]theorem YW:flat (.lst ds)=aK:=rfl
@[simp]theorem aev:(R.val d).d=d:=rfl
@[simp]theorem afw:(R.own ds).d=.lst ds:=rfl
@[simp]theorem aaL:lF (.val d)=.val aK d:=rfl
@[simp]theorem aaS:lF (.own ds)=.own aK ds:=rfl
@[simp]theorem Yj:pP (.val d)=.dat d:=rfl
@[simp]theorem W6:pP (.own ds)=.tmp ds:=rfl
@[simp]theorem acD:gq (.int i)=aj i:=rfl
@[simp]theorem adv:xW (.bl b)=aj b:=rfl
@[simp]theorem Yu:items (.lst ds)=aj ds:=rfl
@[simp]theorem uJ:items (.tup ds)=aj ds:=rfl
@[simp]theorem We:Uk (.tup ds)=aj ds:=rfl
@[simp]theorem RQ:Bh (.lst ds)=aj ds:=rfl
@[simp]theorem abH:uB .add=rJ:=rfl
@[simp]theorem abN:uB .sub=yC:=rfl
@[simp]theorem acH:uB .mul=pM:=rfl
@[simp]theorem aas:uB .fdiv=rF:=rfl
@[simp]theorem ab0:uB .mod=yX:=rfl
@[simp]theorem abP:uB .pow=zM:=rfl
@[simp]theorem Yt:rJ (.int i) (.int j)=aj (.val (.int (i+j))):=rfl
@[simp]theorem W3:rJ (.lst ds) (.lst es)=if ds.length+es.length<=lim then aj (.own (ds++es))else bx:=rfl
@[simp]theorem Yg:rJ (.tup ds) (.tup es)=if ds.length+es.length<=lim then aj (.val (.tup (ds++es)))else bx:=rfl
@[simp]theorem Yd:yC (.int i) (.int j)=aj (.val (.int (i-j))):=rfl
@[simp]theorem W7:pM (.int i) (.int j)=if((-18446744073709551616<i/\i<18446744073709551616)\/(-18446744073709551616<j/\j<18446744073709551616))then aj (.val (.int (i*j)))else bx:=rfl
@[simp]theorem V8:rF (.int i) (.int j)=if 0<j/\j<1606938044258990275541962092341162602522202993782792835301376 then aj (.val (.int (i/j)))else bx:=rfl
@[simp]theorem Yi:yX (.int i) (.int j)=if 0<j then aj (.val (.int (i%j)))else bx:=rfl
@[simp]theorem Xj:zM (.int i) (.int j)=if 0<=j/\j<=1000/\i.natAbs<18446744073709551616 then aj (.val (.int (i^j.toNat)))else bx:=rfl
@[simp]theorem ach:LR (.lst ds) (.int i)=(at' ds i).map .val:=rfl
@[simp]theorem aca:LR (.tup ds) (.int i)=(at' ds i).map .val:=rfl
@[simp]theorem aac:JR (.int i)=aj (.val (.int (-i))):=rfl
@[simp]theorem Ym:cm .eq (.int i) (.int j)=aj (i==j):=rfl
@[simp]theorem Xy:cm .ne (.int i) (.int j)=aj (!(i==j)):=rfl
@[simp]theorem aaq:cm .eq (.bl b) (.bl b')=aj (b==b'):=rfl
@[simp]theorem aan:cm .ne (.bl b) (.bl b')=aj (!(b==b')):=rfl
@[simp]theorem Xg:cm .lt (.int i) (.int j)=aj (decide (i<j)):=rfl
@[simp]theorem Xb:cm .le (.int i) (.int j)=aj (decide (i<=j)):=rfl
@[simp]theorem Xf:cm .gt (.int i) (.int j)=aj (decide (j<i)):=rfl
@[simp]theorem XF:cm .ge (.int i) (.int j)=aj (decide (j<=i)):=rfl
@[simp]theorem aeA:cm .isN d .non=aj (jJ d):=rfl
@[simp]theorem acP:cm .Qh d .non=aj (!jJ d):=rfl
@[simp]theorem QG:blt .len [.lst ds]=aj (.val (.int ds.length)):=rfl
@[simp]theorem Rg:blt .len [.tup ds]=aj (.val (.int ds.length)):=rfl
@[simp]theorem NK:blt .list [.lst ds]=aj (.own ds):=rfl
@[simp]theorem Oo:blt .list [.tup ds]=aj (.own ds):=rfl
@[simp]theorem Ml:blt .tuple [.lst ds]=aj (.val (.tup ds)):=rfl
@[simp]theorem Mg:blt .tuple [.tup ds]=aj (.val (.tup ds)):=rfl
@[simp]theorem aak:blt .min2 [.int i,.int j]=aj (.val (.int (if j<i then j else i))):=rfl
@[simp]theorem YT:blt .max2 [.int i,.int j]=aj (.val (.int (if i<j then j else i))):=rfl
@[simp]theorem acO:blt .all [.lst ds]=(ds.mapM xW).map λbs=>.val (.bl (bs.all id)):=rfl
@[simp]theorem Xi:isVar (.var k)=aj k:=rfl
@[simp]theorem abr:pk (a::l) k=match(a::l)[k]?with|some (.val _ d)=>aj d|some (.own _ ds)=>aj (.lst ds)|some (.lent ds)=>aj (.lst ds)|_=>bx:=rfl
@[simp]theorem aaR:zN (a::l) k=match pk (a::l) k with|some (.lst ds)=>aj ds|_=>bx:=rfl
@[simp]theorem ZZ:cu (aj k) e ρ=lift (pk ρ k) ρ:=rfl
@[simp]theorem aat:cu bx e ρ=(e ρ).bind λr ρ=>.ok r.d ρ:=rfl
@[simp]theorem Xp{y:Option Nat}:iJ (aj k) e y f ρ=(lift (pk ρ k) ρ).bind λ_ ρ=>(cu y f ρ).bind λy ρ=>(lift (pk ρ k) ρ).bind λx ρ=>.ok (x,y) ρ:=rfl
@[simp]theorem XN{y:Option Nat}:iJ bx e y f ρ=(cu bx e ρ).bind λx ρ=>(cu y f ρ).bind λy ρ=>.ok (x,y) ρ:=rfl
@[simp]theorem YC{es:List D}:eV (.own b ds) (aj (.own b' es))=.own b es:=rfl
@[simp]theorem Ye:eV (.own b ds) (aj (.val b' d))=.val b d:=rfl
@[simp]theorem Kv:eV a bx=a:=by cases a<;>rfl
@[simp]theorem GF:eV (.val b d) x=.val b d:=by cases x<;>rfl
@[simp]theorem Yl:eV .aV x=.aV:=by cases x<;>rfl
@[simp]theorem Ba:eV (.lent ds) x=.lent ds:=by cases x<;>rfl
@[simp]theorem Zh:cz ρ [k] a_ d=put ρ k (.val aK d):=rfl
@[simp]theorem W9{is:List Nat}:cz ρ is aK (.tup ds)=putAll ρ is ds:=by cases is<;>rfl
@[simp]theorem Wk:srcOf bx e ρ=(e ρ).bind λr ρ=>lift (items r.d) ρ:=rfl
@[simp]theorem Sq:srcOf (aj k) e (a::l)=match(a::l)[k]?with|some (.val _ d)=>lift (items d) (a::l)|some (.own _ ds)=>.ok ds ((a::l).set k (.lent ds))|some (.lent ds)=>.ok ds (a::l)|_=>.stuck:=rfl
@[simp]theorem Q5{g:List Sl}:aP g bx ρ=ρ:=rfl
@[simp]theorem QF:aP (a::l) (aj k) ρ=match(a::l)[k]?with|some (.own b ds)=>ρ.set k (.own b ds)|_=>ρ:=rfl
@[simp]theorem YS{s:Sl}:put (a::l) k s=match(a::l)[k]?with|some t=>if fr t=a_ then aj ((a::l).set k s)else bx|none=>bx:=Wq ..
@[simp]theorem UL:putAll ρ [] []=aj ρ:=rfl
@[simp]theorem Ri{is:List Nat}:putAll ρ (k::is) (d::ds)=(put ρ k (.val aK d)).bind λρ=>putAll ρ is ds:=rfl
end
@[simp]theorem at_0{a:Type}{b:a}{l:List a}:at' (b::l) 0=aj b:=by unfold at' ir;rw[if_pos (by decide),if_pos (by simp only[ei];omega)];rfl
@[simp]theorem at_1{a:Type}{e b:a}{l:List a}:at' (e::b::l) 1=aj b:=by unfold at' ir;rw[if_pos (by decide),if_pos (by simp only[ei];omega)];rfl
@[simp]theorem at_2{a:Type}{e f b:a}{l:List a}:at' (e::f::b::l) 2=aj b:=by unfold at' ir;rw[if_pos (by decide),if_pos (by simp only[ei];omega)];rfl
@[simp]theorem at_3{a:Type}{e f g b:a}{l:List a}:at' (e::f::g::b::l) 3=aj b:=by unfold at' ir;rw[if_pos (by decide),if_pos (by simp only[ei];omega)];rfl
@[simp]theorem at_4{a:Type}{e f g h b:a}{l:List a}:at' (e::f::g::h::b::l) 4=aj b:=by unfold at' ir;rw[if_pos (by decide),if_pos (by simp only[ei];omega)];rfl
@[simp]theorem at_5{a:Type}{e f g h i b:a}{l:List a}:at' (e::f::g::h::i::b::l) 5=aj b:=by unfold at' ir;rw[if_pos (by decide),if_pos (by simp only[ei];omega)];rfl
@[simp]theorem at_6{a:Type}{e f g h i j b:a}{l:List a}:at' (e::f::g::h::i::j::b::l) 6=aj b:=by unfold at' ir;rw[if_pos (by decide),if_pos (by simp only[ei];omega)];rfl
@[simp]theorem at_7{a:Type}{e f g h i j k b:a}{l:List a}:at' (e::f::g::h::i::j::k::b::l) 7=aj b:=by unfold at' ir;rw[if_pos (by decide),if_pos (by simp only[ei];omega)];rfl
theorem tH{a:Type}{l:List a}{i:Int}(h:0<=i)(h':i<l.length):at' l i=l[i.toNat]?:=by unfold at' ir;rw[if_pos h,if_pos h'];rfl
theorem Hw{a:Type}{l:List a}{k:Nat}(h':k<l.length):at' l (k:Int)=l[k]?:=by rw[tH (by omega) (by omega)];simp
@[simp]theorem XS{d:D}:isVar (.con d)=bx:=rfl
@[simp]theorem Yq{o:Op}{p q:P}:isVar (.bin o p q)=bx:=rfl
@[simp]theorem Yr{p:P}:isVar (.neg p)=bx:=rfl
@[simp]theorem Yw{p:P}:isVar (.not p)=bx:=rfl
@[simp]theorem Ys{p q:P}:isVar (.and p q)=bx:=rfl
@[simp]theorem aam{p q:P}:isVar (.or p q)=bx:=rfl
@[simp]theorem Xn{o:Cm}{p q:P}:isVar (.cmp o p q)=bx:=rfl
@[simp]theorem Rc{o a:Cm}{p q r:P}:isVar (.chain o a p q r)=bx:=rfl
@[simp]theorem Xu{p q r:P}:isVar (.Mm p q r)=bx:=rfl
@[simp]theorem W5{as:List P}:isVar (.tup as)=bx:=rfl
@[simp]theorem Xq{as:List P}:isVar (.lst as)=bx:=rfl
@[simp]theorem Yo{p q:P}:isVar (.idx p q)=bx:=rfl
@[simp]theorem Qx{p q r:P}:isVar (.slice p q r)=bx:=rfl
@[simp]theorem Vp{f:Nat}{as:List P}:isVar (.call f as)=bx:=rfl
@[simp]theorem XC{b:Blt}{as:List P}:isVar (.blt b as)=bx:=rfl
@[simp]theorem Sw{a:List Ty}{p:P}:isVar (.inst a p)=bx:=rfl
@[simp]theorem Wi{p e:P}{n:Nat}{is:List Nat}{one:Bool}{t:Option P}:isVar (.comp p n is one t e)=bx:=rfl
@[simp]theorem Yn{p q:P}:isVar (.uC p q)=bx:=rfl
@[simp]theorem Xo{p:P}:isVar (.enm p)=bx:=rfl
@[simp]theorem Xw{p q:P}:isVar (.zip p q)=bx:=rfl
noncomputable def lN(c:Call)(is:List Nat)(one:Bool)(a:Option P)(b:P)(ds:List D)(ρ:List Sl):Res (List D):=turns is one (mO c a) (ev c b) ds [] ρ
@[simp]theorem ab3{c:Call}{src f:P}{n:Nat}{is:List Nat}{one:Bool}{b:Option P}{ρ:List Sl}:ev c (.comp src n is one b f) ρ=(srcOf (isVar src) (ev c src) ρ).bind λds a=>if ds.length<=lim then(lN c is one b f ds (a++cx n .aV)).bind λxs e=>.ok (.own xs) (aP ρ (isVar src) (e.take a.length))else .stuck:=(rfl)
noncomputable def JM(c:Call)(n:Nat)(t:P)(body:List S)(k:Nat)(ρ:List Sl):Res Fl:=su (iU (ev c t)) (gh c n body) k ρ
@[simp]theorem adS{c:Call}{n:Nat}{t:P}{body:List S}{ρ:List Sl}:ex c n (.whl t body) ρ=JM c n t body n ρ:=(rfl)
theorem v7{b e h:Type}{x:Res e}{f:e->List Sl->Res b}{g:b->List Sl->Res h}:(x.bind f).bind g=x.bind λa ρ=>(f a ρ).bind g:=by cases x<;>rfl
@[simp]theorem aee{Γ:Tab}{w n i:Nat}{args:List Sl}{b:Type}{f:R->List Sl->Res b}{Q:b->List Sl->Prop}:((run Γ w n i args).bind f).sat Q=(run Γ w n i args).sat λa ρ=>(f a ρ).sat Q:=bB
@[simp]theorem aeP{Γ:Tab}{w n i:Nat}{args:List Sl}{b e:Type}{f:R->List Sl->Res b}{g:b->List Sl->Res e}:((run Γ w n i args).bind f).bind g=(run Γ w n i args).bind λa ρ=>(f a ρ).bind g:=v7
@[simp]theorem abx{c:Call}{is:List Nat}{one:Bool}{b:Option P}{e:P}{ds:List D}{ρ:List Sl}{g:Type}{f:List D->List Sl->Res g}{Q:g->List Sl->Prop}:((lN c is one b e ds ρ).bind f).sat Q=(lN c is one b e ds ρ).sat λa ρ=>(f a ρ).sat Q:=bB
@[simp]theorem acd{c:Call}{is:List Nat}{one:Bool}{b:Option P}{e:P}{ds:List D}{ρ:List Sl}{h i:Type}{f:List D->List Sl->Res h}{g:h->List Sl->Res i}:((lN c is one b e ds ρ).bind f).bind g=(lN c is one b e ds ρ).bind λa ρ=>(f a ρ).bind g:=v7
@[simp]theorem ady{is:List Nat}{one:Bool}{b:List Sl->Res Fl}{ds:List D}{ρ:List Sl}{e:Type}{f:Fl->List Sl->Res e}{Q:e->List Sl->Prop}:((fV is one b ds ρ).bind f).sat Q=(fV is one b ds ρ).sat λa ρ=>(f a ρ).sat Q:=bB
@[simp]theorem abU{b e:Type}{p:Prop}[Decidable p]{a:e}{ρ:List Sl}{f:e->List Sl->Res b}{Q:b->List Sl->Prop}:((lift (if p then aj a else bx) ρ).bind f).sat Q=(p/\(f a ρ).sat Q):=by by_cases h:p<;>simp[h,lift,Res.bind]
@[simp]theorem abL{b e h:Type}{p:Prop}[Decidable p]{a:e}{ρ:List Sl}{f:e->List Sl->Res b}{g:b->List Sl->Res h}:((lift (if p then aj a else bx) ρ).bind f).bind g=(lift (if p then aj a else bx) ρ).bind λa ρ=>(f a ρ).bind g:=v7
@[simp]theorem bb_ite{b a:Type}{p:Prop}[Decidable p]{x y:Res a}{f:a->List Sl->Res b}:(if p then x else y).bind f=if p then x.bind f else y.bind f:=by by_cases h:p<;>simp[h]
@[simp]theorem af8{c:Call}{n k:Nat}{t:P}{b:List S}{ρ:List Sl}{e:Type}{f:Fl->List Sl->Res e}{Q:e->List Sl->Prop}:((JM c n t b k ρ).bind f).sat Q=(JM c n t b k ρ).sat λa ρ=>(f a ρ).sat Q:=bB
@[simp]theorem afC{b e:Type}{a:b}{ρ:List Sl}{f:b->List Sl->Res e}:(Res.ok a ρ).bind f=f a ρ:=rfl
@[simp]theorem Xl{a b:Type}{f:a->List Sl->Res b}:(Res.stuck:Res a).bind f=.stuck:=rfl
@[simp]theorem Z2{b:Type}{a:b}{ρ:List Sl}:lift (aj a) ρ=.ok a ρ:=rfl
@[simp]theorem aaz{a:Type}{ρ:List Sl}:lift (bx:Option a) ρ=.stuck:=rfl
noncomputable def Hg:List Sl->Nat->Sl->List Sl|[],_,_=>[]|t::ρ,0,s=>eV t (aj s)::ρ|t::ρ,k+1,s=>t::Hg ρ k s
theorem sJ{k:Nat}{s:Sl}:Hg [] k s=[]:=rfl
theorem tL{t:Sl}{ρ:List Sl}{s:Sl}:Hg (t::ρ) 0 s=eV t (aj s)::ρ:=rfl
theorem rQ{t:Sl}{ρ:List Sl}{k:Nat}{s:Sl}:Hg (t::ρ) (k+1) s=t::Hg ρ k s:=rfl
noncomputable def bk:List Arg->List Sl->List Sl->List Sl|.dD k::as,s::ss,ρ=>bk as ss (Hg ρ k s)|.dat _::as,_::ss,ρ=>bk as ss ρ|.tmp _::as,_::ss,ρ=>bk as ss ρ|_,_,ρ=>ρ
section
variable{t s:Sl}{ρ ss:List Sl}{k:Nat}{as:List Arg}{d:D}{ds:List D}
@[simp]theorem ahy:Hg (t::ρ) 0 s=eV t (aj s)::ρ:=rfl
@[simp]theorem ahm:Hg (t::ρ) (k+1) s=t::Hg ρ k s:=rfl
@[simp]theorem Wu:bk (.dD k::as) (s::ss) ρ=bk as ss (Hg ρ k s):=rfl
@[simp]theorem Us:bk (.dat d::as) (s::ss) ρ=bk as ss ρ:=rfl
@[simp]theorem V9:bk (.tmp ds::as) (s::ss) ρ=bk as ss ρ:=rfl
@[simp]theorem afE:bk [] ss ρ=ρ:=rfl
end
theorem BW{s:Sl}:∀{ρ:List Sl}{k j:Nat},(Hg ρ k s)[j]?=(ρ[j]?).map λt=>if j=k then eV t (aj s)else t|[],_,_=>by simp[sJ,tL,rQ]|t::ρ,0,0=>by simp[sJ,tL,rQ]|t::ρ,0,j+1=>by simp[sJ,tL,rQ]|t::ρ,k+1,0=>by simp[sJ,tL,rQ]|t::ρ,k+1,j+1=>by have:=BW (s:=s) (ρ:=ρ) (k:=k) (j:=j);simp only[sJ,tL,rQ,kA,this];congr 1;funext t;simp
theorem yJ{as:List Arg}{ss:List Sl}:∀{ρ:List Sl}{i j:Nat},(fG as ss i ρ)[j]?=(ρ[j]?).map λt=>eV t (bh (i+j) as ss)|[],_,_=>by simp[rW,lW]|t::ρ,i,0=>by simp[rW,lW]|t::ρ,i,j+1=>by have:=yJ (as:=as) (ss:=ss) (ρ:=ρ) (i:=i+1) (j:=j);simp only[rW,lW,kA,this];rw[show i+1+j=i+(j+1)by omega]
noncomputable def stb(t:Sl):Prop:=∀x,eV t x=t
noncomputable def SN(ρ:List Sl):List Arg->Prop|[]=>True|.dD k::as=>(Arg.dD k∈as->∀t,ρ[k]?=aj t->stb t)/\SN ρ as|_::as=>SN ρ as
theorem qy{ρ:List Sl}:∀{as:List Arg}{a:List Sl},SN ρ as->(∀k,Arg.dD k∈as->∀t,a[k]?=aj t->ρ[k]?=aj t\/stb t)->SN a as
 |[],_,_,_=>trivial|.dD k::as,a,h,g=>⟨λf t ht=>by
  rcases g k (by simp) t ht with e|e;.exact h.1 f t e
  .exact e,qy h.2 λj b=>g j (by simp[b])⟩|.dat _::as,a,h,g=>qy (as:=as) h λj b=>g j (by simp[b])|.tmp _::as,a,h,g=>qy (as:=as) h λj b=>g j (by simp[b])
theorem ou{k:Nat}:∀{as:List Arg}{ss:List Sl},Arg.dD k∉as->bh k as ss=bx|[],_,_=>by unfold bh;rfl|.dD j::as,[],_=>rfl|.dat _::as,[],_=>rfl|.tmp _::as,[],_=>rfl|.dD j::as,s::ss,h=>by simp only[de,Arg.dD.injEq,not_or]at h;rw[bh,if_neg (λe=>h.1 e.symm),ou h.2]|.dat _::as,s::ss,h=>by simp only[de,not_or]at h;rw[bh,ou h.2]|.tmp _::as,s::ss,h=>by simp only[de,not_or]at h;rw[bh,ou h.2]
theorem Dk:∀{as:List Arg}{ss ρ:List Sl},SN ρ as->∀j,(bk as ss ρ)[j]?=(ρ[j]?).map λt=>eV t (bh j as ss)
 |[],ss,ρ,_,j=>by cases ss<;>simp[bh]|.dD k::as,[],ρ,_,j=>by rw[show bk (.dD k::as) [] ρ=ρ from rfl];simp[bh]|.dat d::as,[],ρ,_,j=>by rw[show bk (.dat d::as) [] ρ=ρ from rfl];simp[bh]|.tmp d::as,[],ρ,_,j=>by rw[show bk (.tmp d::as) [] ρ=ρ from rfl];simp[bh]|.dat _::as,s::ss,ρ,h,j=>by rw[Us,bh];exact Dk (as:=as) h j|.tmp _::as,s::ss,ρ,h,j=>by rw[V9,bh];exact Dk (as:=as) h j|.dD k::as,s::ss,ρ,h,j=>by
   have b:SN (Hg ρ k s) as:=qy h.2 λi hi t ht=>by rw[BW]at ht;cases e:ρ[i]?with|none=>rw[e]at ht;cases ht|some t0=>
      rw[e]at ht;by_cases c:i=k;.subst c;have hs:=h.1 hi t0 e;simp[hs (aj s)]at ht;exact .inl (by rw[ht])
      .simp[c]at ht;exact .inl (by rw[ht])
   rw[Wu,Dk b j,BW,bh];cases e:ρ[j]?with|none=>rfl|some t0=>
     simp only[kB];by_cases c:j=k
     . subst c;rw[if_pos rfl,if_pos rfl];by_cases a:Arg.dD j∈as;.have hs:=h.1 a t0 e;rw[hs (aj s),hs]
       .rw[ou a,Kv]
     .rw[if_neg c,if_neg (λz=>c z.symm)]
theorem gF{ρ:List Sl}{k:Nat}{b:Bool}{ds:List D}(e:ρ[k]?=aj (.own b ds)):∀{as:List Arg}{u:List Nat}{r:List Sl},k∈u->cC ρ as u=aj r->Arg.dD k∉as
 |[],_,_,_,_=>by simp|.dat _::as,u,r,a,h=>by simp only[Br,Bt,Ar,sZ,fx]at h;obtain⟨f,h,_⟩:=h;simp[gF e a h]|.tmp _::as,u,r,a,h=>by simp only[Br,Bt,Ar,sZ,fx]at h;obtain⟨f,h,_⟩:=h;simp[gF e a h]|.dD i::as,u,r,a,h=>by
   rw[sZ]at h;have hi:i≠k:=by rintro rfl;rw[e]at h;simp[a]at h
   have:Arg.dD k∉as:=by
    split at h;.obtain⟨f,h,_⟩:=fx.mp h;exact gF e a h
    . split at h;.cases h
      .obtain⟨f,h,_⟩:=fx.mp h;exact gF e (by simp[a]) h
    . split at h;.cases h
      .obtain⟨f,h,_⟩:=fx.mp h;exact gF e (by simp[a]) h
    .cases h
   simp[this];exact λz=>hi z.symm
theorem gD{ρ:List Sl}:∀{as:List Arg}{u:List Nat}{r:List Sl},cC ρ as u=aj r->SN ρ as
 |[],_,_,_=>trivial|.dat _::as,u,r,h=>by obtain⟨a,h,_⟩:=fx.mp h;exact gD (as:=as) h|.tmp _::as,u,r,h=>by obtain⟨a,h,_⟩:=fx.mp h;exact gD (as:=as) h|.dD i::as,u,r,h=>by
   rw[sZ]at h;split at h;.rename_i b d q;obtain⟨a,h,_⟩:=fx.mp h;exact⟨λ_ t ht=>by rw[q]at ht;cases ht;exact λx=>GF,gD h⟩
   . rename_i b ds q;split at h;.cases h
     .obtain⟨a,h,_⟩:=fx.mp h;exact⟨λe=>absurd e (gF q (by simp) h),gD h⟩
   . rename_i ds q;split at h;.cases h
     .obtain⟨a,h,_⟩:=fx.mp h;exact⟨λ_ t ht=>by rw[q]at ht;cases ht;exact λx=>Ba,gD h⟩
   .cases h
theorem ZL{as:List Arg}{ss r:List Sl}{u:List Nat}(h:cC ρ as u=aj r):fG as ss 0 ρ=bk as ss ρ:=by apply List.ext_getElem?;intro j;rw[yJ,Dk (gD h),n4]
@[simp]theorem XH{c:Call}{k:Nat}{as:List Arg}{ρ:List Sl}:ik c k as ρ=match cC ρ as []with|none=>.stuck|some args=>(c k args).bind λr a=>.ok r (bk as a ρ):=by unfold ik;cases e:cC ρ as []with|none=>rfl|some args=>simp only[<-ZL (r:=args) e];cases c k args<;>rfl
theorem bV{one:Bool}{a:P}(J:List Sl->Prop)(g:D->D){Q:List D->List Sl->Prop}(j:J ρ)(h:∀d,d∈ds->∀ρ,J ρ->∃b,cz ρ is one d=aj b/\(ev c a b).sat λr e=>g d=r.d/\J e)(k:∀ρ,J ρ->Q (ds.map g) ρ):(lN c is one bx a ds ρ).sat Q:=Bu J g j h k
theorem gC{one:Bool}{i t:P}(J:List Sl->Prop)(g:D->Option D){Q:List D->List Sl->Prop}(j:J ρ)(h:∀d,d∈ds->∀ρ,J ρ->∃a,cz ρ is one d=aj a/\(ev c t a).sat λr f=>∃b,r.d=.bl b/\if b=a_ then(ev c i f).sat λr l=>g d=aj r.d/\J l else g d=bx/\J f)(k:∀ρ,J ρ->Q (ds.filterMap g) ρ):(lN c is one (aj t) i ds ρ).sat Q:=lr J g j (λd hd ρ j=>by obtain⟨a,e,h1⟩:=h d hd ρ j;refine⟨a,e,?_⟩;rw[mO,iU,bB];refine h1.imp λr f⟨b,e,q⟩=>?_;rw[e];exact q) λρ j=>by simpa using k ρ j
theorem j7{c:Call}{n:Nat}{t:P}{body:List S}(J:Nat->List Sl->Prop){Q:Fl->List Sl->Prop}(h:∀m ρ,J m ρ->(ev c t ρ).sat λr a=>∃b,r.d=.bl b/\if b=a_ then(gh c n body a).sat (fQ (λf=>∃g,g<m/\J g f) Q)else Q .next a):∀{k m:Nat}{ρ:List Sl},m<k->J m ρ->(JM c n t body k ρ).sat Q|0,m,ρ,i,_=>absurd i (Nat.not_lt_zero _)|k+1,m,ρ,i,j=>by unfold JM;rw[JN,bB,iU,bB];refine(h m ρ j).imp λr a⟨b,e,q⟩=>?_;rw[e];show(if b=a_ then _ else _:Res Fl).sat Q;cases b with|false=>rw[if_neg (by simp)]at q;rw[if_neg (by simp)];exact q|true=>rw[if_pos rfl]at q;rw[if_pos rfl,bB];refine q.imp λfl f q=>?_;cases fl with|next=>obtain⟨g,l,o⟩:=q;exact j7 J h (eh l (Nat.lt_succ_iff.mp i)) o|cont=>obtain⟨g,l,o⟩:=q;exact j7 J h (eh l (Nat.lt_succ_iff.mp i)) o|brk=>exact q|ret v=>exact q
@[simp]theorem ag9:type_of%@_H.E1:=@_H.E1
@[simp]theorem ahB:type_of%@_H.E2:=@_H.E2
@[simp]theorem ahw:type_of%@_H.E3:=@_H.E3
@[simp]theorem ahe:type_of%@_H.E4:=@_H.E4
@[simp]theorem ahv:type_of%@_H.E5:=@_H.E5
@[simp]theorem ahD:type_of%@_H.E6:=@_H.E6
@[simp]theorem aho:type_of%@_H.E7:=@_H.E7
@[simp]theorem ahg:type_of%@_H.E8:=@_H.E8
@[simp]theorem aeb:type_of%@_H.E9:=@_H.E9
@[simp]theorem afF:type_of%@_H.E10:=@_H.E10
@[simp]theorem aer:type_of%@_H.E11:=@_H.E11
@[simp]theorem afd:type_of%@_H.E12:=@_H.E12
@[simp]theorem afv:type_of%@_H.E13:=@_H.E13
@[simp]theorem aei:type_of%@_H.E14:=@_H.E14
@[simp]theorem aea:type_of%@_H.E15:=@_H.E15
@[simp]theorem adO:type_of%@_H.E16:=@_H.E16
@[simp]theorem afG:type_of%@_H.E17:=@_H.E17
@[simp]theorem acL:type_of%@_H.ZK:=@_H.ZK
@[simp]theorem ae8:type_of%@_H.E18:=@_H.E18
@[simp]theorem afy:type_of%@_H.E19:=@_H.E19
@[simp]theorem afp:type_of%@_H.E20:=@_H.E20
@[simp]theorem afj:type_of%@_H.E21:=@_H.E21
@[simp]theorem afi:type_of%@_H.E22:=@_H.E22
@[simp]theorem ahh:type_of%@_H.X1:=@_H.X1
@[simp]theorem ahc:type_of%@_H.X2:=@_H.X2
@[simp]theorem ahE:type_of%@_H.X3:=@_H.X3
@[simp]theorem ahd:type_of%@_H.X4:=@_H.X4
@[simp]theorem ahb:type_of%@_H.X5:=@_H.X5
@[simp]theorem aht:type_of%@_H.X6:=@_H.X6
@[simp]theorem ahH:type_of%@_H.X7:=@_H.X7
@[simp]theorem ahp:type_of%@_H.X8:=@_H.X8
@[simp]theorem afW:type_of%@_H.X9:=@_H.X9
@[simp]theorem adV:type_of%@_H.X10:=@_H.X10
@[simp]theorem afT:type_of%@_H.X11:=@_H.X11
@[simp]theorem adY:type_of%@_H.X12:=@_H.X12
@[simp]theorem afR:type_of%@_H.X13:=@_H.X13
@[simp]theorem ae7:type_of%@_H.iU.eq_1:=@_H.iU.eq_1
@[simp]theorem aeW:type_of%@_H.evs.eq_1:=@_H.evs.eq_1
@[simp]theorem afc:type_of%@_H.evs.eq_2:=@_H.evs.eq_2
@[simp]theorem afS:type_of%@_H.uy.eq_1:=@_H.uy.eq_1
@[simp]theorem af7:type_of%@_H.uy.eq_2:=@_H.uy.eq_2
@[simp]theorem afX:type_of%@_H.mO.eq_1:=@_H.mO.eq_1
@[simp]theorem afq:type_of%@_H.mO.eq_2:=@_H.mO.eq_2
@[simp]theorem afg:type_of%@_H.qL.eq_1:=@_H.qL.eq_1
@[simp]theorem aaC:type_of%@_H.cC.eq_1:=@_H.cC.eq_1
@[simp]theorem Y9:type_of%@_H.cC.eq_2:=@_H.cC.eq_2
@[simp]theorem Z5:type_of%@_H.cC.eq_3:=@_H.cC.eq_3
@[simp]theorem Zo:type_of%@_H.cC.eq_4:=@_H.cC.eq_4
@[simp]theorem Zr:type_of%@_H.fG.eq_1:=@_H.fG.eq_1
@[simp]theorem aab:type_of%@_H.fG.eq_2:=@_H.fG.eq_2
@[simp]theorem Y0:type_of%@_H.bh.eq_1:=@_H.bh.eq_1
@[simp]theorem ZP:type_of%@_H.bh.eq_2:=@_H.bh.eq_2
@[simp]theorem aav:type_of%@_H.bh.eq_3:=@_H.bh.eq_3
@[simp]theorem aaJ:type_of%@_H.bh.eq_4:=@_H.bh.eq_4
end _H
namespace _H
open PySem _L Spec PyProof.Rows
variable{H:Hp}
section
variable{X:Cx}{c:Call}{a b:df}{pa pb:P}{pos:Pos}
theorem nR:∀{ds:List D}{ns:List Int},ds.mapM gq=aj ns->ds=ns.map D.int|[],ns,h=>by simp at h;subst h;rfl|d::ds,ns,h=>by simp[mapM_cons,Option.bind_eq_some_iff]at h;obtain⟨i,e,g,f,rfl⟩:=h;rw[dh e,nR f];rfl
theorem iQ{K:PySem.W.Frag}{F:Hp}:∀{ns:List Int}{ys:List V},aG K F ys (ns.map D.int)->ys=ns.map V.int|[],ys,h=>by rw[h.dR];rfl|n::ns,ys,h=>by obtain⟨v,r,rfl,h1,t⟩:=h.cG;rw[Rep]at h1;rw[h1,iQ t];rfl
theorem mR{ns:List Int}{f:List b_}(h:Vals (ns.map V.int) f){i:Nat}{v:b_}(e:f.toArray[i]?=aj v):∃t,v=.int (ns.getD i 0) t:=by
 have e:f[i]?=aj v:=by simpa using e
 have hi:i<f.length:=(eY e).1;have k:=h.length;rw[dQ]at k;have g:(ns.map V.int)[i]?=aj (.int (ns.getD i 0)):=by rw[eM,eF (by omega)];simp[iq,show i<ns.length by omega]
 obtain⟨w,j,l⟩:=h.get g;rw[e]at j;cases j;exact l
theorem walked{h:List (cw×Obj)}{σ:_L.St}{s:cr}{p:cw}{ys:List V}(I:_L.Inv X h σ H s)(hc:X.calm=a_)(hq:dJ X.K H p ys\/iB X.K H p ys){Q:b_->cr->Prop}{E:b_->cr->Prop}(k:∀(it:cw)(g:List b_)(e:cr)(St:Nat->eP->Prop),Vals ys g->Walks X.prog X.w X.A.in1 it [it,p] [it] g.toArray.size (λi v=>g.toArray[i]?=aj v) St->St 0 e.heap->(∀ b ∈[it,p],b<e.heap.objs.size)->(∀h' m,(∀b o,b∉[it]->e.heap.get? b=aj o->h'.get? b=aj o)->_L.Inv X h σ H {e with heap:=h',toks:=m})->Q (.ref it) e):cN (c_ X.prog X.w) X.A.in1 (p5 (.ref p)) Q E s:=by
 have r:X.A.in1.handled=bx:=I.ok.hd hc;rcases hq with hq|hq
 . obtain⟨g,n,f,hz⟩:=I.list hq;have f:=f.isList;have j:p<s.heap.objs.size:=by obtain⟨o,h1,_⟩:=f;exact dL h1
   refine ml f (k s.heap.objs.size g _ _ n (Walks.list r s.heap.objs.size p (ej j) g.toArray) ⟨⟨_,dA _ rfl,rfl,rfl⟩,?_⟩ ?_ λh' m kp=>?_);.obtain⟨o,h1,q⟩:=f;exact⟨o,gU h1,q⟩
   . intro b l;obtain⟨o,h1,_⟩:=f;simp at l;rcases l with rfl|rfl;.exact dL (dA _ rfl)
     .exact dL (gU h1)
   .exact I.kept (λb o z=>kp b o (by simp;exact ej (dL z)) (gU z))
 . obtain⟨g,n,f,hz⟩:=I.tuple hq;have j:p<s.heap.objs.size:=by obtain⟨o,h1,_⟩:=f;exact dL h1
   refine iN f (k s.heap.objs.size g _ _ n (Walks.tuple r s.heap.objs.size p (ej j) g.toArray) ⟨⟨_,dA _ rfl,rfl,rfl⟩,?_⟩ ?_ λh' m kp=>?_);.obtain⟨o,h1,q⟩:=f;exact⟨o,gU h1,q⟩
   . intro b l;obtain⟨o,h1,_⟩:=f;simp at l;rcases l with rfl|rfl;.exact dL (dA _ rfl)
     .exact dL (gU h1)
   .exact I.kept (λb o z=>kp b o (by simp;exact ej (dL z)) (gU z))
theorem pU(ns:List Int):∀k,k<=ns.length->preSum (λi=>ns.getD i 0) k=(ns.take k).sum|0,_=>by simp[preSum]|k+1,h=>by rw[preSum,pU ns k (by omega),List.take_succ,List.sum_append];simp[iq,show k<ns.length by omega]
theorem Z0(hc:X.calm=a_):eO X (.builtin "sum") (Nj X.K λx=>blt .sum [x]):=by
 rintro g s σ H xs h Q I r⟨x,n,F,d,o,sm,q,he,k⟩;obtain⟨ns,t,he⟩:=map_some (show((items d).bind λds=>ds.mapM gq).map _=aj o from he);subst he;obtain⟨ds,w,y⟩:=cA t;obtain⟨p,ys,rfl,z,j⟩:=q.items sm w;rw[nR y]at j;have A:=iQ j;subst n;obtain⟨u,rfl,B⟩:=r.one;cases B;refine call_sum_walkG (walked I hc z λit h l St m W h0 C kp=>?_);subst A;have f:h.toArray.size=ns.length:=by rw[cE,<-m.length,dQ]
 refine⟨it,_,_,_,_,St,λi=>ns.getD i 0,rfl,W,h0,C,λi v e=>mR m e,λh' E t' G=>?_⟩;rw[f,pU ns _ (dm),List.take_length];exact⟨.int _,H,kp h' E G,⟨t',rfl⟩,cJ.dg sm (bO _) k⟩
theorem J5{ns:List Int}{m:Int}(k:ns.min?=aj m):ns.getD (argBest (λi j=>decide (ns.getD i 0<ns.getD j 0)) (ns.length-1)) 0=m:=by
 have h:ns≠[]:=by rintro rfl;simp at k
 have r:0<ns.length:=oQ.mpr h;obtain⟨h1,n⟩:=argBest_lt (λi=>ns.getD i 0) (ns.length-1);have l:=oe.mp k;generalize argBest (λi j=>decide (ns.getD i 0<ns.getD j 0)) (ns.length-1)=j at*;have o:j<ns.length:=by omega
 have f:ns.getD j 0∈ns:=by simp[iq,o]
 obtain⟨q,p,e⟩:=oT l.1;have g:=n q (by omega);simp only[iq,eF p,getD_some]at g;rw[e]at g;have s:=l.2 _ f;have g:ns.getD j 0<=m:=g;omega
theorem J1{ns:List Int}{m:Int}(k:ns.max?=aj m):ns.getD (argBest (λi j=>decide (ns.getD i 0>ns.getD j 0)) (ns.length-1)) 0=m:=by
 have h:ns≠[]:=by rintro rfl;simp at k
 have r:0<ns.length:=oQ.mpr h;obtain⟨h1,n⟩:=argBest_gt (λi=>ns.getD i 0) (ns.length-1);have l:=og.mp k;generalize argBest (λi j=>decide (ns.getD i 0>ns.getD j 0)) (ns.length-1)=j at*;have o:j<ns.length:=by omega
 have f:ns.getD j 0∈ns:=by simp[iq,o]
 obtain⟨q,p,e⟩:=oT l.1;have g:=n q (by omega);simp only[iq,eF p,getD_some]at g;rw[e]at g;have s:=l.2 _ f;have g:m<=ns.getD j 0:=g;omega
theorem TV(hc:X.calm=a_):eO X (.builtin "min") (Nj X.K λx=>blt .Lf [x]):=by
 rintro j s σ H xs l Q I r⟨x,y,F,d,z,sm,A,he,k⟩;obtain⟨ns,B,he⟩:=cA (show((items d).bind λds=>ds.mapM gq).bind _=aj z from he);obtain⟨m,n,he⟩:=map_some he;subst he;obtain⟨ds,C,E⟩:=cA B;obtain⟨p,ys,rfl,G,o⟩:=A.items sm C;rw[nR E]at o;have J:=iQ o;subst y;obtain⟨u,rfl,L⟩:=r.one;cases L;refine call_min_walk (walked I hc G λit l q St h W h0 M kp=>?_);subst J;have f:l.toArray.size=ns.length:=by rw[cE,<-h.length,dQ]
 have g:0<ns.length:=by cases ns with|nil=>simp at n|cons _ _=>simp
 refine⟨it,_,_,_,_,St,_,rfl,W,h0,M,by rw[f];exact g,CmpOf.ints_lt (λi=>ns.getD i 0) (λi v e=>mR h e),λv h' N w O=>?_⟩;rw[f]at w;obtain⟨t,rfl⟩:=mR h w;rw[J5 n];exact⟨.int _,H,kp h' N O,⟨t,rfl⟩,cJ.dg sm (bO _) k⟩
theorem Ur(hc:X.calm=a_):eO X (.builtin "max") (Nj X.K λx=>blt .Lg [x]):=by
 rintro j s σ H xs l Q I r⟨x,y,F,d,z,sm,A,he,k⟩;obtain⟨ns,B,he⟩:=cA (show((items d).bind λds=>ds.mapM gq).bind _=aj z from he);obtain⟨m,n,he⟩:=map_some he;subst he;obtain⟨ds,C,E⟩:=cA B;obtain⟨p,ys,rfl,G,o⟩:=A.items sm C;rw[nR E]at o;have J:=iQ o;subst y;obtain⟨u,rfl,L⟩:=r.one;cases L;refine call_max_walk (walked I hc G λit l q St h W h0 M kp=>?_);subst J;have f:l.toArray.size=ns.length:=by rw[cE,<-h.length,dQ]
 have g:0<ns.length:=by cases ns with|nil=>simp at n|cons _ _=>simp
 refine⟨it,_,_,_,_,St,_,rfl,W,h0,M,by rw[f];exact g,CmpOf.ints_gt (λi=>ns.getD i 0) (λi v e=>mR h e),λv h' N w O=>?_⟩;rw[f]at w;obtain⟨t,rfl⟩:=mR h w;rw[J1 n];exact⟨.int _,H,kp h' N O,⟨t,rfl⟩,cJ.dg sm (bO _) k⟩
theorem boot_sum:fe "sum"=aj (.builtin "sum"):=by decide+kernel
theorem tV{x:Str}{e:Pos}(f:x="sum")(hc:X.calm=a_)(g:Gl X x)(i:X.mg x=bx)(j:SX X c a pa)(hs:cy [a] X.env=(aK,eB a X.env)::cy [] X.env:=by rfl):SX X c (.Call (.Name x e) [a] [] pos) (.blt .sum [pa]):=by subst f;exact pJ (λh=>fC (Z0 hc) g i boot_sum h (he:=hs)) j (λρ=>rfl) rfl hs
theorem O2{x:Str}{e:Pos}(f:x="min")(hc:X.calm=a_)(g:Gl X x)(i:X.mg x=bx)(j:SX X c a pa)(hs:cy [a] X.env=(aK,eB a X.env)::cy [] X.env:=by rfl):SX X c (.Call (.Name x e) [a] [] pos) (.blt .Lf [pa]):=by subst f;exact pJ (λh=>fC (TV hc) g i boot_min h (he:=hs)) j (λρ=>rfl) rfl hs
theorem Nv{x:Str}{e:Pos}(f:x="max")(hc:X.calm=a_)(g:Gl X x)(i:X.mg x=bx)(j:SX X c a pa)(hs:cy [a] X.env=(aK,eB a X.env)::cy [] X.env:=by rfl):SX X c (.Call (.Name x e) [a] [] pos) (.blt .Lg [pa]):=by subst f;exact pJ (λh=>fC (Ur hc) g i boot_max h (he:=hs)) j (λρ=>rfl) rfl hs
theorem Cj{K:PySem.W.Frag}{F H:Hp}{v:V}{d:D}(h:dq K F H v d)(f:flat d=a_):lJ v=a_:=by cases d with|non=>rw[h.non];rfl|bl _=>rw[h.bl];rfl|int _=>rw[h.int];rfl|str _=>rw[h.str];rfl|tup _=>cases f|lst _=>cases f|dM _=>cases f|dv _ _=>cases f
theorem ad9{K:PySem.W.Frag}{F H:Hp}{v u:V}{d e:D}(h:dq K F H v d)(h':dq K F H u e)(f:flat d=a_)(g:flat e=a_):Pb v u=lg d e:=by cases d with
 |tup _=>cases f|lst _=>cases f|dM _=>cases f|dv _ _=>cases f|non=>rw[h.non];cases e with|tup _=>cases g|lst _=>cases g|dM _=>cases g|dv _ _=>cases g|non=>rw[h'.non];rfl|bl _=>rw[h'.bl];rfl|int _=>rw[h'.int];rfl|str _=>rw[h'.str];rfl
 |bl _=>rw[h.bl];cases e with|tup _=>cases g|lst _=>cases g|dM _=>cases g|dv _ _=>cases g|non=>rw[h'.non];rfl|bl _=>rw[h'.bl];rfl|int _=>rw[h'.int];rfl|str _=>rw[h'.str];rfl
 |int _=>rw[h.int];cases e with|tup _=>cases g|lst _=>cases g|dM _=>cases g|dv _ _=>cases g|non=>rw[h'.non];rfl|bl _=>rw[h'.bl];rfl|int _=>rw[h'.int];rfl|str _=>rw[h'.str];rfl
 |str _=>rw[h.str];cases e with|tup _=>cases g|lst _=>cases g|dM _=>cases g|dv _ _=>cases g|non=>rw[h'.non];rfl|bl _=>rw[h'.bl];rfl|int _=>rw[h'.int];rfl|str _=>rw[h'.str];rfl
theorem Wj{K:PySem.W.Frag}{F H:Hp}{v:V}{d:D}(h:dq K F H v d)(f:flat d=a_):∀{ds:List D}{vs:List V},aG K F vs ds->ds.all flat=a_->vs.all lJ=a_/\inV v vs=ds.any λy=>lg y d|[],vs,r,_=>by rw[r.dR];exact⟨rfl,rfl⟩|e::ds,vs,r,g=>by obtain⟨w,ws,rfl,h1,t⟩:=r.cG;rw[kM,eW]at g;obtain⟨j,i⟩:=Wj h f t g.2;have q:dq K F H w e:=.inl h1;refine⟨by rw[kM,Cj q g.1,j];rfl,?_⟩;unfold inV at i ⊢;rw[jS,jS,i,ad9 q h g.1 f]
theorem CJ:fX X (d_ .In) (rD X.K (qL .inn)):=by rintro f s σ H x y v u Q I i j⟨F,d,e,r,sm,h,l,he,k⟩;obtain⟨t,m,n⟩:=map_some (show(zg aK d e).map _=aj r from he);subst n;obtain⟨ds,o,q⟩:=cA m;obtain⟨g,w⟩:=aZ q;rw[eW]at g;obtain⟨p,xs,rfl,z,A⟩:=l.items sm o;obtain⟨B,C⟩:=Wj h g.1 A g.2;subst w;refine Gv f s σ H x _ v u Q I i j ⟨p,xs,rfl,z,Cj h g.1,B,?_⟩;rw[C];exact cJ.dg sm (fu _) k
theorem uP:fX X (d_ .NotIn) (rD X.K (qL .zQ)):=by rintro f s σ H x y v u Q I i j⟨F,d,e,r,sm,h,l,he,k⟩;obtain⟨t,m,n⟩:=map_some (show(zg a_ d e).map _=aj r from he);subst n;obtain⟨ds,o,q⟩:=cA m;obtain⟨g,w⟩:=aZ q;rw[eW]at g;obtain⟨p,xs,rfl,z,A⟩:=l.items sm o;obtain⟨B,C⟩:=Wj h g.1 A g.2;subst w;refine xm f s σ H x _ v u Q I i j ⟨p,xs,rfl,z,Cj h g.1,B,?_⟩;rw[C];exact cJ.dg sm (fu _) k
end
end _H
namespace _H
open PySem
section
variable{i j:Int}{ds es:List D}{d:D}{b b':Bool}
@[simp]theorem abw:uB .shl=HS:=rfl
@[simp]theorem abD:uB .shr=JX:=rfl
@[simp]theorem ZV:uB .band=By:=rfl
@[simp]theorem XQ:HS (.int i) (.int j)=if 0<=j/\j<=1000/\i.natAbs<18446744073709551616 then aj (.val (.int (i*2^j.toNat)))else bx:=rfl
@[simp]theorem XX:JX (.int i) (.int j)=if 0<=j then aj (.val (.int (i/2^j.toNat)))else bx:=rfl
@[simp]theorem S7:By (.int i) (.int j)=aj (.val (.int (Builtin.bitAnd i j))):=rfl
@[simp]theorem Xd:pM (.lst ds) (.int i)=if 0<=i/\0<ds.length/\ds.length*i.toNat<=lim then aj (.own (cx i.toNat ds).flatten)else bx:=rfl
@[simp]theorem XM:pM (.tup ds) (.int i)=if 0<=i/\0<ds.length/\ds.length*i.toNat<=lim then aj (.val (.tup (cx i.toNat ds).flatten))else bx:=rfl
@[simp]theorem aeH:cm .isT (.bl b) (.bl a_)=aj b:=rfl
@[simp]theorem acv:cm .aa1 (.bl b) (.bl a_)=aj (!b):=rfl
@[simp]theorem acg:blt .sum [.lst ds]=(ds.mapM gq).map λns=>.val (.int ns.sum):=rfl
@[simp]theorem Zg:blt .Lf [.lst ds]=(ds.mapM gq).bind λns=>ns.min?.map λi=>.val (.int i):=rfl
@[simp]theorem Zz:blt .Lg [.lst ds]=(ds.mapM gq).bind λns=>ns.max?.map λi=>.val (.int i):=rfl
end
@[simp]theorem afJ:type_of%@_H.X15:=@_H.X15
@[simp]theorem adl:type_of%@_H.X16:=@_H.X16
@[simp]theorem ado:type_of%@_H.X17:=@_H.X17
theorem fB{ns:List Int}:(ns.map D.int).mapM gq=aj ns:=by induction ns with|nil=>rfl|cons n ns a=>simp[a]
@[simp]theorem Xz{ns:List Int}:ns.mapM (gq ∘ D.int)=aj ns:=by rw[<-fB (ns:=ns),List.mapM_map]
@[simp]theorem Y6{bs:List Bool}:bs.mapM (xW ∘ D.bl)=aj bs:=by induction bs with|nil=>rfl|cons b bs a=>simp[a]
theorem Fb{S:List Int}{i:Int}:((S.map D.int).any λy=>lg y (.int i))=S.contains i:=by induction S with|nil=>rfl|cons s S a=>rw[da,jS,List.contains_cons,a,pqi];rw[show(s==i)=(i==s)from Bool.eq_iff_iff.mpr ⟨λh=>by simp at h ⊢;exact h.symm,λh=>by simp at h ⊢;exact h.symm⟩]
theorem zK{S:List Int}:(S.map D.int).all flat=a_:=by rw[fH];intro d hd;obtain⟨i,_,rfl⟩:=cS.mp hd;rfl
theorem JQ{S:List Int}{i:Int}:cm .inn (.int i) (.tup (S.map D.int))=aj (S.contains i):=by show zg aK _ _=_;unfold zg;simp only[uJ,bind_some,zf,zK,nk,Fb];rfl
theorem o5{S:List Int}{i:Int}:cm .zQ (.int i) (.tup (S.map D.int))=aj (!S.contains i):=by show zg a_ _ _=_;unfold zg;simp only[uJ,bind_some,zf,zK,nk,Fb];rfl
theorem qw{n:Nat}{S:List Int}:jz (n+1) (.lst (S.map D.int))=a_:=by rw[bN,fH];intro d hd;obtain⟨i,_,rfl⟩:=cS.mp hd;cases n<;>rfl
theorem rA:∀{S T:List Int},lD (S.map D.int) (T.map D.int)=(S==T)|[],[]=>by simp[mz,jd,qW,tU]|[],_::_=>by simp[mz,jd,qW,tU]|_::_,[]=>by simp[mz,jd,qW,tU]|s::S,t::T=>by rw[da,da,jd,rA,pqi];rfl
theorem abE{S T:List Int}:cm .eq (.lst (S.map D.int)) (.lst (T.map D.int))=aj (S==T):=by show J6 _ _=_;unfold J6;rw[qw,qw,pql,rA];rfl
theorem EY{S T:List Int}:cm .ne (.lst (S.map D.int)) (.lst (T.map D.int))=aj (!(S==T)):=by show Ks _ _=_;unfold Ks;rw[qw,qw,pql,rA];rfl
theorem Dd{a:Type}{l:List a}{x:a}:at' (l++[x]) (-1)=aj x:=by
 unfold at' ir;rw[if_neg (by decide),if_pos (by simp only[ek,im];omega)];have:(-1+((l++[x]).length:Int)).toNat=l.length:=by simp only[ek,im];omega
 rw[this];simp
theorem jg{a:Type}{l:List a}{f:a->D}{k:Nat}{x:a}(h:l[k]?=aj x):at' (l.map f) (k:Int)=aj (f x):=by have b:=(eY h).1;rw[Hw (by simpa using b),eM,h];rfl
theorem Jt{n k:Nat}(h:k<n):ir n (k:Int)=aj k:=by unfold ir;rw[if_pos (by omega),if_pos (by omega)];simp
theorem j8{is:List Nat}{one:Bool}{body:List Sl->Res Fl}{g:Nat->D}{N:Nat}(J:Nat->List Sl->Prop){Q:Fl->List Sl->Prop}(c:∀i ρ,i<N->J i ρ->∃a,cz ρ is one (g i)=aj a/\(body a).sat (fQ (J (i+1)) Q))(f:∀ρ,J N ρ->Q .next ρ){ρ:List Sl}(h0:J 0 ρ):(fV is one body ((dr N).map g) ρ).sat Q:=by
 refine cP (λr ρ=>∃i,i<=N/\r=((dr N).map g).drop i/\J i ρ) ?_ ?_ ⟨0,um,rfl,h0⟩
 . rintro d r ρ⟨i,hi,e,j⟩;have b:i<N:=by
    rcases n9 i N with h|h;.exact h
    .rw[kG (by simpa using h)]at e;cases e
   rw[fE (by simpa using b)]at e;injection e with e1 e2;simp at e1;subst e1;obtain⟨a,h1,k⟩:=c i ρ b j;refine⟨a,h1,k.imp λfl l q=>?_⟩;cases fl with|next=>exact⟨i+1,b,e2,q⟩|cont=>exact⟨i+1,b,e2,q⟩|brk=>exact q|ret v=>exact q
 . rintro ρ⟨i,hi,e,j⟩;have:i=N:=by have m:=congrArg kR e;simp at m;omega
   subst this;exact f ρ j
theorem GQ{c:Call}{is:List Nat}{one:Bool}{l:P}{t:Option P}(J:List Sl->Prop)(P:D->Prop){Q:List D->List Sl->Prop}{ds:List D}{ρ:List Sl}(j:J ρ)(h:∀d,d∈ds->∀ρ,J ρ->∃a,cz ρ is one d=aj a/\(mO c t a).sat λb f=>if b=a_ then(ev c l f).sat λr i=>P r.d/\J i else J f)(k:∀xs ρ,J ρ->xs.length<=ds.length->(∀x∈xs,P x)->Q xs ρ):(lN c is one t l ds ρ).sat Q:=by suffices hh:∀(ds:List D)(g:List D)(ρ:List Sl),J ρ->(∀x∈g,P x)->(∀d,d∈ds->∀ρ,J ρ->∃a,cz ρ is one d=aj a/\(mO c t a).sat λb f=>if b=a_ then(ev c l f).sat λr i=>P r.d/\J i else J f)->(turns is one (mO c t) (ev c l) ds g ρ).sat λxs ρ=>J ρ/\(∀x∈xs,P x)/\xs.length<=g.length+ds.length from(hh ds [] ρ j (by simp) h).imp λxs ρ⟨n,q2,q3⟩=>k xs ρ n (by simpa using q3) q2;intro ds;induction ds with|nil=>intro g ρ j o _;rw[xK];exact⟨j,o,by simp⟩|cons d r s=>
   intro g ρ j o h;obtain⟨a,e,h1⟩:=h d (by simp) ρ j;rw[qY,e];show((mO c t a).bind _).sat _;rw[bB];refine h1.imp λb f q=>?_
   cases b with|true=>
     rw[if_pos rfl]at q;rw[if_pos rfl,bB];refine q.imp λx i⟨p,j3⟩=>?_;refine(s (g++[x.d]) i j3 (λy hy=>?_) λd' m=>h d' (by simp[m])).imp λxs ρ⟨n,q2,q3⟩=>⟨n,q2,by simp at q3 ⊢;omega⟩;rcases fk.mp hy with hy|hy;.exact o y hy
     .rw[dU.mp hy];exact p|false=>rw[if_neg (by simp)]at q;rw[if_neg (by simp)];exact(s g f q o λd' m=>h d' (by simp[m])).imp λxs ρ⟨n,q2,q3⟩=>⟨n,q2,by simp at q3 ⊢;omega⟩
theorem uK{c:Call}{is:List Nat}{one:Bool}{f:P}(J:List Sl->Prop)(P:D->Prop){Q:List D->List Sl->Prop}{ds:List D}{ρ:List Sl}(j:J ρ)(h:∀d,d∈ds->∀ρ,J ρ->∃a,cz ρ is one d=aj a/\(ev c f a).sat λr g=>P r.d/\J g)(k:∀xs ρ,J ρ->xs.length=ds.length->(∀x∈xs,P x)->Q xs ρ):(lN c is one bx f ds ρ).sat Q:=by suffices hh:∀(ds:List D)(b:List D)(ρ:List Sl),J ρ->(∀x∈b,P x)->(∀d,d∈ds->∀ρ,J ρ->∃a,cz ρ is one d=aj a/\(ev c f a).sat λr g=>P r.d/\J g)->(turns is one (mO c bx) (ev c f) ds b ρ).sat λxs ρ=>J ρ/\(∀x∈xs,P x)/\xs.length=b.length+ds.length from(hh ds [] ρ j (by simp) h).imp λxs ρ⟨i,q2,q3⟩=>k xs ρ i (by simpa using q3) q2;intro ds;induction ds with|nil=>intro b ρ j l _;rw[xK];exact⟨j,l,by simp⟩|cons d r n=>
   intro b ρ j l h;obtain⟨a,e,h1⟩:=h d (by simp) ρ j;rw[qY,e];show((mO c bx a).bind _).sat _;rw[mO];show((ev c f a).bind _).sat _;rw[bB];refine h1.imp λx g⟨p,j3⟩=>?_;refine(n (b++[x.d]) g j3 (λy hy=>?_) λd' m=>h d' (by simp[m])).imp λxs ρ⟨i,q2,q3⟩=>⟨i,q2,by simp at q3 ⊢;omega⟩;rcases fk.mp hy with hy|hy;.exact l y hy
   .rw[dU.mp hy];exact p
inductive A3(a b c:Prop):Prop where|mk(ha:a)(hb:b)(hc:c)
inductive A4(a b c d:Prop):Prop where|mk(ha:a)(hb:b)(hc:c)(hd:d)
inductive A5(a b c d e:Prop):Prop where|mk(ha:a)(hb:b)(hc:c)(hd:d)(he:e)
inductive A6(a b c d e f:Prop):Prop where|mk(ha:a)(hb:b)(hc:c)(hd:d)(he:e)(hf:f)
inductive A7(a b c d e f g:Prop):Prop where|mk(ha:a)(hb:b)(hc:c)(hd:d)(he:e)(hf:f)(hg:g)
inductive A8(a b c d e f g h:Prop):Prop where|mk(ha:a)(hb:b)(hc:c)(hd:d)(he:e)(hf:f)(hg:g)(hh:h)
inductive A9(a b c d e f g h i:Prop):Prop where|mk(ha:a)(hb:b)(hc:c)(hd:d)(he:e)(hf:f)(hg:g)(hh:h)(hi:i)
end _H
namespace _H
open PySem _L Spec PyProof.Rows
section
variable{X:Cx}{c:Call}{n:Nat}{e a b d tg:df}{p pa pb pd:P}{pos:Pos}
theorem qN{n:Nat}{k:Int}{j:Nat}(h:_H.ir n k=aj j):mS k n=aj j/\j<n/\-(n:Int)<=k/\k<n:=by
 unfold _H.ir at h;unfold mS;by_cases h0:0<=k;.rw[if_pos h0]at h;obtain⟨h1,f⟩:=aZ h;subst f;refine⟨?_,by omega,by omega,h1⟩;simp only[show ¬ k<0 by omega,if_false];rw[if_pos (by simp;omega)]
 .rw[if_neg h0]at h;obtain⟨h1,f⟩:=aZ h;subst f;refine⟨?_,by omega,h1,by omega⟩;simp only[show k<0 by omega,if_true];rw[if_pos (by simp;omega)]
theorem aG.eraseIdx{K:PySem.W.Frag}{F:Hp}:∀{ds:List D}{vs:List V}(i:Nat),aG K F vs ds->aG K F (vs.eraseIdx i) (ds.eraseIdx i)|[],_,_,h=>by rw[h.dR];exact .nil|_::_,_,0,h=>by obtain⟨w,r,rfl,h1,t⟩:=h.cG;exact t|_::_,_,i+1,h=>by obtain⟨w,r,rfl,h1,t⟩:=h.cG;exact .cons h1 (aG.eraseIdx i t)
theorem N6{x:Str}{k:Nat}{o h f:Pos}(E:X.N[k]?=aj x)(G:pX X.env.scope x)(he:SX X c e p)(l:(h.endLine==f.line)=a_:=by rfl)(hs:cy [e] X.env=(aK,eB e X.env)::cy [] X.env:=by rfl)(m:gS (.Name x o) "pop" X.env (eB (.Name x o) X.env)=eB (.Name x o) X.env:=by rfl)(r:((hX f (cy [e] X.env)).all (λx=>!x.1)&&(ln f (jx [] X.env)).all (λx=>x.1.isSome)&&decide ([e].length+([]:List iL).length+(if([]:List iL).isEmpty then 0 else 1)<30))=a_:=by rfl)(u:fT (.Call (.Attribute (.Name x o) "pop" h) [e] [] f) bx pos.line X.env=fm aK:=by rfl)(hd:(x==("__debug__":Str))=aK:=by decide)(v:(x==("__classdict__":Str))=aK:=by decide):SS X c n (.Expr (.Call (.Attribute (.Name x o) "pop" h) [e] [] f) pos) (.Qi k p):=by
 obtain⟨ti,w,z⟩:=he.cu;refine du (qK (yu plainAttrs_list PySem.F.slot_list_pop PySem.F.type_list_pop J0 (cU E G hd v) (bf w cV hs) m r l hs) u) ?_;rintro D σ H⟨F,ρ,fl,I,g,e,J⟩;rw[_H.X15]at e;obtain⟨d0,L,t,e⟩:=aa e;have M:=az t;clear t;obtain⟨t,O⟩:=M;subst O;obtain⟨dk,Q,U,e⟩:=aa e;obtain⟨a,xs,h1,W⟩:=qC g t;refine⟨.ref a,h1,.inl ⟨rfl,xs,W⟩,z g U λvi Y H2 s2 Z=>?_⟩;split at e
 . rename_i bb ds A q;split at e
   . rename_i j hj;split at e;.rename_i i;cases e;obtain⟨ad,ys,C,q2,q3,B⟩:=s2.gs.m7 k _ ds q rfl;rw[h1]at C;cases C;obtain⟨i1,i2,i3,i4⟩:=qN hj;have s:=B.length;obtain⟨y,hy,_⟩:=B.get (show ds[j]?=aj ds[j]by simp[i2]);have i:ds.length<=16777216:=i;refine⟨_,ys,A,j,y,rfl,by rw[Z.int],q2,by omega,by omega,by rw[s];exact i1,hy,J Y σ _ (s2.trans (s2.gs.mut q h1 (B.eraseIdx j)))⟩
     .cases e
   .cases e
 .cases e
end
end _H
namespace _U
open PySem Spec PyProof.Rows
section
variable{prog:dE}{w:eH}{A:fb}{E:b_->cr->Prop}{s:cr}
theorem yc{t sl:cw}{a:Array b_}{f g:b_}{lo hi:Option Int}{Q:b_->cr->Prop}(ht:pf s.heap t a)(hs:s.heap.IsSliceOf sl f g .none)(i:ls f lo)(j:ls g hi)(h1:dO a.size 0 lo=0)(k:dO a.size a.size hi=a.size)(h:Q (.ref t) s):cN (c_ prog w) A (kf (.ref t) (.ref sl)) Q E s:=by
 obtain⟨os,b,c,l⟩:=id hs;have m:s.TypeIs (.ref sl) "slice":=⟨os,b,c⟩;unfold kf;try with_reducible refine hQ ?_
 first|refine ce (cK ?_)|skip
 refine ce (wpAny_sequenceKey ht.typeIs (by decide) (ce (iS (name:=kH "__getitem__") ht.typeIs slot_tuple_getitem (i8 slot_tuple_getitem ht.typeIs entry_tuple_getitem ?_ (args_tuple_getitem _ _)))));show cN _ _ (tupleItemsOf (.ref t)>>=_) _ _ s;refine ce (tupleItemsOf_ ht (ce (kU m ?_)));rw[if_pos (by decide)];refine ce (iM hs i j ?_);have e:((((dO a.size 0 lo:Nat):Int)==0&&(1:Int)==1&&(dO a.size a.size hi-dO a.size 0 lo)==a.size)=a_):=by rw[h1,k];simp
 show cN _ _ (if(((dO a.size 0 lo:Nat):Int)==0&&(1:Int)==1&&(dO a.size a.size hi-dO a.size 0 lo)==a.size)=a_ then _ else _) _ _ s;rw[if_pos e];unfold Builtin.Tuple.tupleIsExact;refine ce (ce (kU ht.typeIs (cK ?_)));rw[if_pos (by decide)];exact ce (l9 (cK ⟨_,rfl,cK h⟩))
end
end _U
namespace _H
open PySem _L Spec PyProof.Rows
noncomputable def nst:df->Bool|.Starred _ _=>aK|_=>a_
theorem bA{e:df}{es:List df}{env:Env}(h:nst e=a_):cy (e::es) env=(aK,eB e env)::cy es env:=by cases e with|Starred a b=>cases h|_=>rw[cy];(intro e p z;cases z)
noncomputable def tG:List Int->List df->Option (List df)|[],es=>aj es|i::is,.Constant (.int j) _ _::es=>if i=j then tG is es else bx|_,_=>bx
theorem xF{X:_L.Cx}{c:Call}:∀(is:List Int){es a:List df}{b:List P},tG is es=aj a->SA X c a b->SA X c es (is.map (λi=>P.con (.int i))++b)|[],es,a,b,h,r=>by cases h;exact r|i::is,[],a,b,h,r=>by cases h|i::is,e::es,a,b,h,r=>by cases e with
   |Constant v k p=>cases v with
     |int j=>
       replace h:(if i=j then tG is es else bx)=aj a:=h;split at h;.rename_i f;subst f;exact Dz ak (xF is h r) (bA rfl)
       .cases h|_=>cases h
   |_=>cases h
theorem xG{n d:Nat}{o:Option Int}:_U.dO n d o=_H.dO n d o:=by cases o with|none=>rfl|some v=>
   show(if v<0 then(v+(n:Int)).toNat else min v.toNat n)=(if 0<=v then min v.toNat n else(v+n).toNat);by_cases h:0<=v;.rw[if_pos h,if_neg (by omega)]
   .rw[if_neg h,if_pos (by omega)]
theorem Ky{xs:List V}{lo hi:Option Int}:yd xs lo hi=_H.cut xs lo hi:=by unfold yd _H.cut;rw[xG,xG]
theorem aG.cut{K:PySem.W.Frag}{F:Hp}{ds:List D}{vs:List V}{lo hi:Option Int}(h:aG K F vs ds):aG K F (_H.cut vs lo hi) (_H.cut ds lo hi):=by unfold _H.cut;rw[h.length];exact(h.drop _).take _
section
variable{X:Cx}{c:Call}{n:Nat}{e a b:df}{p pa pb pl ph:P}{pos p2:Pos}{lo hi:Option df}
noncomputable def adP(K:PySem.W.Frag):V->Option Int->Option Int->Hp->VK->Prop:=λx lo hi H Q=>∃F d r,aN F H/\dq K F H x d/\Ms d (aj lo) (aj hi)=aj r/\∀v g f,Ext F H g f->cJ K g f H v r->Q v f
theorem ZJ:SlR X (adP X.K):=by
 rintro f s σ H x v t u lo hi sl Q I l hs pl m⟨F,d,r,sm,w,he,k⟩;cases d with|lst ds=>cases he;obtain⟨a,xs,rfl,j,h⟩:=w.lst sm;refine O4 f s σ H _ v t u lo hi sl Q I l hs pl m ⟨a,xs,rfl,j,λp o=>?_⟩;rw[Ky];exact Aj sm h.cut o k|tup ds=>
   cases he;obtain⟨a,xs,rfl,j,h,rt⟩:=w.tup sm;by_cases i:_U.dO xs.length 0 lo=0/\_U.dO xs.length xs.length hi=xs.length
   . cases l;obtain⟨q,y,ht,hz⟩:=I.tuple j;have g:q.toArray.size=xs.length:=by rw[cE];exact y.length.symm
     refine⟨"tuple",_,slot_tuple_getitem.lookup,ht.typeIs,_U.yc ht hs pl m (by rw[g];exact i.1) (by rw[g];exact i.2) ⟨.ref a,H,I,rfl,?_⟩⟩;have hc:_H.cut ds lo hi=ds:=by unfold _H.cut;rw[<-h.length,<-xG,<-xG,i.1,i.2];simp[h.length]
     rw[hc]at k;exact cJ.dg sm rt k
   .refine Vs f s σ H _ v t u lo hi sl Q I l hs pl m ⟨a,xs,rfl,j,i,λp o=>?_⟩;rw[Ky];exact Af sm h.cut o k|_=>cases he
noncomputable def SO(X:Cx)(c:Call)(o:Option df)(p:P):Prop:=∃t,PO X o t/\∀{σ:_L.St}{H F:Hp}{ρ f:List Sl}{d:D}{i:Option Int}{Q:Option Int->Hp->Prop},GS X.K F ρ σ H->cu (isVar p) (_H.ev c p) ρ=.ok d f->part p d=aj i->(∀h g,aB X.K F ρ σ H h f σ g->Q i g)->t σ H Q
theorem wZ:SO X c bx (.con .non):=by refine⟨_,Ph,λ{σ H F ρ f d i Q}g e h k=>?_⟩;cases(show aj bx=aj i from h);have j:(_H.ev c (.con .non) ρ).bind (λr ρ=>.ok r.d ρ)=.ok d f:=e;clear e;rw[_H.E2]at j;cases j;exact k F H (.refl g)
theorem vV(h:SX X c e p)(l:aaB p=aK:=by rfl):SO X c (aj e) p:=by obtain⟨t,h1,m⟩:=h.cu;refine⟨_,M3 h1,λ{σ H F ρ o d i Q}g e f k=>?_⟩;unfold part at f;rw[l,if_neg (by decide)]at f;obtain⟨j,q,r⟩:=map_some f;cases dh q;subst r;exact m g e λv u w s x=>⟨j,x.int,k u w s⟩
theorem xZ{d:D}{x y:Option (Option Int)}{r:R}(h:Ms d x y=aj r):∃lo hi,x=aj lo/\y=aj hi:=by cases x with|none=>cases d<;>cases h|some lo=>cases y with|none=>cases d<;>cases h|some hi=>exact⟨lo,hi,rfl,rfl⟩
theorem tZ(ha:SX X c a pa)(hl:SO X c lo pl)(hh:SO X c hi ph):SX X c (.Subscript a (.Slice lo hi bx p2) pos) (.slice pa pl ph):=by obtain⟨tl,l1,l2⟩:=hl;obtain⟨th,h1,h2⟩:=hh;cases hv:isVar pa with|none=>refine⟨dN (zJ ZJ ha.ev l1 h1) ?_,λi h=>by cases h⟩;rintro σ H Q⟨F,ρ,r,B,g,e,k⟩;rw[_H.E14,hv]at e;obtain⟨x,C,f,j⟩:=aa e;clear e;have l:(_H.ev c pa ρ).bind (λr ρ=>.ok r.d ρ)=.ok x C:=f;clear f;obtain⟨rx,ac,e1,E⟩:=aa l;clear l;cases E;obtain⟨y,G,I,m⟩:=aa j;clear j;obtain⟨z,J,L,o⟩:=aa m;clear m;obtain⟨e,M⟩:=az o;clear o;subst M;obtain⟨N,O,q,s⟩:=xZ e;rw[q,s]at e;refine⟨F,ρ,rx,_,g,e1,λv F1 H1 s1 rr=>?_⟩;obtain⟨F2,s2,_,rp⟩:=s1.dC rr;refine l2 s2.gs I q λF3 H3 s3=>h2 s3.gs L s λU H4 s4=>?_;have s5:=s2.trans (s3.trans s4);refine⟨U,_,r,s4.gs.sub,.inl ((rp.mono s3.cL).mono s4.cL),e,λv W Y x Z=>?_⟩;exact k v W Y (s5.trans (x.stp s5.gs)) (.later s5 (Z.qm s5.gs))|some i=>refine⟨dN (zJ ZJ (ha.var i hv) l1 h1) ?_,λi h=>by cases h⟩;rintro σ H Q⟨F,ρ,r,B,g,e,k⟩;rw[_H.E14,hv]at e;obtain⟨x0,ae,t,j⟩:=aa e;clear e;obtain⟨E,oG⟩:=az t;clear t;subst oG;obtain⟨y,G,I,m⟩:=aa j;clear j;obtain⟨z,J,L,o⟩:=aa m;clear m;obtain⟨x,af,u,ed⟩:=aa o;clear o;obtain⟨e5,e6⟩:=az u;clear u;subst e6;obtain⟨e,M⟩:=az ed;clear ed;subst M;obtain⟨N,O,q,s⟩:=xZ e;rw[q,s]at e;obtain⟨v,w,_⟩:=g.pk E;refine⟨v,w,l2 g I q λF3 H3 s3=>h2 s3.gs L s λU H4 s4=>?_⟩;have s5:=s3.trans s4;obtain⟨v',A,pv⟩:=s5.gs.pk e5;rw[w]at A;cases A;refine⟨U,_,r,s4.gs.sub,pv,e,λv W Y x Z=>?_⟩;exact k v W Y (s5.trans (x.stp s5.gs)) (.later s5 (Z.qm s5.gs))
theorem Wr{i:Nat}{x:Str}{t:Pos}{op:lp}{sub:Bool}(ho:Q3 X op (Xx λi j=>if sub then i-j else i+j))(w:X.N.Nodup)(hi:X.N[i]?=aj x)(y:Loc X.env.scope x)(he:SX X c e p)(z:X.fn x=a_\/X.env.scope.names.lookup x=aj .local:=by first|(left;rfl)|(right;rfl)|assumption):SS X c n (.AugAssign (.Name x t) op e pos) (.aug i sub p):=by
 obtain⟨te,h1,A⟩:=he.cu;refine du (Vj w hi y h1 ho z) ?_;rintro D σ H⟨F,ρ,fl,B,g,e,k⟩;rw[_H.X16]at e;obtain⟨a0,C,f,s⟩:=aa e;clear e;obtain⟨E,G⟩:=az f;clear f;subst G;obtain⟨b0,I,J,o⟩:=aa s;clear s;obtain⟨v,q,L⟩:=g.pk E;refine⟨v,q,A g J λu F1 M s1 O=>?_⟩;split at o;.rename_i h l;obtain⟨Q,U,m,W⟩:=aa o;clear o;cases W;obtain⟨Y,e3⟩:=az m;clear m;have Z:Rep X.K F1 (.int (if sub then h-l else h+l)) (.int (if sub then h-l else h+l)):=bO _;exact⟨h,l,L.int,O.int,k F1 _ M (aB.put (r:=.val (.int _)) s1 Z Y)⟩
 .cases o
theorem Oq:Q3 X .Add (Xx λi j=>if aK then i-j else i+j):=V7
theorem Mv:Q3 X .Sub (Xx λi j=>if a_ then i-j else i+j):=Wn
end
end _H
namespace _L
open PySem Spec PyProof.Rows
section
variable{X:Cx}{tg:df}
theorem yj:fe "tuple"=aj (.type "tuple"):=by decide+kernel
theorem rH:fe "reversed"=aj (.type "reversed"):=by decide+kernel
end
end _L
namespace _H
open PySem _L Spec PyProof.Rows
section
variable{K:PySem.W.Frag}{F F1 H H1:Hp}{ρ ρ1:List Sl}{σ:_L.St}{ds:List D}{a:cw}
theorem aG.rev:∀{ds:List D}{xs:List V},aG K F xs ds->aG K F xs.reverse ds.reverse|[],_,h=>by rw[h.dR];exact .nil|d::ds,_,h=>by obtain⟨v,r,rfl,h1,b⟩:=h.cG;rw[ms,ms];exact(aG.rev b).append (.cons h1 .nil)
end
end _H
namespace PySem
namespace F
theorem Iw:nL (.type "list_reverseiterator") "__len__"=fm bx:=by rw[typeLookup_type,qh];kernel_rfl
theorem M8:nL (.type "list_reverseiterator") "__length_hint__"=fm (aj (.builtin "list_reverseiterator.__length_hint__")):=by rw[typeLookup_type,qh];kernel_rfl
end F
section
variable{prog:dE}{w:eH}{A:fb}{E:b_->cr->Prop}{s:cr}
theorem qi{it l:cw}{items:Array b_}{Q:Bool->cr->Prop}(e:s.heap.IsRevIter it l ((items.size:Int)-1))(m:s.heap.IsList l items)(i:items.size<=2^24)(h:∀b j,s.toks<=j->Q b {s with toks:=j}):cN (c_ prog w) A (listLengthHint (.ref it)) Q E s:=by
 have f:=e.typeIs;unfold listLengthHint;refine ce (nl f F.Iw ?_);show cN _ _ (specialOf (eg it) (kH "__length_hint__")>>=_) _ _ _;refine ce (nl f F.M8 ?_);generalize a:("list_reverseiterator.__length_hint__":String)=c;(fail_if_success(clear a c));wp_delta;rw[show splitId c=aj ("list_reverseiterator","__length_hint__")from by subst a;decide+kernel];subst a;refine ce (wpAny_isInstance (b:=a_) f (by rw[isSubtype_type];kernel_rfl) ?_);rw[if_neg (by decide)];dsimp only;split;.refine wpAny_ite_split (λg=>absurd g (by decide+kernel)) (λ_=>?_);exact cK (h _ s.toks (dm))
 .rename_i k;exact absurd (by decide+kernel) k
theorem nT{R:Result->cr->Prop}{I l:cw}{items:Array b_}(O:A.handled=bx)(j:s.heap.IsRevIter I l ((items.size:Int)-1))(C:s.heap.IsList l items)(G:l≠I)(t:items.size<=2^24)(S:cw)(m:S≠I)(u:S≠l)(res:b_)(k:Nat)(H:s.heap.get? S=aj {cls:=.type "list",data:=.seq #[] k})(Q:∀ h' x a r,(∀ b o,b ≠ S->b ≠ I->s.heap.get? b=aj o->h'.get? b=aj o)->h'.get? S=aj {cls:=.type "list",dict:=bx,data:=.seq a r,slots:=#[]}->ItemsOf (λi v=>items[items.size-1-i]?=aj v) a items.size->R (.ok (.ret res)) {s with heap:=h',toks:=x}):cN (c_ prog w) A.in1 (lh (.ref S) (.ref I) res) (λfin n=>match fin with|.done f=>R (.ok f) n|.again r=>r.quiet=a_/\k4 (c_ prog w) A r R n) (λe n=>R (.error e) n) s:=by
 have J:S∉[I,l]:=λhm=>by
  rcases de.mp hm with e|hm;.exact m e
  .exact u (dU.mp hm)
 have W:=(Walks.listRev (prog:=prog) (w:=w) (A:=A.in1) O I l G items).toS;have U:s.TypeIs (.ref I) "list_reverseiterator":=j.typeIs;have key:∀(h:eP)(c x:Nat),h.IsRevIter I l ((items.size:Int)-1-((0:Nat):Int))->h.IsList l items->(∀b o,b≠S->s.heap.get? b=aj o->h.get? b=aj o)->h.get? S=aj {cls:=.type "list",data:=.seq #[] c}->k4 (c_ prog w) A (.builtin "list.extend.loop" ⟨[.ref S,.ref I,res],[]⟩) R {s with heap:=h,toks:=x}:=by
  intro h c x hi L X p;refine codeAny_extend_loopS W (by rw[fi];omega) S J res items.size 0 _ #[] c rfl (um) ⟨um,hi,L⟩ p (ItemsOf.nil _) λn a r hm M y=>?_;rw[Moved.eq_with hm];refine Q n.heap n.toks a r (λb o z N e=>hm.heap b o (λhmem=>?_) (X b o z e)) M y;rcases de.mp hmem with Y|hmem;.exact z Y
  .exact N (dU.mp hmem)
 unfold lh;refine ce (kU U ?_);have h1:listSameRef (.ref S) (.ref I)=aK:=by simp[listSameRef,m]
 have Z:(fR "list_reverseiterator"==fR "list")=aK:=by decide
 have h3:(fR "list_reverseiterator"==fR "tuple")=aK:=by decide
 simp only[h1,Z,h3,Bool.or_false,iA,if_false];refine ce (wpAny_pyIter_revIter j ?_);refine ce (hQ (qi j C t λbb x ac=>?_));have B:s.heap.IsRevIter I l ((items.size:Int)-1-((0:Nat):Int)):=by simpa using j
 refine wpAny_ite_split (λ_=>?_) (λ_=>cK ⟨l7 F.plain_extend_loop _,key _ k _ B C (λb o _ e=>e) H⟩);refine ce (l9 ?_);refine ce ?_;show cN _ _ (updateSeq S (·.push .none)>>=λ_=>updateSeq S (·.pop)) _ _ _;refine ce (wpAny_updateSeq H rfl ?_);have g:=iX (gf (·.push eN)) H rfl;refine wpAny_updateSeq (hz:=by seq_fits) g rfl ?_;have q:=iX (gf (·.pop)) g rfl;have oth:∀b o,b≠S->s.heap.get? b=aj o->((s.heap.update S (gf (·.push eN))).update S (gf (·.pop))).get? b=aj o:=λb o z e=>(hY _ _ (gu z)).trans ((hY _ _ (gu z)).trans e);exact cK ⟨l7 F.plain_extend_loop _,key _ _ _ (B.at λo e=>oth I o (gu m) e) (C.at λo e=>oth l o (gu u) e) oth q⟩
end
end PySem
namespace _H
open PySem
theorem n8:∀a b:List Int,bI a b=a_->bI b a=aK
 |[],[],h=>by simp[bI]at h|[],_::_,_=>by simp[bI]|_::_,[],h=>by simp[bI]at h|x::a,y::b,h=>by
   simp only[bI,md,decide_eq_true_eq,eW]at h;simp only[bI,kT,decide_eq_false_iff_not,kL];rcases h with h|⟨h,h'⟩;.exact⟨by omega,.inl (by omega)⟩
   .exact⟨by omega,.inr (n8 a b h')⟩
theorem Bg:∀a b c:List Int,bI b a=aK->bI c b=aK->bI c a=aK
 |[],_,c,_,_=>by cases c<;>simp[bI]|_::_,[],_,h,_=>by simp[bI]at h|_::_,_::_,[],_,h=>by simp[bI]at h|x::a,y::b,z::c,h1,f=>by
   simp only[bI,kT,decide_eq_false_iff_not,kL]at h1 f ⊢;refine⟨by omega,?_⟩;by_cases e:z=x;.right;exact Bg a b c (h1.2.resolve_left (by omega)) (f.2.resolve_left (by omega))
   .exact .inl e
theorem yZ:∀a b:List Int,bI a b=aK->bI b a=aK->a=b
 |[],[],_,_=>rfl|[],_::_,h,_=>by simp[bI]at h|_::_,[],_,h=>by simp[bI]at h|x::a,y::b,h1,c=>by
   simp only[bI,kT,decide_eq_false_iff_not,kL]at h1 c;have e:x=y:=by omega
   subst e;rw[yZ a b (h1.2.resolve_left (by simp)) (c.2.resolve_left (by simp))]
theorem yh:∀{xs ys:List D},xs.all fL=a_->ys.all fL=a_->xs.map mZ=ys.map mZ->xs=ys
 |[],[],_,_,_=>rfl|[],_::_,_,_,h=>by simp at h|_::_,[],_,_,h=>by simp at h|x::xs,y::ys,h1,a,h=>by
   simp only[kM,eW]at h1 a;simp only[da,List.cons.injEq]at h;obtain⟨i,rfl⟩:∃i,x=.int i:=by cases x<;>first|exact⟨_,rfl⟩|(have q:=h1.1;simp[fL]at q;done)
   obtain⟨j,rfl⟩:∃j,y=.int j:=by cases y<;>first|exact⟨_,rfl⟩|(have q:=a.1;simp[fL]at q;done)
   rw[yh h1.2 a.2 h.2,show i=j from h.1]
theorem Eo{x y:D}(h:(fL x=a_/\fL y=a_)\/(zE x=a_/\zE y=a_))(e:dj x=dj y):x=y:=by
 rcases h with⟨h1,a⟩|⟨h1,a⟩
 . cases x<;>first|(simp[fL]at h1;done)|skip
   cases y<;>first|(simp[fL]at a;done)|skip
   simpa[dj]using e
 . cases x<;>first|(simp[zE]at h1;done)|skip
   cases y<;>first|(simp[zE]at a;done)|skip
   rename_i xs ys;cases xs<;>first|(simp[zE]at h1;done)|skip
   cases ys<;>first|(simp[zE]at a;done)|skip
   rw[yh h1 a e]
noncomputable def nu(a b:D):Bool:=!bI (dj b) (dj a)
theorem zj(ds:List D):(Ra ds).Perm ds:=List.mergeSort_perm ..
theorem N7(a b c:D)(h1:nu a b=a_)(e:nu b c=a_):nu a c=a_:=by simp only[nu,mu]at*;exact Bg _ _ _ h1 e
theorem Jo(a b:D):(nu a b||nu b a)=a_:=by simp only[nu,md,mu];cases h:bI (dj b) (dj a)with|false=>exact .inl rfl|true=>exact .inr (n8 _ _ h)
theorem Bd(ds:List D):(Ra ds).Pairwise λa b=>nu a b=a_:=List.pairwise_mergeSort N7 Jo ds
theorem xx{ds:List D}(h:sortable ds=a_):∀x∈ds,∀y∈ds,dj x=dj y->x=y:=by
 simp only[sortable,eW,md,fH]at h;intro x a y b e;rcases h.2 with h|h;.exact Eo (.inl ⟨h x a,h y b⟩) e
 .exact Eo (.inr ⟨h x a,h y b⟩) e
theorem qX{ds l:List D}(h:sortable ds=a_)(p:l.Perm ds)(s:l.Pairwise λa b=>nu a b=a_):l=Ra ds:=by refine List.Perm.eq_of_pairwise (le:=λa b=>nu a b=a_) (λa b e f h1 c=>?_) s (Bd ds) (p.trans (zj ds).symm);simp only[nu,mu]at h1 c;exact xx h a (p.mem_iff.mp e) b ((zj ds).mem_iff.mp f) (yZ _ _ c h1)
end _H
namespace _H
open PySem PyProof.Rows
variable{xs:Array gl}{i:Nat}
structure Rk(M:rd)(A:fb)(E:b_->cr->Prop)(s:cr)(κ:i7)(ok:gl->Prop)(K:gl->Int):Prop where lt:∀{x y:gl}{Q:Option Bool->iP->Prop}{st:iP},ok x->ok y->kindOf st=κ->Q (aj (decide (K x<K y))) st->wpS M A E s (lt' x y) Q st
section
variable{M:rd}{A:fb}{E:b_->cr->Prop}{s:cr}{κ:i7}{ok:gl->Prop}{K:gl->Int}
noncomputable def it(xs:Array gl)(i:Nat):gl:=xs.getD i (eN,eN)
theorem Nh(h:i<xs.size):xs[i]?=aj (it xs i):=by unfold it;simp[mG,h]
theorem KD(h:i<xs.size):it xs i∈xs.toList:=by
 have:it xs i=xs[i]:=by unfold it;simp[mG,h]
 rw[this];simp
theorem Dn{Q:gl->iP->Prop}{st:iP}(h:i<xs.size)(q:Q (it xs i) st):wpS M A E s (elem' xs i) Q st:=by rw[elem'_eq,Nh h];exact ku q
end
section
variable{K:gl->Int}
noncomputable def Seg(K:gl->Int)(xs:Array gl)(lo hi:Nat):Prop:=∀i j,lo<=i->i<=j->j<hi->K (it xs i)<=K (it xs j)
theorem M4:it xs i=xs.toList.getD i (eN,eN):=by
 unfold it;by_cases h:i<xs.size;.simp[mG,h]
 .simp[mG,h]
end
section
variable{M:rd}{A:fb}{E:b_->cr->Prop}{s:cr}{κ:i7}{ok:gl->Prop}{K:gl->Int}
structure Sx(κ:i7)(ok:gl->Prop)(st:iP)(xs:Array gl)(st':iP):Prop where
 kind:kindOf st'=κ
 arr:rc st'=xs
 pend:ki st'=ki st
 fail:qV st'=bx
 ok:∀x∈xs.toList,ok x
theorem Qd(R:Rk M A E s κ ok K){st a:iP}{j:Nat}{Q:Option Bool->iP->Prop}(h:Sx κ ok st xs a)(hi:i<xs.size)(b:j<xs.size)(q:Q (aj (decide (K (it xs i)<K (it xs j)))) a):wpS M A E s (ltAt' i j) Q a:=by rw[ltAt'_eq];refine hE (pp ?_);show wpS M A E s (elem' (rc a) i>>=λx=>elem' (rc a) j>>=λy=>lt' x y) Q a;rw[h.arr];exact hE (Dn hi (hE (Dn b (R.lt (h.ok _ (KD hi)) (h.ok _ (KD b)) h.kind q))))
theorem V6(R:Rk M A E s κ ok K){st g:iP}{lo a n:Nat}{Q:Option (Option Nat)×Nat->iP->Prop}(h:Sx κ ok st xs g)(u:lo+n<=xs.size)(v:1<=a)(l:a<=n)(hs:Seg K xs lo (lo+a))(q:∀m,a<=m->m<=n->Seg K xs lo (lo+m)->(m=n\/K (it xs (lo+m))<K (it xs (lo+m-1)))->Q (bx,m) g):wpS M A E s (forIn [a:n] ((bx,a):Option (Option Nat)×Nat) λ_ c=>ltAt' (lo+c.2) (lo+c.2-1)>>=λo=>match o with|some b=>if b=a_ then fm (.done (bx,c.2))else fm (.yield (bx,c.2+1))|_=>fm (.done (aj bx,c.2))) Q g:=by
 refine pz (I:=λx c k=>k=g/\c=(bx,x)/\Seg K xs lo (lo+x)) ?_ ?_ ⟨rfl,rfl,hs⟩
 . rintro x c k h1 w⟨rfl,rfl,f⟩;try dsimp only
   refine hE (Qd R h (by omega) (by omega) ?_);by_cases c:K (it xs (lo+x))<K (it xs (lo+x-1))
   . rw[decide_eq_true c];try dsimp only
     rw[if_pos rfl];exact ku (q x h1 (by omega) f (.inr c))
   . rw[decide_eq_false c];try dsimp only
     rw[if_neg (by simp)];refine ku ⟨rfl,rfl,λi j p r y=>?_⟩;by_cases t:j<lo+x;.exact f i j p r t
     . have:j=lo+x:=by omega
       subst this;by_cases e:i=lo+x;.rw[e];exact fg _
       .have:=f i (lo+x-1) p (by omega) (by omega);omega
 .rintro c k⟨rfl,rfl,f⟩;rw[show max a n=n by omega]at f ⊢;exact q n l (dm) f (.inl rfl)
end
noncomputable abbrev Rn:=Nat×Nat×Nat
section
variable{K:gl->Int}{xs ys:Array gl}
noncomputable def Rns(K:gl->Int)(xs:Array gl):Nat->List Rn->Nat->Prop|a,[],b=>a=b|a,r::l,b=>r.1=a/\1<=r.2.1/\Seg K xs a (a+r.2.1)/\Rns K xs (a+r.2.1) l b
theorem wK:∀{l k:List Rn}{a b:Nat},Rns K xs a (l++k) b↔∃m,Rns K xs a l m/\Rns K xs m k b
 |[],k,a,b=>⟨λh=>⟨a,rfl,h⟩,λ⟨m,h1,c⟩=>by cases(show a=m from h1);exact c⟩|r::l,k,a,b=>by
   rw[kE];constructor;.rintro⟨h1,c,e,f⟩;obtain⟨m,g,j⟩:=wK.mp f;exact⟨m,⟨h1,c,e,g⟩,j⟩
   .rintro⟨m,⟨h1,c,e,f⟩,g⟩;exact⟨h1,c,e,wK.mpr ⟨m,f,g⟩⟩
end
section
variable{M:rd}{A:fb}{E:b_->cr->Prop}{s:cr}{κ:i7}{ok:gl->Prop}{K:gl->Int}
structure SR(κ:i7)(ok:gl->Prop)(K:gl->Int)(x0 ys:Array gl)(l:List Rn)(lo:Nat)(st:iP):Prop where
 kind:kindOf st=κ
 arr:rc st=ys
 fail:qV st=bx
 pend:(ki st).toList=l
 perm:ys.toList.Perm x0.toList
 ok:∀x∈ys.toList,ok x
 rns:Rns K ys 0 l lo
 le:lo<=ys.size
theorem SR.sx{x0 ys:Array gl}{l:List Rn}{lo:Nat}{st:iP}(h:SR κ ok K x0 ys l lo st):Sx κ ok st ys st:=⟨h.kind,h.arr,rfl,h.fail,h.ok⟩
end
end _H
namespace _H
open PySem W PyProof.Rows Calls _L Spec
theorem OD(a:List Int):bI a a=aK:=by cases h:bI a a with|false=>rfl|true=>rw[n8 _ _ h]at h;cases h
theorem K1{a b x:List Int}(h:bI b a=aK)(c:bI x a=a_):bI x b=a_:=by cases e:bI x b with|true=>rfl|false=>rw[Bg _ _ _ h e]at c;cases c
theorem vG{a:Type}{p q:a->Bool}(h:∀x,p x=a_->q x=a_):∀{l:List a},(∃x,x∈l/\q x=a_/\p x=aK)->l.countP p<l.countP q
 |[],⟨x,hx,_⟩=>by cases hx|y::l,⟨x,hx,h1,b⟩=>by
   rw[List.countP_cons,List.countP_cons];have m:=om (l:=l) (p:=p) (q:=q) λx _=>h x;rcases de.mp hx with rfl|hx;.rw[h1,b,if_pos rfl,if_neg (by simp)];omega
   .have:=vG h ⟨x,hx,h1,b⟩;cases hp:p y with|true=>rw[h y hp];omega|false=>rw[if_neg (by simp)];omega
noncomputable def Vk(ds:List D)(d:D):Nat:=ds.countP λe=>bI (dj e) (dj d)
theorem Jv{ds:List D}{d e:D}(hd:d∈ds):decide ((Vk ds d:Int)<Vk ds e)=bI (dj d) (dj e):=by cases h:bI (dj d) (dj e)with|true=>have:=vG (l:=ds) (p:=λx=>bI (dj x) (dj d)) (q:=λx=>bI (dj x) (dj e)) (λx a=>K1 (n8 _ _ h) a) ⟨d,hd,h,OD _⟩;rw[decide_eq_true_iff];unfold Vk;omega|false=>have:=om (l:=ds) (p:=λx=>bI (dj x) (dj e)) (q:=λx=>bI (dj x) (dj d)) λx _ a=>K1 h a;rw[decide_eq_false_iff_not];unfold Vk;omega
open Classical in
noncomputable def rkK(P:b_->D->Prop)(ds:List D)(x:gl):Int:=if h:∃d,d∈ds/\P x.1 d then(Vk ds h.choose:Int)else 0
theorem Di{P:b_->D->Prop}{ds:List D}{x:gl}{d:D}(fn:∀u d e,P u d->P u e->dj d=dj e)(hd:d∈ds)(a:P x.1 d):rkK P ds x=Vk ds d:=by have h:∃d,d∈ds/\P x.1 d:=⟨d,hd,a⟩;unfold rkK;rw[dif_pos h];unfold Vk;rw[fn _ _ _ h.choose_spec.2 a]
noncomputable def pick{a:Type}(d:a)(p:List Nat)(l:List a):List a:=p.map λi=>l.getD i d
theorem m5{a:Type}(d:a)(l:List a):pick d (dr l.length) l=l:=by refine ll (by simp[pick]) λi h1 b=>?_;simp[pick,b]
theorem tY{a:Type}{d:a}{p:List Nat}{l:List a}{n:Nat}(h:p.Perm (dr n)):(pick d p l).length=n:=by rw[pick,dQ,h.length_eq,k3]
theorem lu{P:b_->D->Prop}:∀{a:List b_}{ds:List D},Paired P a ds->∀i,i<a.length->P (a.getD i .none) (ds.getD i .non)/\ds.getD i .non∈ds|_,_,.cons r _,0,_=>⟨by simpa using r,by simp⟩|_,_,.cons _ t,i+1,hi=>by have:=lu t i (by simpa using hi);exact⟨by simpa using this.1,by simpa using eS this.2⟩
end _H
namespace _H
open PySem _L Spec PyProof.Rows Calls W
section
variable{prog:dE}{w:eH}{A:fb}{E:b_->cr->Prop}{s:cr}{vs:List b_}{κ:i7}{P:b_->D->Prop}{ds:List D}
theorem pN{b fin:Bool}{Q:Bool->cr->Prop}:∀{xs ys:List b_}{is js:List Int}{i:Nat},gI xs is->gI ys js->fin=decide (is.length<js.length)->Q (bI is js) s->KatLex prog w A b fin Q (xs.zip ys) i s
 |_,_,_,_,_,.nil,.nil,e,h=>by subst e;exact kat_nil (by simpa[bI]using h)|_,_,_,_,_,.nil,.cons _ _ _,e,h=>by subst e;exact kat_nil (by simpa[bI]using h)|_,_,_,_,_,.cons _ _ _,.nil,e,h=>by subst e;exact kat_nil (by simpa[bI]using h)|_,_,_,_,i,.cons (ns:=is) x t r,.cons (ns:=js) y u r',e,h=>by
   refine kat_cons (mP ?_);by_cases q:x=y;.subst q;rw[beq_self_eq_true];refine kat_yes (pN r r' (by rw[e];simp) ?_);simpa[bI]using h
   . rw[beq_eq_false_iff_ne.mpr q];refine kat_no ?_;have a:Q (decide (x<y)) s:=by simpa[bI,q]using h
     cases(b&&i==0)with|true=>exact oneLt_int a|false=>exact kat_one _ _ (wpAny_lt_int a)
noncomputable def p7(h:eP)(u:b_)(d:D):Prop:=∃a b is,u=.ref a/\pf h a (pT b)/\gI b is/\is≠[]/\dj d=is
theorem oU{h h':eP}(k:∀b o,h.get? b=aj o->h'.get? b=aj o){u:b_}{d:D}(t:p7 h u d):p7 h' u d:=by obtain⟨a,c,is,e,⟨o,h1,f⟩,g⟩:=t;exact⟨a,c,is,e,⟨o,k _ _ h1,f⟩,g⟩
theorem vK{h h':eP}(k:∀b o,h.get? b=aj o->h'.get? b=aj o):∀{a:List b_}{ds:List D},Paired (p7 h) a ds->Paired (p7 h') a ds|_,_,.nil=>.nil|_,_,.cons r t=>.cons (oU k r) (vK k t)
theorem pQ{h:eP}:∀{b:List b_}{ds:List D},Paired (p7 h) b ds->∃fs,KatTups h b fs/\fs.length=b.length/\∀f∈fs,∃n t,f=gb n t|_,_,.nil=>⟨[],trivial,rfl,by simp⟩|_,_,.cons r t=>by obtain⟨fs,h1,e,g⟩:=pQ t;obtain⟨a,i,is,rfl,⟨o,j,k,n,l⟩,hi,c,_⟩:=r;cases hi with|nil=>exact absurd rfl c|cons x m p=>
     refine⟨.int x m::fs,KatTups.cons j k l (by simp) h1,by simp[e],λf hf=>?_⟩;rcases de.mp hf with rfl|hf;.exact⟨_,_,rfl⟩
     .exact g f hf
theorem GJ{ds:List D}(t:Paired (p7 s.heap) vs ds)(e:2<=vs.length){C:i7->cr->Prop}(a:C (tuples' (fR "int"!=fR "tuple")) s):cN (c_ prog w) A (keyKind' vs.toArray) C E s:=by obtain⟨fs,h1,f,b⟩:=pQ t;refine kat_kind (T:=.type "int") h1 (by omega) (λv c=>?_) rfl a;obtain⟨n,t,rfl⟩:=b v c;exact Looks.now
theorem Pk{x y:b_}{d e:D}(h:p7 s.heap x d)(i:p7 s.heap y e){b:Bool}{C:Bool->cr->Prop}(c:C (bI (dj d) (dj e)) s):cN (c_ prog w) A (keyLt' (tuples' b) x y) C E s:=by obtain⟨a,j,is,rfl,⟨o,k,r,n,l⟩,hi,m,p⟩:=h;obtain⟨t,its',js,rfl,⟨u,p1,p2,v,p3⟩,f,g,q⟩:=i;refine kat_lt k l p1 p3 ?_;rw[p,q]at c;refine pN (is:=is) (js:=js) (by simpa using hi) (by simpa using f) ?_ c;rw[cE,cE,kK hi,kK f]
end
theorem Gz{xs:List V}{a:List b_}(h:Vals xs a)(i:Nat):RelV (xs.getD i .non) (a.getD i .none):=by
 have f:=h.length;by_cases hi:i<xs.length
 . obtain⟨u,e,r⟩:=h.get (i:=i) (x:=xs[i]) (eF hi);have b:xs.getD i .non=xs[i]:=by simp[hi]
   have c:a.getD i .none=u:=by simp[e]
   rw[b,c];exact r
 . have b:xs.getD i .non=.non:=by simp[mf hi]
   have c:a.getD i .none=.none:=by simp[show a.length<=i by omega]
   rw[b,c];rfl
theorem yR{f:Nat->V}{g:Nat->b_}(h:∀i,RelV (f i) (g i)):∀l:List Nat,Vals (l.map f) (l.map g)|[]=>.nil|i::l=>.cons (h i) (yR h l)
theorem Ka{p:List Nat}{xs:List V}{a:List b_}(h:Vals xs a):Vals (pick .non p xs) (pick .none p a):=yR (Gz h) _
theorem yq{K:PySem.W.Frag}{F:Hp}{f:Nat->V}{g:Nat->D}(h:∀i,Rep K F (f i) (g i)):∀l:List Nat,aG K F (l.map f) (l.map g)|[]=>.nil|i::l=>.cons (h i) (yq h l)
theorem Jc{K:PySem.W.Frag}{F:Hp}{p:List Nat}{xs:List V}{ds:List D}(h:aG K F xs ds):aG K F (pick .non p xs) (pick .non p ds):=yq (λi=>by
 have c:=h.length;by_cases hi:i<ds.length
 . obtain⟨u,e,r⟩:=h.get (i:=i) (d:=ds[i]) (eF hi);have a:ds.getD i .non=ds[i]:=by simp[hi]
   have b:xs.getD i .non=u:=by simp[e]
   rw[a,b];exact r
 . have a:ds.getD i .non=.non:=by simp[mf hi]
   have b:xs.getD i .non=.non:=by simp[show xs.length<=i by omega]
   rw[a,b,Rep]) _
theorem J2{a:List b_}:∀{ns b:List Int},gI a ns->gI a b->ns=b:=by induction a with|nil=>intro ns b h1 c;cases h1;cases c;rfl|cons u a e=>intro ns b h1 c;cases h1 with|cons n t r=>cases c with|cons m t' f=>rw[e r f]
theorem Ow{h:eP}(u:b_)(d e:D):p7 h u d->p7 h u e->dj d=dj e:=λ⟨a,f,is,h1,⟨o,g,r,n,i⟩,j,_,k⟩⟨b,l,js,c,⟨s,p1,p2,m,p3⟩,p,_,q⟩=>by rw[h1]at c;cases c;rw[g]at p1;cases p1;rw[i]at p3;cases p3;rw[k,q,J2 j p]
theorem all_ints:∀{ds:List D},ds.all fL=a_->ds=(ds.map mZ).map D.int
 |[],_=>rfl|d::ds,h=>by
   simp only[kM,eW]at h;cases d<;>first|(have q:=h.1;simp[fL]at q;done)|skip
   rw[da,da,<-all_ints h.2];rfl
theorem intsAre_of:∀{ns:List Int}{a:List b_},Vals (ns.map V.int) a->gI a ns|[],_,.nil=>.nil|n::ns,_,.cons r t=>by obtain⟨b,rfl⟩:=r;exact .cons n b (intsAre_of t)
section
variable{X:Cx}{c:Call}{a:df}{pa:P}{pos:Pos}
theorem boot_sorted:fe "sorted"=aj (.builtin "sorted"):=by decide+kernel
end
end _H
namespace _H
open PySem _L Spec PyProof.Rows Calls
theorem Bb(l b:cw)(items a:List b_)(n H:Nat)(I o:Option cw)(sl r:Array (Option b_))(is js:List Int)(hi:gI items is)(G:gI a js):rf (k6.«tuple.__lt__» ⟨[.ref l,.ref b],[]⟩) (λA R s=>s.heap.get? l=aj {cls:=.type "tuple",dict:=I,data:=.seq items.toArray n,slots:=sl}/\s.heap.get? b=aj {cls:=.type "tuple",dict:=o,data:=.seq a.toArray H,slots:=r}/\R (.ok (.ret (.bool (bI is js)))) s):=.of_wp λprog w A R s h=>by
  obtain⟨v,g,d,z,os⟩:=s;obtain⟨J,L,h⟩:=h;have f2:=AutoSeq1.sub_tuple_tuple;wp_walk using ga J,ga L,wpAny_forIn_list _ (λf b B=>b.1=bx/\B=⟨v,g,d,z,os⟩/\∃xs ys c j,f=xs.zip ys/\gI xs c/\gI ys j/\decide (items.length<a.length)=decide (c.length<j.length)/\R (.ok (.ret (.bool (bI c j)))) ⟨v,g,d,z,os⟩) _;case turn=>rintro⟨y,x⟩f b B⟨i,rfl,xs,ys,c,j,hz,h1,k,C,m⟩;cases h1 with|nil=>cases hz|cons p t h1=>cases k with|nil=>cases hz|cons q u k=>
       injection hz with hyx hrest;cases hyx;refine ce (mP ?_);by_cases e:p=q;.subst e;rw[beq_self_eq_true];wp_walk;exact⟨rfl,rfl,_,_,_,_,hrest,h1,k,by rw[C];simp,by simpa[bI]using m⟩
       . rw[beq_eq_false_iff_ne.mpr e];have E:R (.ok (.ret (.bool (decide (p<q))))) ⟨v,g,d,z,os⟩:=by simpa[bI,e]using m
         simp only[Bool.not_false,if_true];refine ce (l9 ?_);refine ce (show cN (c_ prog w) A.in1 (d_ .Lt (gb p t) (gb q u)) _ _ _ from wpAny_lt_int ?_);refine ce (cK ?_);exact cK (cK ⟨_,rfl,E⟩)
  case fin=>
   rintro⟨b1,b2⟩B⟨i,rfl,xs,ys,c,j,hz,h1,k,C,m⟩;simp only at i;subst i;have e:bI c j=decide (items.length<a.length):=by rw[C];cases h1 with|nil=>cases k<;>simp[bI]|cons _ _ _=>cases k with|nil=>simp[bI]|cons _ _ _=>cases hz
   rw[e]at m;wp_walk;exact⟨_,rfl,by simpa[Builtin.Tuple.tupleCompareSizes]using m⟩
  case h=>exact⟨rfl,rfl,items,a,is,js,by simp,hi,G,by rw[kK hi,kK G],h⟩
section
variable{X:Cx}
theorem Jm(hu:X.A.units+8<gc):fX X (d_ .Lt) (rD X.K (qL .lt)):=by rintro f s σ H x y v u Q I G J⟨F,d,e,r,sm,L,M,he,k⟩;obtain⟨t,c,q⟩:=map_some (show(Y5 d e).map _=aj r from he);subst q;cases d with
 |int i=>cases e with|int j=>exact Wl f s σ H x y v u Q I G J ⟨F,.int i,.int j,_,sm,L,M,by have q:Ma (λi j=>decide (i<j)) (.int i) (.int j)=aj t:=c;simp only[q];rfl,k⟩|_=>cases c
 |tup xs=>cases e with|tup ys=>obtain⟨hc,c⟩:=aZ (show(if(xs.all fL&&ys.all fL)=a_ then aj (bI (xs.map mZ) (ys.map mZ))else bx)=aj t from c);rw[eW]at hc;obtain⟨a,vs,rfl,h1,N,_⟩:=L.tup sm;obtain⟨b,ws,rfl,Y,O,_⟩:=M.tup sm;cases G;cases J;obtain⟨z,U,it,_⟩:=I.tuple h1;obtain⟨g,h,B,_⟩:=I.tuple Y;rw[all_ints hc.1]at N;rw[all_ints hc.2]at O;rw[iQ N]at U;rw[iQ O]at h;have Z:=intsAre_of U;have i2:=intsAre_of h;obtain⟨⟨cls,dd,data,sl⟩,ho,l,n,hd⟩:=it;obtain⟨⟨W,C,data2,E⟩,m,o,n2,p⟩:=B;simp only at l hd o p;subst l hd o p;refine(show cN (c_ X.prog X.w) X.A (richCompare .Lt (.ref a) (.ref b)) _ _ s from richCompare_meets_room (op:=.Lt) ⟨_,ho,rfl⟩ ⟨_,m,rfl⟩ PySem.F.slot_tuple_lt PySem.F.entry_tuple_lt (PySem.F.args_tuple_lt_2 _ _) (Bb a b z g n n2 dd C sl E _ _ Z i2) ⟨ho,m,show j_ _≠kN/\_ from⟨(λx=>nomatch x),⟨.bl t,H,I,by rw[<-c];rfl,cJ.dg sm (fu _) k⟩⟩⟩ (by omega))|_=>cases c
 |_=>cases c
end
end _H
namespace _L
open PySem Spec PyProof.Rows
variable{y:V}{w:eH}{H:Hp}{Q:b_->cr->Prop}{pos:Pos}{X:Cx}
section
variable{κ:Type}[DecidableEq κ]
noncomputable def jy(kvs:List (κ×V))(k:κ):Option V:=(kvs.find? λa=>decide (a.1=k)).map (·.2)
noncomputable def putK(kvs:List (κ×V))(k:κ)(v:V):List (κ×V):=if(kvs.any λa=>decide (a.1=k))=a_ then kvs.map (λa=>if a.1=k then(a.1,v)else a)else kvs++[(k,v)]
theorem m8{p:κ×V}{r:List (κ×V)}{k:κ}(e:p.1=k):jy (p::r) k=aj p.2:=by simp[jy,gy,e]
theorem mK{p:κ×V}{r:List (κ×V)}{k:κ}(e:¬ p.1=k):jy (p::r) k=jy r k:=by simp[jy,gy,e]
theorem sV(k:κ):∀kvs:List (κ×V),(kvs.any λa=>decide (a.1=k))=(jy kvs k).isSome
 |[]=>rfl|p::r=>by
   rw[jS];by_cases e:p.1=k;.simp only[m8 e,decide_eq_true e,Bool.true_or,Option.isSome_some]
   .rw[mK e,decide_eq_false e,Bool.false_or];exact sV k r
theorem j6(kvs:List (κ×V))(k:κ)(v:V):(putK kvs k v).length<=kvs.length+1:=by
 unfold putK;split;.rw[dQ];omega
 .rw[ek,ei,length_nil];omega
theorem p8.iD{o:Option V}{u:Option b_}(r:p8 o u):o.isSome=u.isSome:=by cases o with
 |none=>cases u with|none=>rfl|some _=>exact(show False from r).elim
 |some _=>cases u with|none=>exact(show False from r).elim|some _=>rfl
theorem p8.getD{o:Option V}{u:Option b_}{d:V}{d':b_}(r:p8 o u)(a:RelV d d'):RelV (o.getD d) (u.getD d'):=by cases o with
 |none=>cases u with|none=>exact a|some _=>exact(show False from r).elim
 |some _=>cases u with|none=>exact(show False from r).elim|some _=>exact r
theorem KV.val{kvs:List (κ×V)}{vs:List (κ×b_)}(r:KV kvs vs)(k:κ):p8 (jy kvs k) (mo vs k):=by unfold KV at r;induction r with|nil=>exact kF|@cons p q ps a h t f=>
   obtain⟨h1,g⟩:=h;by_cases e:p.1=k
   . have c:q.1=k:=h1.symm.trans e;have b:mo (q::a) k=aj q.2:=by simp[mo,gy,c]
     rw[m8 e,b];exact g
   . have c:¬ q.1=k:=λz=>e (h1.trans z);have b:mo (q::a) k=mo a k:=by simp[mo,gy,c]
     rw[mK e,b];exact f
theorem KV.any{kvs:List (κ×V)}{vs:List (κ×b_)}(r:KV kvs vs)(k:κ):(kvs.any λa=>decide (a.1=k))=vs.any λa=>decide (a.1=k):=by unfold KV at r;induction r with|nil=>rfl|cons h t b=>rw[jS,jS,b,h.1]
theorem KV.repl{kvs:List (κ×V)}{vs:List (κ×b_)}(r:KV kvs vs)(k:κ){u:b_}(b:RelV y u):KV (kvs.map λa=>if a.1=k then(a.1,y)else a) (vs.map λa=>if a.1=k then(a.1,u)else a):=by unfold KV at r ⊢;induction r with|nil=>exact .nil|@cons p q ps g h t c=>
   rw[da,da];refine .cons ?_ c;obtain⟨h1,f⟩:=h;by_cases e:p.1=k;.rw[if_pos e,if_pos (h1.symm.trans e)];exact⟨h1,b⟩
   .rw[if_neg e,if_neg (λz=>e (h1.trans z))];exact⟨h1,f⟩
theorem KV.put{kvs:List (κ×V)}{vs:List (κ×b_)}(r:KV kvs vs)(k:κ){u:b_}(a:RelV y u):KV (putK kvs k y) (stored vs k u):=by
 unfold putK stored;rw[r.any k];by_cases e:(vs.any λb=>decide (b.1=k))=a_;.rw[if_pos e,if_pos e];exact r.repl k a
 .rw[if_neg e,if_neg e];exact Paired.snoc r ⟨rfl,a⟩
theorem KV.length{kvs:List (κ×V)}{vs:List (κ×b_)}(r:KV kvs vs):kvs.length=vs.length:=Paired.length r
end
theorem qQ{P:dE}{k:Key}{u:b_}(r:RelV (kV k) u):(bz P w).is k u=a_:=by cases k with|inl i=>obtain⟨t,e⟩:=(show ∃t,u=gb i t from r);subst e;exact yI P w i t|inr x=>obtain⟨t,e⟩:=(show ∃t,u=Value.str x t from r);subst e;exact ye P w x t
theorem uV{P:dE}{w:eH}:∀{ks:List Key}{a:List b_},Vals (ks.map kV) a->ItemsAre (bz P w) ks a|[],_,r=>by rw[lz]at r;cases r;exact .nil|k::ks,_,r=>by rw[da]at r;cases r with|cons h t=>exact .cons (qQ h) (uV t)
noncomputable abbrev KT(H:Hp):List (List Key×V)->List (List Key×cw×b_)->Prop:=Paired λp q=>p.1=q.1/\H q.2.1=aj (.tup (p.1.map kV))/\RelV p.2 q.2.2
theorem KT.val{kvs:List (List Key×V)}{xs:List (List Key×cw×b_)}(r:KT H kvs xs)(k:List Key):p8 (jy kvs k) ((n3 xs k).map (·.2)):=by induction r with|nil=>exact kF|@cons p q ps a h t f=>
   obtain⟨h1,_,g⟩:=h;by_cases e:p.1=k
   . have c:q.1=k:=h1.symm.trans e;have b:n3 (q::a) k=aj q.2:=by simp[n3,gy,c]
     rw[m8 e,b];exact g
   . have c:¬ q.1=k:=λz=>e (h1.trans z);have b:n3 (q::a) k=n3 a k:=by simp[n3,gy,c]
     rw[mK e,b];exact f
theorem KT.repl{kvs:List (List Key×V)}{xs:List (List Key×cw×b_)}(r:KT H kvs xs)(k:List Key){u:b_}(c:RelV y u):KT H (kvs.map λa=>if a.1=k then(a.1,y)else a) (xs.map (putAt k u)):=by induction r with|nil=>exact .nil|@cons p q ps i h t f=>
   rw[da,da];refine .cons ?_ f;obtain⟨h1,b,g⟩:=h;unfold putAt;by_cases e:p.1=k;.rw[if_pos e,if_pos (h1.symm.trans e)];exact⟨h1,b,c⟩
   .rw[if_neg e,if_neg (λz=>e (h1.trans z))];exact⟨h1,b,g⟩
theorem KT.put{kvs:List (List Key×V)}{xs:List (List Key×cw×b_)}(r:KT H kvs xs)(k:List Key){b:cw}{u:b_}(c:H b=aj (.tup (k.map kV)))(a:RelV y u):KT H (putK kvs k y) (storedH xs k b u):=by
 have e:(kvs.any λf=>decide (f.1=k))=(n3 xs k).isSome:=by rw[sV,(r.val k).iD,isSome_map]
 unfold putK storedH;rw[e];by_cases q:(n3 xs k).isSome=a_;.rw[if_pos q,if_pos q];exact r.repl k a
 .rw[if_neg q,if_neg q];exact Paired.snoc r ⟨rfl,c,a⟩
theorem KT.keeps{a:Hp}{kvs:List (List Key×V)}{xs:List (List Key×cw×b_)}(r:KT H kvs xs)(ht:∀b ys,H b=aj (.tup ys)->a b=aj (.tup ys)):KT a kvs xs:=Paired.VB r λ_ _ z=>⟨z.1,ht _ _ z.2.1,z.2.2⟩
section
variable{P:dE}{w:eH}{H:Hp}{h:eP}{a:cw}
theorem Qp{u:HO}(ok:oH P w H h)(e:Rd H a u):bR P w H h a u:=e.ok ok
theorem rM{kvs:List (Key×V)}(ok:oH P w H h)(e:Rd H a (.dK kvs)):kvs.length<=sizeLine/\(a==gL)=aK/\∃vs,KV kvs vs/\h.DictOf (bz P w) a vs:=show bR P w H h a (.dK kvs)from Qp ok e
theorem Rj{kvs:List (Key×V)}(ok:oH P w H h)(e:H a=aj (.dK kvs)):kvs.length<=sizeLine/\(a==gL)=aK/\∃vs,KV kvs vs/\h.DictOf (bz P w) a vs:=rM ok (.inl e)
theorem pD{ks:List Key}(ok:oH P w H h)(e:H a=aj (.tup (ks.map kV))):(ly (bz P w)).is h ks a:=by obtain⟨_,b,r,o,h1,c,n,f⟩:=(show bR P w H h a (.tup (ks.map kV))from ok a _ e);exact⟨o,b.toArray,n,h1,c,f,by simpa using uV r⟩
theorem qU{kvs:List (List Key×V)}(ok:oH P w H h)(e:Rd H a (.dT kvs)):kvs.length<=sizeLine/\(a==gL)=aK/\∃xs,KT H kvs xs/\h.DictOfH (ly (bz P w)) a xs:=by
 obtain⟨z,y,xs,r,o,es,ep,h1,c,f,g,i⟩:=(show bR P w H h a (.dT kvs)from Qp ok e);refine⟨z,y,xs,r,o,es,ep,h1,c,f,g,λx hx=>?_,i⟩;have all:∀{l:List (List Key×V)}{m:List (List Key×cw×b_)},KT H l m->∀x∈m,(ly (bz P w)).is h x.1 x.2.1:=by intro l m q;induction q with|nil=>intro x hx;exact nomatch hx|@cons p q ps k b t j=>
    intro x hx;rcases de.mp hx with e|hx;.subst e;exact pD ok (by rw[<-b.1];exact b.2.1)
    .exact j x hx
 exact all r x hx
theorem Ej{kvs:List (List Key×V)}(ok:oH P w H h)(e:H a=aj (.dT kvs)):kvs.length<=sizeLine/\(a==gL)=aK/\∃xs,KT H kvs xs/\h.DictOfH (ly (bz P w)) a xs:=qU ok (.inl e)
end
noncomputable def o4(H:Hp)(a:cw)(y:V)(r:Option V):Prop:=(∃kvs k,Rd H a (.dK kvs)/\y=kV k/\r=jy kvs k)\/∃kvs k b,Rd H a (.dT kvs)/\y=.ref b/\H b=aj (.tup (k.map kV))/\r=jy kvs k
noncomputable def Z4(H:Hp)(a:cw)(y v:V)(c:Hp):Prop:=(∃kvs k,H a=aj (.dK kvs)/\y=kV k/\kvs.length<sizeLine/\c=upd H a (.dK (putK kvs k v)))\/∃kvs k b,H a=aj (.dT kvs)/\y=.ref b/\H b=aj (.tup (k.map kV))/\kvs.length<sizeLine/\c=upd H a (.dT (putK kvs k v))
section
variable{X:Cx}{pins:List (cw×Obj)}{σ:St}{H:Hp}{s:cr}{a:cw}{y v:V}{u r:b_}{o:Option V}{A:fb}{E:b_->cr->Prop}
theorem Inv.big(I:Inv X pins σ H s):gL<s.heap.objs.size:=by have h:dS<s.heap.objs.size:=(I.mod.glob.keeps I.bk).lt;exact n7 (by decide) h
theorem oJ(B:A.units+1<gc)(I:Inv X pins σ H s)(g:o4 H a y (aj v))(t:RelV y u)(h:∀f x,Inv X pins σ H x->RelV v f->Q f x):cN (c_ X.prog X.w) A (kf (.ref a) u) Q E s:=by
 rcases g with⟨kvs,k,e,i,l⟩|⟨kvs,k,b,e,i,C,l⟩;.subst i;obtain⟨z,hd,vs,c,j⟩:=rM I.hok e;obtain⟨f,m,n⟩:=p8.some_of (v:=v) (o:=mo vs k) (by rw[l];exact c.val k);exact wpAny_getItem_of (qQ t) j.mapOf m (h f _ (I.tok _) n)
 .subst i;cases(show u=eg b from t);obtain⟨z,hd,xs,c,j⟩:=qU I.hok e;obtain⟨f,m,n⟩:=p8.some_of (v:=v) (o:=(n3 xs k).map (·.2)) (by rw[l];exact c.val k);obtain⟨p,G,q⟩:=fx.mp m;refine wpAny_getItem_heap (iO B) (pD I.hok C) j G ?_;rw[q];exact h f _ (I.tok _) n
theorem aal(n:A.units+1<gc)(I:Inv X pins σ H s)(g:o4 H a y o)(j:RelV y u)(h:∀m,Inv X pins σ H m->Q (.bool o.isSome) m):cN (c_ X.prog X.w) A (d_ .In u (.ref a)) Q E s:=by
 rcases g with⟨kvs,k,e,f,l⟩|⟨kvs,k,b,e,f,p,l⟩;.subst f;obtain⟨z,hd,vs,c,i⟩:=rM I.hok e;refine wpAny_in_of (qQ j) hd i.mapOf ?_;rw[<-(c.val k).iD,<-l];exact h _ (I.tok _)
 .subst f;cases(show u=eg b from j);obtain⟨z,hd,xs,c,i⟩:=qU I.hok e;refine wpAny_in_heap (iO n) (pD I.hok p) hd i ?_;have q:=(c.val k).iD;rw[isSome_map]at q;rw[<-q,<-l];exact h _ (I.tok _)
theorem Eu(n:A.units+1<gc)(I:Inv X pins σ H s)(g:o4 H a y o)(j:RelV y u)(h:∀m,Inv X pins σ H m->Q (.bool (!o.isSome)) m):cN (c_ X.prog X.w) A (d_ .NotIn u (.ref a)) Q E s:=by
 rcases g with⟨kvs,k,e,f,l⟩|⟨kvs,k,b,e,f,p,l⟩;.subst f;obtain⟨z,hd,vs,c,i⟩:=rM I.hok e;refine wpAny_notIn_of (qQ j) hd i.mapOf ?_;rw[<-(c.val k).iD,<-l];exact h _ (I.tok _)
 .subst f;cases(show u=eg b from j);obtain⟨z,hd,xs,c,i⟩:=qU I.hok e;refine wpAny_notIn_heap (iO n) (pD I.hok p) hd i ?_;have q:=(c.val k).iD;rw[isSome_map]at q;rw[<-q,<-l];exact h _ (I.tok _)
theorem wC{h':eP}{t':Nat}{c:HO}(I:Inv X pins σ H s)(g:Mut (H a))(hs:SameBut a s.heap h')(he:∃q,h'.get? a=aj q)(f:bR X.prog X.w (upd H a c) h' a c):Inv X pins σ (upd H a c) {s with heap:=h',toks:=t'}:=I.write (x:=a) (e:=a) g (.inl rfl) (λb q h z=>(hs.2 b h).trans z) he f
theorem Jg{P:dE}{c:Hp}{h':eP}{kvs:List (Key×V)}{vs:List (Key×b_)}(z:kvs.length<=sizeLine)(hd:(a==gL)=aK)(b:KV kvs vs)(e:h'.DictOf (bz P w) a vs):bR P w c h' a (.dK kvs):=⟨z,hd,vs,b,e⟩
theorem Gf{x:Hp}{Q:Unit->cr->Prop}(M:A.units+1<gc)(I:Inv X pins σ H s)(g:Z4 H a y v x)(B:RelV y u)(C:RelV v r)(h:∀G,Inv X pins σ x G->Q () G):cN (c_ X.prog X.w) A (nv (.ref a) u r) Q E s:=by
 rcases g with⟨kvs,k,e,m,l,n⟩|⟨kvs,k,b,e,m,J,l,n⟩
 . subst m n;obtain⟨z,hd,vs,f,p⟩:=Rj I.hok e;have hz:vs.length<=sizeLine:=by rw[<-f.length];exact z
   have t:(putK kvs k v).length<=sizeLine:=by have:=j6 kvs k v;omega
   refine wpAny_setItem_pairs (hsz:=hz) (qQ B) p λh' i hs=>h _ ?_;have he:∃q,h'.get? a=aj q:=let⟨q,_,_,j,_⟩:=i;⟨q,j⟩;exact wC I (by rw[e];exact kF) hs he (Jg t hd (f.put k C) i)
 . subst m n;cases(show u=eg b from B);obtain⟨z,hd,xs,f,p⟩:=Ej I.hok e;have hz:xs.length<=sizeLine:=by rw[<-Paired.length f];exact z
   have t:(putK kvs k v).length<=sizeLine:=by have:=j6 kvs k v;omega
   refine wpAny_setItem_heap (hsz:=hz) (iO M) (pD I.hok J) p λh' i hs=>h _ ?_;obtain⟨q,es,ep,j,N,O,U,_,W⟩:=i;refine wC I (by rw[e];exact kF) hs ⟨q,j⟩ ⟨t,hd,_,(f.put k J C).keeps λc ys L=>?_,q,es,ep,j,N,O,U,W⟩;rw[aF (Zn L e (λz=>nomatch z))];exact L
end
noncomputable def Nf(i:df):Prop:=∀a iv,m4 i aK a iv=operate [a,iv] (kf a iv)
theorem Ef{prog:dE}{A:fb}{E:b_->cr->Prop}{s:cr}{env:Env}{a slice:df}{T id:String}(l:nL (.type T) "__getitem__"=fm (aj (.builtin id)))(hs:Nf slice)(h:cN (c_ prog w) A (eB a env) (λo e=>cN (c_ prog w) A (eB slice env) (λi b=>b.TypeIs o T/\cN (c_ prog w) A (kf o i) Q E b) E e) E s):cN (c_ prog w) A (eB (.Subscript a slice pos) env) Q E s:=by
 refine Subscript_ (ew h (λo e g=>ew g (λi b c=>?_) λ_ _ x=>x) λ_ _ x=>x);obtain⟨k,c⟩:=c;unfold oC;refine ce ?_;rw[getitemInPython_of_ne k.not_modules];refine ce (nl k l ?_);have fin:cN (c_ prog w) A (m4 slice aK o i) (λr f=>cN (c_ prog w) A (letTemporaryGo a o r>>=λ_=>fm r) Q E f) E b:=by rw[hs o i];exact wpAny_operating (ew c (λr f j=>ce (wpAny_letTemporaryGo (cK j))) λ_ _ x=>x)
 first|exact cK (ce fin)|exact ce (cK (ce fin))|exact ce fin
theorem jP{c:List (cw×Obj)}{σ:St}{s:cr}{a:cw}{o:Option V}(I:Inv X c σ H s)(g:o4 H a y o):s.TypeIs (.ref a) "dict":=by
 rcases g with⟨kvs,k,e,_,_⟩|⟨kvs,k,b,e,_,_,_⟩;.obtain⟨_,_,vs,_,f⟩:=rM I.hok e;exact f.typeIs
 .obtain⟨_,_,xs,_,f⟩:=qU I.hok e;exact f.typeIs
noncomputable def aaG(c ty:TE):TE:=λσ H Q=>c σ H λx e=>ty σ e λy b=>∃a v,x=.ref a/\o4 b a y (aj v)/\Q v b
noncomputable def aeI(ty c:TE):TE:=λσ H Q=>ty σ H λy e=>c σ e λx b=>∃a o,x=.ref a/\o4 b a y o/\Q (.bl o.isSome) b
noncomputable def Nk(ty c:TE):TE:=λσ H Q=>ty σ H λy e=>c σ e λx b=>∃a o,x=.ref a/\o4 b a y o/\Q (.bl (!o.isSome)) b
noncomputable def ZF(c ty e:TE):TS:=λD σ H=>e σ H λv f=>c σ f λx g=>ty σ g λy h=>∃a b,x=.ref a/\Z4 h a y v b/\D.nx σ b
section
variable{X:Cx}{o i e value:df}{pos pos' tpos:Pos}{td ty tv:TE}
theorem O9(c:X.A.units+1<gc)(ho:PE X o td)(hi:PE X i ty)(hs:Nf i):PE X (.Subscript o i pos) (aaG td ty):=by intro b s σ H Q I h;refine Ef PySem.F.slot_dict_getitem.lookup hs (cB (ho b s σ H _ I h) λu s1⟨x,H1,I1,rx,q1⟩=>cB (hi b s1 σ H1 _ I1 q1) λiv s2⟨y,H2,I2,ry,a,v,ex,g,q2⟩=>?_);subst ex;obtain rfl:u=eg a:=rx;exact⟨jP I2 g,oJ c I2 g ry λk s3 f j=>⟨v,H2,f,j,q2⟩⟩
theorem U7(c:X.A.units+1<gc)(hi:PE X i ty)(ho:PE X o td):PC X .In i o (aeI ty td):=by intro b s σ H Q I h;refine cB (hi b s σ H _ I h) λiv s1⟨y,H1,I1,ry,q1⟩=>cB (ho b s1 σ H1 _ I1 q1) λu s2⟨x,H2,I2,rx,a,ov,ex,g,q2⟩=>?_;subst ex;obtain rfl:u=eg a:=rx;exact aal c I2 g ry λs3 f=>⟨.bl ov.isSome,H2,f,rfl,q2⟩
theorem Ge(c:X.A.units+1<gc)(hi:PE X i ty)(ho:PE X o td):PC X .NotIn i o (Nk ty td):=by intro b s σ H Q I h;refine cB (hi b s σ H _ I h) λiv s1⟨y,H1,I1,ry,q1⟩=>cB (ho b s1 σ H1 _ I1 q1) λu s2⟨x,H2,I2,rx,a,ov,ex,g,q2⟩=>?_;subst ex;obtain rfl:u=eg a:=rx;exact Eu c I2 g ry λs3 f=>⟨.bl (!ov.isSome),H2,f,rfl,q2⟩
theorem DW(c:X.A.units+1<gc)(ho:PE X o td)(hi:PE X i ty)(f:PE X value tv)(hs:fT value (aj (.Subscript o i pos')) pos.line X.env=fm aK):PS X (.Assign [.Subscript o i pos'] value pos) (ZF td ty tv):=by intro b s σ H D I h;refine wpAny_Assign_Subscript (cB (f b s σ H _ I h) λr s1⟨v,H1,I1,rv,q1⟩=>cB (ho b s1 σ H1 _ I1 q1) λu s2⟨x,H2,I2,rx,q2⟩=>cB (hi b s2 σ H2 _ I2 q2) λiv s3⟨y,H3,I3,ry,a,H4,ex,g,q3⟩=>?_) hs;subst ex;obtain rfl:u=eg a:=rx;exact Gf c I3 g ry rv λs4 j=>⟨σ,H4,j,q3⟩
end
theorem zL{P:dE}(h:eP)(a:gL<h.objs.size):bR P w H (h.push {cls:=.type "dict",data:=.dict #[]}) h.objs.size (.dK []):=⟨um,beq_eq_false_iff_ne.mpr (gu (ej a)),[],.nil,Heap.DictOf.new h⟩
noncomputable def Uc:TE:=λ_ H Q=>∀p,H p=bx->Q (.ref p) (upd H p (.dK []))
section
variable{X:Cx}{pos:Pos}
theorem yK:PE X (.Dict [] [] pos) Uc:=λb s σ H Q I h=>wpAny_Dict_empty ⟨.ref s.heap.objs.size,_,I.laid (a:=s.heap.objs.size) (o:=.dK []) (t':=s.toks) (λ_ _ q=>gU q) (dm) (zL s.heap I.big),rfl,h _ (I.hok.fresh (dm))⟩
end
noncomputable def Bs:List (TE×TE)->St->Hp->(List (V×V)->Hp->Prop)->Prop|[],_,H,Q=>Q [] H|(a,b)::r,σ,H,Q=>a σ H λx c=>b σ c λy e=>Bs r σ e λps f=>Q ((x,y)::ps) f
noncomputable abbrev VV:List (V×V)->List (b_×b_)->Prop:=Paired λp q=>RelV p.1 q.1/\RelV p.2 q.2
noncomputable def PPs(X:Cx)(pos:Pos)(keys:List (Option df))(a:List df)(e:List (TE×TE)):Prop:=∀(b:List (cw × Obj))(s:cr)(σ:St)(H:Hp)(Q:List (V × V)->Hp->Prop),Inv X b σ H s->Bs e σ H Q->cN (c_ X.prog X.w) X.A (evalPairs (pairTrees keys a X.env pos)) (λvs f=>∃ps c,Inv X b σ c f/\VV ps vs/\Q ps c) X.xe s
theorem wJ:PPs X pos [] [] []:=λa s σ H Q I h=>pairTrees_nil_walk ⟨[],H,I,.nil,h⟩
theorem nQ{k v:df}{ks:List (Option df)}{vs:List df}{b c:TE}{e:List (TE×TE)}(f:PE X k b)(g:PE X v c)(hr:PPs X pos ks vs e):PPs X pos (aj k::ks) (v::vs) ((b,c)::e):=λa s σ H Q I h=>pairTrees_cons_walk (cB (f a s σ H _ I h) λu s1⟨x,H1,I1,rx,q1⟩=>cB (g a s1 σ H1 _ I1 q1) λi s2⟨y,H2,I2,ry,q2⟩=>cB (hr a s2 σ H2 _ I2 q2) λws s3⟨ps,H3,I3,rel,q3⟩=>⟨(x,y)::ps,H3,I3,.cons ⟨rx,ry⟩ rel,q3⟩)
noncomputable def lU(kvs more:List (Key×V)):List (Key×V):=more.foldl (λa b=>putK a b.1 b.2) kvs
theorem KV.merge:∀{more:List (Key×V)}{a:List (Key×b_)}{kvs:List (Key×V)}{vs:List (Key×b_)},KV more a->KV kvs vs->KV (lU kvs more) (merged vs a):=by intro more a kvs vs r;unfold KV at r;induction r generalizing kvs vs with|nil=>intro q;exact q|@cons p q ps c h t b=>
   intro r0;have e:KV (putK kvs p.1 p.2) (stored vs q.1 q.2):=by have:=r0.put p.1 h.2;rw[<-h.1];exact this
   exact b e
theorem lL:∀(more kvs:List (Key×V)),(lU kvs more).length<=kvs.length+more.length|[],kvs=>by show kvs.length<=kvs.length+0;omega|p::r,kvs=>by have h1:=lL r (putK kvs p.1 p.2);have a:=j6 kvs p.1 p.2;show(lU (putK kvs p.1 p.2) r).length<=_;rw[ei];omega
theorem tK{P:dE}{w:eH}:∀{kvs:List (Key×V)}{ws:List (b_×b_)},VV (kvs.map λf=>(kV f.1,f.2)) ws->∃e,Carries (bz P w) ws e/\KV kvs e|[],_,r=>by rw[lz]at r;cases r;exact⟨[],kF,.nil⟩|p::kvs,_,r=>by rw[da]at r;cases r with|@cons a b as bs h t=>obtain⟨e,c,q⟩:=tK (P:=P) (w:=w) t;obtain⟨b1,b2⟩:=b;exact⟨(p.1,b2)::e,⟨qQ h.1,rfl,c⟩,.cons ⟨rfl,h.2⟩ q⟩
noncomputable def Zk(c:List (TE×TE)):TE:=λσ H Q=>∀p,H p=bx->Bs c σ (upd H p (.dK [])) λps a=>a p=aj (.dK [])/\∃kvs:List (Key×V),ps=kvs.map (λb=>(kV b.1,b.2))/\kvs.length<=15/\Q (.ref p) (upd a p (.dK (lU [] kvs)))
theorem wM{keys:List (Option df)}{b:List df}{j:List (TE×TE)}(h:PPs X pos keys b j)(f:keys.all (·.isSome)=a_)(l:keys.length=b.length)(h0:keys≠[])(i:keys.length<=15):PE X (.Dict keys b pos) (Zk j):=by
 intro g s σ H Q I q;have m:=I.hok.fresh (le_refl s.heap.objs.size);have n:=I.laid (a:=s.heap.objs.size) (o:=.dK []) (h':=s.heap.push {cls:=.type "dict",data:=.dict #[]}) (t':=s.toks) (λ_ _ q=>gU q) (dm) (zL s.heap I.big);refine wpAny_Dict_walk (knd:=bz X.prog X.w) f l h0 i (cB (h g _ σ _ _ n (q _ m)) λws s2⟨ps,H2,I2,rel,e,kvs,ep,lk,q2⟩=>?_);subst ep;obtain⟨p,c,r⟩:=tK (P:=X.prog) (w:=X.w) rel;obtain⟨z,hd,t,r0,u⟩:=Rj I2.hok e;cases r0;refine⟨p,c,u,λh' k hs=>⟨.ref s.heap.objs.size,_,?_,rfl,q2⟩⟩;have hz:(lU [] kvs).length<=sizeLine:=by have h1:=lL kvs [];rw[length_nil]at h1;rw[fi];omega
 have he:∃q,h'.get? s.heap.objs.size=aj q:=let⟨q,_,_,hq,_⟩:=k;⟨q,hq⟩;exact wC I2 (by rw[e];exact kF) hs he (Jg hz hd (r.merge .nil) k)
structure M2(X:Cx)(o:df)(m:Str)(apos:Pos)(e f:df)(cpos:Pos):Prop where
 base:gS o m X.env (eB o X.env)=eB o X.env
 few:((hX cpos (cy [e,f] X.env)).all (λx=>!x.1)&&(ln cpos (jx [] X.env)).all (λx=>x.1.isSome)&&decide (([e,f]:List df).length+([]:List iL).length+(if([]:List iL).isEmpty then 0 else 1)<30))=a_
 line:(apos.endLine==cpos.line)=a_
 trees:hX cpos (cy [e,f] X.env)=[(aK,eB e X.env),(aK,eB f X.env)]
noncomputable def IsD(H:Hp)(a:cw):Prop:=(∃kvs,Rd H a (.dK kvs))\/∃kvs,Rd H a (.dT kvs)
theorem R9{f:List (cw×Obj)}{σ:St}{s:cr}{a:cw}(I:Inv X f σ H s)(d:IsD H a):s.TypeIs (.ref a) "dict"/\(∀b,eg a=.ref b->∃c,s.heap.get? b=aj c/\c.dict=bx)/\(a==gL)=aK:=by
 rcases d with⟨kvs,e⟩|⟨kvs,e⟩;.obtain⟨_,hd,vs,_,g⟩:=rM I.hok e;refine⟨g.typeIs,λb q=>?_,hd⟩;cases q;obtain⟨c,_,_,h1,h,_⟩:=g;exact⟨c,h1,h.2.1⟩
 .obtain⟨_,hd,xs,_,g⟩:=qU I.hok e;refine⟨g.typeIs,λb q=>?_,hd⟩;cases q;obtain⟨c,_,_,h1,h,_⟩:=g;exact⟨c,h1,h.2.1⟩
section
variable{X:Cx}{pins:List (cw×Obj)}{σ:St}{H:Hp}{s:cr}{a:cw}{y d:V}{u r:b_}{o:Option V}{A:fb}{E:b_->cr->Prop}
theorem TF(q:A.units+1<gc)(I:Inv X pins σ H s)(g:o4 H a y o)(j:RelV y u)(m:RelV d r)(h:∀n p,Inv X pins σ H p->RelV (o.getD d) n->Q n p):cN (c_ X.prog X.w) A (call (.builtin "dict.get") [.ref a,u,r]) Q E s:=by
 rcases g with⟨kvs,k,e,i,l⟩|⟨kvs,k,b,e,i,t,l⟩;.subst i;obtain⟨z,hd,vs,c,f⟩:=rM I.hok e;refine qc PySem.F.slot_dict_get f.typeIs PySem.F.entry_dict_get (PySem.F.args_dict_get_3 _ _ _) (meets_dict_get_default (bz X.prog X.w) a (qQ j) hd r) ⟨_,f.mapOf,h _ _ (I.tok _) ?_⟩;rw[l];exact(c.val k).getD m
 .subst i;cases(show u=eg b from j);obtain⟨z,hd,xs,c,f⟩:=qU I.hok e;refine qc PySem.F.slot_dict_get f.typeIs PySem.F.entry_dict_get (PySem.F.args_dict_get_3 _ _ _) (meetsH_dict_get_default (ly (bz X.prog X.w)) a b hd r) ⟨iO q,k,xs,pD I.hok t,f,h _ _ (I.tok _) ?_⟩;rw[l];exact(c.val k).getD m
end
noncomputable def Td(e ty f:TE):TE:=λσ H Q=>e σ H λx b=>∃a,x=.ref a/\IsD b a/\ty σ b λy g=>f σ g λz c=>∃o,o4 c a y o/\Q (o.getD z) c
section
variable{X:Cx}{o e f:df}{apos cpos:Pos}{td ty tx:TE}
theorem HW(c:X.A.units+1<gc)(ho:PE X o td)(he:PE X e ty)(i:PE X f tx)(m:M2 X o "get" apos e f cpos):PE X (.Call (.Attribute o "get" apos) [e,f] [] cpos) (Td td ty tx):=by intro b s σ H Q I h;refine wpAny_Call_method m.base m.few m.line PySem.F.plainAttrs_dict PySem.F.slot_dict_get PySem.F.type_dict_get (cB (ho b s σ H _ I h) λu s1⟨x,H1,I1,rx,a,ex,d,q1⟩=>?_);subst ex;obtain rfl:u=eg a:=rx;obtain⟨t1,t2,_⟩:=R9 I1 d;refine⟨t1,t2,?_⟩;rw[m.trees];refine kC rfl (ot (ka (cB (he b s1 σ H1 _ I1 q1) λiv s2⟨y,H2,I2,ry,q2⟩=>ka (cB (i b s2 σ H2 _ I2 q2) λl s3⟨z,H3,I3,rz,ov,g,q3⟩=>lx ?_))));exact TF c I3 g ry rz λn s4 j k=>⟨_,H3,j,k,q3⟩
end
end _L
namespace _H
open PySem _L Spec PyProof.Rows
variable{kvs:List (Int×D)}{es:List (Key×V)}{k:Int}{i:Nat}
inductive KR(K:PySem.W.Frag)(F:Hp):List (Int×D)->List (Key×V)->Prop where|nil:KR K F [] []|cons{k:Int}{d:D}{v:V}{kvs:List (Int×D)}{es:List (Key×V)}(h:Rep K F v d)(t:KR K F kvs es):KR K F ((k,d)::kvs) ((dl k,v)::es)
section
variable{K:PySem.W.Frag}{F F':Hp}
noncomputable def ent(ks:List Int)(vs:List V):List (Key×V):=(ks.zip vs).map λp=>(dl p.1,p.2)
theorem KR.of:∀{kvs:List (Int×D)}{vs:List V},aG K F vs (kvs.map (·.2))->KR K F kvs (ent (kvs.map (·.1)) vs)|[],vs,h=>by rw[lz]at h;rw[h.dR];exact .nil|(k,d)::kvs,vs,h=>by obtain⟨v,r,rfl,h1,a⟩:=h.cG;exact .cons h1 (KR.of a)
theorem KR.to(h:KR K F kvs es):∃vs,es=ent (kvs.map (·.1)) vs/\aG K F vs (kvs.map (·.2)):=by induction h with|nil=>exact⟨[],rfl,.nil⟩|@cons k d v kvs es h t a=>obtain⟨vs,rfl,r⟩:=a;exact⟨v::vs,rfl,.cons h r⟩
theorem KR.oc(h:KR K F kvs es):lM K F (.dK es) (.v kvs):=by obtain⟨vs,rfl,r⟩:=h.to;exact⟨vs,rfl,r⟩
theorem KR.VG{o:HO}(h:lM K F o (.v kvs)):∃es,o=.dK es/\KR K F kvs es:=by obtain⟨vs,rfl,r⟩:=h;exact⟨_,rfl,.of r⟩
theorem KR.len(h:KR K F kvs es):es.length=kvs.length:=by induction h with|nil=>rfl|cons h t a=>simp[a]
theorem KR.get{d:D}(h:KR K F kvs es)(e:mD kvs k=aj d):∃v,jy es (dl k:Key)=aj v/\Rep K F v d:=by induction h with|nil=>cases e|@cons j d' v kvs es h t a=>
   unfold mD at e a;rw[gy]at e;by_cases c:j=k;.simp[c]at e;subst e;exact⟨v,m8 (by rw[c]),h⟩
   .simp[c]at e;obtain⟨b,h1,f⟩:=a (by simpa using e);exact⟨b,by rw[mK (by simpa using c)];exact h1,f⟩
theorem KR.any{kvs:List (Int×D)}{es:List (Key×V)}(k:Int)(h:KR K F kvs es):(es.any λa=>decide (a.1=(dl k:Key)))=kvs.any λp=>decide (p.1=k):=by induction h with|nil=>rfl|cons h t b=>simp[b]
theorem KR.has(k:Int)(h:KR K F kvs es):(jy es (dl k:Key)).isSome=(kvs.map (·.1)).contains k:=by rw[<-sV,h.any k];induction h with|nil=>rfl|@cons j d v kvs es h t a=>rw[jS,a,da,List.contains_cons];congr 1;exact Bool.eq_iff_iff.mpr ⟨λz=>by simp at z ⊢;exact z.symm,λz=>by simp at z ⊢;exact z.symm⟩
theorem KR.repl{d:D}{v:V}(r:Rep K F v d)(h:KR K F kvs es):KR K F (kvs.map λp=>if p.1=k then(p.1,d)else p) (es.map λa=>if a.1=(dl k:Key)then(a.1,v)else a):=by induction h with|nil=>exact .nil|@cons j d' e kvs es h t b=>
   by_cases c:j=k;.subst c;simp;exact .cons r b
   . have:¬(dl j:Key)=dl k:=by simpa using c
     simp[c,this];exact .cons h b
theorem KR.snoc{d:D}{v:V}(r:Rep K F v d)(h:KR K F kvs es):KR K F (kvs++[(k,d)]) (es++[(dl k,v)]):=by induction h with|nil=>exact .cons r .nil|cons h t a=>exact .cons h a
theorem KR.put{d:D}{v:V}(r:Rep K F v d)(h:KR K F kvs es):KR K F (gw kvs k d) (putK es (dl k:Key) v):=by
 unfold gw putK;rw[h.any k];split;.exact h.repl r
 .exact h.snoc r
theorem KR.zip{ks:List Int}{ds:List D}{vs:List V}(h:aG K F vs ds)(a:ks.length=ds.length):KR K F (ks.zip ds) (ent ks vs):=by induction ds generalizing ks vs with
 |nil=>rw[h.dR];cases ks with|nil=>exact .nil|cons _ _=>simp at a
 |cons d ds b=>obtain⟨v,r,rfl,h1,c⟩:=h.cG;cases ks with|nil=>simp at a|cons k ks=>exact .cons h1 (b c (by simpa using a))
end
section
variable{K:PySem.W.Frag}{F F1 H H1:Hp}{ρ ρ1 ρ2:List Sl}{σ σ1:_L.St}
theorem GS.aeK{x:Nat}{m p:Dc}{a:cw}(g:GS K F ρ σ H)(e:ρ[x]?=aj (.gV m))(r:σ[x]?=aj (aj (.ref a))):aB K F ρ σ H F (ρ.set x (.gV p)) σ (upd H a p.ho):=by
 have hi:x<ρ.length:=(eY e).1;have v:bj ρ σ x a:=⟨⟨_,_,e,rfl⟩,r⟩;obtain⟨I,J,h1,L,w,M⟩:=g.own x _ _ e rfl;rw[r]at h1;cases h1;have f:∀{j:Nat}{c:cw},bj (ρ.set x (.gV p)) σ j c->bj ρ σ j c:=λ{j c}⟨⟨t,dt,h,s⟩,q3⟩=>by
  by_cases b:j=x;.subst b;exact⟨⟨_,_,e,rfl⟩,q3⟩
  .rw[fK b]at h;exact⟨⟨t,dt,h,s⟩,q3⟩
 refine⟨⟨λc o q=>?_,by simp[g.len],λj z d q=>?_,λj t dt q u=>?_,λj k c h s=>g.dis j k c (f h) (f s)⟩,.refl _,λc n A=>absurd n A,λc o q n=>?_,λc⟨j,q⟩=>.inl ⟨j,f q⟩,by simp,λj t q l=>⟨rfl,?_⟩⟩
 . have:c≠a:=by rintro rfl;rw[w]at q;cases q
   rw[aF this];exact g.sub c o q
 . by_cases b:j=x;.subst b;rw[cv hi]at q;cases q
   .rw[fK b]at q;exact g.val j z d q
 . by_cases b:j=x;.subst b;rw[cv hi]at q;cases q;cases u;exact⟨a,_,r,aH,w,rfl⟩
   . rw[fK b]at q;obtain⟨c,B,y,C,E,G⟩:=g.own j t dt q u;have:c≠a:=by rintro rfl;exact b (g.dis j x c ⟨⟨t,dt,q,u⟩,y⟩ v)
     exact⟨c,B,y,by rw[aF this];exact C,E,G⟩
 . have:c≠a:=by rintro rfl;exact n ⟨x,v⟩
   rw[aF this];exact q
 . by_cases b:j=x;.subst b;rw[e]at q;cases q;cases l
   .exact⟨t,by rw[fK b];exact q,.refl t⟩
theorem GS.newD{m:Dc}{a:cw}(g:GS K F ρ σ H)(e:ρ[i]?=aj .aV)(s:H a=bx):aB K F ρ σ H F (ρ.set i (.gV m)) (σ.set i (aj (.ref a))) (upd H a m.ho):=by
 have hi:i<ρ.length:=(eY e).1;have u:i<σ.length:=by rw[<-g.len];exact hi
 have x:F a=bx:=by cases q:F a with|none=>rfl|some o=>rw[g.sub a o q]at s;cases s
 have f:∀{j:Nat}{c:cw},j≠i->bj (ρ.set i (.gV m)) (σ.set i (aj (.ref a))) j c->bj ρ σ j c:=λ{j c}b⟨⟨t,ds,e1,e2⟩,e3⟩=>by rw[fK b]at e1 e3;exact⟨⟨t,ds,e1,e2⟩,e3⟩
 have h:∀{c:cw},bj (ρ.set i (.gV m)) (σ.set i (aj (.ref a))) i c->c=a:=λ{c}⟨_,e3⟩=>by rw[cv u]at e3;cases e3;rfl
 have no:∀{j:Nat},¬ bj ρ σ j a:=λ{j}⟨⟨t,ds,e1,e2⟩,e3⟩=>by obtain⟨c,o,p,r,_⟩:=g.own j t ds e1 e2;rw[e3]at p;cases p;rw[s]at r;cases r
 refine⟨⟨λc o q=>?_,by simp[g.len],λj z d q=>?_,λj t dt q y=>?_,λj k c p r=>?_⟩,.refl _,λc n A=>absurd n A,λc o q n=>?_,λc⟨j,q⟩=>?_,by simp,λj t q l=>?_⟩
 . have:c≠a:=by rintro rfl;rw[x]at q;cases q
   rw[aF this];exact g.sub c o q
 . by_cases b:j=i;.subst b;rw[cv hi]at q;cases q
   .rw[fK b]at q ⊢;exact g.val j z d q
 . by_cases b:j=i;.subst b;rw[cv hi]at q;cases q;cases y;exact⟨a,_,cv u,aH,x,rfl⟩
   . rw[fK b]at q ⊢;obtain⟨c,o,B,w,C,E⟩:=g.own j t dt q y;have:c≠a:=by rintro rfl;rw[s]at w;cases w
     exact⟨c,o,B,by rw[aF this];exact w,C,E⟩
 . by_cases b:j=i
   . by_cases v:k=i;.rw[b,v]
     .subst b;rw[h p]at r;exact absurd (f v r) no
   . by_cases v:k=i;.subst v;rw[h r]at p;exact absurd (f b p) no
     .exact g.dis j k c (f b p) (f v r)
 . have:c≠a:=by rintro rfl;rw[s]at q;cases q
   rw[aF this];exact q
 . by_cases b:j=i;.subst b;rw[h q];exact .inr s
   .exact .inl ⟨j,f b q⟩
 . have b:j≠i:=by rintro rfl;rw[e]at q;cases q;cases l
   exact⟨by rw[fK b],t,by rw[fK b];exact q,.refl t⟩
end
noncomputable def uo(p:Int×Int):Key×V:=(dl p.1,V.int p.2)
theorem JT(i:Int):∀kvs:List (Int×Int),jy (kvs.map uo) (dl i:Key)=((kvs.find? λb=>decide (b.1=i)).map (·.2)).map V.int
 |[]=>rfl|p::kvs=>by
   have a:=JT i kvs;unfold jy at a ⊢;rw[da,gy,gy];by_cases h:p.1=i
   . have e:decide ((uo p).1=(dl i:Key))=a_:=by simp[uo,h]
     rw[e];simp[h,uo]
   . have e:decide ((uo p).1=(dl i:Key))=aK:=by simp[uo,h]
     rw[e];simp only[h,decide_false];exact a
theorem Uu(i v:Int)(kvs:List (Int×Int)):putK (kvs.map uo) (dl i:Key) (V.int v)=(putD kvs i v).map uo:=by
 have e:((kvs.map uo).any λa=>decide (a.1=(dl i:Key)))=kvs.any λa=>decide (a.1=i):=by rw[List.any_map];congr 1;funext p;simp[uo]
 unfold putK putD;rw[e];split
 . rw[ef,ef];refine ia λp _=>?_;by_cases h:p.1=i;.simp[uo,h]
   .simp[uo,h]
 .rw[gN];rfl
section
variable{X:Cx}{c:Call}{n:Nat}{a b e:df}{pa pb p:P}{pos:Pos}
theorem HJ{H:Hp}{q:cw}{m:Dc}{i:Int}{o:Option Int}(h:Rd H q m.ho)(e:m.get (.int i)=aj o):o4 H q (.int i) (o.map V.int):=by cases m with|k kvs=>cases e;exact .inl ⟨kvs.map uo,dl i,h,rfl,(JT i kvs).symm⟩|t kvs=>cases e
theorem nZ(hu:X.A.units+8<gc)(M:SX X c a pa)(N:SX X c b pb)(hs:Nf b):SX X c (.Subscript a b pos) (.bin .zP pa pb):=by refine wG (f:=Dv) (λh1 O=>?_) M N (λρ=>rfl) rfl;intro l s σ H Q I h;refine Ef PySem.F.slot_dict_getitem.lookup hs (cB (h1 l s σ H _ I h) λu s1⟨x,H1,I1,rx,q1⟩=>cB (O l s1 σ H1 _ I1 q1) λiv s2⟨y,H2,I2,ry,q2⟩=>?_);obtain⟨F,d,e,r,sm,G,J,he,k⟩:=q2;cases d with
 |dM m=>have U:=cA (show(m.get e).bind (λo=>o.map λv=>R.val (.int v))=aj r from he);clear he;obtain⟨o,w,he⟩:=U;cases o with|none=>cases he|some v=>
     cases he;obtain⟨i,rfl⟩:∃i,e=.int i:=by cases m with|t kvs=>cases e<;>cases w|k kvs=>cases e<;>first|exact⟨_,rfl⟩|cases w
     obtain⟨q,z,rfl,B⟩:=G.dM sm;rw[J.int]at ry;obtain rfl:u=eg q:=rx;have g:=HJ (.inr ⟨z,B⟩) w;exact⟨jP I2 g,oJ (by omega) I2 g ry λW s3 C E=>⟨.int v,H2,C,E,cJ.dg sm (bO _) k⟩⟩
 |dv ks ds=>cases e with|int j=>obtain⟨d',Y,he⟩:=map_some (show(mD (ks.zip ds) j).map R.val=aj r from he);subst he;obtain⟨q,z,vs,rfl,B,Z,hl⟩:=G.dv sm;obtain⟨L,g1,g2⟩:=(KR.zip Z hl).get Y;rw[J.int]at ry;obtain rfl:u=eg q:=rx;have g:o4 H2 q (.int j) (aj L):=.inl ⟨_,dl j,.inr ⟨z,B⟩,rfl,g1.symm⟩;exact⟨jP I2 g,oJ (by omega) I2 g ry λW s3 C E=>⟨L,H2,C,E,cJ.dg sm g2 k⟩⟩|_=>cases he
 |_=>cases he
theorem M9{x:Str}{f p2:Pos}(h:X.N.Nodup)(hi:X.N[i]?=aj x)(j:Loc X.env.scope x)(hs:fT (.Dict [] [] p2) (aj (.Name x f)) pos.line X.env=fm aK:=by rfl)(l:X.fn x=a_\/X.env.scope.names.lookup x=aj .local:=by first|(left;rfl)|(right;rfl)|assumption):SS X c n (.Assign [.Name x f] (.Dict [] [] p2) pos) (.Lj i aK):=by
 refine du (sW h hi j yK hs l) ?_;rintro D σ H⟨F,ρ,fl,o,g,e,k⟩;rw[_H.X18]at e;split at e;.rename_i q;cases e;exact λa r=>k F _ _ (g.newD (m:=.k []) q r)
 .cases e
theorem Uh{x:Str}{C f l:Pos}{pk E:P}(hu:X.A.units+8<gc)(Y:X.N[i]?=aj x)(Z:pX X.env.scope x)(ha:SX X c a pk)(hb:SX X c b E)(m:M2 X (.Name x C) "get" f a b l)(hd:(x==("__debug__":Str))=aK:=by decide)(u:(x==("__classdict__":Str))=aK:=by decide):SX X c (.Call (.Attribute (.Name x C) "get" f) [a,b] [] l) (.YH i pk E):=by
 obtain⟨ta,h1,h2⟩:=ha.cu;obtain⟨tb,h3,h4⟩:=hb.cu;refine⟨dN (HW (by omega) (cU Y Z hd u) h1 h3 m) ?_,λi h=>by cases h⟩;rintro σ H Q⟨F,ρ,r,ac,g,e,k⟩;rw[_H.E23]at e;split at e
 . rename_i m0 q;obtain⟨y,ae,e1,G⟩:=aa e;clear e;obtain⟨dd,af,e2,s⟩:=aa G;clear G;obtain⟨I,o0,J,L,w3,w4⟩:=g.own i _ _ q rfl;refine⟨.ref I,J,I,rfl,?_,?_⟩;.cases(show o0=m0.ho from w4);cases m0 with|k kvs=>exact .inl ⟨_,.inl L⟩|t kvs=>exact .inr ⟨_,.inl L⟩
   . refine h2 g e1 λv F1 H1 s1 pv=>h4 s1.gs e2 λz M H2 s2 O=>?_;split at s
     . rename_i m1 q1;obtain⟨U,e3⟩:=az s;clear s;subst e3;obtain⟨o,B,eD⟩:=cA U;clear U;obtain⟨w,e5,e6⟩:=map_some eD;subst e6;obtain⟨a1,o1,W,y2,y3,y4⟩:=s2.gs.own i _ _ q1 rfl;rw[J]at W;cases W;cases(show o1=m1.ho from y4);obtain⟨j,rfl⟩:∃j,y=.int j:=by cases m1 with|t kvs=>cases y<;>cases B|k kvs=>cases y<;>first|exact⟨_,rfl⟩|cases B
       rw[dh e5]at O;rw[pv.int,O.int];refine⟨o.map V.int,HJ (.inl y2) B,?_⟩;have:(o.map V.int).getD (V.int w)=V.int (o.getD w):=by cases o<;>rfl
       rw[this];exact k _ M H2 (s1.trans s2) (show Rep X.K M _ _ from bO _)
     .cases s
 .cases e
theorem Pa{x:Str}{C f:Pos}{pk:P}(hu:X.A.units+8<gc)(J:X.N[i]?=aj x)(L:pX X.env.scope x)(M:SX X c a pk)(he:SX X c e p)(hs:fT e (aj (.Subscript (.Name x C) a f)) pos.line X.env=fm aK:=by rfl)(hd:(x==("__debug__":Str))=aK:=by decide)(s:(x==("__classdict__":Str))=aK:=by decide):SS X c n (.Assign [.Subscript (.Name x C) a f] e pos) (.dput i pk p):=by
 obtain⟨ta,h1,O⟩:=M.cu;refine du (DW (by omega) (cU J L hd s) h1 he.ev hs) ?_;rintro D σ H⟨F,ρ,fl,Q,g,e,k⟩;rw[_H.X19]at e;obtain⟨r,u,U,o⟩:=aa e;clear e;refine⟨F,ρ,r,u,g,U,λv F1 H1 s1 W=>?_⟩;split at o
 . rename_i m0 Y;obtain⟨E,Z,e2,h⟩:=aa o;clear o;obtain⟨z,o0,B,w2,w3,w4⟩:=s1.gs.own i _ _ Y rfl;refine⟨.ref z,B,O s1.gs e2 λy F2 H2 s2 py=>?_⟩;split at h
   . rename_i m w q;split at h;.rename_i G l;cases h;obtain⟨a1,o1,I,y2,y3,y4⟩:=s2.gs.own i _ _ q rfl;rw[B]at I;cases I;cases(show o1=m.ho from y4);cases(show v=.int w by have:Rep X.K F1 v (.int w):=W;rwa[Rep]at this);refine⟨z,upd H2 z G.ho,rfl,?_,k F2 σ _ ((s1.trans s2).trans (s2.gs.aeK q B))⟩;cases m with|t kvs=>cases E<;>cases l|k kvs=>cases E with|int j=>obtain⟨hl,l⟩:=aZ (show(if kvs.length<lim then aj (Dc.k (putD kvs j w))else bx)=aj G from l);subst l;rw[py.int];refine .inl ⟨kvs.map uo,dl j,y2,rfl,by rw[dQ,fi];exact hl,?_⟩;rw[Uu];rfl|_=>cases l
     .cases h
   .cases h
 .cases o
end
end _H
namespace _L
open PySem Spec PyProof.Rows
noncomputable def Itk(a:cw)(b:Obj)(kvs:List (Key×V)):It:=⟨λi H=>H a=aj (.dC b (.dK kvs))/\i<kvs.length,λi H x c=>c=H/\∃p,kvs[i]?=aj p/\x=kV p.1,λi H=>H a=aj (.dC b (.dK kvs))/\kvs.length<=i⟩
theorem KV.get:∀{κ:Type}{kvs:List (κ×V)}{vs:List (κ×b_)}{i:Nat}{p:κ×V},KV kvs vs->kvs[i]?=aj p->∃v,vs[i]?=aj (p.1,v)|_,_,_,_,_,.nil,e=>by simp at e|_,_,_,0,_,.cons r _,e=>by simp at e;subst e;exact⟨_,by rw[List.getElem?_cons_zero,r.1]⟩|_,_,_,i+1,p,.cons _ t,e=>by obtain⟨v,h⟩:=KV.get (i:=i) (p:=p) t (by simpa using e);exact⟨v,by simpa using h⟩
theorem vh{X:Cx}{b:List (cw×Obj)}{σ:St}{H:Hp}{s:cr}{a:cw}{c:Obj}{kvs:List (Key×V)}{es:Array DictEntry}{ep:Nat}(I:Inv X b σ H s)(h:H a=aj (.dC c (.dK kvs)))(hd:c.data=.dict es ep):(a==gL)=aK/\∃vs,KV kvs vs/\s.heap.DictAt (bz X.prog X.w) a vs ep:=by obtain⟨ho,hz,f,vs,r,g⟩:=(show bR X.prog X.w H s.heap a (.dC c (.dK kvs))from I.hok a _ h);obtain⟨o,i,j,h1,k,e,l⟩:=g;rw[ho]at h1;cases h1;rw[hd]at e;cases e;exact⟨f,vs,r,⟨c,es,ho,k,hd,l⟩⟩
theorem Uq{P:dE}{w:eH}{k:Key}{u:b_}(h:(bz P w).is k u=a_):RelV (kV k) u:=by
 rcases bM h with⟨i,t,rfl,rfl⟩|⟨x,t,rfl,rfl⟩;.exact⟨t,rfl⟩
 .exact⟨t,rfl⟩
theorem GR{P:dE}{w:eH}{K:PySem.W.Frag}{C:df}(a it:cw)(B:Obj)(kvs:List (Key×V))(es:Array DictEntry)(ep:Nat)(hd:B.data=.dict es ep):Turn P w K C (Itk a B kvs) [it] it (λi h=>h.IsKeyIter it a i kvs.length ep)where
 mem:=by simp
 obj:=λi h st b g=>by
  have e:b=it:=by simpa using g
  subst e;obtain⟨o,e,c,d⟩:=st;exact⟨o,e,λv z=>by rw[d]at z;cases z⟩
 keep:=λi h h' st k=>st.at λo e=>k it (by simp) o e;item:=by intro X n p q hc i f s σ H E I m st t;subst n p q;obtain⟨x,hi⟩:=t;obtain⟨G,vs,r,y⟩:=vh I x hd;have l:vs.length=kvs.length:=(Paired.length r).symm;obtain⟨v,J⟩:=KV.get r (show kvs[i]?=aj kvs[i]by simp[hi]);obtain⟨f0,f1,f2,f3,f4,f5⟩:=m it (by simp);refine wpAny_pyNext_dict_item (by rw[l];exact st) y J λu h' L j M=>?_;have N:Inv X f σ H {s with heap:=h'}:=I.turned (t':=s.toks) (λb o g e=>(M.2 b g).trans e) f0 f1 f3 f4 f5;rw[l]at j;obtain⟨o,e,c,d⟩:=id j;exact⟨u,rfl,DQ (s:={s with heap:=h'}) e c d (by decide) ⟨_,H,N,Uq L,⟨rfl,_,by simp[hi],rfl⟩,j,λb g=>(m b g).1⟩⟩
 done:=by intro X n p q hc i f s σ H E I m st t;subst n p q;obtain⟨x,hi⟩:=t;obtain⟨G,vs,r,y⟩:=vh I x hd;have l:vs.length=kvs.length:=(Paired.length r).symm;obtain⟨f0,f1,f2,f3,f4,f5⟩:=m it (by simp);refine wpAny_pyNext_dict_end (I.ok.hd hc) (by rw[l];exact st) y (by simp[l,hi]) λh' he=>⟨rfl,?_⟩;exact I.turned (t':=s.toks) (λb o g e=>he b o g e) f0 f1 f3 f4 f5
 self:=λA i s Q E st O=>wpAny_pyIter_keyiter st O
section
variable{X:Cx}{tg:df}
theorem NP{l:df}{k:TE}(n:PE X l k):PI X tg l (λσ H R=>k σ H λx f=>∃a c kvs,x=.ref a/\f a=aj (.dC c (.dK kvs))/\R (Itk a c kvs) f):=by
 intro g s σ H R I h;refine cB (n g s σ H _ I h) ?_;rintro v s1⟨x,f,j,r1,a,c,kvs,e,p,q⟩;subst e;cases r1;obtain⟨ho,hz,t,vs,r,u⟩:=(show bR X.prog X.w f s1.heap a (.dC c (.dK kvs))from j.hok a _ p);obtain⟨o,es,ep,h1,y,m,z⟩:=id u;rw[ho]at h1;cases h1;have i:vs.length=kvs.length:=(Paired.length r).symm;refine wpAny_pyIter_dict (knd:=bz X.prog X.w) (kvs:=vs) (ep:=ep) t ⟨c,es,ho,y,m,z⟩ ?_;refine⟨s1.heap.objs.size,[s1.heap.objs.size],_,_,f,rfl,j.kept (t':=s1.toks) λb o e=>gU e,GR a _ c kvs es ep m,⟨_,dA _ rfl,rfl,by rw[i];rfl⟩,λb A=>?_,q⟩;have e:b=s1.heap.objs.size:=by simpa using A
 subst e;exact j.FQ (dm) (j.hok.fresh (dm))
end
end _L
namespace _H
open PySem _L Spec PyProof.Rows
section
variable{X:Cx}{c:Call}{tg e:df}{p:P}
theorem O3{ks:List Int}{es:List (Key×V)}{j:Nat}{p:Key×V}{i:Int}(h:es.map (·.1)=ks.map (dl:Int->Key))(a:es[j]?=aj p)(b:ks[j]?=aj i):p.1=dl i:=by
 have:(es.map (·.1))[j]?=(ks.map (dl:Int->Key))[j]?:=by rw[h]
 rw[eM,eM,a,b]at this;exact eI this
theorem tE:∀{ks:List Int}{vs:List V},ks.length=vs.length->(ent ks vs).map (·.1)=ks.map (dl:Int->Key)|[],[],_=>rfl|k::ks,v::vs,h=>by have:=tE (ks:=ks) (vs:=vs) (by simpa using h);unfold ent at this ⊢;simpa using this|[],_::_,h=>by simp at h|_::_,[],h=>by simp at h
theorem Ob(h:SX X c e p):SI X c tg e (.blt .keys [p]):=by
 unfold SI;obtain⟨ta,h1,U⟩:=h.cu;refine oh (NP h1) ?_;rintro σ H R⟨F,ρ,ds,A,g,W,k⟩;obtain⟨r,o,G,Y⟩:=aa (show((_H.ev c (.blt .keys [p]) ρ).bind λr ρ=>lift (items r.d) ρ)=.ok ds A from W);obtain⟨I,Z⟩:=az Y;subst Z;rw[_H.E16]at G;obtain⟨d,ac,e1,eE⟩:=aa G;obtain⟨y,e4⟩:=az eE;subst e4;refine U g e1 λv F' J s L=>?_;have hd:∃(ks:List Int)(es:List (Key×V))(a:cw)(b:Obj),ds=ks.map D.int/\v=.ref a/\J a=aj (.dC b (.dK es))/\es.map (·.1)=ks.map (dl:Int->Key):=by cases d with
  |dM m=>cases m with|k kvs=>cases y;cases I;obtain⟨a,b,rfl,f⟩:=L.dM s.gs.sub;exact⟨kvs.map (·.1),kvs.map uo,a,b,by rw[ef];rfl,rfl,f,by rw[ef,ef];rfl⟩|t kvs=>cases y
  |dv ks ae=>cases y;cases I;obtain⟨a,b,vs,rfl,f,rs,hl⟩:=L.dv s.gs.sub;exact⟨ks,ent ks vs,a,b,rfl,rfl,f,tE (by rw[rs.length];exact hl)⟩|_=>cases y
 obtain⟨ks,es,a,b,rfl,rfl,f,u⟩:=hd;have B:es.length=ks.length:=by have:=congrArg kR u;simpa using this
 refine⟨a,b,es,rfl,f,k _ F' J ⟨s.gs,λn j M o C H2 s2=>?_,λM o C H2 s2=>⟨s.trans s2,λv r rr=>rr.later s⟩⟩⟩;have gm:=s.gs.more (n:=n) (τ:=cx n bx) (by simp);have w:=s2.keep a _ f λ⟨j,⟨t,dt,q1,q2⟩,q3⟩=>by obtain⟨a',o',N,O,z3,E⟩:=gm.own j t dt q1 q2;rw[q3]at N;cases N;rw[f]at O;cases O;cases dt with|l ds=>obtain⟨xs,z,_⟩:=E;cases z|d m=>cases m<;>cases E|v kvs=>obtain⟨xs,z,_⟩:=E;cases z
 refine⟨λd hd=>?_,λQ=>⟨w,by rw[B];simpa using Q⟩⟩;have Q:j<ks.length:=by have:=(eY hd).1;simpa using this
 refine⟨⟨w,by omega⟩,λx lH⟨e5,q,e6,e7⟩=>?_⟩;subst e5;refine⟨M,.refl s2.gs.sub,?_⟩;rw[eM]at hd;obtain⟨i,e8,e9⟩:=map_some hd;rw[e7,O3 u e6 e8,<-e9];exact bO _
end
end _H
namespace _H
open PySem _L Spec PyProof.Rows Calls W
section
variable{X:Cx}{c:Call}{a:df}{pa:P}{pos:Pos}
theorem mL:∀{ns:List Int}{b:List b_},gI b ns->Vals (ns.map V.int) b|_,_,.nil=>.nil|_,_,.cons n t r=>.cons ⟨t,rfl⟩ (mL r)
theorem uO{K:PySem.W.Frag}{F:Hp}:∀ns:List Int,aG K F (ns.map V.int) (ns.map D.int)|[]=>.nil|n::ns=>.cons (bO n) (uO ns)
end
end _H
namespace _H
open PySem _L Spec PyProof.Rows
theorem Inv.afs{X:Cx}{c:List (cw×Obj)}{σ:_L.St}{H:Hp}{s:cr}{a:cw}{kvs:List (List Key×V)}(I:_L.Inv X c σ H s)(h:H a=aj (.dT kvs)):∃o,_L.Inv X c σ (upd H a (.dC o (.dT kvs))) s:=by obtain⟨z,y,xs,r,o,es,ep,h1,f,g,i,j⟩:=(show bR X.prog X.w H s.heap a (.dT kvs)from I.hok a _ h);refine⟨o,I.write (h':=s.heap) (t':=s.toks) (by rw[h];exact trivial) (.inl rfl) (λb u _ e=>e) ⟨o,h1⟩ ⟨h1,z,y,xs,KT.keeps r λb ys q=>?_,o,es,ep,h1,f,g,i,j⟩⟩;rw[aF (by rintro rfl;rw[h]at q;cases q)];exact q
section
variable{X:Cx}{c:Call}{n:Nat}{a b e:df}{p pa pb:P}{pos:Pos}{es:List df}{ps:List P}{x1:Nat}{tpos:Pos}
theorem Ke{i:Nat}{x:Str}{A:Pos}(B:X.N[i]?=aj x)(C:pX X.env.scope x)(hd:(x==("__debug__":Str))=aK:=by decide)(w:(x==("__classdict__":Str))=aK:=by decide):SX X c (.Name x A) (.vw i):=by
 have h:=cU (X:=X) (pos:=A) B C hd w;refine⟨?_,λi h=>by cases h⟩;rintro f s σ H Q I⟨F,ρ,r,E,g,e,k⟩;rw[_H.E24]at e;split at e
 . rename_i m q;cases e;obtain⟨a,h1,j,l⟩:=g.Eb q;refine cB (h f s σ H (λv y=>v=.ref a/\y=H) I ⟨.ref a,h1,rfl,rfl⟩) λu s1⟨v,H1,I1,r1,e1,e2⟩=>?_;subst e1 e2;have G:∃o,_L.Inv X f σ (upd H1 a (.dC o m.ho)) s1:=by cases m with|k kvs=>exact Inv.Fw I1 j|t kvs=>exact Inv.afs I1 j
   obtain⟨o,z⟩:=G;exact⟨.ref a,_,z,r1,k _ _ _ (l o).1 (l o).2⟩
 .rename_i kvs q;cases e;obtain⟨a,vs,h1,j,l⟩:=g.Cy q;refine cB (h f s σ H (λv y=>v=.ref a/\y=H) I ⟨.ref a,h1,rfl,rfl⟩) λu s1⟨v,H1,I1,r1,e1,e2⟩=>?_;subst e1 e2;obtain⟨o,z⟩:=Inv.Fw I1 j;exact⟨.ref a,_,z,r1,k _ _ _ (l o).1 (l o).2⟩
 .rename_i b ds q;cases e;obtain⟨v,J,h1,j,l⟩:=g.freeze q;exact h f s σ H Q I ⟨v,h1,k v J H j l⟩
 .rename_i b d q;cases e;obtain⟨v,h1,j⟩:=g.val i b d q;exact h f s σ H Q I ⟨v,h1,k v F H (.refl g) j⟩
 .cases e
end
end _H
namespace _H
open PySem _L Spec PyProof.Rows
section
variable{K:PySem.W.Frag}{F H F' H':Hp}{ρ ρ':List Sl}{σ σ':_L.St}
noncomputable def Kp(ρ:List Sl)(σ:_L.St)(H:Hp)(a:cw)(o:HO):Prop:=H a=aj o/\¬ Own ρ σ a
theorem Kp.stp{a:cw}{o:HO}(h:Kp ρ σ H a o)(s:aB K F ρ σ H F' ρ' σ' H'):Kp ρ' σ' H' a o:=⟨s.keep a o h.1 h.2,λz=>(s.vO a z).elim h.2 λe=>by rw[h.1]at e;cases e⟩
structure Wt(K:PySem.W.Frag)(F:Hp)(ρ:List Sl)(σ:_L.St)(H:Hp)(a:cw)(ds:List D):Prop where
 ex:∃xs,Kp ρ σ H a (.lst xs)/\aG K F xs ds
 fr:F a=bx
theorem Wt.stp{a:cw}{ds:List D}(h:Wt K F ρ σ H a ds)(s:aB K F ρ σ H F' ρ' σ' H'):Wt K F' ρ' σ' H' a ds:=by obtain⟨⟨xs,h1,b⟩,c⟩:=h;refine⟨⟨xs,h1.stp s,b.mono s.cL⟩,?_⟩;cases q:F' a with|none=>rfl|some o=>
   rcases s.xP a c (by rw[q];simp)with z|z;.exact absurd z h1.2
   .rw[h1.1]at z;cases z
end
end _H
namespace _H
open PySem PyProof.Rows
section
variable{M:rd}{A:fb}{E:b_->cr->Prop}{s:cr}{κ:i7}{ok:gl->Prop}{K:gl->Int}
theorem Gk(R:Rk M A E s κ ok K){st b:iP}{xs:Array gl}{lo n:Nat}{Q:Option Nat->iP->Prop}(h:Sx κ ok st xs b)(f:lo+n<=xs.size)(h1:1<=n)(sg:Seg K xs lo (lo+n))(q:Q (aj n) b):wpS M A E s (countRun' lo n) Q b:=by
 have one:∀ys:Array gl,Seg K ys lo (lo+1):=λys i j k l jn=>by rw[show i=j by omega];exact fg _
 show wpS M A E s (_>>=_) Q b;refine hE (V6 (a:=1) (n:=n) R h f (le_refl 1) h1 (one xs) λm m1 o sm e=>?_);dsimp only;have c1:m=n:=by
  by_cases c:m=n;.exact c
  .have g:=e.resolve_left c;have:=sg (lo+m-1) (lo+m) (by omega) (by omega) (by omega);omega
 subst c1;rw[if_pos (by simp)];exact ku q
theorem SR.Z9{x0 ys:Array gl}{l:List Rn}{lo n:Nat}{st:iP}(h:SR κ ok K x0 ys l lo st)(h1:1<=n)(a:lo+n<=ys.size)(hs:Seg K ys lo (lo+n)):SR κ ok K x0 ys (l++[(lo,n,0)]) (lo+n) (setPending st ((ki st).push (lo,n,0))):=⟨h.kind,h.arr,h.fail,by show((ki st).push (lo,n,0)).toList=_;rw[Array.toList_push,h.pend],h.perm,h.ok,wK.mpr ⟨lo,h.rns,rfl,h1,hs,rfl⟩,a⟩
theorem vg:∀(f n r:Nat),r<=1->n<64\/n<=f->p9 f n r<=n+r/\(64<=n->p9 f n r<=n)
 |0,n,r,hr,h=>by have e:p9 0 n r=n+r:=rfl;rw[e];exact⟨dm,λz=>by omega⟩|f+1,n,r,hr,h=>by
   rw[minRun'_succ];by_cases c:n<64;.rw[if_pos c];exact⟨dm,λz=>by omega⟩
   .rw[if_neg c];have a:=vg f (n/2) (max r (n%2)) (by omega) (by omega);exact⟨by omega,λ_=>by omega⟩
theorem Ij(R:Rk M A E s κ ok K){x0:Array gl}{Q:Unit->iP->Prop}{st:iP}(h:SR κ ok K x0 x0 [] 0 st)(sg:Seg K x0 0 x0.size)(h1:1<=x0.size)(q:∀a,rc a=x0->qV a=bx->Q () a):wpS M A E s sortRuns' Q st:=by
 rw[sortRuns'_eq];refine hE (pp ?_);dsimp only;simp only[h.arr];have j:p9 x0.size x0.size 0<=x0.size:=(vg x0.size x0.size 0 (by omega) (.inr (dm))).1;generalize p9 x0.size x0.size 0=o at j;refine hE (wpS_mono (pz (I:=λx c a=>(c=(bx,0)/\SR κ ok K x0 x0 [] 0 a/\x=0)\/(c=(bx,x0.size)/\SR κ ok K x0 x0 [(0,x0.size,0)] x0.size a)) (Q:=λc a=>c=(bx,x0.size)/\SR κ ok K x0 x0 [(0,x0.size,0)] x0.size a) ?_ ?_ (.inl ⟨rfl,h,rfl⟩)) ?_)
 . rintro x c f _ k(⟨rfl,b,rfl⟩|⟨rfl,b⟩)
   . dsimp only;rw[if_neg (by omega)];refine hE (Gk R b.sx (lo:=0) (n:=x0.size-0) (by omega) (by omega) (by simpa using sg) ?_);dsimp only;rw[if_neg (by omega)];refine hE (pp ?_);have l:(ki f).back?=bx:=by have:ki f=#[]:=ky.mp b.pend;rw[this];rfl
     rw[l];dsimp only;refine hE (wpS_modify (ku (.inr ⟨by simp,?_⟩)));have:=b.Z9 (n:=x0.size-0) (by omega) (by omega) (by simpa using sg);simpa using this
   .dsimp only;rw[if_pos (dm)];exact ku ⟨rfl,b⟩
 . rintro c f(⟨rfl,b,e⟩|⟨rfl,b⟩);.omega
   .exact⟨rfl,b⟩
 . rintro c f⟨rfl,b⟩;dsimp only;refine hE (wpS_mono (pz (I:=λx c a=>c=(bx,())/\SR κ ok K x0 x0 [(0,x0.size,0)] x0.size a) (Q:=λc a=>c=(bx,())/\SR κ ok K x0 x0 [(0,x0.size,0)] x0.size a) ?_ (λ_ _ h=>h) ⟨rfl,b⟩) ?_)
   . rintro x c g _ k⟨rfl,i⟩;refine hE (pp ?_);try dsimp only
     have m:(ki g).size<=1:=by rw[<-jp,i.pend];simp
     rw[if_pos m];exact ku ⟨rfl,i⟩
   .rintro c g⟨rfl,i⟩;dsimp only;exact ku (q g i.arr i.fail)
end
end _H
namespace _H
open PySem W PyProof.Rows Calls _L Spec
section
variable{prog:dE}{w:eH}{A:fb}{E:b_->cr->Prop}{s:cr}{vs:List b_}{κ:i7}{P:b_->D->Prop}{ds:List D}
theorem HB{a:cw}{n:Nat}{O:PySem.Fin->cr->Prop}(ho:s.heap.get? a=aj (p4 "list" vs.toArray n))(so:sortable ds=a_)(hz:vs.length<=16777216)(L:Paired P vs ds)(fn:∀u d e,P u d->P u e->dj d=dj e)(z:ds.Pairwise λa b=>nu a b=a_)(N:∀h',(∀b o,b≠a->s.heap.get? b=aj o->h'.get? b=aj o)->∀C:i7->cr->Prop,C κ {s with heap:=h'}->2<=vs.length->cN (c_ prog w) A (keyKind' vs.toArray) C (λ_ _=>False) {s with heap:=h'})(hl:∀h',(∀b o,b≠a->s.heap.get? b=aj o->h'.get? b=aj o)->∀u v d e,P u d->P v e->∀C:Bool->cr->Prop,C (bI (dj d) (dj e)) {s with heap:=h'}->cN (c_ prog w) A (keyLt' κ u v) C (λ_ _=>False) {s with heap:=h'})(h:∀h' c p,(∀b o,b≠a->s.heap.get? b=aj o->h'.get? b=aj o)->p.Perm (dr vs.length)->pick .non p ds=Ra ds->h'.get? a=aj (p4 "list" (pick .none p vs).toArray c)->O (.done (.ret .none)) {s with heap:=h'}):cN (c_ prog w) A (k6.«list.sort» ⟨[.ref a],[]⟩) O E s:=by
 have ha:a<s.heap.objs.size:=dL ho;have B:vs.length=ds.length:=Paired.length L;obtain⟨l,G⟩:∃l,(s.heap.update a (gf λ_=>(#[]:Array b_))).get? a=aj (p4 "list" #[] l):=⟨_,get?_update_seq ho λ_=>#[]⟩;rw[list_sort_plain];refine ce (listItems_at ho rfl ?_);refine ce (oI ho rfl ?_ (by rw[cE,fi];omega) (um));refine ce (qr G rfl ?_);refine ce (wpAny_newTuple ?_ (by show vs.length<=_;rw[fi];omega));refine ce (wpAny_newList ?_ (um));refine hQ ?_;generalize hH:(((s.heap.update a (gf λ_=>(#[]:Array b_))).push {cls:=.type "tuple",data:=.seq vs.toArray}).push {cls:=.type "list",data:=.seq #[]}:eP)=m;have g:m.get? a=aj (p4 "list" #[] l):=by rw[<-hH];exact gU (gU G)
 have keep:∀b o,b≠a->s.heap.get? b=aj o->m.get? b=aj o:=λb o M e=>by rw[<-hH];exact gU (gU ((hY _ _ (gu M)).trans e))
 have fin:∀p:List Nat,p.Perm (dr vs.length)->pick .non p ds=Ra ds->O (.done (.ret .none)) {s with heap:=m.update a (gf λ_=>pT (pick .none p vs))}:=by intro p h1 f;obtain⟨c2,U⟩:∃c2,(m.update a (gf λ_=>pT (pick eN p vs))).get? a=aj (p4 "list" (pick eN p vs).toArray c2):=⟨_,get?_update_seq g λ_=>pT (pick eN p vs)⟩;exact h _ c2 p (λb o M e=>(hY _ _ (gu M)).trans (keep b o M e)) h1 f U
 show cN (c_ prog w) A _ O E {s with heap:=m};dsimp only;by_cases f:vs.toArray.size<2
 . rw[if_pos f,if_pos f];refine ce (cK ?_);rw[StateT.run_pure];refine ce (cK ?_);dsimp only;have eo:(rc (SortSt.mk' general' (vs.toArray.zip vs.toArray) #[] 7 bx)).map (·.2)=pT (pick eN (dr vs.length) vs):=by rw[m5];apply ky.mp;show((vs.toArray.zip vs.toArray).map (·.2)).toList=vs;simp[List.map_snd_zip]
   rw[eo];refine ce (qr g rfl ?_);refine ce (oI g rfl ?_ (um) (by rw[cE,tY (.refl _),fi];omega));simp only[bne_self_eq_false,iA,if_false];refine cK (fin _ (.refl _) ?_);rw[B,m5];refine qX so (.refl _) ?_;match ds,(show ds.length<2 by simp at f;omega)with|[],_=>exact .nil|[_],_=>exact List.pairwise_singleton ..|_::_::_,f=>simp at f;omega
 . rw[if_neg f,if_neg f];have W:2<=vs.length:=by simpa using f
   refine ce (N m keep _ ?_ W|>λq=>ew q (λ_ _ x=>x) λ_ _ x=>x.elim);have H:(vs.toArray.zip vs.toArray).toList=(dr vs.length).map λi=>(vs.getD i eN,vs.getD i eN):=by
    refine ll (by simp) λi h1 f=>?_;have:i<vs.length:=by simpa using f
    simp[this]
   have X:∀x∈(vs.toArray.zip vs.toArray).toList,∃d,d∈ds/\P x.1 d:=λx hx=>by rw[H]at hx;obtain⟨i,hi,rfl⟩:=cS.mp hx;have:=lu L i (gd.mp hi);exact⟨_,this.2,this.1⟩
   have R:Rk (c_ prog w) A E {s with heap:=m} κ (λx=>∃d,d∈ds/\P x.1 d) (rkK P ds):=⟨by rintro x y Q st⟨d,d1,d2⟩⟨e,l,t⟩Y hq;rw[Di fn d1 d2,Di fn l t,Jv d1]at hq;rw[lt'_eq];refine hE (pp ?_);rw[Y];refine hE (wpS_lift (wpAny_attempt (ew (hl m keep x.1 y.1 d e d2 t (λb Z=>Z={s with heap:=m}/\b=bI (dj d) (dj e)) ⟨rfl,rfl⟩) ?_ λ_ _ h=>h.elim)));rintro b Z⟨rfl,rfl⟩;exact⟨rfl,ku hq⟩⟩;have at':∀k,k<vs.length->it (vs.toArray.zip vs.toArray) k=(vs.getD k .none,vs.getD k .none):=λk N=>by rw[M4,H];simp[N]
   have hsz:(vs.toArray.zip vs.toArray).size=vs.length:=by simp
   have sg:Seg (rkK P ds) (vs.toArray.zip vs.toArray) 0 (vs.toArray.zip vs.toArray).size:=λi j _ ij jn=>by
    rw[hsz]at jn;rw[at' i (by omega),at' j jn];have a1:=lu L i (by omega);have a2:=lu L j jn;rw[Di fn a1.2 a1.1,Di fn a2.2 a2.1];by_cases e:i=j;.rw[e];exact fg _
    . have I:=List.pairwise_iff_getElem.mp z i j (by omega) (by omega) (by omega);simp only[nu,mu]at I;have l:ds.getD i .non=ds[i]'(by omega):=by simp[show i<ds.length by omega]
      have t:ds.getD j .non=ds[j]'(by omega):=by simp[show j<ds.length by omega]
      rw[<-l,<-t,<-Jv a2.2,decide_eq_false_iff_not]at I;omega
   have run:=Ij R (x0:=vs.toArray.zip vs.toArray) (st:=SortSt.mk' κ (vs.toArray.zip vs.toArray) #[] 7 bx) (Q:=λ_ r=>∃p:List Nat,p.Perm (dr vs.length)/\pick .non p ds=Ra ds/\(rc r).map (·.2)=(pick eN p vs).toArray/\qV r=bx) ⟨rfl,rfl,rfl,rfl,.refl _,X,rfl,um⟩ sg (by rw[hsz];omega) λr l t=>by
     refine⟨dr vs.length,.refl _,?_,?_,t⟩;.rw[B,m5];exact qX so (.refl _) z
     .rw[l,m5];apply ky.mp;simp[List.map_snd_zip]
   refine ce (ew run ?_ λ_ _ e=>e);rintro⟨⟨⟩,r⟩Z⟨rfl,p,p1,p2,J,hf⟩;dsimp only;rw[J];refine ce (qr g rfl ?_);refine ce (oI g rfl ?_ (um) (by rw[cE,tY p1,fi];omega));rw[hf];simp only[bne_self_eq_false,iA,if_false];exact cK (fin _ p1 p2)
end
end _H
namespace _H
open PySem _L Spec PyProof.Rows Calls W
noncomputable def Ac(nw:cw->Option HO)(H:Hp):Hp:=λa=>match nw a with|some o=>aj o|none=>H a
theorem wO{nw:cw->Option HO}{H:Hp}{a:cw}{o:HO}(h:nw a=aj o):Ac nw H a=aj o:=by unfold Ac;rw[h]
theorem gY{nw:cw->Option HO}{H:Hp}{a:cw}(h:nw a=bx):Ac nw H a=H a:=by unfold Ac;rw[h]
theorem aau{X:Cx}{g:List (cw×Obj)}{σ:_L.St}{H:Hp}{s:cr}{h':eP}{t':Nat}{nw:cw->Option HO}(I:_L.Inv X g σ H s)(k:∀b u,s.heap.get? b=aj u->h'.get? b=aj u)(i:∀a o,nw a=aj o->s.heap.objs.size<=a)(h:∀a o,nw a=aj o->bR X.prog X.w (Ac nw H) h' a o):_L.Inv X g σ (Ac nw H) {s with heap:=h',toks:=t'}:=by
 have no:∀a,a<s.heap.objs.size->nw a=bx:=λa j=>by cases q:nw a with|none=>rfl|some o=>exact absurd (i a o q) (Nat.not_le_of_lt j)
 have f:∀a o,H a=aj o->Ac nw H a=aj o:=λa o e=>by rw[gY (no a (I.hok.lt e))];exact e
 refine I.un ⟨λb u q _ _ _=>k b u q,λb u q _ _ _=>⟨u.slots,k b u q⟩,λb u q n _=>?_,λb u q _=>⟨u,k b u q⟩,λb xs q=>f b _ q,λb u xs q=>f b _ q,λb ps q=>⟨#[],by rw[f b _ q];simp⟩⟩ λb u e=>?_;.rw[gY (no b (dL q))];exact n
 .cases q:nw b with|some o=>rw[wO q]at e;cases e;exact h b _ q|none=>rw[gY q]at e;exact(I.hok b u e).stay (λc v _ z=>k c v z) (λc z=>f c _ z) λc xs z=>f c _ z
noncomputable def iv(l d:cw):eP->Prop:=λh=>h.IsItemsView l d
noncomputable def Ii:V->List V->Hp->VK->Prop:=λx xs H Q=>∃q a kvs,x=.ref q/\xs=[]/\H q=aj (.dC a (.dK (map uo kvs)))/\∀l,H l=bx->Q (.ref l) (upd H l (.ext (iv l q)))
noncomputable def rIt(X:Cx):List V->Hp->VK->Prop:=λxs H Q=>∃l q f kvs,xs=[.ref l]/\H l=aj (.ext (iv l q))/\H q=aj (.dC f (.dK (map uo kvs)))/\(kvs.length<=16777216/\kvs.Pairwise (λa b=>a.1<b.1))/\∃F,aN F H/\∀v e c,Ext F H e c->cJ X.K e c H v (.own (kvs.map jY))->Q v c
theorem yO{P:dE}{w:eH}{h:eP}:∀{kvs:List (Int×Int)}{vs:List (Key×b_)}{as:List cw},KV (kvs.map uo) vs->as.length=vs.length->(∀(j:Nat)(a:cw),as[j]?=aj a->∃key k x,vs[j]?=aj (k,x)/\(bz P w).is k key=a_/\h.get? a=aj {cls:=.type "tuple",data:=.seq #[key,x]})->∀(j:Nat)(a:cw),as[j]?=aj a->∃p,kvs[j]?=aj p/\∃t u,h.get? a=aj {cls:=.type "tuple",data:=.seq #[gb p.1 t,gb p.2 u]}
 |[],_,as,.nil,f,_,j,a,e=>by cases as with|nil=>cases e|cons _ _=>simp at f
 |p::kvs,_,as,.cons (b:=q) r t,f,hk,j,a,e=>by cases as with|nil=>cases e|cons b as=>cases j with
     |zero=>
       obtain⟨key,k,x,g,m,n⟩:=hk 0 a e;simp at g;have o:k=dl p.1:=by have z:=r.1;rw[g]at z;exact z.symm
       have s:∃u,x=gb p.2 u:=by have z:=r.2;rw[g]at z;exact z
       subst o;obtain⟨u,rfl⟩:=s;obtain⟨i,v,l,rfl⟩|⟨_,_,l,_⟩:=bM (show pO (dl p.1) key=a_ from m);.cases l;exact⟨p,rfl,v,u,n⟩
       .cases l|succ j=>exact yO t (by simpa using f) (λi c z=>by simpa using hk (i+1) c (by simpa using z)) j a (by simpa using e)
noncomputable def tpV(p:Int×Int):HO:=.tup [.int p.1,.int p.2]
noncomputable def qP:List cw->List (Int×Int)->cw->Option HO|a::as,p::ps,b=>if b=a then aj (tpV p)else qP as ps b|_,_,_=>bx
theorem qO:∀{as:List cw}{ps:List (Int×Int)}{b:cw}{o:HO},qP as ps b=aj o->∃(j:Nat)(p:Int×Int),as[j]?=aj b/\ps[j]?=aj p/\o=tpV p
 |a::as,p::ps,b,o,h=>by
   unfold qP at h;split at h;.rename_i e;cases h;subst e;exact⟨0,p,rfl,rfl,rfl⟩
   .obtain⟨j,q,h1,c,f⟩:=qO h;exact⟨j+1,q,by simpa using h1,by simpa using c,f⟩|[],_,_,_,h=>by simp[qP]at h|_::_,[],_,_,h=>by simp[qP]at h
theorem CW:∀{as:List cw}{ps:List (Int×Int)},as.Pairwise (·<·)->∀{j:Nat}{b:cw}{p:Int×Int},as[j]?=aj b->ps[j]?=aj p->qP as ps b=aj (tpV p)|[],_,_,_,_,_,h,_=>by simp at h|_::_,[],_,_,_,_,_,h=>by simp at h|a::as,q::ps,c,j,b,p,h1,f=>by unfold qP;cases j with|zero=>cases h1;cases f;rw[if_pos rfl]|succ j=>
     have h1:as[j]?=aj b:=by simpa using h1
     have:=(lb.mp c).1 b (dV h1);rw[if_neg (λe=>by rw[e]at this;exact hV _ this)];exact CW (lb.mp c).2 h1 (by simpa using f)
theorem tu:∀as:List cw,Vals (as.map V.ref) (as.map eg)|[]=>.nil|_::as=>.cons rfl (tu as)
theorem Ds{K:PySem.W.Frag}{F:Hp}:∀{as:List cw}{ps:List (Int×Int)},as.length=ps.length->(∀(j:Nat)(b:cw)(p:Int×Int),as[j]?=aj b->ps[j]?=aj p->F b=aj (tpV p))->aG K F (as.map V.ref) (ps.map jY)|[],[],_,_=>.nil|a::as,p::ps,c,h=>.cons (by have:=h 0 a p rfl rfl;rw[show jY p=.tup [.int p.1,.int p.2]from rfl,Rep];refine⟨a,_,rfl,.inl (.inl this),.cons (by rw[Rep]) (.cons (by rw[Rep]) .nil)⟩) (Ds (by simpa using c) λj b q h1 e=>h (j+1) b q (by simpa using h1) (by simpa using e))|[],_::_,c,_=>by simp at c|_::_,[],c,_=>by simp at c
theorem DK{h:eP}:∀{as:List cw}{ps:List (Int×Int)},as.length=ps.length->(∀(j:Nat)(b:cw),as[j]?=aj b->∃p,ps[j]?=aj p/\∃t u,h.get? b=aj {cls:=.type "tuple",data:=.seq #[gb p.1 t,gb p.2 u]})->Paired (p7 h) (as.map eg) (ps.map jY)|[],[],_,_=>.nil|a::as,p::ps,c,h=>.cons (by obtain⟨q,e,t,u,g⟩:=h 0 a rfl;cases e;exact⟨a,[gb p.1 t,gb p.2 u],[p.1,p.2],rfl,⟨_,g,rfl,0,rfl⟩,.cons _ _ (.cons _ _ .nil),by simp,rfl⟩) (DK (by simpa using c) λj b h1=>by simpa using h (j+1) b (by simpa using h1))|[],_::_,c,_=>by simp at c|_::_,[],c,_=>by simp at c
theorem zA{prog:dE}{w:eH}{A:fb}{E:b_->cr->Prop}{s:cr}{v d:cw}{kvs:List (Key×b_)}{ep:Nat}{Q:List b_->cr->Prop}(n:A.handled=bx)(i:s.heap.IsItemsView v d)(j:s.heap.DictAt (bz prog w) d kvs ep)(p:kvs.length<=sizeLine)(t:∀(h':eP)(f:Nat)(as:List cw),(∀b o,s.heap.get? b=aj o->h'.get? b=aj o)->s.heap.objs.size<h'.objs.size->as.length=kvs.length->KdxG (bz prog w) kvs s.heap.objs.size h' as->Q (as.map eg) {s with heap:=h',toks:=f}):cN (c_ prog w) A (collect (.ref v)) Q E s:=by
 have g:v<s.heap.objs.size:=let⟨_,h1,_⟩:=i;dL h1;have h:d<s.heap.objs.size:=j.lt_size;unfold collect;refine ce (wpAny_runValue (k8 F.entry_proto_collect ?_));rw[i6 F.plain_proto_collect _];show cN _ A.in1 (newList []>>=λl=>again (.builtin "list.__iadd__" ⟨[l,.ref v],[]⟩)) _ _ s;refine ce (eA (cK ⟨l7 F.plain_list_iadd _,k8 F.entry_list_iadd ?_⟩));rw[i6 F.plain_list_iadd _];show cN _ A.in1 (lh (.ref s.heap.objs.size) (.ref v) (.ref s.heap.objs.size)) _ _ _;refine kdx_extend (A:=A) (R:=λr k=>match r with
  |.ok (.ret v)=>cN (c_ prog w) A (match v with
   |.ref a=>do let o<-load a match o.data with|.seq xs _=>fm xs.toList|_=>m3 "internal:collect"
   |_=>m3 "internal:collect") Q E k|.ok _=>False|.error e=>E e k) (s:={s with heap:=s.heap.push {cls:=.type "list",data:=.seq #[]}}) n (let⟨o,h1,q⟩:=i;⟨o,gU h1,q⟩) (j.at' λo e=>gU e) s.heap.objs.size (Nat.ne_of_gt g) (ej h) _ 0 (dA _ rfl) (λh' f u B as x m y z c=>?_) p;refine ce (wpAny_load m (cK ?_));rw[c];exact t h' f as (λb o e=>x b o (ej (dL e)) (gU e)) (dL m) y (z.low (by rw[size_push'];exact le_succ _))
section
variable{X:Cx}{c:Call}{a:df}{pa:P}{pos:Pos}
theorem JF:MtR X "dict.items" Ii:=by rintro f s σ H x xs v u Q I h i⟨q,j,kvs,rfl,rfl,l,k⟩;cases h;cases i;obtain⟨ho,hz,m,vs,r,g⟩:=(show bR X.prog X.w H s.heap q (.dC j (.dK (kvs.map uo)))from I.hok q _ l);refine qc PySem.F.slot_dict_items g.typeIs PySem.F.entry_dict_items (PySem.F.args_dict_items_1 _) (meets_dict_items _ q m) ⟨⟨vs,g⟩,?_⟩;have n:(s.heap.push {cls:=.type "dict_items",data:=.fields #[.ref q]}).IsItemsView s.heap.objs.size q:=⟨_,dA _ rfl,rfl,rfl⟩;refine⟨.ref s.heap.objs.size,_,I.laid (t':=s.toks) (o:=.ext (iv s.heap.objs.size q)) (λb o e=>gU e) (dm) ⟨n,⟨_,dA _ rfl⟩,λh1 y z k=>?_⟩,rfl,k _ (I.hok.fresh (dm))⟩;obtain⟨o,p,t⟩:=z;exact⟨o,k o p,t⟩
theorem SJ(hc:X.calm=a_):eO X (.builtin "sorted") (rIt X):=by
 rintro al s σ H xs us Q I r⟨l,q,ob,kvs,hx,hl,hq,⟨am,ac⟩,F,sm,k⟩;subst hx;have so:sortable (kvs.map jY)=a_:=by
  have:(kvs.map jY).all zE=a_:=by rw[fH];intro x hx;obtain⟨p,_,rfl⟩:=cS.mp hx;rfl
  simp only[sortable,dQ,this,Bool.or_true,nk,decide_eq_true_eq];omega
 have J:(kvs.map jY).Pairwise λa b=>nu a b=a_:=by rw[List.pairwise_map];refine ac.imp λ{a b}h=>?_;show(!bI [b.1,b.2] [a.1,a.2])=a_;simp[bI];omega
 have ae:Ra (kvs.map jY)=kvs.map jY:=(qX so (.refl _) J).symm;rw[<-ae]at k;obtain⟨u,rfl,rx⟩:=r.one;cases rx;obtain⟨af,_,_⟩:=(show bR X.prog X.w H s.heap l (.ext (iv l q))from I.hok l _ hl);obtain⟨ho,hz,hS,vs,rv,dd⟩:=(show bR X.prog X.w H s.heap q (.dC ob (.dK (kvs.map uo)))from I.hok q _ hq);have L:vs.length=kvs.length:=by rw[<-Paired.length rv,dQ]
 obtain⟨f,es,ep,d1,d2,d3,d4⟩:=dd;have dat:s.heap.DictAt (bz X.prog X.w) q vs ep:=⟨f,es,d1,d2,d3,d4⟩;refine Calls.call_function_entry kind_sorted plain_sorted entry_sorted (args_sorted1 _) ?_;unfold k6.«sorted»;refine ce (m:=checkCount "sorted" 1 1 _) (cK ?_);refine ce (zA (A:=X.A.in1) (I.ok.hd hc) af dat (by rw[L,fi];omega) λh1 M as kp hsz N hG=>?_);have hsz:=lj hsz;have g:as.length=kvs.length:=N.trans L;have pr:=yO rv N hG.pairs;have tt:Paired (p7 h1) (as.map eg) (kvs.map jY):=DK g pr;have O:∀a o,qP as kvs a=aj o->s.heap.objs.size<=a:=λa o e=>by obtain⟨j,p,U,_,_⟩:=qO e;exact lj (hG.above a (dV U))
 have i:∀a o,qP as kvs a=aj o->H a=bx:=λa o e=>I.hok.fresh (O a o e);have B:aN H (Ac (qP as kvs) H):=λb o e=>by cases z:qP as kvs b with|none=>rw[gY z];exact e|some f=>rw[i b f z]at e;cases e
 have e0:Ext F H (Ac (qP as kvs) F) (Ac (qP as kvs) H):=by
  refine⟨B,λb o e=>?_,λb o e=>?_,λb n n'=>?_⟩;.cases z:qP as kvs b with|none=>rw[gY z];exact e|some f=>have n0:=i b f z;rw[sm b o e]at n0;cases n0
  .cases z:qP as kvs b with|none=>rw[gY z]at e ⊢;exact sm b o e|some f=>rw[wO z]at e ⊢;exact e
  .cases z:qP as kvs b with|none=>rw[gY z]at n';exact absurd n n'|some f=>rw[i b f z];rfl
 have rs:aG X.K (Ac (qP as kvs) F) (as.map V.ref) (kvs.map jY):=Ds g λj b p h1 h2=>wO (CW hG.rise h1 h2);have vv:=tu as;have ag:∀b∈as,b<h1.objs.size:=λb hb=>hG.there hb;have W:(as.map eg).length=kvs.length:=by rw[dQ];exact g
 refine ce (wpAny_newList ?_ (by rw[W,fi];omega));generalize Y:(h1.push {cls:=.type "list",data:=.seq (as.map eg).toArray}:eP)=G;have Z:G.get? h1.objs.size=aj (p4 "list" (as.map eg).toArray 0):=by rw[<-Y];exact dA _ rfl
 have Ls:∀b o,h1.get? b=aj o->G.get? b=aj o:=λb o e=>by rw[<-Y];exact gU e
 have E:∀b o,h1.get? b=aj o->b≠h1.objs.size:=λb o e=>ej (dL e);show cN _ _ _ _ _ {s with heap:=G,toks:=M};refine ce (hQ (i8 slot_list_sort ⟨_,Z,rfl⟩ entry_list_sort ?body (args_list_sort _)));case body=>
  refine HB (s:={s with heap:=G,toks:=M}) (κ:=tuples' (fR "int"!=fR "tuple")) Z so (by omega) tt Ow J (λh' k' C hC h2=>?_) (λh' k' u v d e hd he C hC=>?_) λh' cc p k' p1 p2 e=>?_;.exact GJ (s:={s with heap:=h',toks:=M}) (vK (λb o z=>k' b o (E b o z) (Ls b o z)) tt) h2 hC
  .have kk:∀b o,h1.get? b=aj o->h'.get? b=aj o:=λb o z=>k' b o (E b o z) (Ls b o z);exact Pk (s:={s with heap:=h',toks:=M}) (oU kk hd) (oU kk he) hC
  . refine⟨_,rfl,cK ⟨_,rfl,?_⟩⟩;have kk:∀b o,h1.get? b=aj o->h'.get? b=aj o:=λb o z=>k' b o (E b o z) (Ls b o z);have hL:qP as kvs h1.objs.size=bx:=by cases z:qP as kvs h1.objs.size with|none=>rfl|some o=>obtain⟨j,p,U,_,_⟩:=qO z;exact absurd (ag _ (dV U)) (hV _)
    have ah:upd (Ac (qP as kvs) H) h1.objs.size (.lst (pick .non p (as.map V.ref)))=Ac (λb=>if b=h1.objs.size then aj (.lst (pick .non p (as.map V.ref)))else qP as kvs b) H:=by
     funext b;unfold upd Ac;by_cases z:b=h1.objs.size;.rw[if_pos z];simp only[if_pos z]
     .rw[if_neg z];simp only[if_neg z]
    have I':=aau (t':=M) (h':=h') (nw:=λb=>if b=h1.objs.size then aj (.lst (pick .non p (as.map V.ref)))else qP as kvs b) I (λb o z=>kk b o (kp b o z)) (λa o z=>by
     by_cases y:a=h1.objs.size;.rw[y];exact hsz
     .simp only[if_neg y]at z;exact O a o z) (λa o z=>by
     by_cases y:a=h1.objs.size;.simp only[if_pos y]at z;cases z;subst y;exact⟨by rw[tY p1,W,fi];omega,pick .none p (as.map eg),cc,Ka vv,e⟩
     .simp only[if_neg y]at z;obtain⟨j,p',U,e2,rfl⟩:=qO z;obtain⟨ap,e3,t,u,e4⟩:=pr j a U;rw[e2]at e3;cases e3;exact⟨by rw[fi];simp,[gb p'.1 t,gb p'.2 u],.cons ⟨t,rfl⟩ (.cons ⟨u,rfl⟩ .nil),⟨_,kk _ _ e4,rfl,0,rfl⟩⟩);rw[<-ah]at I';refine⟨.ref h1.objs.size,_,I',rfl,?_⟩;have ai:aG X.K (Ac (qP as kvs) F) (pick .non p (as.map V.ref)) (Ra (kvs.map jY)):=by rw[<-p2];exact Jc rs
    refine Aj e0.sub ai (by rw[gY hL];exact I.hok.fresh hsz) λv F2 G x rn=>k v F2 G ⟨e0.hs.trans x.hs,e0.fs.trans x.fs,x.sub,λc n n'=>?_⟩ ?_
    . by_cases e:Ac (qP as kvs) F c=bx;.have:=x.gr c e n';cases z:H c with|none=>rfl|some o=>rw[B c o z]at this;exact this
      .exact e0.gr c n e
    obtain⟨b,xs,q1,q2,q3,q4,q5⟩:=rn;refine⟨b,xs,q1,q2,q3,q4,?_⟩;cases z:H b with|none=>rfl|some o=>rw[B b o z]at q5;cases q5
theorem Hn{o:df}{to:TE}{f g:Pos}(ho:PE X o to)(j:gS o "items" X.env (eB o X.env)=eB o X.env:=by rfl)(l:(f.endLine==g.line)=a_:=by rfl):PE X (.Call (.Attribute o "items" f) [] [] g) (λσ H Q=>to σ H λx m=>Ii x [] m Q):=by intro i s σ H Q I h;refine wpAny_Call_method0_late j l (cB (ho i s σ H _ I h) λv s1⟨x,m,I1,r1,q1⟩=>?_);obtain⟨q,u,kvs,rfl,_,y,k⟩:=id q1;cases r1;obtain⟨ho,hz,z,vs,r,n,es,ep,p,t,A⟩:=(show bR X.prog X.w m s1.heap q (.dC u (.dK (kvs.map uo)))from I1.hok q _ y);refine⟨"dict","dict.items",PySem.F.plainAttrs_dict,PySem.F.slot_dict_items,PySem.F.type_dict_items,⟨n,p,t.1⟩,λb e=>?_,kC rfl (PySem.evalArgs_none (JF i s1 σ m (.ref q) [] _ [] Q I1 rfl .nil q1))⟩;cases e;exact⟨n,p,t.2.1⟩
theorem Oj{x:Str}{U f j:Pos}{o:df}(W:x="sorted")(hc:X.calm=a_)(Y:Gl X x)(Z:X.mg x=bx)(p:(f.endLine==j.line)=a_)(ha:SX X c o pa)(s:gS o "items" X.env (eB o X.env)=eB o X.env:=by rfl):SX X c (.Call (.Name x U) [.Call (.Attribute o "items" f) [] [] j] [] pos) (.blt .Lh [pa]):=by
 subst W;obtain⟨ta,h1,h3⟩:=ha.cu;refine⟨dN (fC (SJ hc) Y Z boot_sorted (bf (Hn h1 s p) cV)) ?_,λi h=>by cases h⟩;rintro σ H Q⟨F,ρ,r,C,g,e,k⟩;have e:((cu (isVar pa) (_H.ev c pa) ρ).bind λx ρ=>lift (blt .Lh [x]) ρ)=.ok r C:=e;obtain⟨d,ac,e1,u⟩:=aa e;have zz:=az u;clear u;obtain⟨u,e3⟩:=zz;subst e3;refine h3 g e1 λv J y st pv=>?_;obtain⟨kvs,rfl⟩:∃kvs,d=.dM (.k kvs):=by cases d with
  |dM m=>cases m with|k kvs=>exact⟨kvs,rfl⟩|t kvs=>cases u
  |_=>cases u
 obtain⟨so,he⟩:=aZ (show(if kvs.length<=16777216/\kvs.Pairwise (λa b=>a.1<b.1)then aj (R.own (kvs.map jY))else bx)=aj r from u);subst he;obtain⟨q,L,rfl,M⟩:=pv.dM st.gs.sub;refine⟨q,L,kvs,rfl,rfl,M,λl A=>⟨l,q,L,kvs,rfl,aH,aN.cO A q _ M,so,J,λb o e=>aN.cO A b o (st.gs.sub b o e),λw E G B rn=>?_⟩⟩;have sm:aN y (upd y l (.ext (iv l q))):=aN.cO A;have x3:Ext J y E G:=⟨sm.trans B.hs,B.fs,B.sub,λb n n'=>by
  have:=B.gr b n n';by_cases N:b=l;.subst N;rw[A];rfl
  .rw[aF N]at this;exact this⟩;have I:cJ X.K E G y w (.own (kvs.map jY)):=by obtain⟨b,xs,q1,q2,q3,q4,O⟩:=rn;refine⟨b,xs,q1,q2,q3,q4,?_⟩;cases z:y b with|none=>rfl|some o=>rw[sm b o z]at O;cases O
 exact k w E G (st.trans (x3.stp st.gs)) (.later st (I.qm st.gs))
end
end _H
namespace _H
open PySem _L Spec PyProof.Rows
variable{o:Option V}{rows:List (List D)}
section
variable{K:PySem.W.Frag}{F F' F1 H H' H1 F0 H0:Hp}{ρ ρ' ρ1 ρ0:List Sl}{σ σ' σ1 σ0:_L.St}{x:Nat}{q:cw}{as:List cw}{rows pZ:List (List D)}
noncomputable def HQ:Sl->Bool|.aV=>a_|.hold _=>a_|_=>aK
theorem gK{s:Sl}{i:Nat}{b:cw}(g:HQ s=a_)(h:bj (ρ.set x s) (σ.set x o) i b):bj ρ σ i b/\i≠x:=by
 obtain⟨⟨t,ds,e,a⟩,f⟩:=h;by_cases c:x=i
 . subst c;rw[mv]at e;rw[if_pos rfl]at e;split at e;.cases e;cases s<;>first|(cases a;done)|(cases g;done)
   .cases e
 .rw[eR c]at e f;exact⟨⟨⟨t,ds,e,a⟩,f⟩,λz=>c z.symm⟩
theorem GS.DP{s:Sl}(f:HQ s=a_)(g:GS K F ρ σ H):GS K F (ρ.set x s) (σ.set x o) H:=by
 refine⟨g.sub,by simp[g.len],λi b d e=>?_,λi t ds e h=>?_,λi j a h1 k=>g.dis i j a (gK f h1).1 (gK f k).1⟩
 . by_cases c:x=i
   . subst c;rw[mv,if_pos rfl]at e;split at e;.cases e;cases f
     .cases e
   .rw[eR c]at e ⊢;exact g.val i b d e
 . by_cases c:x=i
   . subst c;rw[mv,if_pos rfl]at e;split at e;.cases e;cases s<;>first|(cases h;done)|(cases f;done)
     .cases e
   .rw[eR c]at e ⊢;exact g.own i t ds e h
theorem aB.DP{s:Sl}{o:Option V}(a:HQ s=a_)(t:aB K F ρ σ H F1 ρ1 σ1 H1)(f:∀s0,ρ[x]?=aj s0->uN s0=aK):aB K F ρ σ H F1 (ρ1.set x s) (σ1.set x o) H1:=by
 refine⟨t.gs.DP a,t.cL,t.xP,t.keep,λb⟨i,h⟩=>t.vO b ⟨i,(gK a h).1⟩,by simp[t.len],λi g e l=>?_⟩;have c:x≠i:=by rintro rfl;rw[f _ e]at l;cases l
 obtain⟨j,s2,k,m⟩:=t.lk i g e l;exact⟨by rw[eR c];exact j,s2,by rw[eR c];exact k,m⟩
theorem aB.free{i:Nat}{s1:Sl}(t:aB K F ρ σ H F1 ρ1 σ1 H1)(h:ρ1[i]?=aj s1)(a:uN s1=aK):∀s0,ρ[i]?=aj s0->uN s0=aK:=λs0 e=>by cases z:uN s0 with|false=>rfl|true=>obtain⟨_,s2,b,c⟩:=t.lk i s0 e z;rw[h]at b;cases b;rw[c.uN z]at a;cases a
structure Vt(F:Hp)(ρ:List Sl)(σ:_L.St)(H:Hp)(a:cw)(xs:List V):Prop where kp:Kp ρ σ H a (.lst xs)fr:F a=bx
theorem Vt.stp{a:cw}{xs:List V}(h:Vt F ρ σ H a xs)(s:aB K F ρ σ H F' ρ' σ' H'):Vt F' ρ' σ' H' a xs:=by refine⟨h.kp.stp s,?_⟩;cases z:F' a with|none=>rfl|some o=>
   rcases s.xP a h.fr (by rw[z];simp)with y|y;.exact absurd y h.kp.2
   .rw[h.kp.1]at y;cases y
structure Nw(K:PySem.W.Frag)(x:Nat)(q:cw)(as:List cw)(F:Hp)(ρ:List Sl)(σ:_L.St)(H:Hp)(rows:List (List D)):Prop where
 slot:ρ[x]?=aj (.hold rows)val:σ[x]?=aj (aj (.ref q))out:Vt F ρ σ H q (as.map V.ref)nd:(q::as).Nodup
 len:as.length=rows.length
 row:∀(k:Nat)(a:cw)(ds:List D),as[k]?=aj a->rows[k]?=aj ds->Wt K F ρ σ H a ds
theorem Nw.stp(w:Nw K x q as F ρ σ H rows)(s:aB K F ρ σ H F' ρ' σ' H'):Nw K x q as F' ρ' σ' H' rows:=by obtain⟨b,s2,c,e⟩:=s.lk x _ w.slot rfl;cases(show s2=.hold rows from e);exact⟨c,b.trans w.val,w.out.stp s,w.nd,w.len,λk a ds h1 f=>(w.row k a ds h1 f).stp s⟩
structure NB(K:PySem.W.Frag)(x:Nat)(q:cw)(as:List cw)(F0:Hp)(ρ0:List Sl)(σ0:_L.St)(H0:Hp)(F:Hp)(ρ:List Sl)(σ:_L.St)(H:Hp)(rows:List (List D)):Prop where
 stp:aB K F0 ρ0 σ0 H0 F ρ σ H
 fresh:∀b,b∈q::as->Own ρ0 σ0 b\/H0 b=bx
 free:∀s0,ρ0[x]?=aj s0->uN s0=aK
 nw:Nw K x q as F ρ σ H rows
theorem NB.step(b:NB K x q as F0 ρ0 σ0 H0 F ρ σ H rows)(s:aB K F ρ σ H F' ρ' σ' H'):NB K x q as F0 ρ0 σ0 H0 F' ρ' σ' H' rows:=⟨b.stp.trans s,b.fresh,b.free,b.nw.stp s⟩
theorem Es{s:Sl}{a:cw}{b:HO}(c:HQ s=a_)(h:Kp ρ σ H a b):Kp (ρ.set x s) (σ.set x o) H a b:=⟨h.1,λ⟨i,z⟩=>h.2 ⟨i,(gK c z).1⟩⟩
theorem N5{s:Sl}{a:cw}{ds:List D}(b:HQ s=a_)(h:Wt K F ρ σ H a ds):Wt K F (ρ.set x s) (σ.set x o) H a ds:=by obtain⟨⟨xs,h1,c⟩,e⟩:=h;exact⟨⟨xs,Es b h1,c⟩,e⟩
theorem aB.aaP{Da:cw}{o:HO}(s:aB K F ρ σ H F1 ρ1 σ1 H1)(h:Own ρ σ Da\/H Da=bx)(g:F1 Da=bx)(ho:¬ Own ρ1 σ1 Da):aB K F ρ σ H F1 ρ1 σ1 (upd H1 Da o):=by
 refine⟨⟨λb u e=>?_,s.gs.len,s.gs.val,λi t ds e c=>?_,s.gs.dis⟩,s.cL,s.xP,λb u e n=>?_,s.vO,s.len,s.lk⟩
 . have:b≠Da:=by rintro rfl;rw[g]at e;cases e
   rw[aF this];exact s.gs.sub b u e
 . obtain⟨a,xs,f,j,k,l⟩:=s.gs.own i t ds e c;have:a≠Da:=by rintro rfl;exact ho ⟨i,⟨t,ds,e,c⟩,f⟩
   exact⟨a,xs,f,by rw[aF this];exact j,k,l⟩
 . have:b≠Da:=by
    rintro rfl;rcases h with h|h;.exact n h
    .rw[h]at e;cases e
   rw[aF this];exact s.keep b u e n
theorem NB.mut{r:Nat}{a:cw}{row e:List D}{ys:List V}(b:NB K x q as F0 ρ0 σ0 H0 F ρ σ H rows)(g:as[r]?=aj a)(hr:rows[r]?=aj row)(n:aG K F ys e):NB K x q as F0 ρ0 σ0 H0 F (ρ.set x (.hold (rows.set r e))) σ (upd H a (.lst ys)) (rows.set r e):=by
 have w:=b.nw.row r a row g hr;obtain⟨⟨xs,l,r1⟩,f1⟩:=w;have p:x<ρ.length:=(eY b.nw.slot).1;have sx:σ.set x (aj (.ref q))=σ:=by have:=b.nw.val;obtain⟨h1,f⟩:=eY this;rw[<-f];simp
 have mem:a∈q::as:=dI _ (dV g);have s1:=(b.stp.aaP (o:=.lst ys) (b.fresh a mem) f1 l.2).DP (x:=x) (s:=.hold (rows.set r e)) (o:=aj (.ref q)) rfl b.free;rw[sx]at s1;have t:q≠a:=by have:=(eL.mp b.nw.nd).1;rintro rfl;exact this (dV g)
 have own:∀{c:cw},¬ Own ρ σ c->¬ Own (ρ.set x (.hold (rows.set r e))) σ c:=λ{c}h⟨i,z⟩=>h ⟨i,by have:=gK (x:=x) (s:=.hold (rows.set r e)) (o:=aj (.ref q)) (σ:=σ) (ρ:=ρ) rfl (b:=c) (i:=i) (by rw[sx];exact z);exact this.1⟩;refine⟨s1,b.fresh,b.free,⟨cv p,b.nw.val,⟨⟨by rw[aF t];exact b.nw.out.kp.1,own b.nw.out.kp.2⟩,b.nw.out.fr⟩,b.nw.nd,by simp[b.nw.len],λk c ds h1 f=>?_⟩⟩;by_cases j:k=r;.subst j;rw[g]at h1;cases h1;have u:k<rows.length:=(eY hr).1;rw[cv u]at f;cases f;exact⟨⟨ys,⟨aH,own l.2⟩,n⟩,f1⟩
 . rw[eR (λz=>j z.symm)]at f;obtain⟨⟨v,m,y⟩,f2⟩:=b.nw.row k c ds h1 f;have nc:c≠a:=by rintro rfl;have nd:=(eL.mp b.nw.nd).2;obtain⟨C,A⟩:=eY h1;obtain⟨l2,B⟩:=eY g;exact j ((List.getElem_inj nd).mp (A.trans B.symm))
   exact⟨⟨v,⟨by rw[aF nc];exact m.1,own m.2⟩,y⟩,f2⟩
noncomputable def Fz(F H:Hp)(bs:List cw):Hp:=λb=>if b∈bs then H b else F b
theorem vD{G:Hp}:∀{as:List cw}{rows:List (List D)},as.length=rows.length->(∀(k:Nat)(a:cw)(ds:List D),as[k]?=aj a->rows[k]?=aj ds->Rep K G (.ref a) (.lst ds))->aG K G (as.map V.ref) (rows.map D.lst)|[],[],_,_=>.nil|a::as,ds::rows,h,k=>.cons (k 0 a ds rfl rfl) (vD (by simpa using h) λj b es h1 c=>k (j+1) b es (by simpa using h1) (by simpa using c))|[],_::_,h,_=>by simp at h|_::_,[],h,_=>by simp at h
theorem Nw.QX(w:Nw K x q as F ρ σ H rows){b:cw}(hb:b∈q::as):F b=bx/\¬ Own ρ σ b:=by
 rcases de.mp hb with rfl|hb;.exact⟨w.out.fr,w.out.kp.2⟩
 . obtain⟨k,a⟩:=kb hb;have c:k<rows.length:=by rw[<-w.len];exact(eY a).1
   obtain⟨⟨xs,e,_⟩,f1⟩:=w.row k b rows[k] a (by simp[c]);exact⟨f1,e.2⟩
theorem Nw.fz(w:Nw K x q as F ρ σ H rows)(sm:aN F H):aN F (Fz F H (q::as))/\aN (Fz F H (q::as)) H/\Rep K (Fz F H (q::as)) (.ref q) (.lst (rows.map D.lst)):=by
 have s1:aN F (Fz F H (q::as)):=λb o e=>by unfold Fz;rw[if_neg λc=>by rw[(w.QX c).1]at e;cases e];exact e
 refine⟨s1,λb o e=>?_,?_⟩
 . unfold Fz at e;split at e;.exact e
   .exact sm b o e
 .rw[Rep];refine⟨q,as.map V.ref,rfl,dJ.of (by unfold Fz;rw[if_pos hU];exact w.out.kp.1),vD w.len λk a ds h1 f=>?_⟩;obtain⟨⟨xs,g,r1⟩,f1⟩:=w.row k a ds h1 f;rw[Rep];exact⟨a,xs,rfl,dJ.of (by unfold Fz;rw[if_pos (dI _ (dV h1))];exact g.1),r1.mono s1⟩
theorem NB.dC(b:NB K x q as F0 ρ0 σ0 H0 F ρ σ H rows):aB K F0 ρ0 σ0 H0 (Fz F H (q::as)) (ρ.set x (.val aK (.lst (rows.map D.lst)))) σ H:=by
 obtain⟨s1,s2,u⟩:=b.nw.fz b.stp.gs.sub;have g:=b.stp.gs;have r:x<ρ.length:=(eY b.nw.slot).1;have k:∀{j:Nat}{c:cw},bj (ρ.set x (.val aK (.lst (rows.map D.lst)))) σ j c->bj ρ σ j c/\x≠j:=λ{j c}⟨⟨t,ds,e,m⟩,e1⟩=>by
  by_cases f:x=j;.subst f;rw[cv r]at e;cases e;cases m
  .rw[eR f]at e;exact⟨⟨⟨t,ds,e,m⟩,e1⟩,f⟩
 refine⟨⟨s2,by simp[g.len],λi w d e=>?_,λi t ds e m=>?_,λi j c h1 p=>g.dis i j c (k h1).1 (k p).1⟩,b.stp.cL.trans s1,λc n s=>?_,b.stp.keep,λc⟨j,h⟩=>b.stp.vO c ⟨j,(k h).1⟩,by simp[b.stp.len],λi t e l=>?_⟩
 . by_cases f:x=i;.subst f;rw[cv r]at e;cases e;exact⟨_,b.nw.val,u⟩
   .rw[eR f]at e;obtain⟨v,h1,p⟩:=g.val i w d e;exact⟨v,h1,p.mono s1⟩
 . by_cases f:x=i;.subst f;rw[cv r]at e;cases e;cases m
   .rw[eR f]at e;obtain⟨a,o,h1,p,y,z⟩:=g.own i t ds e m;refine⟨a,o,h1,p,?_,z.mono s1⟩;unfold Fz;rw[if_neg λA=>(b.nw.QX A).2 ⟨i,⟨t,ds,e,m⟩,h1⟩];exact y
 . by_cases hc:c∈q::as;.exact(b.fresh c hc).imp id iV
   . have:Fz F H (q::as) c=F c:=by unfold Fz;rw[if_neg hc]
     rw[this]at s;exact b.stp.xP c n s
 . have c:x≠i:=by rintro rfl;rw[b.free _ e]at l;cases l
   obtain⟨B,s3,C,E⟩:=b.stp.lk i t e l;exact⟨B,s3,by rw[eR c];exact C,E⟩
end
inductive T6(K:PySem.W.Frag)(x:Nat)(f:List Sl->Res Fl)(E:Ends)(σ:_L.St)(H:Hp):Prop where|mk(F0:Hp)(ρ0:List Sl)(σ0:_L.St)(H0 F:Hp)(ρ:List Sl)(q:cw)(as:List cw)(rows:List (List D))(fl:Fl)(ρ':List Sl)(b:NB K x q as F0 ρ0 σ0 H0 F ρ σ H rows)(e:f ρ=.ok fl ρ')(k:∀F' σ' H',aB K F0 ρ0 σ0 H0 F' ρ' σ' H'->aN F F'->((∀r,fl≠.ret r)->∃pZ,NB K x q as F0 ρ0 σ0 H0 F' ρ' σ' H' pZ)->KY K E F' ρ' σ' H' ρ0 σ0 H0 fl)
inductive Zy(K:PySem.W.Frag)(x:Nat)(f:List Sl->Res Fl)(E:Ends)(σ:_L.St)(H:Hp):Prop where|mk(F0:Hp)(ρ0:List Sl)(σ0:_L.St)(H0 F:Hp)(ρ:List Sl)(q:cw)(as:List cw)(rows:List (List D))(fl:Fl)(ρ':List Sl)(b:NB K x q as F0 ρ0 σ0 H0 F ρ σ H rows)(e:f ρ=.ok fl ρ')(k:∀F' σ' H',aB K F0 ρ0 σ0 H0 F' ρ' σ' H'->KY K E F' ρ' σ' H' ρ0 σ0 H0 fl)
structure SSN(X:Cx)(c:Call)(n x:Nat)(st:eK)(s:S):Prop where p:PS X st (T6 X.K x (ex c n s))
structure Xa(X:Cx)(c:Call)(n x:Nat)(st:List eK)(s:List S):Prop where p:yM X st (T6 X.K x (gh c n s))
structure SBT(X:Cx)(c:Call)(n x:Nat)(st:List eK)(s:List S):Prop where p:yM X st (Zy X.K x (gh c n s))
section
variable{X:Cx}{c:Call}{n x:Nat}{e a b d tg iter:df}{p pa pb pd:P}{pos:Pos}{body:List eK}{ss:List S}{st:eK}{s:S}{sts:List eK}
theorem qF:Xa X c n x [] []:=⟨pC De λD σ H⟨f,ρ0,σ0,H0,F,ρ,q,as,rows,fl,ρ',nb,e,k⟩=>by rw[xs0]at e;cases e;exact k F σ H nb.stp (.refl _) λ_=>⟨rows,nb⟩⟩
theorem tD(h1:SSN X c n x st s)(w:Xa X c n x sts ss):Xa X c n x (st::sts) (s::ss):=by refine⟨pC (mQ h1.p w.p) ?_⟩;rintro D σ H⟨h,f,g,i,F,ρ,q,as,rows,fl,t,l,e,k⟩;rw[Vf]at e;obtain⟨f1,j,m,e⟩:=aa e;cases f1 with|next=>refine⟨h,f,g,i,F,ρ,q,as,rows,.next,j,l,m,λF1 y I s1 sm nn=>?_⟩;obtain⟨A,B⟩:=nn (λr z=>by cases z);exact⟨h,f,g,i,F1,j,q,as,A,fl,t,B,e,λC u E s2 G v=>k C u E s2 (sm.trans G) v⟩|brk=>cases e;exact⟨h,f,g,i,F,ρ,q,as,rows,.brk,_,l,m,k⟩|cont=>cases e;exact⟨h,f,g,i,F,ρ,q,as,rows,.cont,_,l,m,k⟩|ret r=>cases e;exact⟨h,f,g,i,F,ρ,q,as,rows,.ret r,_,l,m,k⟩
theorem J3(h1:SSN X c n x st s)(w:SBT X c n x sts ss):SBT X c n x (st::sts) (s::ss):=by refine⟨pC (mQ h1.p w.p) ?_⟩;rintro D σ H⟨j,g,h,l,F,ρ,q,as,rows,fl,v,t,e,k⟩;rw[Vf]at e;obtain⟨f1,m,u,e⟩:=aa e;cases f1 with|next=>refine⟨j,g,h,l,F,ρ,q,as,rows,.next,m,t,u,λF1 f i s1 sm nn=>?_⟩;obtain⟨y,A⟩:=nn (λr z=>by cases z);exact⟨j,g,h,l,F1,m,q,as,y,fl,v,A,e,k⟩|brk=>cases e;exact⟨j,g,h,l,F,ρ,q,as,rows,.brk,_,t,u,λF1 f i s1 _ _=>k F1 f i s1⟩|cont=>cases e;exact⟨j,g,h,l,F,ρ,q,as,rows,.cont,_,t,u,λF1 f i s1 _ _=>k F1 f i s1⟩|ret r=>cases e;exact⟨j,g,h,l,F,ρ,q,as,rows,.ret r,_,t,u,λF1 f i s1 _ _=>k F1 f i s1⟩
theorem Ou(h:SB X c n sts ss):SBT X c n x sts (.dC x::ss):=by refine⟨pC h ?_⟩;rintro D σ H⟨B,l,m,C,F,ρ,q,as,rows,fl,f,i,e,k⟩;rw[Vf]at e;obtain⟨f1,u,j,e⟩:=aa e;rw[_H.X24,i.nw.slot]at j;cases j;have t:=i.dC;refine⟨_,_,fl,f,t.gs,e,λw g y s=>?_⟩;have z:=k w g y (t.trans s);cases fl with|next=>exact z|brk=>exact z|cont=>exact z|ret r=>exact λv A=>z v (A.later t)
theorem Tf{r u:List eK}{v w:List S}(hc:ST X c e p)(z:Xa X c n x r v)(A:Xa X c n x u w):SSN X c n x (.If e r u pos) (.ifs p v w):=by refine⟨du (Ro hc z.p A.p) ?_⟩;rintro D σ H⟨B,j,l,C,F,ρ,q,as,rows,fl,i,y,e,k⟩;rw[_H.X12]at e;obtain⟨t,g,E,e⟩:=aa e;refine⟨F,ρ,t,g,y.stp.gs,E,λF1 G s1=>?_⟩;have go:∀{f:List Sl->Res Fl},f g=.ok fl i->T6 X.K x f D σ G:=λ{f}h=>⟨B,j,l,C,F1,g,q,as,rows,fl,i,y.step s1,h,λI m J s2 sm nn=>k I m J s2 (s1.cL.trans sm) nn⟩;cases t with|true=>rw[if_pos rfl]at e;exact go e|false=>rw[if_neg dc]at e;exact go e
theorem HY{ρ:List Sl}(h:jr ρ x=aj rows):ρ[x]?=aj (.hold rows):=by
 unfold jr at h;split at h;.rename_i z;cases h;exact z
 .cases h
noncomputable def WalkN(K:PySem.W.Frag)(J:It)(ds:List D)(F1:Hp):Prop:=∀(k:Nat)(h f:Hp),aN F1 h->aN h f->(∀d,ds[k]?=aj d->J.go k f/\∀x i,J.Ld k f x i->∃g,Ext h f g i/\Rep K g x d)/\(ds.length<=k->J.stop k f)
inductive aep(K:PySem.W.Frag)(f:Ev)(σ:_L.St)(H:Hp)(R:It->Hp->Prop):Prop where|mk(F:Hp)(ρ:List Sl)(r:_H.R)(ρ1:List Sl)(ds:List D)(g:GS K F ρ σ H)(e:f ρ=.ok r ρ1)(e2:items r.d=aj ds)(k:∀J F1 H1,aB K F ρ σ H F1 ρ1 σ H1->WalkN K J ds F1->R J H1)
structure SIN(X:Cx)(c:Call)(tg e:df)(p:P):Prop where p:PI X tg e (aep X.K (_H.ev c p))
theorem M7(h:SX X c e p):SIN X c tg e p:=by refine⟨oh (Bj h.ev) ?_⟩;rintro σ H R⟨F,ρ,r,m,ds,g,e,i,k⟩;refine⟨F,ρ,r,m,g,e,λv y z s t=>?_⟩;obtain⟨A,s2,_,j⟩:=s.dC t;cases hd:r.d with|tup es=>rw[hd]at j i;cases i;rw[Rep]at j;obtain⟨a,xs,rfl,h1,q⟩:=j;exact⟨a,rfl,.inr ⟨⟨xs,aN.fY s2.gs.sub h1⟩,k _ _ _ s2 λk u w f l=>Ed (aN.fY l (aN.fY f h1)) (q.mono f) l k⟩⟩|lst es=>rw[hd]at j i;cases i;rw[Rep]at j;obtain⟨a,xs,rfl,h1,q⟩:=j;exact⟨a,rfl,.inl ⟨⟨xs,s2.gs.sub.seq h1⟩,k _ _ _ s2 λk u w f l=>rE (l.seq (f.seq h1)) (q.mono f) l k⟩⟩|_=>rw[hd]at i;cases i
theorem Gx{K:PySem.W.Frag}{F1:Hp}(i j:Int):WalkN K (Yp i (j-i).toNat) ((dr (j-i).toNat).map λ(k:Nat)=>D.int (i+(k:Int))) F1:=by
 refine λk g u _ sm=>⟨λd hd=>?_,λh=>?_⟩;.rw[eM]at hd;obtain⟨m,l,q⟩:=map_some hd;obtain⟨h1,f⟩:=eY l;rw[List.getElem_range]at f;subst f;subst q;rw[k3]at h1;refine⟨h1,?_⟩;rintro x v⟨r,t⟩;subst r;subst t;exact⟨g,.refl sm,bO _⟩
 .rw[dQ,k3]at h;exact h
theorem Km{x:Str}{q:Pos}(t:x="range")(u:Gl X x)(w:X.mg x=bx)(y:SX X c a pa)(hs:cy [a] X.env=[(aK,eB a X.env)]:=by rfl):SIN X c tg (.Call (.Name x q) [a] [] pos) (.uC (.con (.int 0)) pa):=by
 subst t;obtain⟨O,h1,z⟩:=y.cu;refine⟨oh (uY u w (bf h1 cV hs) hs) ?_⟩;rintro σ H R⟨F,ρ,r,A,ds,g,l,B,k⟩;rw[_H.E20]at l;obtain⟨Q,C,E,f⟩:=aa l;have G:=az f;clear f;obtain⟨f,I⟩:=G;subst I;obtain⟨U,J,L,h⟩:=aa E;cases h;obtain⟨i,f1,f⟩:=cA f;obtain⟨j,f2,f⟩:=cA f;obtain⟨⟨b1,b2,b3,b4⟩,f⟩:=aZ f;have f1:i=0:=by cases f1;rfl
 subst f1;subst f;cases B;cases dh f2;refine z g L λv m M s N=>⟨j,by rw[N.int],by omega,by omega,?_⟩;have:=Gx (K:=X.K) (F1:=m) 0 j;rw[qo]at this;refine k _ m M s ?_;rw[qo];exact this
theorem Dh{g:TG}{is:List Nat}{one:Bool}(hp:kP (c_ X.prog X.w) X.A X.env X.xe)(hc:X.calm=a_)(hi:SIN X c tg iter p)(hg:PG X tg g)(af:IV X.K (λρ d=>cz ρ is one d) g)(hb:Xa X c n x body ss)(hs:∀x,ft iter X.env x=fm x:=by intro _;rfl):SSN X c n x (.For tg iter body [] pos) (.G8 p is one ss):=by
 refine⟨du (Bx hp hc hi.p hg hb.p hs) ?_⟩;rintro D σ H⟨F0,E,G,H0,F,ρ,q,as,rows,fl,Q,nb,e,k⟩;rw[_H.X23]at e;obtain⟨r,U,e1,e⟩:=aa e;obtain⟨ds,al,e9,e2⟩:=aa e;have zz:=az e9;clear e9;obtain⟨e9,ag⟩:=zz;subst ag;refine⟨F,ρ,r,U,ds,nb.stp.gs,e1,e9,λJ F1 H1 s1 w=>?_⟩;refine⟨λi m t Hi=>∃C f O,NB X.K x q as F0 E G H0 C f t Hi O/\aN F1 C/\m=ds.length-i/\i<=ds.length/\fV is one (gh c n ss) (ds.drop i) f=.ok fl Q,⟨_,F1,U,rows,nb.step s1,.refl _,rfl,um,e2⟩,?_⟩;rintro i m t Hi⟨C,f,O,l,I,rfl,am,j⟩;obtain⟨w1,w2⟩:=w i C Hi I l.stp.gs.sub;by_cases u:i<ds.length
 . right;have hd:ds[i]?=aj ds[i]:=by simp[u]
   obtain⟨go,step⟩:=w1 _ hd;refine⟨go,λW Y=>∃m',m'<ds.length-i/\∃C f O,NB X.K x q as F0 E G H0 C f W Y O/\aN F1 C/\m'=ds.length-(i+1)/\i+1<=ds.length/\fV is one (gh c n ss) (ds.drop (i+1)) f=.ok fl Q,λW Y z=>z,λy Y yy=>?_⟩;obtain⟨F2,ext,rx⟩:=step y Y yy;have t2:=ext.stp l.stp.gs;rw[fE u,v5]at j;cases hbd:cz f is one ds[i]with|none=>rw[hbd]at j;cases j|some Z=>rw[hbd]at j;obtain⟨ac,L,eb,j⟩:=aa j;refine af y _ F2 f Z t Y _ t2.gs rx hbd λap sb=>?_;have t3:=t2.trans sb;refine⟨F0,E,G,H0,F2,Z,q,as,O,ac,L,l.step t3,eb,λF4 ae H4 s4 ah M=>?_⟩;have B:aN F1 F4:=I.trans (ext.fs.trans ah);cases ac with|next=>obtain⟨Lx,N⟩:=M (λr z=>by cases z);exact⟨_,by omega,F4,L,Lx,N,B,rfl,u,j⟩|cont=>obtain⟨Lx,N⟩:=M (λr z=>by cases z);exact⟨_,by omega,F4,L,Lx,N,B,rfl,u,j⟩|brk=>cases j;exact k F4 ae H4 s4 (s1.cL.trans B) λ_=>M (λr z=>by cases z)|ret r=>cases j;exact λv rr=>k F4 ae H4 s4 (s1.cL.trans B) (λh=>(h r rfl).elim) v rr
 . left;have ai:ds.drop i=[]:=by rw[kc];omega
   rw[ai,Ak]at j;cases j;exact⟨w2 (by omega),k C t Hi l.stp (s1.cL.trans I) λ_=>⟨O,l⟩⟩
end
section
variable{X:Cx}{c:Call}{n:Nat}{e a b d i j:df}{p pa pb pd pi pj:P}{pos:Pos}
theorem Qc{ρ f:List Sl}{x:Nat}{o:Option (List (List D))}{fl:Fl}(h:FN ρ x o=.ok fl f):∃rows,o=aj rows/\fl=.next/\f=ρ.set x (.hold rows):=by cases o with|none=>cases h|some rows=>cases h;exact⟨rows,rfl,rfl,rfl⟩
section
variable{K:PySem.W.Frag}{F H F0 H0:Hp}{ρ ρ0:List Sl}{σ σ0:_L.St}{x:Nat}{q:cw}{as:List cw}{rows pZ:List (List D)}
theorem NB.hold(f:NB K x q as F0 ρ0 σ0 H0 F ρ σ H rows)(h:jr ρ x=aj pZ):pZ=rows:=by have:=HY h;rw[f.nw.slot]at this;cases this;rfl
theorem NB.at{k:Int}{r:Nat}{row:List D}(f:NB K x q as F0 ρ0 σ0 H0 F ρ σ H rows)(h1:_H.ir rows.length k=aj r)(h:rows[r]?=aj row):∃a ys,as[r]?=aj a/\Hf (as.map V.ref) k=aj (.ref a)/\H a=aj (.lst ys)/\aG K F ys row:=by
 have g:r<as.length:=by rw[f.nw.len];exact(eY h).1
 obtain⟨⟨ys,l,r1⟩,_⟩:=f.nw.row r as[r] row (by simp[g]) h;refine⟨as[r],ys,by simp[g],?_,l.1,r1⟩;unfold Hf;rw[dQ,f.nw.len];rw[show _L.ir rows.length k=aj r from h1];simp[g]
theorem NB.v8{g:D}{row:List D}(l:NB K x q as F0 ρ0 σ0 H0 F ρ σ H rows)(h:_H.v8 ρ x g=aj row):∃k a,(∃r:Nat,as[r]?=aj a)/\Hf (as.map V.ref) k=aj (.ref a)/\g=.int k/\∃ys,H a=aj (.lst ys)/\aG K F ys row:=by unfold _H.v8 at h;obtain⟨f,h1,h⟩:=cA h;cases l.hold h1;obtain⟨k,m,h⟩:=cA h;obtain⟨r,s,t⟩:=cA h;obtain⟨a,ys,u,v,w,y⟩:=l.at s t;exact⟨k,a,⟨r,u⟩,v,dh m,ys,w,y⟩
end
theorem FP{l:List (List D)}{k:Int}{f:List D->Option (List D)}(h:kh rows k f=aj l):∃r row g,_H.ir rows.length k=aj r/\rows[r]?=aj row/\f row=aj g/\l=rows.set r g:=by unfold kh at h;obtain⟨r,h1,h⟩:=cA h;obtain⟨row,m,h⟩:=cA h;obtain⟨g,q,h⟩:=map_some h;exact⟨r,row,g,h1,m,q,h.symm⟩
theorem Hy{x:Str}{k:Nat}{u f h g:Pos}(hN:X.N[k]?=aj x)(hv:pX X.env.scope x)(hi:SX X c i pi)(he:SX X c e p)(I:xM i:=by intro _ _;rfl)(l:(h.endLine==g.line)=a_:=by rfl)(hs:cy [e] X.env=(aK,eB e X.env)::cy [] X.env:=by rfl)(s:gS (.Subscript (.Name x u) i f) "append" X.env (eB (.Subscript (.Name x u) i f) X.env)=eB (.Subscript (.Name x u) i f) X.env:=by rfl)(w:((hX g (cy [e] X.env)).all (λx=>!x.1)&&(ln g (jx [] X.env)).all (λx=>x.1.isSome)&&decide ([e].length+([]:List iL).length+(if([]:List iL).isEmpty then 0 else 1)<30))=a_:=by rfl)(J:fT (.Call (.Attribute (.Subscript (.Name x u) i f) "append" h) [e] [] g) bx pos.line X.env=fm aK:=by rfl)(hd:(x==("__debug__":Str))=aK:=by decide)(L:(x==("__classdict__":Str))=aK:=by decide):SSN X c n k (.Expr (.Call (.Attribute (.Subscript (.Name x u) i f) "append" h) [e] [] g) pos) (.Ln k pi p):=by obtain⟨ti,M,O⟩:=hi.cu;refine⟨du (qK (yu plainAttrs_list PySem.F.slot_list_append PySem.F.type_list_append pB (JW xH (cU hN hv hd L) M I) (bf he.ev cV hs) s w l hs) J) ?_⟩;rintro E σ H⟨F0,al,am,H0,F,ρ,q,as,rows,fl,ap,Q,e,kk⟩;rw[_H.X22]at e;obtain⟨dk,U,e2,e⟩:=aa e;obtain⟨ah,ai,C,e⟩:=aa e;have zz:=az C;clear C;obtain⟨C,W⟩:=zz;subst W;obtain⟨r,Y,e3,e⟩:=aa e;obtain⟨rs,y,rfl,rfl⟩:=Qc e;refine⟨.ref q,Q.nw.val,O Q.stp.gs e2 λvi F1 H1 s1 pi=>?_⟩;have G:=Q.step s1;obtain⟨k0,a,g1,g2,g0,ys,g3,g4⟩:=G.v8 C;rw[g0]at pi;refine⟨q,_,k0,_,rfl,pi.int,dJ.of G.nw.out.kp.1,g2,.inl ⟨rfl,ys,dJ.of g3⟩,F1,U,r,Y,G.stp.gs,e3,λv F2 H2 s2 rr=>?_⟩;obtain⟨F3,s3,_,rp⟩:=s2.dC rr;have t:=G.step s3;obtain⟨Z,e5,y⟩:=cA y;cases t.hold e5;obtain⟨k1,e6,y⟩:=cA y;obtain⟨m,row,lG,f1,f2,f3,rfl⟩:=FP y;obtain⟨ac,rfl⟩:=aZ f3;have:=dh e6;rw[g0]at this;cases this;obtain⟨a',ae,af,z,ag,A⟩:=t.at f1 f2;rw[g2]at z;cases z;have B:=t.mut af f2 (A.append (.cons rp .nil));exact⟨a,ae,v,rfl,rfl,ag,by rw[A.length];exact ac,kk F3 σ _ B.stp (s1.cL.trans s3.cL) λ_=>⟨_,B⟩⟩
end
section
variable{K:PySem.W.Frag}{F H F1 H1:Hp}{ρ ρ1:List Sl}{σ σ1:_L.St}
theorem aB.since{b:cw}(s:aB K F ρ σ H F1 ρ1 σ1 H1)(h:H1 b=bx):Own ρ σ b\/H b=bx:=by
 by_cases ho:Own ρ σ b;.exact .inl ho
 .right;cases e:H b with|none=>rfl|some o=>rw[s.keep b o e ho]at h;cases h
theorem NB.mk'{x:Nat}{q:cw}{as:List cw}{s1:Sl}(s:aB K F ρ σ H F1 ρ1 σ1 H1)(c:ρ1[x]?=aj s1)(f:uN s1=aK)(g:Vt F1 ρ1 σ1 H1 q (as.map V.ref))(nd:(q::as).Nodup)(len:as.length=rows.length)(row:∀(k:Nat)(a:cw)(ds:List D),as[k]?=aj a->rows[k]?=aj ds->Wt K F1 ρ1 σ1 H1 a ds)(fr:∀b,b∈q::as->Own ρ σ b\/H b=bx):NB K x q as F ρ σ H F1 (ρ1.set x (.hold rows)) (σ1.set x (aj (.ref q))) H1 rows:=by
 have hi:x<ρ1.length:=(eY c).1;have e:x<σ1.length:=by rw[<-s.gs.len];exact hi
 exact⟨s.DP rfl (s.free c f),fr,s.free c f,⟨cv hi,cv e,⟨Es rfl g.kp,g.fr⟩,nd,len,λk a ds h1 h=>N5 rfl (row k a ds h1 h)⟩⟩
end
theorem K6{K:PySem.W.Frag}{F H:Hp}{ρ e j:List Sl}{σ:_L.St}{ul:List Sl->List Sl}{ti:TI}{is:List Nat}{one:Bool}{c:Call}{el:Ev}{g:TG}{Q:VK}{ds:List D}{m n:Nat}(hm:σ.length=m)(ax:pK K m is one g)(ay:∀R:It->Hp->Prop,(∀J F1 X,Walk K F ρ σ H ul J ds F1 e X->R J X)->ti σ H R)(bn:ds.length<=lim)(e2:gG is one el ds [] (e++cx n .aV)=.ok rows j)(k:∀ q as F' H',aB K F ρ σ H F' (ul (j.take e.length)) σ H'->Vt F' (ul (j.take e.length)) σ H' q (as.map V.ref)->(q::as).Nodup->as.length=rows.length->(∀(k:Nat)(a:cw)(ds:List D),as[k]?=aj a->rows[k]?=aj ds->Wt K F' (ul (j.take e.length)) σ H' a ds)->(∀b,b∈q::as->Own ρ σ b\/H b=bx)->Q (.ref q) H'):vC n ti g (HD K (mO c bx)) (wy K el) σ H Q:=by
 refine ay _ λJ F1 X w Da Z=>?_;have aE:e.length=σ.length:=w.gs.len;have gm:=w.gs.more (n:=n) (τ:=cx n bx) (by simp);have fD:F1 Da=bx:=by cases q:F1 Da with|none=>rfl|some o=>rw[w.gs.sub Da o q]at Z;cases Z
 have nO:¬ Own (e++cx n .aV) (σ++cx n bx) Da:=λ⟨i,⟨t,dt,q1,q2⟩,q3⟩=>by obtain⟨a,ys,z1,z2,_⟩:=gm.own i t dt q1 q2;rw[q3]at z1;cases z1;rw[Z]at z2;cases z2
 refine⟨λi mm ys f M=>∃N l u as,aB K F1 (e++cx n .aV) (σ++cx n bx) X N l f M/\f.take m=σ/\ys=as.map V.ref/\M Da=aj (.lst ys)/\N Da=bx/\¬ Own l f Da/\(Da::as).Nodup/\as.length=u.length/\(∀(k:Nat)(a:cw)(ds:List D),as[k]?=aj a->u[k]?=aj ds->Wt K N l f M a ds/\(Own (e++cx n .aV) (σ++cx n bx) a\/X a=bx))/\u.length<=i/\mm=ds.length-i/\i<=ds.length/\gG is one el (ds.drop i) u l=.ok rows j,⟨_,F1,_,[],[],(aB.refl gm).yg Z fD nO,by rw[mh (by omega),iF (by omega)],rfl,aH,fD,nO,by simp,rfl,λk a ds h=>by simp at h,um,rfl,um,e2⟩,?_⟩;rintro i mm ys f M⟨N,l,u,as,si,ap,ac,hD,hF,hO,ae,B,G,bo,rfl,bp,E⟩;refine⟨hD,?_⟩;have stay:∀{F2 H2:Hp}{af:List Sl}{I:_L.St},aB K N l f M F2 af I H2->H2 Da=aj (.lst ys)/\F2 Da=bx/\¬ Own af I Da:=λ{F2 H2 af I}s=>by have:=(Vt.stp (xs:=ys) ⟨⟨hD,hO⟩,hF⟩ s);exact⟨this.kp.1,this.fr,this.kp.2⟩
 obtain⟨s1,s2⟩:=w.src n i N l f M si;by_cases ag:i<ds.length
 . right;have hd:ds[i]?=aj ds[i]:=by simp[ag]
   obtain⟨go,step⟩:=s1 _ hd;refine⟨go,λx H2 y=>?_⟩;obtain⟨F2,ext,rx⟩:=step x H2 y;have t2:=ext.stp si.gs;rw[fE ag,Ib]at E;cases hbd:cz l is one ds[i]with|none=>rw[hbd]at E;cases E|some U=>rw[hbd]at E;obtain⟨re,ah,ee,E⟩:=aa E;cases re with|val _=>cases E|own ai=>
     replace E:gG is one el (ds.drop (i+1)) (u++[ai]) ah=.ok rows j:=E;refine ax x _ F2 l U f H2 _ t2.gs rx hbd λI sb aI=>?_;have t3:=t2.trans sb;refine⟨F2,U,a_,U,t3.gs,by rw[mO],λF4 H4 s4=>?_⟩;have t4:=t3.trans s4;refine(show wy K el I H4 _ from⟨F4,U,.own ai,ah,t4.gs,ee,λv F5 H5 s5 rr=>?_⟩);have t6:=t4.trans s5;obtain⟨y1,y2,y3⟩:=stay t6;obtain⟨z1,z2,z3⟩:=stay t4;have al:ys.length<sizeLine:=by have O:lim=sizeLine:=rfl;rw[ac,dQ];omega
     obtain⟨A,xs,rfl,a1,a2,a3,a4,a5⟩:=rr;have ar:A≠Da:=by
      rintro rfl;rcases a5 with z|z;.exact z3 z
      .rw[z1]at z;cases z
     have nA:A∉as:=λhA=>by
      obtain⟨L,C⟩:=kb hA;have am:L<u.length:=by rw[<-B];exact(eY C).1
      obtain⟨⟨zs,Y,_⟩,_⟩:=(G L A u[L] C (by simp[am])).1.stp t4;rcases a5 with z|z;.exact Y.2 z
      .rw[Y.1]at z;cases z
     have fA:Own (e++cx n .aV) (σ++cx n bx) A\/X A=bx:=by
      have t:=si.trans t4;rcases a5 with z|z;.exact t.vO A z
      .exact t.since z
     refine⟨y1,al,_,by omega,F5,ah,u++[ai],as++[A],(si.trans t6).yg Z y2 y3,aI.trans ap,by rw[ac];simp,aH,y2,y3,?_,by simp[B],λL a0 aS h1 O=>?_,by simp;omega,rfl,ag,E⟩
     . rw[<-kE,kX];refine⟨ae,by simp,λp hp r hr=>?_⟩;simp at hr;subst hr;rcases de.mp hp with rfl|hp;.exact λz=>ar z.symm
       .rintro rfl;exact nA hp
     . by_cases C:L<as.length
       . rw[dP C]at h1;rw[dP (by omega)]at O;obtain⟨w0,f0⟩:=G L a0 aS h1 O;obtain⟨⟨zs,Y,r1⟩,g1⟩:=w0.stp t6;have na:a0≠Da:=by rintro rfl;exact(eL.mp ae).1 (dV h1)
         exact⟨⟨⟨zs,⟨by rw[aF na];exact Y.1,Y.2⟩,r1⟩,g1⟩,f0⟩
       . rw[fw (by omega)]at h1;rw[fw (by omega)]at O;have:L-as.length=0:=by have:=(eY h1).1;simp at this;exact this
         rw[this]at h1;rw[<-B,this]at O;cases h1;cases O;exact⟨⟨⟨xs,⟨by rw[aF ar];exact a1,a4⟩,a3⟩,a2⟩,fA⟩
 . left;have aT:ds.drop i=[]:=by rw[kc];omega
   rw[aT,Kg]at E;cases E;refine⟨s2 (by omega),?_⟩;have hst:f.take e.length=σ:=by rw[aE,hm];exact ap
   obtain⟨l1,l2⟩:=aB.less (m:=e.length) rfl w.gs (by simp) si;rw[hst]at l1;obtain⟨z1,z2⟩:=w.fin _ _ _ _ l1--the outer list:with nothing in it,it is like any new one
   have ba:=si.yg (o:=.lst []) Z hF hO;obtain⟨av,YK⟩:=aB.less (m:=e.length) rfl w.gs (by simp) ba;rw[hst]at av;obtain⟨bq,bi⟩:=w.fin _ _ _ _ av;have rr:cF K N j f (upd M Da (.lst [])) (e++cx n .aV) (σ++cx n bx) X (.ref Da) (.own []):=⟨Da,[],rfl,aH,hF,.nil,hO,.inr Z⟩;have RG:=YK _ _ rr;rw[hst]at RG;obtain⟨_,_,q0,_,q3,_,q5,q6⟩:=bi _ _ RG;cases q0;have aw:∀(k:Nat)(a:cw)(ds:List D),as[k]?=aj a->rows[k]?=aj ds->Wt K N (ul (j.take e.length)) σ M a ds/\(Own ρ σ a\/H a=bx):=λk a ds h1 O=>by obtain⟨⟨⟨xs,Y,r1⟩,f1⟩,f2⟩:=G k a ds h1 O;have rr:cF K N j f M (e++cx n .aV) (σ++cx n bx) X (.ref a) (.own ds):=⟨a,xs,rfl,Y.1,f1,r1,Y.2,f2⟩;have RG:=l2 _ _ rr;rw[hst]at RG;obtain⟨a',bm,q0,q2,q3,q4,q5,q6⟩:=z2 _ _ RG;cases q0;exact⟨⟨⟨bm,⟨q2,q5⟩,q4⟩,q3⟩,q6⟩
   refine k Da as N M z1 ⟨⟨by rw[hD,ac],q5⟩,q3⟩ ae B (λk a ds h1 O=>(aw k a ds h1 O).1) λb hb=>?_;rcases de.mp hb with rfl|hb;.exact q6
   . obtain⟨L,C⟩:=kb hb;have am:L<rows.length:=by rw[<-B];exact(eY C).1
     exact(aw L b rows[L] C (by simp[am])).2
section
variable{X:Cx}{c:Call}{nn n:Nat}{tg iter elt:df}{ps pe:P}{pos:Pos}{sts:List eK}{ss:List S}{scope:ke}{N':List Str}
theorem O5{i:Nat}{x:Str}{b f:Pos}{g:TG}{is:List Nat}{one:Bool}(hc:X.calm=a_)(A:X.N.Nodup)(m:X.N[i]?=aj x)(B:Loc X.env.scope x)(ok:fZ X scope N' n)(hi:SI X c tg iter ps)(E:∀cl C s₀ H₀ ex,PG (vL X scope N' cl C s₀ H₀ ex) tg g)(r:pK X.K X.N.length is one g)(ht:∀cl C s₀ H₀ ex,SQ (vL X scope N' cl C s₀ H₀ ex) c [] bx)(he:∀cl C s₀ H₀ ex,SX (vL X scope N' cl C s₀ H₀ ex) c elt pe)(G:SBT X c nn i sts ss)(t:fT (.ListComp elt [⟨tg,iter,[],0⟩] scope pos) (aj (.Name x b)) f.line X.env=fm a_:=by rfl)(hs:∀x,ft iter X.env x=fm x:=by intro _;rfl)(J:X.fn x=a_\/X.env.scope.names.lookup x=aj .local:=by first|(left;rfl)|(right;rfl)|assumption):SB X c nn (.Assign [.Name x b] (.ListComp elt [⟨tg,iter,[],0⟩] scope pos) f::sts) (.Lk i ps n is one pe::ss):=by
 have h0:=Ex (tt:=HD X.K (mO c bx)) (te:=wy X.K (_H.ev c pe)) hc A m B ok hi E ht (λcl C s₀ H₀ ex=>(he cl C s₀ H₀ ex).ev) t hs J;refine λj s σ H D I q=>mQ h0 G.p j s σ H D I ?_;have L:σ.length=X.N.length:=I.len;obtain⟨F,ρ,fl,u,M,e,O⟩:=q;rw[Vf]at e;obtain⟨f1,Q,a,e⟩:=aa e;rw[_H.X21]at a;obtain⟨ds,w,U,a⟩:=aa a;split at a;.rename_i k;obtain⟨rows,W,Y,a⟩:=aa a;obtain⟨Z,z,l,a⟩:=aa a;cases a;have zz:=az l;clear l;obtain⟨l,_⟩:=zz;obtain⟨s1,h1,h2,rfl⟩:=xj l;refine(show vC n (tIt X.K (isVar ps) (_H.ev c ps)) g (HD X.K (mO c bx)) (wy X.K (_H.ev c pe)) σ H (λv H1=>iI i v σ H1 (Zy X.K i (gh c nn ss) D))from K6 (c:=c) (ul:=aP ρ (isVar ps)) L r (λR h=>⟨F,ρ,ds,w,M,U,h⟩) k Y λq as F' H' s wq nd len row fr=>?_);exact⟨F,ρ,σ,H,F',_,q,as,rows,fl,u,NB.mk' s h1 h2 wq nd len row fr,e,λF2 y H2 s2=>O F2 y H2 s2⟩
 .cases a
end
end _H
namespace _H
open PySem _L Spec PyProof.Rows Calls W
variable{i:Nat}{x:Str}
section
variable{K:PySem.W.Frag}{F F1 H H1:Hp}{ρ ρ1 ρ2:List Sl}{σ σ1:_L.St}
theorem GS.aeE{x:Nat}{kvs f:List (Int×D)}{a:cw}{w:HO}(g:GS K F ρ σ H)(e:ρ[x]?=aj (.cR kvs))(p:σ[x]?=aj (aj (.ref a)))(r:lM K F w (.v f)):aB K F ρ σ H F (ρ.set x (.cR f)) σ (upd H a w):=by
 have hi:x<ρ.length:=(eY e).1;have y:bj ρ σ x a:=⟨⟨_,_,e,rfl⟩,p⟩;obtain⟨L,M,h1,N,z,O⟩:=g.own x _ _ e rfl;rw[p]at h1;cases h1;have h:∀{j:Nat}{c:cw},bj (ρ.set x (.cR f)) σ j c->bj ρ σ j c:=λ{j c}⟨⟨t,dt,m,s⟩,q3⟩=>by
  by_cases b:j=x;.subst b;exact⟨⟨_,_,e,rfl⟩,q3⟩
  .rw[fK b]at m;exact⟨⟨t,dt,m,s⟩,q3⟩
 refine⟨⟨λc o q=>?_,by simp[g.len],λj B d q=>?_,λj t dt q u=>?_,λj k c m s=>g.dis j k c (h m) (h s)⟩,.refl _,λc n C=>absurd n C,λc o q n=>?_,λc⟨j,q⟩=>.inl ⟨j,h q⟩,by simp,λj t q l=>⟨rfl,?_⟩⟩
 . have:c≠a:=by rintro rfl;rw[z]at q;cases q
   rw[aF this];exact g.sub c o q
 . by_cases b:j=x;.subst b;rw[cv hi]at q;cases q
   .rw[fK b]at q;exact g.val j B d q
 . by_cases b:j=x;.subst b;rw[cv hi]at q;cases q;cases u;exact⟨a,_,p,aH,z,r⟩
   . rw[fK b]at q;obtain⟨c,E,A,G,I,J⟩:=g.own j t dt q u;have:c≠a:=by rintro rfl;exact b (g.dis j x c ⟨⟨t,dt,q,u⟩,A⟩ y)
     exact⟨c,E,A,by rw[aF this];exact G,I,J⟩
 . have:c≠a:=by rintro rfl;exact n ⟨x,y⟩
   rw[aF this];exact q
 . by_cases b:j=x;.subst b;rw[e]at q;cases q;cases l
   .exact⟨t,by rw[fK b];exact q,.refl t⟩
theorem GS.newV{kvs:List (Int×D)}{a:cw}{A:HO}{s0:Sl}(g:GS K F ρ σ H)(e:ρ[i]?=aj s0)(y:uN s0=aK)(r:lM K F A (.v kvs))(s:H a=bx):aB K F ρ σ H F (ρ.set i (.cR kvs)) (σ.set i (aj (.ref a))) (upd H a A):=by
 have hi:i<ρ.length:=(eY e).1;have u:i<σ.length:=by rw[<-g.len];exact hi
 have B:F a=bx:=by cases q:F a with|none=>rfl|some o=>rw[g.sub a o q]at s;cases s
 have f:∀{j:Nat}{c:cw},j≠i->bj (ρ.set i (.cR kvs)) (σ.set i (aj (.ref a))) j c->bj ρ σ j c:=λ{j c}b⟨⟨t,ds,e1,e2⟩,e3⟩=>by rw[fK b]at e1 e3;exact⟨⟨t,ds,e1,e2⟩,e3⟩
 have h:∀{c:cw},bj (ρ.set i (.cR kvs)) (σ.set i (aj (.ref a))) i c->c=a:=λ{c}⟨_,e3⟩=>by rw[cv u]at e3;cases e3;rfl
 have no:∀{j:Nat},¬ bj ρ σ j a:=λ{j}⟨⟨t,ds,e1,e2⟩,e3⟩=>by obtain⟨c,o,m,p,_⟩:=g.own j t ds e1 e2;rw[e3]at m;cases m;rw[s]at p;cases p
 refine⟨⟨λc o q=>?_,by simp[g.len],λj E d q=>?_,λj t dt q C=>?_,λj k c m p=>?_⟩,.refl _,λc n G=>absurd n G,λc o q n=>?_,λc⟨j,q⟩=>?_,by simp,λj t q l=>?_⟩
 . have:c≠a:=by rintro rfl;rw[B]at q;cases q
   rw[aF this];exact g.sub c o q
 . by_cases b:j=i;.subst b;rw[cv hi]at q;cases q
   .rw[fK b]at q ⊢;exact g.val j E d q
 . by_cases b:j=i;.subst b;rw[cv hi]at q;cases q;cases C;exact⟨a,_,cv u,aH,B,r⟩
   . rw[fK b]at q ⊢;obtain⟨c,o,I,z,J,L⟩:=g.own j t dt q C;have:c≠a:=by rintro rfl;rw[s]at z;cases z
     exact⟨c,o,I,by rw[aF this];exact z,J,L⟩
 . by_cases b:j=i
   . by_cases w:k=i;.rw[b,w]
     .subst b;rw[h m]at p;exact absurd (f w p) no
   . by_cases w:k=i;.subst w;rw[h p]at m;exact absurd (f b m) no
     .exact g.dis j k c (f b m) (f w p)
 . have:c≠a:=by rintro rfl;rw[s]at q;cases q
   rw[aF this];exact q
 . by_cases b:j=i;.subst b;rw[h q];exact .inr s
   .exact .inl ⟨j,f b q⟩
 . have b:j≠i:=by rintro rfl;rw[e]at q;cases q;rw[y]at l;cases l
   exact⟨by rw[fK b],t,by rw[fK b];exact q,.refl t⟩
end
section
variable{X:Cx}{c:Call}{n:Nat}{a b e:df}{pa pb p:P}{pos:Pos}
theorem Du{f p2:Pos}(m:X.N.Nodup)(hi:X.N[i]?=aj x)(o:Loc X.env.scope x)(hs:fT (.Dict [] [] p2) (aj (.Name x f)) pos.line X.env=fm aK:=by rfl)(r:X.fn x=a_\/X.env.scope.names.lookup x=aj .local:=by first|(left;rfl)|(right;rfl)|assumption):SS X c n (.Assign [.Name x f] (.Dict [] [] p2) pos) (.G9 i):=by
 refine du (sW m hi o yK hs r) ?_;rintro D σ H⟨F,ρ,fl,h,g,e,k⟩;rw[_H.X25]at e;have go:∀s0,ρ[i]?=aj s0->uN s0=aK->fl=.next->h=ρ.set i (.cR [])->∀a,H a=bx->D.nx (σ.set i (aj (.ref a))) (upd H a (.dK [])):=λs0 q s j l a t=>by subst j l;exact k F _ _ (g.newV (kvs:=[]) q s (KR.oc .nil) t)
 split at e;.rename_i q;cases e;exact go _ q rfl rfl rfl
 .rename_i q;cases e;exact go _ q rfl rfl rfl
 .rename_i q;cases e;exact go _ q rfl rfl rfl
 .cases e
theorem qI{w f:Pos}{pk:P}(hu:X.A.units+8<gc)(C:X.N[i]?=aj x)(E:pX X.env.scope x)(G:SX X c a pk)(he:SX X c e p)(hs:fT e (aj (.Subscript (.Name x w) a f)) pos.line X.env=fm aK:=by rfl)(hd:(x==("__debug__":Str))=aK:=by decide)(m:(x==("__classdict__":Str))=aK:=by decide):SS X c n (.Assign [.Subscript (.Name x w) a f] e pos) (.gw i pk p):=by
 obtain⟨ta,h1,I⟩:=G.cu;refine du (DW (by omega) (cU C E hd m) h1 he.ev hs) ?_;rintro D σ H⟨F,ρ,fl,J,g,e,k⟩;rw[_H.X27]at e;obtain⟨r,o,L,l⟩:=aa e;clear e;refine⟨F,ρ,r,o,g,L,λv F1 H1 s1 M=>?_⟩;obtain⟨F2,s2,_,O⟩:=s1.dC M;split at l
 . rename_i Q U;obtain⟨kd,W,Y,h⟩:=aa l;clear l;obtain⟨s,o0,t,w2,w3,w4⟩:=s2.gs.own i _ _ U rfl;refine⟨.ref s,t,I s2.gs Y λy Z H3 s3 py=>?_⟩;split at h
   . rename_i kvs j q;split at h;.rename_i hl;cases h;obtain⟨a1,o1,z,y2,y3,y4⟩:=s3.gs.own i _ _ q rfl;rw[t]at z;cases z;obtain⟨es,rfl,B⟩:=KR.VG y4;have u:=B.put (k:=j) (O.mono s3.cL);refine⟨s,upd H3 s (.dK (putK es (dl j:Key) v)),rfl,?_,k Z σ _ ((s2.trans s3).trans (s3.gs.aeE q t u.oc))⟩;rw[py.int];exact .inl ⟨es,dl j,y2,rfl,by rw[B.len,fi];exact hl,rfl⟩
     .cases h
   .cases h
 .cases l
theorem Aw{y:Pos}{pk:P}(hu:X.A.units+8<gc)(z:X.N[i]?=aj x)(B:pX X.env.scope x)(C:SX X c a pk)(hs:Nf a)(hd:(x==("__debug__":Str))=aK:=by decide)(l:(x==("__classdict__":Str))=aK:=by decide):SX X c (.Subscript (.Name x y) a pos) (.Rz i pk):=by
 obtain⟨ta,h1,E⟩:=C.cu;refine⟨dN (O9 (by omega) (cU z B hd l) h1 hs) ?_,λi h=>by cases h⟩;rintro σ H Q⟨F,ρ,r,G,g,e,k⟩;rw[_H.E25]at e;split at e
 . rename_i I q;obtain⟨kd,J,L,f⟩:=aa e;clear e;obtain⟨m,o0,o,w2,w3,w4⟩:=g.own i _ _ q rfl;refine⟨.ref m,o,E g L λv F1 M s1 s=>?_⟩;split at f;.rename_i kvs O;obtain⟨t,U⟩:=az f;clear f;subst U;obtain⟨j,W,Y⟩:=cA t;clear t;obtain⟨d,Z,e6⟩:=map_some Y;subst e6;rw[dh W]at s;obtain⟨a1,o1,u,y2,y3,y4⟩:=s1.gs.own i _ _ O rfl;rw[o]at u;cases u;obtain⟨es,rfl,kr⟩:=KR.VG y4;obtain⟨w,g1,g2⟩:=kr.get Z;rw[s.int];exact⟨m,w,rfl,.inl ⟨es,dl j,.inl y2,rfl,g1.symm⟩,k w F1 M s1 (show Rep X.K F1 _ _ from g2)⟩
   .cases f
 .cases e
theorem Ti{G:Pos}{pk:P}{neg:Bool}{op:nh}(t:(op=.In/\neg=aK)\/(op=.NotIn/\neg=a_))(hu:X.A.units+8<gc)(w:X.N[i]?=aj x)(z:pX X.env.scope x)(J:SX X c a pk)(hd:(x==("__debug__":Str))=aK:=by decide)(m:(x==("__classdict__":Str))=aK:=by decide):PC X op a (.Name x G) (wy X.K (_H.ev c (.RB i pk neg))):=by
 obtain⟨L,h1,M⟩:=J.cu;have l:∀{σ:_L.St}{H:Hp}{Q:VK},wy X.K (_H.ev c (.RB i pk neg)) σ H Q->L σ H λy u=>j4 i σ u λx B=>∃a o,x=.ref a/\o4 B a y o/\Q (.bl (if neg then !o.isSome else o.isSome)) B:=λ{σ H Q}⟨F,ρ,r,ρ',g,e,k⟩=>by
  rw[_H.E26]at e;obtain⟨kd,O,U,q⟩:=aa e;clear e;refine M g U λv F1 u s1 C=>?_;split at q;.rename_i kvs W;obtain⟨Y,Z⟩:=az q;clear q;subst Z;obtain⟨j,e4,e5⟩:=map_some Y;subst e5;rw[dh e4]at C;obtain⟨E,o1,y1,y2,y3,y4⟩:=s1.gs.own i _ _ W rfl;obtain⟨es,rfl,kr⟩:=KR.VG y4;rw[C.int];refine⟨.ref E,y1,E,_,rfl,.inl ⟨es,dl j,.inl y2,rfl,rfl⟩,?_⟩;rw[kr.has j];exact k _ F1 u s1 (show Rep X.K F1 _ _ from fu _)
  .cases q
 rcases t with⟨rfl,rfl⟩|⟨rfl,rfl⟩;.exact λf s σ H Q I h=>U7 (by omega) h1 (cU w z hd m) f s σ H Q I (l h)
 .exact λf s σ H Q I h=>Ge (by omega) h1 (cU w z hd m) f s σ H Q I (l h)
end
theorem pH{P:dE}{w:eH}:∀{ks:List Int}{es:List (Key×V)}{vs:List (Key×b_)}{a:List b_},es.map (·.1)=ks.map (dl:Int->Key)->KV es vs->a.length=vs.length->(∀(j:Nat)(v:b_),a[j]?=aj v->∃(k:Key)(x:b_),vs[j]?=aj (k,x)/\(bz P w).is k v=a_)->gI a ks
 |[],es,_,a,he,r,h,_=>by cases es with
   |nil=>cases r;cases a with|nil=>exact .nil|cons _ _=>simp at h
   |cons _ _=>simp at he
 |i::ks,es,_,a,he,r,h,k=>by cases es with|nil=>simp at he|cons p es=>cases r with|@cons _ q _ _ r t=>rw[da,da]at he;cases a with|nil=>simp at h|cons v a=>
         obtain⟨f,x,c,g⟩:=k 0 v rfl;simp at c;have l:f=dl i:=by have z:=r.1;rw[c]at z;rw[<-(List.cons.inj he).1];exact z.symm
         subst l;obtain⟨n,m,b,rfl⟩|⟨_,_,b,_⟩:=bM (show pO (dl i) v=a_ from g);.cases b;exact .cons _ m (pH (List.cons.inj he).2 t (by simpa using h) λj v e=>k (j+1) v (by simpa using e))
         .cases b
section
variable{X:Cx}{c:Call}{n:Nat}{a b e:df}{pa pb p:P}{pos:Pos}
theorem Y4(hc:X.calm=a_):eO X (.type "list") (Nj X.K λx=>blt .YG [x]):=by rintro t s σ H xs us Q I r⟨x,A,F,d,B,sm,C,he,k⟩;cases d with|dv ks ds=>
   obtain⟨E,he⟩:=aZ (show(if ks.length<=16777216 then aj (R.own (ks.map D.int))else bx)=aj B from he);subst he;obtain⟨q,G,g,rfl,J,L,M⟩:=C.dv sm;subst A;obtain⟨u,rfl,N⟩:=r.one;cases N;obtain⟨ho,hz,O,vs,y,l⟩:=(show bR X.prog X.w H s.heap q (.dC G (.dK (ent ks g)))from I.hok q _ J);obtain⟨ep,l⟩:=l.dictAt;have z:=tE (ks:=ks) (vs:=g) (by rw[L.length];exact M);have m:vs.length=ks.length:=by rw[<-Paired.length y];have:=congrArg kR z;simpa using this
   refine kdl_call (kdl_dict (knd:=bz X.prog X.w) (kvs:=vs) (ep:=ep) O) (I.ok.hd hc) l (by rw[m,fi];omega) λh' U h W kp Y f=>?_;have Z:gI h.toList ks:=pH (P:=X.prog) (w:=X.w) z y (by rw[jp];exact f.1) λj v e=>f.2 j v (by rw[<-nI];exact e);refine⟨.ref s.heap.objs.size,_,I.laid (t':=U) (o:=.lst (ks.map V.int)) (h':=h') kp (dm) ⟨by rw[dQ,fi];omega,h.toList,W,mL Z,by rw[Array.toArray_toList];exact Y⟩,rfl,?_⟩;exact Aj sm (uO ks) (I.hok.fresh (dm)) k|_=>cases he
theorem Hm{f:Pos}(g:x="list")(hc:X.calm=a_)(j:Gl X x)(k:X.mg x=bx)(l:SX X c a pa)(hs:cy [a] X.env=(aK,eB a X.env)::cy [] X.env:=by rfl):SX X c (.Call (.Name x f) [a] [] pos) (.blt .YG [pa]):=by subst g;exact pJ (λh=>pq (Y4 hc) j k (by decide+kernel) h (he:=hs)) l (λρ=>rfl) rfl hs
theorem M5{neg:Bool}{op:nh}(f:(op=.In/\neg=aK)\/(op=.NotIn/\neg=a_))(L:X.A.units+8<gc):fX X (d_ op) (rD X.K (zb neg)):=by rintro m s σ H x y v u Q I h t⟨F,d,e,r,sm,w,z,he,k⟩;cases d with
 |int j=>cases e with|dv ks ds=>
     cases he;obtain⟨q,B,vs,rfl,C,E,G⟩:=z.dv sm;have J:=KR.zip E G;rw[w.int]at h;obtain rfl:u=eg q:=t;have g:o4 H q (.int j) (jy (ent ks vs) (dl j:Key)):=.inl ⟨_,dl j,.inr ⟨B,C⟩,rfl,rfl⟩;have o:(jy (ent ks vs) (dl j:Key)).isSome=ks.contains j:=by rw[J.has j];congr 1;rw[List.map_fst_zip (by omega)]
     rcases f with⟨rfl,rfl⟩|⟨rfl,rfl⟩;.refine aal (by omega) I g h λs3 l=>⟨.bl (jy (ent ks vs) (dl j:Key)).isSome,H,l,rfl,?_⟩;rw[o];exact cJ.dg sm (fu _) k
     .refine Eu (by omega) I g h λs3 l=>⟨.bl (!(jy (ent ks vs) (dl j:Key)).isSome),H,l,rfl,?_⟩;rw[o];exact cJ.dg sm (fu _) k|_=>cases he
 |_=>cases he
end
end _H
namespace PySem
section
variable{prog:dE}{w:eH}{A:fb}{E:b_->cr->Prop}{s:cr}
theorem vW{Q:List b_->cr->Prop}{I l:cw}{items:Array b_}(u:A.handled=bx)(f:s.heap.IsRevIter I l ((items.size:Int)-1))(p:s.heap.IsList l items)(k:l≠I)(g:items.size<=2^24)(x:∀h' m c,(∀b o,b≠I->s.heap.get? b=aj o->h'.get? b=aj o)->s.heap.objs.size<h'.objs.size->ItemsOf (λi v=>items[items.size-1-i]?=aj v) c items.size->Q c.toList {s with heap:=h',toks:=m}):
 cN (c_ prog w) A (collect (.ref I)) Q E s:=by have h:I<s.heap.objs.size:=let⟨_,ho,_⟩:=f;dL ho;have n:l<s.heap.objs.size:=let⟨_,ho,_⟩:=p;dL ho;unfold collect;refine ce (wpAny_runValue (k8 F.entry_proto_collect ?_));rw[i6 F.plain_proto_collect _];show cN _ A.in1 (newList []>>=λl=>again (.builtin "list.__iadd__" ⟨[l,.ref I],[]⟩)) _ _ s;refine ce (eA ?_);refine cK ⟨l7 F.plain_list_iadd _,k8 F.entry_list_iadd ?_⟩;rw[i6 F.plain_list_iadd _];show cN _ A.in1 (lh (.ref s.heap.objs.size) (.ref I) (.ref s.heap.objs.size)) _ _ _;refine nT (A:=A) (R:=λr q=>match r with
  |.ok (.ret v)=>cN (c_ prog w) A (match v with
   |.ref a=>do let o<-load a match o.data with|.seq xs _=>fm xs.toList|_=>m3 "internal:collect"
   |_=>m3 "internal:collect") Q E q|.ok _=>False|.error e=>E e q) (s:={s with heap:=s.heap.push {cls:=.type "list",data:=.seq #[]}}) u (f.at λo e=>gU e) (p.at λo e=>gU e) k g s.heap.objs.size (gu (ej h)) (gu (ej n)) _ 0 (dA _ rfl) λh' m c B y t j=>?_;refine ce (wpAny_load t ?_);exact cK (x h' m c (λb o z e=>y b o (ej (dL e)) z (gU e)) (dL t) j)
end
theorem km(I l:cw)(items:Array b_)(i:l≠I)(hsz:items.size<=2^24):rf (k6.«tuple.__new__» ⟨[.type "tuple",.ref I],[]⟩) (λA R s=>A.handled=bx/\s.heap.IsRevIter I l ((items.size:Int)-1)/\s.heap.IsList l items/\∀(h':eP)(p:Nat),(∀b o,b≠I->s.heap.get? b=aj o->h'.get? b=aj o)->s.heap.objs.size<h'.objs.size->∀a:Array b_,a=items.reverse->R (.ok (.ret (.ref h'.objs.size))) {s with heap:=h'.push {cls:=.type "tuple",data:=.seq a},toks:=p}):=.of_wp λprog w A R s h=>by
  obtain⟨r,f,t,h⟩:=h;have q:=sub_tuple_self;have k:=init_tuple_lookup;have u:=madeHere_tuple;have x:Shared.TypeIs s (.ref I) "list_reverseiterator":=f.typeIs;obtain⟨o,ho,hc,hd⟩:=id f;obtain⟨C,g,d,p,os⟩:=s;wp_walk using AutoSeq1.wpAny_loadPart' ho,kU x,vW (A:=A.in1) r f t i hsz;intro h' m a y n c;show cN _ _ (i9 a.toList.toArray>>=λv=>ret v) _ _ _;have e:a.toList.toArray=a:=by simp
  have z:a=items.reverse:=by refine Array.ext (by rw[c.1,Array.size_reverse]) λj h1 E=>?_;have:=c.2 j _ (Array.getElem?_eq_getElem h1);rw[Array.getElem_reverse];have B:=Array.getElem?_eq_some_iff.mp this;exact B.2.symm
  rw[e];unfold i9;refine ce (eA ?_ (by show a.size<=sizeLine;rw[c.1,fi];omega));exact cK ⟨_,rfl,h h' m y n a z⟩
section
variable{prog:dE}{w:eH}{A:fb}{E:b_->cr->Prop}{s:cr}
theorem qp{I l:cw}{items:Array b_}{Q:b_->cr->Prop}(i:A.handled=bx)(a:s.heap.IsRevIter I l ((items.size:Int)-1))(j:s.heap.IsList l items)(c:l≠I)(hsz:items.size<=2^24)(h:∀(h':eP)(f:Nat),(∀b o,b≠I->s.heap.get? b=aj o->h'.get? b=aj o)->s.heap.objs.size<h'.objs.size->Q (.ref h'.objs.size) {s with heap:=h'.push {cls:=.type "tuple",data:=.seq items.reverse},toks:=f}):cN (c_ prog w) A (call (.type "tuple") [.ref I]) Q E s:=callType_new F.called_tuple (by decide) (F.typeCall_tuple_1 _) (F.newCall_tuple_1 _) (λobj=>F.args_object_init_2 obj _) F.entry_tuple_new (km I l items c hsz) ⟨i,a,j,λh' f k g m e=>by subst e;exact⟨⟨_,dA _ rfl,rfl⟩,h h' f k g⟩⟩
end
end PySem
namespace _L
open PySem Spec PyProof.Rows
section
variable{X:Cx}{pins:List (cw×Obj)}{σ:St}{H:Hp}{s:cr}{E:b_->cr->Prop}
theorem BP{a:df}{B:TE}{p pos p2 g:Pos}(hc:X.calm=a_)(n:Gl X "tuple")(t:X.mg "tuple"=bx)(J:Gl X "reversed")(L:X.mg "reversed"=bx)(M:PE X a B)(hs:cy [a] X.env=[(aK,eB a X.env)]:=by rfl)(i:cy [.Call (.Name "reversed" p) [a] [] pos] X.env=[(aK,eB (.Call (.Name "reversed" p) [a] [] pos) X.env)]:=by rfl):PE X (.Call (.Name "tuple" p2) [.Call (.Name "reversed" p) [a] [] pos] [] g) (λσ H Q=>B σ H λx f=>∃ad xs,x=.ref ad/\dJ X.K f ad xs/\∀l,f l=bx->Q (.ref l) (upd f l (.tup xs.reverse))):=by
 intro pins s σ H Q I h;refine Call_ (jW I n t yj (fo ?_ i rfl));rw[i];show cN _ _ (spliced ((aK,eB (.Call (.Name "reversed" p) [a] [] pos) X.env)::[])) _ _ _;refine ka (Call_ (jW I J L rH (fo (cB ((bf M cV hs) pos pins s σ H (λvs f=>match vs with|[x]=>∃ad xs,x=.ref ad/\dJ X.K f ad xs/\∀l,f l=bx->Q (.ref l) (upd f l (.tup xs.reverse))|_=>False) I h) ?_) hs rfl)));rintro Z s1⟨vs,f,m,r1,v⟩;obtain⟨ad,xs,N,q,w⟩:∃ad xs,dJ X.K f ad xs/\(∀l,f l=bx->Q (.ref l) (upd f l (.tup xs.reverse)))/\vs=[.ref ad]:=by cases vs with|nil=>cases v|cons x r=>cases r with|nil=>obtain⟨ad,xs,rfl,q,O⟩:=v;exact⟨ad,xs,q,O,rfl⟩|cons _ _=>cases v
 subst w;obtain⟨u,rfl,U⟩:=r1.one;cases U;obtain⟨c,C,y,hz⟩:=m.list N;have hsz:c.toArray.size=xs.length:=by rw[cE,<-C.length]
 refine call_reversed_list y.isList (lx ?_);have z:ad≠s1.heap.objs.size:=ej (let⟨_,ho,_⟩:=y.isList;dL ho);have A:(s1.heap.push (revObj ad ((c.toArray.size:Int)-1))).IsList ad c.toArray:=y.isList.at λo e=>gU e;refine qp (m.ok.hd hc) (I:=s1.heap.objs.size) (l:=ad) (items:=c.toArray) ⟨_,dA _ rfl,rfl,rfl⟩ A z (by rw[hsz];exact g_ hz (by decide)) λh' W G j=>?_;have k:(s1.heap.push (revObj ad ((c.toArray.size:Int)-1))).objs.size=s1.heap.objs.size+1:=kg ..;dsimp only at G j ⊢;rw[k]at j;have Y:c.toArray.reverse=c.reverse.toArray:=by simp
 rw[Y];refine⟨.ref h'.objs.size,_,m.laid (t':=W) (o:=.tup xs.reverse) (h':=h'.push {cls:=.type "tuple",data:=.seq c.reverse.toArray}) (λb o e=>gU (G b o (ej (dL e)) (gU e))) (by omega) ?_,rfl,q _ (m.hok.fresh (by omega))⟩;exact⟨by rw[List.length_reverse];exact hz,_,C.reverse,kS _ _⟩
end
end _L
namespace _H
open PySem _L Spec PyProof.Rows
section
variable{X:Cx}{c:Call}{a:df}{pa:P}{pos:Pos}
theorem Av{x y:Str}{j p b:Pos}(q:y="tuple")(t:x="reversed")(hc:X.calm=a_)(m:Gl X y)(n:X.mg y=bx)(u:Gl X x)(w:X.mg x=bx)(z:SX X c a pa)(hs:cy [a] X.env=[(aK,eB a X.env)]:=by rfl)(o:cy [.Call (.Name x j) [a] [] pos] X.env=[(aK,eB (.Call (.Name x j) [a] [] pos) X.env)]:=by rfl):SX X c (.Call (.Name y p) [.Call (.Name x j) [a] [] pos] [] b) (.blt .rvT [pa]):=by subst t q;obtain⟨Z,h1,A⟩:=z.cu;refine⟨dN (BP hc m n u w h1 hs o) ?_,λi h=>by cases h⟩;rintro σ H Q⟨F,ρ,r,B,g,e,k⟩;rw[_H.E16]at e;obtain⟨d,C,E,f⟩:=aa e;have G:=az f;clear f;obtain⟨f,I⟩:=G;subst I;cases d with|lst ds=>cases f;refine A g E ?_;rintro v F' H' s J;obtain⟨ad,xs,rfl,L,M⟩:=J.lst s.gs.sub;exact⟨ad,xs,rfl,L,λl N=>Af s.gs.sub (aG.rev M) N λv O U W Y=>k v O U (s.trans (W.stp s.gs)) (.later s (Y.qm s.gs))⟩|_=>cases f
end
end _H
namespace _L
open PySem Spec PyProof.Rows Calls
section
variable{X:Cx}
theorem Jl:YX X (Pj X.K):=by
 intro a s σ H x y v u Q I g k h;obtain⟨p,xs,i,z,rfl,rfl,l,he,q⟩:=h;cases g;obtain⟨t,rfl⟩:=k;obtain⟨b,r,e,hz⟩:=I.list l;obtain⟨j,h1,m,C,n,o⟩:=wu he;obtain⟨w,f,A⟩:=r.get m;have B:=r.length;have E:=pg;have fin:EP X a σ Q w s:=⟨z,H,I,A,q⟩;by_cases h0:0<=i
 . have c:i.toNat=j:=by rw[ng h0 o]at h1;exact eI h1
   exact wpAny_getItem_list e.isList h0 (by omega) (by rw[c];simpa using f) fin
 . have c:(i+(b.toArray.size:Int)).toNat=j:=by rw[mr (by omega) n]at h1;rw[cE,<-B];exact eI h1
   exact pS e.isList (by omega) (by rw[cE]<;>omega) (by omega) (by rw[c];simpa using f) fin
end
end _L
namespace _H
open PySem _L Spec PyProof.Rows Calls W
section
variable{X:Cx}{c:Call}{n:Nat}{a b e:df}{pa pb p:P}{pos:Pos}
set_option maxHeartbeats 800000 in
theorem Ey{k e:Int}{t1 t2 p1 p2 p3}:SX X c (.Dict [aj (.Constant (.int k) t1 p1)] [.Constant (.int e) t2 p2] p3) (.Ck k e):=by
 refine⟨?_,λi h=>by cases h⟩;intro f s σ H Q I h;obtain⟨F,ρ,r,x,g,m,y⟩:=h;rw[_H.E27]at m;cases m;have A:lU [] [((dl k:Key),V.int e)]=ent [k] [.int e]:=rfl;have B:=wM (X:=X) (pos:=p3) (nQ (iY (i:=k) (j:=t1) (pos:=p1)) (iY (i:=e) (j:=t2) (pos:=p2)) wJ) rfl rfl (by simp) (by simp);refine cB (B f s σ H (λv C=>∃q,v=.ref q/\H q=bx/\C=upd H q (Ab [k] [.int e])) I ?_) λu s1⟨v,H1,I1,r1,q,e1,hn,e2⟩=>?_;.intro q E;refine⟨aH,[(dl k,.int e)],rfl,by simp,q,rfl,E,?_⟩;rw[qH,A];rfl
 subst e1 e2;obtain⟨o,t⟩:=Inv.Fw I1 (a:=q) (kvs:=ent [k] [.int e]) aH;rw[qH]at t;have G:F q=bx:=by cases z:F q with|none=>rfl|some o=>rw[g.sub q o z]at hn;cases hn
 have sm:aN F (upd F q (.dC o (Ab [k] [.int e]))):=aN.cO G;refine⟨.ref q,_,t,r1,y _ (upd F q (.dC o (Ab [k] [.int e]))) _ (Ext.stp g ⟨aN.cO hn,sm,λb o e=>?_,λb n w=>?_⟩) ?_⟩
 . by_cases l:b=q;.subst l;rw[aH]at e ⊢;exact e
   .rw[aF l]at e ⊢;exact g.sub b o e
 . by_cases l:b=q;.subst l;exact iV hn
   .rw[aF l]at w;exact absurd n w
 .show Rep X.K _ _ (.dv [k] [.int e]);rw[Rep];exact⟨q,o,[.int e],rfl,aH,.cons (bO _) .nil,rfl⟩
theorem Mt{x:Str}{k:Nat}{px o:Pos}{op:lp}{sub:Bool}(ho:Q3 X op (Xx λi j=>if sub then i-j else i+j))(hN:X.N[k]?=aj x)(hv:pX X.env.scope x)(hi:SX X c b pb)(he:SX X c e p)(ha:∀A iv f,augStore b A iv f=(do kD [f,A,iv] (nv A iv f);release [f,A,iv] [];fm .next):=by intros;rfl)(hd:(x==("__debug__":Str))=aK:=by decide)(E:(x==("__classdict__":Str))=aK:=by decide):SS X c n (.AugAssign (.Subscript (.Name x px) b o) op e pos) (.Li k pb sub p):=by
 obtain⟨ti,G,I⟩:=hi.cu;obtain⟨te,J,L⟩:=he.cu;refine du (Oi (cU hN hv hd E) G Jl J ho set_list ha) ?_;rintro D σ H⟨F,ρ,fl,ac,g,e,kk⟩;rw[_H.X17]at e;obtain⟨x0,ae,r,Y⟩:=aa e;clear e;obtain⟨e0,oG⟩:=az r;clear r;subst oG;obtain⟨dk,M,e1,Z⟩:=aa Y;clear Y;obtain⟨l,af,h,eC⟩:=aa Z;clear Z;obtain⟨B,O⟩:=az h;clear h;subst O;obtain⟨ra,ag,s,eD⟩:=aa eC;clear eC;obtain⟨e3,WY⟩:=az s;clear s;subst WY;obtain⟨db,ah,e4,t⟩:=aa eD;clear eD;obtain⟨Q,Vf,m,_⟩:=qC g e0;refine⟨.ref Q,m,I g e1 λvi F1 H1 s1 pi=>?_⟩;split at t
 . rename_i u v bb ds kz q;split at t
   . rename_i j hj;cases t;obtain⟨C,f3,f5⟩:=cA e3;have U:C=kz:=by cases f3;rfl
     subst U;have h:pk M k=aj (.lst l):=by
      unfold zN at B;split at B;.rename_i z;cases B;exact z
      .cases B
     obtain⟨o',y,po⟩:=s1.gs.pk h;rw[m]at y;cases y;obtain⟨ad,xs,hr,hL,rs⟩:=po.lst s1.gs.sub;cases hr;obtain⟨j0,h1,h2⟩:=JB f5;obtain⟨w,h3,h4⟩:=rs.get h2;have W:Hf xs C=aj w:=by unfold Hf;rw[rs.length,h1];exact h3
     have hw:w=.int u:=by rw[Rep]at h4;exact h4
     subst hw;refine⟨Q,xs,C,.int u,rfl,pi.int,hL,W,L s1.gs e4 λvb F2 H2 s2 pb=>⟨u,v,rfl,pb.int,?_⟩⟩;obtain⟨ai,zs,z1,z2,z3,z4⟩:=s2.gs.m7 k _ ds q rfl;rw[m]at z1;cases z1;refine⟨Q,zs,C,j,rfl,pi.int,z2,by rw[z4.length];exact hj,?_⟩;exact kk F2 σ _ ((s1.trans s2).trans (s2.gs.mut q m (z4.set (bO _) j)))
   .cases t
 .cases t
end
section
variable{X:Cx}{c:Call}{n:Nat}{a b e:df}{pa pb p:P}{pos:Pos}
theorem Nm{neg:Bool}{o:Op}{op:nh}(h:(op=.In/\neg=aK)\/(op=.NotIn/\neg=a_))(j:uB o=zb neg)(l:X.A.units+8<gc)(m:SX X c a pa)(y:SX X c b pb)(B:gi op b=aK):ST X c (.Compare a [op] [b] pos) (.bin o pa pb):=by obtain⟨C,E,h1,G,I⟩:=m.iJ y;refine yD (Cz (M5 h l) h1 G B) λσ H Q q=>my (t:=Pu (rD X.K (zb neg)) C E) (λQ z=>?_) q;obtain⟨F,ρ,r,J,g,e,k⟩:=z;rw[_H.E3]at e;obtain⟨i,L,M,f⟩:=aa e;have N:=az f;clear f;obtain⟨f,O⟩:=N;subst O;rw[j]at f;refine I g M λv u U H' s W Y=>⟨U,i.1,i.2,r,s.gs.sub,W,Y,f,λw Z H2 x rn=>?_⟩;exact k w Z H2 (s.trans (x.stp s.gs)) (.later s (rn.qm s.gs))
theorem JG(f:X.A.units+8<gc)(g:SX X c a pa)(h:SX X c b pb)(i:gi .In b=aK):ST X c (.Compare a [.In] [b] pos) (.bin .din pa pb):=Nm (.inl ⟨rfl,rfl⟩) rfl f g h i
theorem Vo{i:Nat}{x:Str}{h:Pos}{pk:P}{neg:Bool}{op:nh}(f:(op=.In/\neg=aK)\/(op=.NotIn/\neg=a_))(j:X.A.units+8<gc)(k:X.N[i]?=aj x)(l:pX X.env.scope x)(m:SX X c a pk)(o:gi op (.Name x h)=aK)(hd:(x==("__debug__":Str))=aK:=by decide)(g:(x==("__classdict__":Str))=aK:=by decide):ST X c (.Compare a [op] [.Name x h] pos) (.RB i pk neg):=yD (S9 (Ti f j k l m hd g) o) λσ H Q q=>my (λ_ z=>z) q
end
end _H
namespace _H
open PySem _L Spec PyProof.Rows
section
variable{X:Cx}{c:Call}{n:Nat}{pos:Pos}
noncomputable def adB(k e:Int):TE:=λ_ H Q=>∀p,H p=bx->Q (.ref p) (upd H p (.dK [(dl k,.int e)]))
theorem Sd{k e:Int}{t1 t2 p1 p2 p3}:PE X (.Dict [aj (.Constant (.int k) t1 p1)] [.Constant (.int e) t2 p2] p3) (adB k e):=by refine dN (wM (X:=X) (pos:=p3) (nQ (iY (i:=k) (j:=t1) (pos:=p1)) (iY (i:=e) (j:=t2) (pos:=p2)) wJ) rfl rfl (by simp) (by simp)) ?_;intro σ H Q h q a;refine⟨aH,[(dl k,.int e)],rfl,by simp,?_⟩;rw[qH];exact h q a
set_option maxHeartbeats 1000000 in
theorem PX{i:Nat}{x:Str}{k e:Int}{t1 t2 p1 p2 p3}{b:Pos}(m:X.N.Nodup)(hi:X.N[i]?=aj x)(o:Loc X.env.scope x)(hs:fT (.Dict [aj (.Constant (.int k) t1 p1)] [.Constant (.int e) t2 p2] p3) (aj (.Name x b)) pos.line X.env=fm aK:=by rfl)(p:X.fn x=a_\/X.env.scope.names.lookup x=aj .local:=by first|(left;rfl)|(right;rfl)|assumption):SS X c n (.Assign [.Name x b] (.Dict [aj (.Constant (.int k) t1 p1)] [.Constant (.int e) t2 p2] p3) pos) (.Lp i k e):=by
 have h0:=sW m hi o (Sd (X:=X) (k:=k) (e:=e) (t1:=t1) (t2:=t2) (p1:=p1) (p2:=p2) (p3:=p3)) hs p;show PS X _ _;refine du h0 ?_;rintro D σ H⟨F,ρ,fl,h,g,f,r⟩;rw[_H.X26]at f;have go:∀s0,ρ[i]?=aj s0->uN s0=aK->fl=.next->h=ρ.set i (.cR [(k,.int e)])->∀a,H a=bx->D.nx (σ.set i (aj (.ref a))) (upd H a (.dK [(dl k,.int e)])):=λs0 q s j l a t=>by subst j l;exact r F _ _ (g.newV (kvs:=[(k,.int e)]) q s (KR.oc (.cons (bO _) .nil)) t)
 split at f;.rename_i q;cases f;exact go _ q rfl rfl rfl
 .rename_i q;cases f;exact go _ q rfl rfl rfl
 .rename_i q;cases f;exact go _ q rfl rfl rfl
 .cases f
end
end _H
namespace _L
open PySem Spec PyProof.Rows
section
variable{X:Cx}
noncomputable def Tr(K:PySem.W.Frag):V->List V->Hp->VK->Prop:=λx vs H Q=>∃(l:cw)(ns:List Int)(i:Int),x=.ref l/\vs=[.int i]/\dJ K H l (ns.map V.int)/\ns.length<=1000/\i∈ns/\Q (.int (ns.idxOf i:Nat)) H
theorem zr:∀{ns:List Int}{a:List b_},Vals (ns.map V.int) a->gI a ns|[],_,r=>by cases r;exact .nil|i::ns,_,r=>by cases r with|cons h t=>obtain⟨b,rfl⟩:=h;exact .cons i b (zr t)
theorem JZ:MtR X "list.index" (Tr X.K):=by
 intro m s σ H x vs v C Q I o p h;obtain⟨l,ns,i,rfl,rfl,w,hz,hi,q⟩:=h;cases o;obtain⟨u,rfl,z⟩:=p.one;obtain⟨t,rfl⟩:=z;obtain⟨b,r,A,_⟩:=I.list w;have a:=zr r;have c:=a.length;have f:ns.idxOf i<ns.length:=ii.mpr hi;obtain⟨⟨cls,E,data,sl⟩,n,ho,hc,e,hd⟩:=A;simp only at hc hd e;subst hc hd e;refine je PySem.F.slot_list_index ⟨_,ho,rfl⟩ PySem.F.entry_list_index (PySem.F.args_list_index_2 _ _) (SeqAt.list_indexAt l b.toArray n bx sl (.int i t) (isInt i) (ns.idxOf i) (by simpa[c]using f) (by omega) ?_ ?_) ⟨ho,λy B=>(eq_isInt i t a y (by simpa using B)).at _ _,?_⟩;.show isInt i b[ns.idxOf i]=a_;rw[isInt_at i a _ (by omega) f];simpa using lc f
 .intro j g k;show isInt i b[j]=aK;rw[isInt_at i a j (by simpa using g) (by omega)];exact ne_of_lt_idxOf k _
 .exact⟨.int (ns.idxOf i:Nat),H,I.tok _,⟨_,rfl⟩,q⟩
noncomputable def PB:V->List V->Hp->VK->Prop:=λx vs H Q=>∃l xs j y,x=.ref l/\vs=[.int j,y]/\H l=aj (.lst xs)/\0<=j/\j<=1000000/\xs.length<sizeLine/\Q .non (upd H l (.lst (xs.take j.toNat++y::xs.drop j.toNat)))
theorem Vals.vf:∀{xs:List V}{a:List b_}(k:Nat),Vals xs a->Vals (xs.take k) (a.take k)/\Vals (xs.drop k) (a.drop k)|_,_,0,r=>⟨by simp;exact .nil,by simpa using r⟩|[],_,k+1,r=>by cases r;exact⟨.nil,.nil⟩|x::xs,_,k+1,r=>by cases r with|cons h t=>have:=Vals.vf k t;exact⟨.cons h this.1,this.2⟩
theorem Gy:MtM X "list.insert" PB:=by
 intro g s σ H x vs v u Q I m o h;obtain⟨l,xs,j,y,rfl,rfl,i,p,w,hz,q⟩:=h;cases m;obtain⟨A,k,rfl,b,f⟩:=o.two;obtain⟨t,rfl⟩:=b;obtain⟨z,a,n,r,B,e⟩:=I.Ul i;refine je F.slot_list_insert ⟨_,e,rfl⟩ F.entry_list_insert (F.args_list_insert_3 _ _ _) (AutoListH.list_insert_list_int_val_1 l a.toArray n j t k (by rw[fitsIndex_of p (by omega)];decide) (by rw[cE];omega)) ⟨e,?_⟩;refine⟨.non,_,I.VR (its':=a.take j.toNat++k::a.drop j.toNat) i e ?_ ((r.vf _).1.append (.cons f (r.vf _).2)) ?_,rfl,q⟩
 . rw[if_neg (by omega)];apply ky.mp;simp;by_cases c:j.toNat<=a.length;.rw[Nat.min_eq_left c,iF (l:=a.drop j.toNat) (by simp)]
   .rw[Nat.min_eq_right (by omega)];simp;rw[iF (by omega),kG (by omega)]
 .simp;omega
end
end _L
namespace _H
open PySem _L Spec PyProof.Rows Calls W
section
variable{X:Cx}{c:Call}{n:Nat}{a b e:df}{pa pb p:P}{pos:Pos}
theorem sX:∀{K:PySem.W.Frag}{F:Hp}{ns:List Int}{ds:List D}{vs:List V},ds.mapM gq=aj ns->aG K F vs ds->vs=ns.map V.int|_,_,ns,[],vs,h,r=>by rw[r.dR];cases h;rfl|K,F,ns,d::ds,vs,h,r=>by obtain⟨v,f,rfl,h1,g⟩:=r.cG;rw[mapM_cons]at h;cases d with
   |int i=>cases hm:ds.mapM gq with|none=>rw[hm]at h;cases h|some j=>rw[hm]at h;cases h;rw[Rep]at h1;rw[h1,sX hm g];rfl
   |_=>cases h
theorem dq.sql{K:PySem.W.Frag}{F H:Hp}{v:V}{ds:List D}(sm:aN F H)(h:dq K F H v (.lst ds)):∃a xs,v=.ref a/\dJ K H a xs/\aG K F xs ds:=by
 rcases h with h|⟨a,xs,g,rfl,h1,f,i⟩;.rw[Rep]at h;obtain⟨a,xs,rfl,h1,f⟩:=h;exact⟨a,xs,rfl,aN.seq sm h1,f⟩
 .cases i;exact⟨a,xs,rfl,.inl (.inl h1),f⟩
theorem Wb{x:Str}{k i:Nat}{y m f:Pos}(hN:X.N[k]?=aj x)(hv:pX X.env.scope x)(he:SX X c e (.var i))(q:(m.endLine==f.line)=a_:=by rfl)(hs:cy [e] X.env=(aK,eB e X.env)::cy [] X.env:=by rfl)(s:gS (.Name x y) "index" X.env (eB (.Name x y) X.env)=eB (.Name x y) X.env:=by rfl)(u:((hX f (cy [e] X.env)).all (λx=>!x.1)&&(ln f (jx [] X.env)).all (λx=>x.1.isSome)&&decide ([e].length+([]:List iL).length+(if([]:List iL).isEmpty then 0 else 1)<30))=a_:=by rfl)(hd:(x==("__debug__":Str))=aK:=by decide)(z:(x==("__classdict__":Str))=aK:=by decide):SX X c (.Call (.Attribute (.Name x y) "index" m) [e] [] f) (.YJ k (.var i)):=by obtain⟨ti,A,B⟩:=he.cu;refine⟨dN (yu plainAttrs_list PySem.F.slot_list_index PySem.F.type_list_index JZ (cU hN hv hd z) (bf A cV hs) s u q hs) ?_,λi h=>by cases h⟩;rintro σ H Q⟨F,ρ,r,ac,g,o,kk⟩;rw[_H.E29]at o;obtain⟨d0,ae,t,o⟩:=aa o;have C:=az t;clear t;obtain⟨t,oG⟩:=C;subst oG;obtain⟨W,E,Y,o⟩:=aa o;obtain⟨af,G⟩:=az (show lift (pk ρ i) ρ=.ok W E from Y);subst G;obtain⟨d2,ag,w,o⟩:=aa o;have C:=az w;clear w;obtain⟨w,I⟩:=C;subst I;obtain⟨J,WY⟩:=az o;subst WY;rw[t]at w;cases w;obtain⟨v,h1,pv⟩:=g.pk t;cases d0 with
 |lst ds=>obtain⟨l,xs,rfl,h2,h3⟩:=pv.sql g.sub;refine⟨.ref l,h1,.inl ⟨rfl,xs,h2⟩,B g Y λvi Z H2 s2 pi=>?_⟩;cases W with|int j=>obtain⟨ns,e4,e5⟩:=cA (show(ds.mapM gq).bind _=_ from J);obtain⟨⟨m1,m2⟩,e6⟩:=aZ e5;subst e6;have gh:=sX e4 h3;subst gh;obtain⟨v',g1,L⟩:=s2.gs.pk t;rw[h1]at g1;cases g1;obtain⟨l',ah,el,M,O⟩:=L.sql s2.gs.sub;cases el;have U:=sX e4 O;subst U;exact⟨l,ns,j,rfl,by rw[pi.int],M,m2,m1,kk _ Z H2 s2 (by show Rep X.K Z _ _;rw[Rep])⟩|_=>cases J
 |_=>cases J
theorem aG.vf{K:PySem.W.Frag}{F:Hp}:∀{ds:List D}{vs:List V}(k:Nat),aG K F vs ds->aG K F (vs.take k) (ds.take k)/\aG K F (vs.drop k) (ds.drop k)|ds,vs,0,h=>⟨by simp;exact .nil,by simpa using h⟩|[],_,k+1,h=>by rw[h.dR];exact⟨.nil,.nil⟩|_::_,_,k+1,h=>by obtain⟨w,r,rfl,h1,t⟩:=h.cG;have:=aG.vf k t;exact⟨.cons h1 this.1,this.2⟩
theorem T9{x:Str}{k:Nat}{o h f:Pos}(J:X.N[k]?=aj x)(L:pX X.env.scope x)(hi:SX X c b pb)(he:SX X c e p)(i:(h.endLine==f.line)=a_:=by rfl)(hs:cy [b,e] X.env=(aK,eB b X.env)::cy [e] X.env:=by rfl)(u:cy [e] X.env=(aK,eB e X.env)::cy [] X.env:=by rfl)(l:gS (.Name x o) "insert" X.env (eB (.Name x o) X.env)=eB (.Name x o) X.env:=by rfl)(s:((hX f (cy [b,e] X.env)).all (λx=>!x.1)&&(ln f (jx [] X.env)).all (λx=>x.1.isSome)&&decide ([b,e].length+([]:List iL).length+(if([]:List iL).isEmpty then 0 else 1)<30))=a_:=by rfl)(hpl:(hX f (cy [e] X.env)).any (·.1)=aK:=by rfl)(w:fT (.Call (.Attribute (.Name x o) "insert" h) [b,e] [] f) bx pos.line X.env=fm aK:=by rfl)(hd:(x==("__debug__":Str))=aK:=by decide)(y:(x==("__classdict__":Str))=aK:=by decide):SS X c n (.Expr (.Call (.Attribute (.Name x o) "insert" h) [b,e] [] f) pos) (.ins k pb p):=by
 obtain⟨ti,z,A⟩:=hi.cu;refine du (qK (yu plainAttrs_list PySem.F.slot_list_insert PySem.F.type_list_insert Gy (cU J L hd y) (bf z (bf he.ev cV u) hs) l s i hs hpl) w) ?_;rintro D σ H⟨F,ρ,fl,M,g,e,O⟩;rw[_H.X20]at e;obtain⟨d0,Q,t,e⟩:=aa e;have E:=az t;clear t;obtain⟨t,U⟩:=E;subst U;obtain⟨dk,B,W,e⟩:=aa e;obtain⟨r,C,Y,e⟩:=aa e;obtain⟨a,xs,h1,Z⟩:=qC g t;refine⟨.ref a,h1,.inl ⟨rfl,xs,Z⟩,A g W λvi F1 H1 s1 pi=>⟨F1,B,r,C,s1.gs,Y,λv F2 H2 s2 rr=>?_⟩⟩;obtain⟨F3,s3,_,rp⟩:=s2.dC rr;split at e
 . rename_i bb ds j q E;split at e;.rename_i m;cases e;obtain⟨ad,ys,G,q2,q3,I⟩:=s3.gs.m7 k _ ds q rfl;rw[h1]at G;cases G;have ht:=I.vf j.toNat;exact⟨_,ys,j,v,rfl,by rw[pi.int],q2,m.1,m.2.1,by rw[I.length];exact m.2.2,O F3 σ _ ((s1.trans s3).trans (s3.gs.mut q h1 (ht.1.append (.cons rp ht.2))))⟩
   .cases e
 .cases e
theorem aB.onF{K:PySem.W.Frag}{F H F1 k:Hp}{ρ f:List Sl}{σ g:_L.St}{q:cw}{o:HO}(s:aB K F ρ σ H F1 f g k)(h:H q=bx)(l:F1 q=bx)(ho:¬ Own f g q):aB K F ρ σ H (upd F1 q o) f g (upd k q o):=by
 have t:=s.yg (o:=o) h l ho;have sm:aN F1 (upd F1 q o):=aN.cO l;refine⟨⟨λb u e=>?_,t.gs.len,λi b d e=>?_,λi t' ds e m=>?_,t.gs.dis⟩,λb u e=>sm b u (s.cL b u e),λb n r=>?_,t.keep,t.vO,t.len,t.lk⟩
 . by_cases j:b=q;.subst j;rw[aH]at e ⊢;exact e
   .rw[aF j]at e ⊢;exact s.gs.sub b u e
 .obtain⟨v,h1,x⟩:=t.gs.val i b d e;exact⟨v,h1,x.mono sm⟩
 . obtain⟨a,xs,w,y,z,A⟩:=t.gs.own i t' ds e m;have:a≠q:=by rintro rfl;exact ho ⟨i,⟨t',ds,e,m⟩,w⟩
   exact⟨a,xs,w,y,by rw[aF this];exact z,A.mono sm⟩
 . by_cases j:b=q;.subst j;exact .inr (iV h)
   .rw[aF j]at r;exact s.xP b n r
set_option maxHeartbeats 800000 in
theorem Ji{k e:Int}{t1 t2 p1 p2 p3}{E1 E2:df}{Z q2:P}(ha:SX X c E1 Z)(hb:SX X c E2 q2):SX X c (.Dict [aj (.Constant (.int k) t1 p1),aj E1] [.Constant (.int e) t2 p2,E2] p3) (.vN k e Z q2):=by obtain⟨ta,J,L⟩:=ha.cu;obtain⟨tb,M,N⟩:=hb.cu;refine⟨?_,λi h=>by cases h⟩;intro C s σ H Q I h;obtain⟨F,ρ,r,ac,g,B,kk⟩:=h;rw[_H.E28]at B;obtain⟨x,ae,O,B⟩:=aa B;obtain⟨y,f,U,B⟩:=aa B;obtain⟨A,WY⟩:=az B;subst WY;cases x with
 |int i=>cases y with|int j=>
     obtain⟨W,e4⟩:i≠k/\r=.val (.dv [k,i] [.int e,.int j]):=by
      have A:(if i=k then bx else aj (R.val (.dv [k,i] [.int e,.int j])))=aj r:=A;split at A;.cases A
      .rename_i Y;cases A;exact⟨Y,rfl⟩
     subst e4;have em:lU [] [((dl k:Key),V.int e),((dl i:Key),V.int j)]=ent [k,i] [.int e,.int j]:=by show putK (putK [] (dl k) (V.int e)) (dl i) (V.int j)=_;simp[putK,ent,gu W]
     have pe:=wM (X:=X) (pos:=p3) (nQ (iY (i:=k) (j:=t1) (pos:=p1)) (iY (i:=e) (j:=t2) (pos:=p2)) (nQ J M wJ)) rfl rfl (by simp) (by simp);refine cB (pe C s σ H (λv H'=>∃q l m,v=.ref q/\H q=bx/\aB X.K F ρ σ H l f σ m/\l q=bx/\¬ Own f σ q/\H'=upd m q (Ab [k,i] [.int e,.int j])) I ?_) λu s1⟨v,H1,I1,r1,q,l,m,O,Y,st,fq,nq,U⟩=>?_
     . intro q E;have fF:F q=bx:=by cases z:F q with|none=>rfl|some o=>rw[g.sub q o z]at E;cases E
       have G:¬ Own ρ σ q:=λ⟨i,⟨t,dt,z1,z2⟩,z3⟩=>by obtain⟨a,ys,w1,w2,_⟩:=g.own i t dt z1 z2;rw[z3]at w1;cases w1;rw[E]at w2;cases w2
       have t0:=(aB.refl g).yg (o:=.dK []) E fF G;have back:∀{l f m},aB X.K F ρ σ (upd H q (.dK [])) l f σ m->l q=bx/\¬ Own f σ q/\m q=aj (.dK []):=λ{l f m}st=>by
        refine⟨?_,λow=>?_,st.keep q _ aH G⟩;.cases z:l q with|none=>rfl|some o=>
            rcases st.xP q fF (by rw[z];simp)with w|w;.exact absurd w G
            .rw[aH]at w;cases w
        . rcases st.vO q ow with w|w;.exact G w
          .rw[aH]at w;cases w
       refine L t0.gs O λvi F1 H1 s1 pi=>N s1.gs U λvj l m s2 pj=>?_;have st:=s1.trans s2;obtain⟨b1,b2,b3⟩:=back st;refine⟨b3,[(dl k,.int e),(dl i,.int j)],by rw[pi.int,pj.int];rfl,by simp,q,l,m,rfl,E,t0.trans st,b1,b2,?_⟩;rw[em];rfl
     subst O U;obtain⟨o,I2⟩:=Inv.Fw I1 (a:=q) (kvs:=ent [k,i] [.int e,.int j]) aH;rw[qH]at I2;refine⟨.ref q,_,I2,r1,kk _ (upd l q (.dC o (Ab [k,i] [.int e,.int j]))) _ (st.onF Y fq nq) ?_⟩;show Rep X.K _ _ (.dv [k,i] [.int e,.int j]);rw[Rep];exact⟨q,o,[.int e,.int j],rfl,aH,.cons (bO _) (.cons (bO _) .nil),rfl⟩|_=>cases A
 |_=>cases A
end
end _H
namespace _L
open PySem Spec PyProof.Rows
section
variable{X:Cx}{a b:df}{rest:List df}{ta tb:TE}{pos:Pos}
noncomputable def S6(K:PySem.W.Frag)(ta tb:TE):TE:=λσ H Q=>ta σ H λx c=>∃k,Zf K x c k/\if k=a_ then Q x c else tb σ c Q
theorem Ub(i:PE X a ta)(j:PE X (.BoolOp .Or (b::rest) pos) tb):PE X (.BoolOp .Or (a::b::rest) pos) (S6 X.K ta tb):=by intro e s σ H Q I h;refine BoolOp_or (cB (i e s σ H _ I h) λv s1⟨x,H1,I1,r1,g⟩=>?_);obtain⟨c,t1,g⟩:=g;refine cB (RN e s1 σ H1 x v (λk f=>if k=a_ then Q x f else tb σ f Q) I1 r1 ⟨c,t1,g⟩) λk s2⟨f,I2,q2⟩=>?_;cases k with|false=>exact j e s2 σ f Q I2 q2|true=>exact⟨x,f,I2,r1,q2⟩
end
end _L
namespace _H
open PySem _L Spec PyProof.Rows
variable{as:List Arg}
section
variable{K:PySem.W.Frag}{c:Call}{F H:Hp}{ρ ρ':List Sl}{σ:_L.St}
theorem TX{p:Nat}{i:Int}(e:uy c [.var p,.con (.int i)] ρ=.ok as ρ'):as=[.dD p,.dat (.int i)]/\ρ'=ρ/\∃d,pk ρ p=aj d:=by have e:((lift (pk ρ p) ρ).bind λ_ ρ=>((Res.ok (R.val (.int i)) ρ:Res R).bind λx ρ=>(Res.ok [] ρ:Res (List Arg)).bind λxs ρ=>.ok (pP x::xs) ρ).bind λxs ρ=>.ok (.dD p::xs) ρ)=.ok as ρ':=e;obtain⟨d,b,a,e⟩:=aa e;have f:=az a;clear a;obtain⟨a,g⟩:=f;subst g;cases e;exact⟨rfl,rfl,d,a⟩
theorem Pr{p x t:Nat}(e:uy c [.var p,.var x,.var t] ρ=.ok as ρ'):as=[.dD p,.dD x,.dD t]/\ρ'=ρ/\∃d,pk ρ t=aj d:=by have e:((lift (pk ρ p) ρ).bind λ_ ρ=>((lift (pk ρ x) ρ).bind λ_ ρ=>((lift (pk ρ t) ρ).bind λ_ ρ=>(Res.ok [] ρ:Res (List Arg)).bind λxs ρ=>.ok (.dD t::xs) ρ).bind λxs ρ=>.ok (.dD x::xs) ρ).bind λxs ρ=>.ok (.dD p::xs) ρ)=.ok as ρ':=e;obtain⟨d0,l,g,e⟩:=aa e;have a:=az g;clear g;obtain⟨g,m⟩:=a;subst m;obtain⟨n,o,b,e⟩:=aa e;cases e;obtain⟨d2,q,h,b⟩:=aa b;have a:=az h;clear h;obtain⟨h,i⟩:=a;subst i;obtain⟨r,s,j,b⟩:=aa b;cases b;obtain⟨d4,u,f,j⟩:=aa j;have a:=az f;clear f;obtain⟨f,k⟩:=a;subst k;cases j;exact⟨rfl,rfl,d4,f⟩
theorem NQ{p t:Nat}(e:uy c [.var p,.lst [.con (.int 0)],.var t] ρ=.ok as ρ'):as=[.dD p,.tmp [.int 0],.dD t]/\ρ'=ρ/\∃d,pk ρ t=aj d:=by have e:((lift (pk ρ p) ρ).bind λ_ ρ=>((ev c (.lst [.con (.int 0)]) ρ).bind λx ρ=>((lift (pk ρ t) ρ).bind λ_ ρ=>(Res.ok [] ρ:Res (List Arg)).bind λxs ρ=>.ok (.dD t::xs) ρ).bind λxs ρ=>.ok (pP x::xs) ρ).bind λxs ρ=>.ok (.dD p::xs) ρ)=.ok as ρ':=e;obtain⟨d0,l,f,e⟩:=aa e;have g:=az f;clear f;obtain⟨f,m⟩:=g;subst m;obtain⟨n,o,a,e⟩:=aa e;cases e;obtain⟨q,h,i,a⟩:=aa a;have i:Res.ok (R.own [.int 0]) ρ=.ok q h:=i;cases i;obtain⟨r,s,j,a⟩:=aa a;cases a;obtain⟨d4,u,b,j⟩:=aa j;have g:=az b;clear b;obtain⟨b,k⟩:=g;subst k;cases j;exact⟨rfl,rfl,d4,b⟩
end
section
variable{X:Cx}{c:Call}{n:Nat}{st:eK}{z f p x y g t n1 n2:Nat}
theorem Bw{K:PySem.W.Frag}{b H₀ F H:Hp}{a ρ h:List Sl}{σ:_L.St}{vs:List V}{f:Nat}{r:R}{E:XK}{Q:VK}(s0:aB K b a σ H₀ F ρ σ H)(A:uA K F ρ σ H a H₀ as vs)(e:ik c f as ρ=.ok r h)(k:∀v l j,aB K b a σ H₀ l h σ j->cF K l h σ j a σ H₀ v r->Q v j):Ff K vs.length (c f) vs H Q E:=by
 unfold ik at e;split at e;.cases e
 . rename_i args m;split at e;.rename_i B i hc;cases e;refine⟨rfl,F,args,r,i,args_gs s0.gs A m,hc,λv l o j s q=>?_⟩;obtain⟨u,w⟩:=yS s0 A m s;exact k v l j u (w v r q)
   .cases e
   .cases e
theorem Ut(ar:n1=2)(av:n2=3)(ps:PS X st (KC (yQ (Ff X.K n2 (c f)) [] E0 (fW (j4 p) (fW (S6 X.K (Pu (Pj X.K) (Jh (fW (j4 x) (fW (j4 y) wI))) (yQ (Ff X.K n1 (c g)) [] E0 (fW (j4 p) (fW (tC (.int 2)) wI)))) (Jh (fW (tC (.int 0)) wI))) (fW (j4 t) wI)))) (iI z))):SS X c n st (.WQ z f p x y g t):=by
 subst ar;subst av;refine du ps ?_;rintro D σ H⟨F,ρ,fl,l,G,e,k⟩;have ah:((lift (pk ρ x) ρ).bind λ_ ρ=>(lift (pk ρ y) ρ).bind λ_ ρ=>(ev c (.call g [.var p,.con (.int 2)]) ρ).bind λr ρ=>match r.d with|.int 0=>(qe c f p x t ρ).bind λr ρ=>(lift (put ρ z (lF r)) ρ).bind λl _=>.ok .next l|.int 1=>(qe c f p y t ρ).bind λr ρ=>(lift (put ρ z (lF r)) ρ).bind λl _=>.ok .next l|_=>.stuck)=.ok fl l:=e;clear e;obtain⟨dx,ba,e0,ai⟩:=aa ah;clear ah;have zz:=az e0;clear e0;obtain⟨ex,oG⟩:=zz;subst oG;obtain⟨dy,bi,e0,al⟩:=aa ai;clear ai;have zz:=az e0;clear e0;obtain⟨ey,oG⟩:=zz;subst oG;obtain⟨I,sx,_⟩:=G.pk ex;obtain⟨J,sy,_⟩:=G.pk ey;obtain⟨r1,u,ez,em⟩:=aa al;clear al;have e1:((uy c [.var p,.con (.int 2)] ρ).bind λas ρ=>ik c g as ρ)=.ok r1 u:=ez;clear ez;obtain⟨bm,h,ea,ed⟩:=aa e1;clear e1;obtain⟨rfl,rfl,dp,ep⟩:=TX ea;obtain⟨U,sp,_⟩:=G.pk ep;have W:∀q,H q=bx->¬ Own h σ q:=λq M⟨i,⟨s,o,q1,m⟩,q3⟩=>by obtain⟨a,_,Y,w2,_⟩:=G.own i s o q1 m;rw[q3]at Y;cases Y;rw[M]at w2;cases w2
 have aw:∀q,H q=bx->F q=bx:=λq M=>by cases w:F q with|none=>rfl|some o=>rw[G.sub q o w]at M;cases M
 suffices main:∀(wn:Nat)(vw:V)(dw:_H.D)(i:Int),pk h wn=aj dw->σ[wn]?=aj (aj vw)->Hf [I,J] i=aj vw->r1.d=.int i->((qe c f p wn t u).bind λr ρ=>(lift (put ρ z (lF r)) ρ).bind λl _=>.ok .next l)=.ok fl l->KC (yQ (Ff X.K 3 (c f)) [] E0 (fW (j4 p) (fW (S6 X.K (Pu (Pj X.K) (Jh (fW (j4 x) (fW (j4 y) wI))) (yQ (Ff X.K 2 (c g)) [] E0 (fW (j4 p) (fW (tC (.int 2)) wI)))) (Jh (fW (tC (.int 0)) wI))) (fW (j4 t) wI)))) (iI z) D σ H by
  split at em;.rename_i hd;exact main x I dx 0 ex sx rfl hd em
  .rename_i hd;exact main y J dy 1 ey sy rfl hd em
  .cases em
 clear em;intro wn vw dw i hw sw ax hd e;obtain⟨r2,N,O,e⟩:=aa e;obtain⟨bn,bo,e3,e⟩:=aa e;have zz:=az e3;clear e3;obtain⟨e3,WY⟩:=zz;subst WY;cases e;refine⟨U,sp,I,sx,J,sy,(by decide:2<=sizeLine),λq M=>⟨U,sp,?_⟩⟩;have t1:aB X.K F h σ H F h σ (upd H q (.lst [I,J])):=(aB.refl G).yg M (aw q M) (W q M);have ay:aB X.K F h σ (upd H q (.lst [I,J])) F h σ (upd H q (.lst [I,J])):=.refl t1.gs;have A1:uA X.K F h σ (upd H q (.lst [I,J])) h (upd H q (.lst [I,J])) [.dD p,.dat (.int 2)] [U,.int 2]:=.cons sp (.cons (show Rep X.K F _ _ by rw[Rep]) .nil λ_ _ z=>by cases z) λ_ _ z=>by cases z
 refine Bw (E:=E0) (vs:=[U,.int 2]) ay A1 ed λv F1 H1 t2 L=>?_;have hv:v=.int i:=by cases r1 with|own ds=>cases hd|val d=>have hd:d=.int i:=hd;subst hd;have L:Rep X.K F1 v (.int i):=L;rw[Rep]at L;exact L
 subst hv;have hk:H1 q=aj (.lst [I,J]):=t2.keep q _ aH (W q M);have ac:=t1.trans t2;refine⟨q,[I,J],i,vw,rfl,rfl,dJ.of hk,ax,?_⟩;have fin:∀v F2 Z,aB X.K F h σ H F2 N σ Z->cF X.K F2 N σ Z h σ H v r2->D.nx (σ.set z (aj v)) Z:=λv F2 Z s L=>k _ _ _ (s.put L e3);unfold qe at O;split at O
 . rename_i d ds hp;obtain⟨aE,A,Q⟩:=t2.gs.pk hp;rw[sw]at A;cases A;obtain⟨a,xs,ae,af,aI⟩:∃a xs,vw=.ref a/\dJ X.K H1 a xs/\xs≠[]:=by
    rcases Q with Q|⟨a,xs,aS,h1,h2,h3,h4⟩;.rw[Rep]at Q;obtain⟨a,xs,rfl,h1,h2⟩:=Q;refine⟨a,xs,rfl,t2.gs.sub.seq h1,?_⟩;rintro rfl;have:=h2.length;simp at this
    .cases h4;refine⟨a,xs,h1,dJ.of h2,?_⟩;rintro rfl;have:=h3.length;simp at this
   subst ae;refine⟨a_,.inl ⟨xs,af,by cases xs with|nil=>exact absurd rfl aI|cons _ _=>rfl⟩,?_⟩;rw[if_pos rfl];have O:((uy c [.var p,.var wn,.var t] u).bind λas ρ=>ik c f as ρ)=.ok r2 N:=O;obtain⟨aT,ag,eb,e5⟩:=aa O;obtain⟨rfl,rfl,dt,et⟩:=Pr eb;obtain⟨vt,B,_⟩:=t2.gs.pk et;refine⟨vt,B,?_⟩;have A2:uA X.K F1 ag σ H1 h H [.dD p,.dD wn,.dD t] [U,.ref a,vt]:=.cons sp (.cons sw (.cons B .nil λ_ _ z=>by cases z) λ_ _ z=>by cases z) λ_ _ z=>by cases z
   exact Bw (E:=E0) (vs:=[U,.ref a,vt]) ac A2 e5 λv F2 Z s L=>fin v F2 Z s L
 . rename_i hp;obtain⟨aE,A,Q⟩:=t2.gs.pk hp;rw[sw]at A;cases A;obtain⟨a,ae,af⟩:∃a,vw=.ref a/\dJ X.K H1 a []:=by
    rcases Q with Q|⟨a,xs,aS,h1,h2,h3,h4⟩;.rw[Rep]at Q;obtain⟨a,xs,rfl,h1,h2⟩:=Q;rw[h2.dR]at h1;exact⟨a,rfl,t2.gs.sub.seq h1⟩
    .cases h4;rw[h3.dR]at h2;exact⟨a,h1,dJ.of h2⟩
   subst ae;refine⟨aK,.inl ⟨[],af,rfl⟩,?_⟩;rw[if_neg (by decide)];refine⟨(by decide:1<=sizeLine),λm C=>?_⟩;have am:Own h σ m\/H m=bx:=by
    by_cases ho:Own h σ m;.exact .inl ho
    .right;cases w:H m with|none=>rfl|some o=>rw[ac.keep m o w ho]at C;cases C
   have f2:F1 m=bx:=by cases w:F1 m with|none=>rfl|some o=>rw[t2.gs.sub m o w]at C;cases C
   have ap:¬ Own u σ m:=λ⟨j,⟨s,o,q1,q3⟩,q4⟩=>by obtain⟨b,_,Y,w2,_⟩:=t2.gs.own j s o q1 q3;rw[q4]at Y;cases Y;rw[C]at w2;cases w2
   have t3:aB X.K F h σ H F1 u σ (upd H1 m (.lst [.int 0])):=ac.aaP am f2 ap;have O:((uy c [.var p,.lst [.con (.int 0)],.var t] u).bind λas ρ=>ik c f as ρ)=.ok r2 N:=O;obtain⟨aT,ag,eb,e5⟩:=aa O;obtain⟨rfl,rfl,dt,et⟩:=NQ eb;obtain⟨vt,B,_⟩:=t2.gs.pk et;refine⟨vt,B,?_⟩;have A2:uA X.K F1 ag σ (upd H1 m (.lst [.int 0])) h H [.dD p,.tmp [.int 0],.dD t] [U,.ref m,vt]:=.cons sp (.cons ⟨m,[.int 0],rfl,aH,f2,.cons (by rw[Rep]) .nil,ap,am⟩ (.cons B .nil λ_ _ z=>by cases z) λds x z1 z2 k es Y _=>by cases k with|zero=>cases Y|succ k=>cases k<;>cases Y) λ_ _ z=>by cases z
   exact Bw (E:=E0) (vs:=[U,.ref m,vt]) t3 A2 e5 λv F2 Z s L=>fin v F2 Z s L
 .cases O
variable{k:Nat}{nz np nx ny nt fn gn:Str}{q1 q2 q3 q4 q5 q6 q7 q8 q9 q10 q11 q12 q13 q14 q15 q16 q17:Pos}{j1 j2}
theorem Pn(j:aU X.prog X.w X.K X.mg X.base k c f fn 3)(l:aU X.prog X.w X.K X.mg X.base k c g gn 2)(hr:jA k X.A)(m:X.N.Nodup)(hz:X.N[z]?=aj nz)(o:Loc X.env.scope nz)(r:X.N[p]?=aj np)(s:pX X.env.scope np)(u:X.N[x]?=aj nx)(v:pX X.env.scope nx)(B:X.N[y]?=aj ny)(C:pX X.env.scope ny)(ht:X.N[t]?=aj nt)(vt:pX X.env.scope nt)(a:Gl X fn:=by rfl)(b:Gl X gn:=by rfl)(e:(fn==("__debug__":Str))=aK:=by rfl)(h:(gn==("__debug__":Str))=aK:=by rfl)(d1:(np==("__debug__":Str))=aK:=by rfl)(d2:(np==("__classdict__":Str))=aK:=by rfl)(d3:(nx==("__debug__":Str))=aK:=by rfl)(d4:(nx==("__classdict__":Str))=aK:=by rfl)(d5:(ny==("__debug__":Str))=aK:=by rfl)(d6:(ny==("__classdict__":Str))=aK:=by rfl)(d7:(nt==("__debug__":Str))=aK:=by rfl)(d8:(nt==("__classdict__":Str))=aK:=by rfl)(s1:fT (.Call (.Name fn q2) [.Name np q3,.BoolOp .Or [.Subscript (.List [.Name nx q4,.Name ny q5] q6) (.Call (.Name gn q7) [.Name np q8,.Constant (.int 2) j1 q9] [] q10) q11,.List [.Constant (.int 0) j2 q12] q13] q14,.Name nt q15] [] q16) (aj (.Name nz q1)) q17.line X.env=fm aK:=by rfl)(f1:X.fn nz=a_\/X.env.scope.names.lookup nz=aj .local:=by first|(left;rfl)|(right;rfl)|assumption):SS X c n (.Assign [.Name nz q1] (.Call (.Name fn q2) [.Name np q3,.BoolOp .Or [.Subscript (.List [.Name nx q4,.Name ny q5] q6) (.Call (.Name gn q7) [.Name np q8,.Constant (.int 2) j1 q9] [] q10) q11,.List [.Constant (.int 0) j2 q12] q13] q14,.Name nt q15] [] q16) q17) (.WQ z f p x y g t):=by obtain⟨U,fd,W,c1,c2,c3,c4,c5⟩:=j.ex;obtain⟨Y,Z,rs,G,H,I,J,L⟩:=l.ex;have i:∀{q:Pos},PE X (.Name np q) (j4 p):=λ{q}=>cU r s d1 d2;have M:∀{q:Pos},PE X (.Name nx q) (j4 x):=λ{q}=>cU u v d3 d4;have O:∀{q:Pos},PE X (.Name ny q) (j4 y):=λ{q}=>cU B C d5 d6;have Q:∀{q:Pos},PE X (.Name nt q) (j4 t):=λ{q}=>cU ht vt d7 d8;exact Ut L c5 (sW m hz o (wN (E:=E0) c1 hr a c2 c3 c4 .nil Jp (bf i (bf (Ub (JW xH (Ce (bf M (bf O cV (bA rfl)) (bA rfl))) (wN (E:=E0) G hr b H I J .nil Jp (bf i (bf iY cV (bA rfl)) (bA rfl)) h (bA rfl) rfl) (by intro _ _;rfl)) (J4 (Ce (bf iY cV (bA rfl))))) (bf Q cV (bA rfl)) (bA rfl)) (bA rfl)) e (bA rfl) rfl) s1 f1)
end
noncomputable def NZ(ds:List D):List D:=ds.mapIdx λi d=>D.tup [.int (i:Int),d]
inductive afH(K:PySem.W.Frag)(i:Nat)(f:Ev)(σ:_L.St)(H:Hp)(R:It->Hp->Prop):Prop where|mk(F:Hp)(ρ:List Sl)(ds:List D)(ρ1:List Sl)(g:GS K F ρ σ H)(e:srcOf (aj i) f ρ=.ok ds ρ1)(k:∀J F1 H1,Walk K F ρ σ H (aP ρ (aj i)) J (NZ ds) F1 ρ1 H1->R J H1)
section
variable{K:PySem.W.Frag}{F F1 H H1:Hp}{ρ ρ1:List Sl}{σ:_L.St}{ds:List D}{a:cw}
theorem rN{i:Nat}{ul:List Sl->List Sl}(g:GS K F ρ1 σ H)(e:ρ1[i]?=aj (.lent ds))(fin:∀f b c h,aB K F ρ1 σ H f b c h->aB K F ρ σ H f (ul b) c h/\∀v r,cF K f b c h ρ1 σ H v r->cF K f (ul b) c h ρ σ H v r):∃a,σ[i]?=aj (aj (.ref a))/\(∃xs,dJ K H a xs)/\Walk K F ρ σ H ul (yV K a) (NZ ds) F ρ1 H:=by obtain⟨a,xs,h1,o,y,z⟩:=g.m7 i _ ds e rfl;have hi:i<ρ1.length:=(eY e).1;refine⟨a,h1,⟨xs,dJ.of o⟩,g,λn k A p q B j=>?_,fin⟩;obtain⟨l,t,s,u⟩:=j.lk i _ (by rw[dP hi];exact e) rfl;cases(show t=.lent ds from u);rw[dP (by rw[<-g.len];exact hi),h1]at l;obtain⟨C,ys,m,w,E,x⟩:=j.gs.m7 i _ ds s rfl;rw[l]at m;cases m;exact rT (dJ.of w) x j.gs.sub k
end
section
variable{X:Cx}{c:Call}{n:Nat}{elts:List df}{x1 i:Nat}{tp pos pos2 q:Pos}{body:List eK}{ss:List S}
theorem sie{x y:Str}{J:Pos}(p:x="enumerate")(L:Gl X x)(M:X.mg x=bx)(O:X.N[i]?=aj y)(Q:pX X.env.scope y)(hs:cy [(.Name y q:df)] X.env=[(aK,eB (.Name y q) X.env)]:=by rfl)(hd:(y==("__debug__":Str))=aK:=by rfl)(A:(y==("__classdict__":Str))=aK:=by rfl):PI X (.Tuple elts x1 tp) (.Call (.Name x J) [.Name y q] [] pos) (afH X.K i (_H.ev c (.var i))):=by
 subst p;refine oh (IW L M (cU O Q hd A) hs) ?_;rintro σ H R⟨F,ρ,ds,U,g,e,k⟩;unfold srcOf at e;dsimp only at e;split at e
 . rename_i b d m;have W:=az e;clear e;obtain⟨B,Y⟩:=W;subst Y;obtain⟨v,h1,u⟩:=g.val i b d m;have fin:∀j f h l,aB X.K F ρ σ H j f h l->aB X.K F ρ σ H j (aP ρ (aj i) f) h l/\∀v r,cF X.K j f h l ρ σ H v r->cF X.K j (aP ρ (aj i) f) h l ρ σ H v r:=λj f h l s=>by unfold aP;dsimp only;rw[m];exact⟨s,λ_ _ z=>z⟩
   cases d with|tup es=>cases B;rw[Rep]at u;obtain⟨ad,xs,rfl,t,C⟩:=u;exact⟨_,h1,ad,rfl,.inr ⟨⟨xs,aN.fY g.sub t⟩,k _ _ _ ⟨g,λn k Z E G H' o=>za (aN.fY o.gs.sub (aN.fY o.cL t)) (C.mono o.cL) o.gs.sub k,fin⟩⟩⟩|lst es=>cases B;rw[Rep]at u;obtain⟨ad,xs,rfl,t,C⟩:=u;exact⟨_,h1,ad,rfl,.inl ⟨⟨xs,g.sub.seq t⟩,k _ _ _ ⟨g,λn k Z E G H' o=>rT (o.gs.sub.seq (o.cL.seq t)) (C.mono o.cL) o.gs.sub k,fin⟩⟩⟩|_=>cases B
 . rename_i b I m;cases e;have hi:i<ρ.length:=(eY m).1;have fin:∀j f h l,aB X.K F (ρ.set i (.lent ds)) σ H j f h l->aB X.K F ρ σ H j (aP ρ (aj i) f) h l/\∀v r,cF X.K j f h l (ρ.set i (.lent ds)) σ H v r->cF X.K j (aP ρ (aj i) f) h l ρ σ H v r:=λj f h l s=>by unfold aP;dsimp only;rw[m];exact aB.aP g m s
   obtain⟨a,h1,p,w⟩:=rN (ul:=aP ρ (aj i)) (g.lend m) (cv hi) fin;exact⟨_,h1,a,rfl,.inl ⟨p,k _ _ _ w⟩⟩
 . rename_i I m;cases e;have fin:∀j f h l,aB X.K F ρ σ H j f h l->aB X.K F ρ σ H j (aP ρ (aj i) f) h l/\∀v r,cF X.K j f h l ρ σ H v r->cF X.K j (aP ρ (aj i) f) h l ρ σ H v r:=λj f h l s=>by unfold aP;dsimp only;rw[m];exact⟨s,λ_ _ z=>z⟩
   obtain⟨a,h1,p,w⟩:=rN (ul:=aP ρ (aj i)) g m fin;exact⟨_,h1,a,rfl,.inl ⟨p,k _ _ _ w⟩⟩
 .cases e
theorem Om{x y:Str}{p':Pos}{g:TG}{is:List Nat}(hp:kP (c_ X.prog X.w) X.A X.env X.xe)(hc:X.calm=a_)(hx:x="enumerate")(ac:Gl X x)(hm:X.mg x=bx)(hN:X.N[i]?=aj y)(hv:pX X.env.scope y)(hg:PG X (.Tuple elts x1 tp) g)(ae:IV X.K (λρ d=>cz ρ is aK d) g)(hb:SB X c n body ss)(hs:∀x',ft (.Call (.Name x p') [.Name y q] [] pos) X.env x'=fm x':=by intro _;rfl)(af:cy [(.Name y q:df)] X.env=[(aK,eB (.Name y q) X.env)]:=by rfl)(hd:(y==("__debug__":Str))=aK:=by rfl)(ag:(y==("__classdict__":Str))=aK:=by rfl):SS X c n (.For (.Tuple elts x1 tp) (.Call (.Name x p') [.Name y q] [] pos) body [] pos2) (.Lq i is ss):=by
 refine du (Bx hp hc (sie (c:=c) hx ac hm hN hv af hd ag) hg hb hs) ?_;rintro D σ H⟨F,ρ,fl,l,g0,e,k⟩;have e:((srcOf (aj i) (_H.ev c (.var i)) ρ).bind λds u=>(fV is aK (gh c n ss) (NZ ds) u).bind λfl B=>.ok fl (aP ρ (aj i) B))=.ok fl l:=e;obtain⟨G,o,e1,e⟩:=aa e;obtain⟨ai,I,e2,e⟩:=aa e;cases e;refine⟨F,ρ,G,o,g0,e1,λJ F1 H1 w=>?_⟩;generalize NZ G=ds at*;have src:∀(j:Nat)(W:Hp)(l:List Sl)(b:_L.St)(f:Hp),aB X.K F1 o σ H1 W l b f->(∀d,ds[j]?=aj d->J.go j f/\∀x lH,J.Ld j f x lH->∃L,Ext W f L lH/\Rep X.K L x d)/\(ds.length<=j->J.stop j f):=λj W l b f s=>w.src 0 j W l b f (by simpa using s);refine⟨λj m p Y=>∃E a,aB X.K F1 o σ H1 E a p Y/\m=ds.length-j/\j<=ds.length/\fV is aK (gh c n ss) (ds.drop j) a=.ok fl I,⟨_,F1,o,.refl w.gs,rfl,um,e2⟩,?_⟩;rintro j m p Y⟨E,a,Z,rfl,al,h⟩;obtain⟨s1,s2⟩:=src j E a p Y Z;by_cases t:j<ds.length
 . right;have hd:ds[j]?=aj ds[j]:=by simp[t]
   obtain⟨go,step⟩:=s1 _ hd;refine⟨go,λb f=>∃m',m'<ds.length-j/\∃E a,aB X.K F1 o σ H1 E a b f/\m'=ds.length-(j+1)/\j+1<=ds.length/\fV is aK (gh c n ss) (ds.drop (j+1)) a=.ok fl I,λb f z=>z,λx f y=>?_⟩;obtain⟨F2,ext,rx⟩:=step x f y;have M:=Z.trans (ext.stp Z.gs);rw[fE t,v5]at h;cases hbd:cz a is aK ds[j]with|none=>rw[hbd]at h;cases h|some O=>rw[hbd]at h;obtain⟨Q,C,eb,h⟩:=aa h;refine ae x _ F2 a O p f _ M.gs rx hbd λam sb=>?_;have WT:=M.trans sb;refine⟨F2,O,Q,C,WT.gs,eb,λF4 U H4 s4=>?_⟩;have Ql:=WT.trans s4;cases Q with|next=>exact⟨_,by omega,F4,C,Ql,rfl,t,h⟩|cont=>exact⟨_,by omega,F4,C,Ql,rfl,t,h⟩|brk=>cases h;exact k F4 U H4 (w.fin _ _ _ _ Ql).1|ret r=>cases h;intro v rr;obtain⟨z1,z2⟩:=w.fin _ _ _ _ Ql;exact k F4 U H4 z1 v (z2 v r (rr.later WT))
 . left;have ah:ds.drop j=[]:=by rw[kc];omega
   rw[ah,Ak]at h;cases h;exact⟨s2 (by omega),k E p Y (w.fin _ _ _ _ Z).1⟩
end
end _H
noncomputable section
set_option maxHeartbeats 4000000
namespace _T
open PySem _L Spec PyProof.Rows _H
local macro_rules|`(term|⇑$n)=>`(P.con (.int $n))
local macro_rules|`(term|↑$n)=>`(P.var $n)
local macro_rules|`(tactic|ac_rfl)=>`(tactic|first|exact fh rfl|exact eS (fh rfl))
set_option hygiene false
local macro_rules|`(term|↥($a,$b,$d))=>`(oX Pg w K mg base Io (k+1) f fd $a (Ff K $b (λargs=>enter c n $d args)))
local macro_rules|`(term|↥($a,$b,$d,0))=>`(aU Pg w K mg base k c $a $b $d)
set_option hygiene true
local macro_rules|`(term|⇑($x))=>`(λ_ _ _ _ _=>$x)
local macro_rules|`(tactic|exists$e)=>`(tactic|with_reducible refine$e)
local macro_rules|`(tactic|lia)=>`(tactic|with_reducible refine aQ ?_ ?_)
set_option hygiene false
local macro_rules|`(tactic|exists$i,$e)=>`(tactic|((with_reducible refine iW (i:=$i) ?_ ?_ ?_ ?_ ?_ ?_);exact nd;exact rfl;exact oi;rotate_left;rfl;exact oi;exact$e))
local macro_rules|`(tactic|exists$i,$e,0)=>`(tactic|((with_reducible refine Py (i:=$i) ?_ ?_ ?_ ?_ ?_ ?_ ?_ ?_ ?_);exact e_;exact hc;exact nd;exact rfl;exact oi;exact$e;rotate_left;(· intro _;rfl);exact oi))
local macro_rules|`(tactic|exists$a,$b,0,0)=>`(tactic|(refine ZC $a $b rfl rfl λcdv A outer s H E hr=>?_;have nd:=($b).nd))
local macro_rules|`(tactic|exists(),$e)=>`(tactic|((with_reducible refine R5 ?_);exact$e))
set_option hygiene true
local macro_rules|`(term|‹$l›)=>`((show(($l):List Str).Nodup by decide+kernel))
theorem hc:a_=a_:=rfl
theorem oi{b:Type}{a:b}{p:Prop}:a=a\/p:=.inl rfl
theorem aY{X:Cx}{c:Call}{a:df}{es:List df}{b:P}{ps:List P}(e:SX X c a b)(hr:SG X c es ps)(h:nst a=a_):SG X c (a::es) (b::ps):=O8 e hr (bA h)
theorem di{X:Cx}{c:Call}{a:df}{es:List df}{b:P}{ps:List P}(e:SX X c a b)(hr:SA X c es ps)(h:nst a=a_):SA X c (a::es) (b::ps):=Dz e hr (bA h)
variable{Pg:dE}{w:eH}{K:PySem.W.Frag}{mg:Str->Option b_}{base:eP}{f:cw}{fd:hP}{k n:Nat}{c:Call}{cl:Nat->cw}
noncomputable def top(i:Nat):eK:=PySem.Challenge.pw_hourhaul_k79_closed_hours_for_starts.main.body.getD i (.Pass ⟨0,0,0,0⟩)
noncomputable abbrev s0:eK:=top 4
noncomputable def b0:List S:=[.asg 2 (.idx (.idx ↑0 ⇑1) (.idx ↑1 ⇑0)),.ret (.Mm (.idx ↑1 ⇑1) (.tup [.idx ↑2 ⇑0,.idx ↑2 ⇑1]) (.tup [.idx ↑2 ⇑1,.idx ↑2 ⇑0]))]
noncomputable def f0:Fd:=⟨2,3,b0⟩
theorem sc0:aL ["net","step","way"] ["net","step"] (aA s0):={}
include cl in
theorem d0(a:gO K "step_places" "step_places" s0 f fd):↥(["net","step"],2,f0):=by
 exists a,sc0,0,0;refine aQ ?_ ?_;.exists 2,au (au (sv 0) ak) (au (sv 1) ak)
 lia;.exists(),oV (ji (au (sv 1) ak)) (eG (di (au (sv 2) ak) (di (au (sv 2) ak) aW rfl) rfl)) (eG (di (au (sv 2) ak) (di (au (sv 2) ak) aW rfl) rfl))
 exact aq
noncomputable abbrev s1:eK:=top 5
noncomputable def b1:List S:=[.asg 2 (.idx (.idx (.idx ↑0 ⇑1) (.idx ↑1 ⇑0)) ⇑3),.ret (.Mm (.idx ↑1 ⇑1) ↑2 (.neg ↑2))]
noncomputable def f1:Fd:=⟨2,3,b1⟩
theorem sc1:aL ["net","step","hours"] ["net","step"] (aA s1):={}
include cl in
theorem d1(a:gO K "step_hours" "step_hours" s1 f fd):↥(["net","step"],2,f1):=by
 exists a,sc1,0,0;refine aQ ?_ ?_;.exists 2,au (au (au (sv 0) ak) (au (sv 1) ak)) ak
 lia;.exists(),oV (ji (au (sv 1) ak)) (sv 2) (j9 (sv 2))
 exact aq
noncomputable abbrev s2:eK:=top 6
noncomputable def b2:List S:=[.asg 3 (.idx ↑1 (.idx ↑2 ⇑0)),.ret (.Mm (.idx ↑2 ⇑1) (.bin .sub (.idx (.idx (.idx ↑0 ⇑1) (.idx ↑2 ⇑0)) ⇑2) ↑3) ↑3)]
noncomputable def f2:Fd:=⟨3,4,b2⟩
theorem sc2:aL ["net","stream","step","loads"] ["net","stream","step"] (aA s2):={}
include cl in
theorem d2(a:gO K "step_room" "step_room" s2 f fd):↥(["net","stream","step"],3,f2):=by
 exists a,sc2,0,0;refine aQ ?_ ?_;.exists 3,au (sv 1) (au (sv 2) ak)
 lia;.exists(),oV (ji (au (sv 2) ak)) (aC dW (au (au (au (sv 0) ak) (au (sv 2) ak)) ak) (sv 3)) (sv 3)
 exact aq
noncomputable abbrev s3:eK:=top 7
noncomputable def b3:List S:=[.ret (.blt .sum [.comp ↑1 1 [2] a_ bx (.call 1 [↑0,↑2])])]
noncomputable def f3:Fd:=⟨2,2,b3⟩
theorem sc3:aL ["net","steps"] ["net","steps"] (aA s3):={}
include cl in
theorem d3(a:gO K "steps_hours" "steps_hours" s3 f fd)(gQ:mg "sum"=bx)(b:↥(1,"step_hours",2,0)):↥(["net","steps"],2,f3):=by
 exists a,sc3,0,0;refine aQ ?_ ?_;.exists(),tV rfl hc (by rfl) gQ (cH (N':=["net","steps","step"]) hc (ux rfl (by rfl)) (cM (sv 1)) ⇑(aO (i:=2) ‹["net","steps","step"]› rfl (fh rfl) (eS rfl)) (bQ (dm)) ⇑(cZ) ⇑((dB b hr (aY (sv 0) (aY (sv 2) aD rfl) rfl))))
 exact aq
noncomputable abbrev s4:eK:=top 8
noncomputable def b4:List S:=[.Lk 2 (.uC ⇑0 (.idx ↑0 ⇑0)) 1 [5] a_ (.lst []),.G8 (.uC ⇑0 (.blt .len [.idx ↑0 ⇑1])) [3] a_ [.G8 (.tup [.tup [↑3,.con (.bl a_)],.tup [↑3,.con (.bl aK)]]) [4] a_ [.ifs (.cmp .gt (.call 2 [↑0,↑1,↑4]) ⇑0) [.Ln 2 (.idx (.call 0 [↑0,↑4]) ⇑0) ↑4] []]],.dC 2,.ret ↑2]
noncomputable def f4:Fd:=⟨2,5,b4⟩
theorem sc4:aL ["net","stream","steps","number","step"] ["net","stream"] (aA s4):={}
include cl in
theorem d4(a:gO K "open_steps" "open_steps" s4 f fd)(cT:mg "len"=bx)(bu:mg "range"=bx)(b:↥(0,"step_places",2,0))(e:↥(2,"step_room",3,0)):↥(["net","stream"],2,f4):=by exists a,sc4,0,0;exact(by(refine O5 (i:=2) (N':=["net","stream","steps","number","step","place"]) (g:=iI 5) ?_ ?_ ?_ ?_ ?_ ?_ ?_ ?_ ?_ ?_ ?_ ?_ ?_ ?_);exact hc;exact nd;exact rfl;exact oi;exact ux rfl (by rfl);exact gA rfl (by rfl) bu (au (sv 0) ak);exact ⇑(aO (i:=5) ‹["net","stream","steps","number","step","place"]› rfl (fh rfl) (eS rfl));exact bQ (dm);exact ⇑(cZ);exact ⇑((dG aW));(· exists J3 ?_ ?_;(· exists Dh (g:=iI 3) ?_ ?_ ?_ ?_ ?_ ?_ ?_;exact e_;exact hc;(· exists Km ?_ ?_ ?_ ?_ ?_;exact rfl;rfl;exact bu;exact ig rfl (by rfl) cT (au (sv 0) ak);rfl);exact aO (i:=3) nd rfl oi oi;(· rw[oO];exact xr 3);(· exists tD ?_ ?_;(· exists Dh (g:=iI 4) ?_ ?_ ?_ ?_ ?_ ?_ ?_;exact e_;exact hc;exact M7 (eG (di (eG (di (sv 3) (di mV aW rfl) rfl)) (di (eG (di (sv 3) (di mV aW rfl) rfl)) aW rfl) rfl));exact aO (i:=4) nd rfl oi oi;(· rw[oO];exact xr 4);(· exists tD ?_ ?_;(· exists Tf ?_ ?_ ?_;exact bG jX (dB e hr (aY (sv 0) (aY (sv 1) (aY (sv 4) aD rfl) rfl) rfl)) ak (bF _);(· exists tD ?_ ?_;(· exists Hy (k:=2) ?_ ?_ ?_ ?_ ?_ ?_ ?_ ?_ ?_ ?_ ?_ ?_;exact rfl;(· first|exact fh rfl|exact eS (fh rfl));exact au (dB b hr (aY (sv 0) (aY (sv 4) aD rfl) rfl)) ak;exact sv 4;(· intro _ _;rfl);rfl;rfl;rfl;rfl;rfl;rfl;rfl);exact qF);exact qF);exact qF);(· intro _;rfl));exact qF);(· intro _;rfl));(· exists Ou ?_;(· lia;(· exists(),sv 2);exact aq)));rfl;(· intro _;rfl);exact oi)
noncomputable abbrev s5:eK:=top 9
noncomputable def b5:List S:=[.asg 3 (.call 4 [↑0,↑1]),.G9 4,.jB (.blt .keys [↑2]) [5] a_ [.gw 4 ↑5 (.tup [.bin .zP ↑2 ↑5,⇑0,.con .non])],.asg 6 (.blt .YG [↑2]),.whl (.cmp .gt (.blt .len [↑6]) ⇑0) [.G9 7,.jB ↑6 [5] a_ [.jB (.idx ↑3 ↑5) [8] a_ [.asg 9 (.idx (.call 0 [↑0,↑8]) ⇑1),.asg 10 (.tup [.bin .add (.idx (.Rz 4 ↑5) ⇑0) (.call 1 [↑0,↑8]),.bin .add (.idx (.Rz 4 ↑5) ⇑1) ⇑1]),.ifs (.or (.RB 4 ↑9 a_) (.cmp .lt ↑10 (.slice (.Rz 4 ↑9) (.con .non) ⇑2))) [.gw 4 ↑9 (.bin .add ↑10 (.tup [↑8])),.gw 7 ↑9 (.con (.bl a_))] []]],.asg 6 (.blt .YG [.vw 7])],.ret ↑4]
noncomputable def f5:Fd:=⟨3,11,b5⟩
theorem sc5:aL ["net","stream","begun","steps","come","place","row","changed","step","to","found"] ["net","stream","begun"] (aA s5):={}
include cl in
theorem d5(a:gO K "shortest_come" "shortest_come" s5 f fd)(cT:mg "len"=bx)(dH:mg "list"=bx)(b:↥(4,"open_steps",2,0))(e:↥(1,"step_hours",2,0))(g:↥(0,"step_places",2,0)):↥(["net","stream","begun"],3,f5):=by
 exists a,sc5,0,0;refine aQ ?_ ?_;.exists 3,dB b hr (aY (sv 0) (aY (sv 1) aD rfl) rfl)
 lia;.exact(Du (i:=4) nd rfl oi (by rfl) (fh rfl))
 lia;.exists 5,Ob (sv 2),0;(· lia;exact qI (i:=4) (bw hr) rfl (by ac_rfl) (sv 5) (eG (di (nZ (bw hr) (sv 2) (sv 5) (λ_ _=>rfl)) (di ak (di j5 aW rfl) rfl) rfl)) (by rfl);exact aq)
 lia;.exists 6,Hm rfl hc (by rfl) dH (sv 2)
 lia;.exact(Ax e_ (bG jX (ig rfl (by rfl) cT (sv 6)) ak (bF _)) (by lia;exact Du (i:=7) nd rfl oi (by rfl) (fh rfl);(· lia;(· exists 5,cM (sv 6),0;(· lia;(· exists 8,cM (au (sv 3) (sv 5)),0;(· lia;(· exists 9,au (dB g hr (aY (sv 0) (aY (sv 8) aD rfl) rfl)) ak);(· lia;(· exists 10,eG (di (aC aX (au (Aw (i:=4) (bw hr) rfl (by ac_rfl) (sv 5) (λ_ _=>rfl)) ak) (dB e hr (aY (sv 0) (aY (sv 8) aD rfl) rfl))) (di (aC aX (au (Aw (i:=4) (bw hr) rfl (by ac_rfl) (sv 5) (λ_ _=>rfl)) ak) ak) aW rfl) rfl));(· lia;(· exists fP ?_ ?_ ?_;exact SW.st (mJ (Vo (i:=4) (eS ⟨rfl,rfl⟩) (bw hr) rfl (by ac_rfl) (sv 9) (by with_unfolding_all rfl)) (mq (bG (Jm (bw hr)) (sv 10) (tZ (Aw (i:=4) (bw hr) rfl (by ac_rfl) (sv 9) (λ_ _=>rfl)) wZ (vV ak)) (bF _))));(· lia;exact qI (i:=4) (bw hr) rfl (by ac_rfl) (sv 9) (aC aX (sv 10) (eG (di (sv 8) aW rfl))) (by rfl);(· lia;exact qI (i:=7) (bw hr) rfl (by ac_rfl) (sv 9) mV (by rfl);exact aq));exact aq);exact aq))));exact aq));(· lia;(· exists 6,Hm rfl hc (by rfl) dH (Ke (i:=7) rfl (by ac_rfl)));exact aq))))
 lia;.exists(),sv 4
 exact aq
noncomputable abbrev s6:eK:=top 10
noncomputable def b6:List S:=[.asg 3 (.lst []),.asg 4 ↑2,.whl (.cmp .Qh (.idx (.bin .zP ↑1 ↑4) ⇑2) (.con .non)) [.asg 5 (.idx (.bin .zP ↑1 ↑4) ⇑2),.app 3 ↑5,.asg 4 (.idx (.call 0 [↑0,↑5]) ⇑0)],.ret (.blt .rvT [↑3])]
noncomputable def f6:Fd:=⟨3,6,b6⟩
theorem sc6:aL ["net","come","place","steps","here","step"] ["net","come","place"] (aA s6):={}
include cl in
theorem d6(a:gO K "steps_to" "steps_to" s6 f fd)(mF:mg "reversed"=bx)(dZ:mg "tuple"=bx)(b:↥(0,"step_places",2,0)):↥(["net","come","place"],3,f6):=by
 exists a,sc6,0,0;refine aQ ?_ ?_;.exists 3,dG aW
 lia;.exists 4,sv 2
 lia;.exact(Ax e_ (bG Mr (au (nZ (bw hr) (sv 1) (sv 4) (λ_ _=>rfl)) ak) j5 (bF _)) (by lia;(· exists 5,au (nZ (bw hr) (sv 1) (sv 4) (λ_ _=>rfl)) ak);(· lia;exact eU (k:=3) rfl (by ac_rfl) (sv 5);(· lia;(· exists 4,au (dB b hr (aY (sv 0) (aY (sv 5) aD rfl) rfl)) ak);exact aq))))
 lia;.exists(),Av rfl rfl hc (by rfl) dZ (by rfl) mF (sv 3)
 exact aq
noncomputable abbrev s7:eK:=top 11
noncomputable def b7:List S:=[.asg 3 (.blt .list [↑0]),.jB ↑1 [4,5] aK [.Li 3 ↑4 aK (.Mm ↑5 ↑2 (.neg ↑2))],.ret ↑3]
noncomputable def f7:Fd:=⟨3,6,b7⟩
theorem sc7:aL ["stream","steps","loads","changed","number","forth"] ["stream","steps","loads"] (aA s7):={}
include cl in
theorem d7(a:gO K "stream_with" "stream_with" s7 f fd)(dH:mg "list"=bx):↥(["stream","steps","loads"],3,f7):=by
 exists a,sc7,0,0;refine aQ ?_ ?_;.exists 3,oF rfl (by rfl) dH (sv 0)
 lia;.exact(pG e_ hc (cM (sv 1)) (jj hc (bH (aO (i:=4) nd rfl oi oi) (bH (aO (i:=5) nd rfl oi oi) gB))) (pA rfl (dz _ _ (dz _ _ kJ 5) 4)) (by lia;exact Mt (k:=3) (sub:=aK) Oq rfl (by ac_rfl) (sv 4) (oV (ji (sv 5)) (sv 2) (j9 (sv 2)));exact aq))
 lia;.exists(),sv 3
 exact aq
noncomputable abbrev s8:eK:=top 12
noncomputable def b8:List S:=[.asg 1 (.bin .sub (.idx ↑0 ⇑0) ⇑1),.asg 2 (.bin .mul (.lst [⇑0]) (.blt .len [.idx ↑0 ⇑1])),.asg 3 (.lst []),.asg 4 (.call 5 [↑0,↑2,.Ck 0 0]),.whl (.bin .din ↑1 ↑4) [.asg 5 (.call 6 [↑0,↑4,↑1]),.asg 6 (.blt .Lf [.comp ↑5 1 [7] a_ bx (.call 2 [↑0,↑2,↑7])]),.app 3 (.tup [↑5,↑6]),.asg 2 (.call 7 [↑2,↑5,↑6]),.asg 4 (.call 5 [↑0,↑2,.Ck 0 0])],.ret ↑3]
noncomputable def f8:Fd:=⟨1,7,b8⟩
theorem sc8:aL ["net","end","stream","chains","come","steps","loads"] ["net"] (aA s8):={}
include cl in
theorem d8(b:gO K "chains_to_end" "chains_to_end" s8 f fd)(cT:mg "len"=bx)(gR:mg "min"=bx)(a:↥(5,"shortest_come",3,0))(e:↥(2,"step_room",3,0))(g:↥(6,"steps_to",3,0))(h:↥(7,"stream_with",3,0)):↥(["net"],1,f8):=by
 exists b,sc8,0,0;refine aQ ?_ ?_;.exists 1,aC dW (au (sv 0) ak) ak
 lia;.exists iW (i:=2) ?_ ?_ ?_ ?_ ?_ ?_;exact nd;exact rfl;exact eS rfl;rotate_left;rfl;exact oi;exact aC dX (dG (di ak aW rfl)) (ig rfl (by rfl) cT (au (sv 0) ak))
 lia;.exists 3,dG aW
 lia;.exists 4,dB a hr (aY (sv 0) (aY (sv 2) (aY Ey aD rfl) rfl) rfl)
 lia;.exact(Ax e_ (JG (bw hr) (sv 1) (sv 4) (by with_unfolding_all rfl)) (by lia;(· exists 5,dB g hr (aY (sv 0) (aY (sv 4) (aY (sv 1) aD rfl) rfl) rfl));(· lia;(· exists 6,O2 rfl hc (by rfl) gR (cH (N':=["net","end","stream","chains","come","steps","loads","step"]) hc (ux rfl (by rfl)) (cM (sv 5)) ⇑(aO (i:=7) ‹["net","end","stream","chains","come","steps","loads","step"]› rfl (fh rfl) (eS rfl)) (bQ (dm)) ⇑(cZ) ⇑((dB e hr (aY (sv 0) (aY (sv 2) (aY (sv 7) aD rfl) rfl) rfl)))));(· lia;exact eU (k:=3) rfl (by ac_rfl) (eG (di (sv 5) (di (sv 6) aW rfl) rfl));(· lia;(· exists iW (i:=2) ?_ ?_ ?_ ?_ ?_ ?_;exact nd;exact rfl;exact eS rfl;rotate_left;rfl;exact oi;exact dB h hr (aY (sv 2) (aY (sv 5) (aY (sv 6) aD rfl) rfl) rfl));(· lia;(· exists 4,dB a hr (aY (sv 0) (aY (sv 2) (aY Ey aD rfl) rfl) rfl));exact aq))))))
 lia;.exists(),sv 3
 exact aq
noncomputable abbrev s9:eK:=top 13
noncomputable def b9:List S:=[.asg 2 (.lst []),.asg 3 ↑1,.jB ↑0 [4,5] aK [.asg 6 (.blt .min2 [↑3,↑5]),.app 2 (.tup [↑4,↑6]),.aug 3 a_ ↑6],.ifs (.cmp .gt ↑3 ⇑0) [.bad] [],.ret ↑2]
noncomputable def f9:Fd:=⟨2,7,b9⟩
theorem sc9:aL ["pairs","rate","cut","left","first","loads","taken"] ["pairs","rate"] (aA s9):={}
include cl in
theorem d9(a:gO K "cut_to_rate" "cut_to_rate" s9 f fd)(gR:mg "min"=bx):↥(["pairs","rate"],2,f9):=by
 exists a,sc9,0,0;refine aQ ?_ ?_;.exists 2,dG aW
 lia;.exists 3,sv 1
 lia;.exact(pG e_ hc (cM (sv 0)) (jj hc (bH (aO (i:=4) nd rfl oi oi) (bH (aO (i:=5) nd rfl oi oi) gB))) (pA rfl (dz _ _ (dz _ _ kJ 5) 4)) (by lia;(· exists 6,qG rfl hc (by rfl) gR (di (sv 3) (di (sv 5) aW rfl) rfl));(· lia;exact eU (k:=2) rfl (by ac_rfl) (eG (di (sv 4) (di (sv 6) aW rfl) rfl));(· lia;exact Wr (i:=3) (sub:=a_) Mv nd rfl oi (sv 6) (fh rfl);exact aq))))
 lia;.exists fP ?_ ?_ ?_;exact bG jX (sv 3) ak (bF _);(· lia;exact V2;exact aq);exact aq
 lia;.exists(),sv 2
 exact aq
noncomputable abbrev ju:eK:=top 15
noncomputable def b10:List S:=[.Lj 1 aK,.jB (.call 8 [↑0]) [2,3] aK [.asg 4 (.call 3 [↑0,↑2]),.dput 1 ↑4 (.bin .add (.YH 1 ↑4 ⇑0) ↑3)],.ret (.blt .Lh [.vw 1])]
noncomputable def f10:Fd:=⟨1,5,b10⟩
theorem adQ:aL ["net","bends","steps","loads","length"] ["net"] (aA ju):={}
include cl in
theorem d10(a:gO K "bends_of" "bends_of" ju f fd)(t8:mg "sorted"=bx)(b:↥(8,"chains_to_end",1,0))(e:↥(3,"steps_hours",2,0)):↥(["net"],1,f10):=by
 exists a,adQ,0,0;refine aQ ?_ ?_;.exact(M9 (i:=1) nd rfl oi (by rfl) (fh rfl))
 lia;.exact(pG e_ hc (cM (dB b hr (aY (sv 0) aD rfl))) (jj hc (bH (aO (i:=2) nd rfl oi oi) (bH (aO (i:=3) nd rfl oi oi) gB))) (pA rfl (dz _ _ (dz _ _ kJ 3) 2)) (by lia;(· exists 4,dB e hr (aY (sv 0) (aY (sv 2) aD rfl) rfl));(· lia;exact Pa (i:=1) (bw hr) rfl (by ac_rfl) (sv 4) (aC aX (Uh (i:=1) (bw hr) rfl (by ac_rfl) (sv 4) ak ⟨rfl,rfl,rfl,rfl⟩) (sv 3)) (by rfl);exact aq)))
 lia;.exists(),Oj rfl hc (by rfl) t8 rfl (Ke (i:=1) rfl (by ac_rfl))
 exact aq
noncomputable abbrev JH:eK:=top 17
noncomputable def b11:List S:=[.asg 2 (.blt .sum [.comp (.idx ↑0 ⇑1) 1 [6] a_ bx (.idx ↑6 ⇑3)]),.Lp 3 0 0,.jB (.uC ⇑1 (.idx ↑0 ⇑0)) [4] a_ [.gw 3 ↑4 ↑2],.asg 5 (.call 5 [↑0,↑1,.vw 3]),.ret (.comp (.uC ⇑0 (.idx ↑0 ⇑0)) 1 [6] a_ bx (.idx (.bin .zP ↑5 ↑6) ⇑0))]
noncomputable def f11:Fd:=⟨2,6,b11⟩
theorem aey:aL ["net","stream","late","begun","place","come"] ["net","stream"] (aA JH):={}
include cl in
theorem d11(a:gO K "found_clocks" "found_clocks" JH f fd)(bu:mg "range"=bx)(gQ:mg "sum"=bx)(b:↥(5,"shortest_come",3,0)):↥(["net","stream"],2,f11):=by
 exists a,aey,0,0;refine aQ ?_ ?_;.exists 2,tV rfl hc (by rfl) gQ (cH (N':=["net","stream","late","begun","place","come","way"]) hc (ux rfl (by rfl)) (cM (au (sv 0) ak)) ⇑(aO (i:=6) ‹["net","stream","late","begun","place","come","way"]› rfl (fh rfl) (eS rfl)) (bQ (dm)) ⇑(cZ) ⇑((au (sv 6) ak)))
 lia;.exact(PX (i:=3) nd rfl oi (by rfl) (fh rfl))
 lia;.exists 4,N8 rfl (by rfl) bu ak (au (sv 0) ak),0;(· lia;exact qI (i:=3) (bw hr) rfl (by ac_rfl) (sv 4) (sv 2) (by rfl);exact aq)
 lia;.exists iW (i:=5) ?_ ?_ ?_ ?_ ?_ ?_;exact nd;exact rfl;exact eS rfl;rotate_left;rfl;exact oi;exact dB b hr (aY (sv 0) (aY (sv 1) (aY (Ke (i:=3) rfl (by ac_rfl)) aD rfl) rfl) rfl)
 lia;.exists(),cH (N':=["net","stream","late","begun","place#4","come","place"]) hc (ux rfl (by rfl)) (gA rfl (by rfl) bu (au (sv 0) ak)) ⇑(aO (i:=6) ‹["net","stream","late","begun","place#4","come","place"]› rfl (fh rfl) (eS rfl)) (bQ (dm)) ⇑(cZ) ⇑((au (nZ (bw hr) (sv 5) (sv 6) (λ_ _=>rfl)) ak))
 exact aq
noncomputable abbrev s12:eK:=top 18
noncomputable def b12:List S:=[.asg 2 (.bin .mul (.lst [⇑0]) (.blt .len [.idx ↑0 ⇑1])),.jB (.call 9 [.call 8 [↑0],↑1]) [3,4] aK [.asg 2 (.call 7 [↑2,↑3,↑4])],.ret (.tup [↑2,.call 11 [↑0,↑2]])]
noncomputable def f12:Fd:=⟨2,5,b12⟩
theorem afK:aL ["net","rate","stream","steps","loads"] ["net","rate"] (aA s12):={}
include cl in
theorem d12(a:gO K "light_stream" "light_stream" s12 f fd)(cT:mg "len"=bx)(b:↥(8,"chains_to_end",1,0))(e:↥(9,"cut_to_rate",2,0))(g:↥(11,"found_clocks",2,0))(h:↥(7,"stream_with",3,0)):↥(["net","rate"],2,f12):=by
 exists a,afK,0,0;refine aQ ?_ ?_;.exists 2,aC dX (dG (di ak aW rfl)) (ig rfl (by rfl) cT (au (sv 0) ak))
 lia;.exact(pG e_ hc (cM (dB e hr (aY (dB b hr (aY (sv 0) aD rfl)) (aY (sv 1) aD rfl) rfl))) (jj hc (bH (aO (i:=3) nd rfl oi oi) (bH (aO (i:=4) nd rfl oi oi) gB))) (pA rfl (dz _ _ (dz _ _ kJ 4) 3)) (by lia;(· exists 2,dB h hr (aY (sv 2) (aY (sv 3) (aY (sv 4) aD rfl) rfl) rfl));exact aq))
 lia;.exists(),eG (di (sv 2) (di (dB g hr (aY (sv 0) (aY (sv 2) aD rfl) rfl)) aW rfl) rfl)
 exact aq
noncomputable abbrev s13:eK:=top 20
noncomputable def b13:List S:=[.ret (.comp (.call 10 [↑0]) 1 [2] a_ (aj (.cmp .le (.idx ↑2 ⇑0) ↑1)) ↑2)]
noncomputable def f13:Fd:=⟨2,2,b13⟩
theorem adA:aL ["net","last"] ["net","last"] (aA s13):={}
include cl in
theorem d13(a:gO K "bends_by" "bends_by" s13 f fd)(b:↥(10,"bends_of",1,0)):↥(["net","last"],2,f13):=by
 exists a,adA,0,0;refine aQ ?_ ?_;.exists(),cH (N':=["net","last","bend"]) hc (ux rfl (by rfl)) (cM (dB b hr (aY (sv 0) aD rfl))) ⇑(aO (i:=2) ‹["net","last","bend"]› rfl (fh rfl) (eS rfl)) (bQ (dm)) ⇑(lq (bG xu (au (sv 2) ak) (sv 1) (bF _))) ⇑((sv 2))
 exact aq
noncomputable abbrev s14:eK:=top 21
noncomputable def b14:List S:=[.ret (.blt .sum [.comp ↑0 2 [2,3] aK (aj (.cmp .le ↑2 ↑1)) (.bin .mul ↑3 (.bin .add (.bin .sub ↑1 ↑2) ⇑1))])]
noncomputable def f14:Fd:=⟨2,2,b14⟩
theorem aeM:aL ["bends","last"] ["bends","last"] (aA s14):={}
include cl in
theorem d14(a:gO K "most_of" "most_of" s14 f fd)(gQ:mg "sum"=bx):↥(["bends","last"],2,f14):=by
 exists a,aeM,0,0;refine aQ ?_ ?_;.exists(),tV rfl hc (by rfl) gQ (cH (N':=["bends","last","length","loads"]) hc (ux rfl (by rfl)) (cM (sv 0)) ⇑(jj hc (bH (aO (i:=2) ‹["bends","last","length","loads"]› rfl (fh rfl) (eS rfl)) (bH (aO (i:=3) ‹["bends","last","length","loads"]› rfl (fh rfl) (eS rfl)) gB))) (wW rfl (iR (show 2<=2 by decide) (iR (show 2<=3 by decide) wY))) ⇑(lq (bG xu (sv 2) (sv 1) (bF _))) ⇑((aC dX (sv 3) (aC aX (aC dW (sv 1) (sv 2)) ak))))
 exact aq
noncomputable abbrev s15:eK:=top 22
noncomputable def b15:List S:=[.ret (.call 14 [.call 10 [↑0],↑1])]
noncomputable def f15:Fd:=⟨2,2,b15⟩
theorem afb:aL ["net","last"] ["net","last"] (aA s15):={}
include cl in
theorem d15(a:gO K "most_by" "most_by" s15 f fd)(b:↥(10,"bends_of",1,0))(e:↥(14,"most_of",2,0)):↥(["net","last"],2,f15):=by
 exists a,afb,0,0;refine aQ ?_ ?_;.exists(),dB e hr (aY (dB b hr (aY (sv 0) aD rfl)) (aY (sv 1) aD rfl) rfl)
 exact aq
noncomputable abbrev s16:eK:=top 23
noncomputable def b16:List S:=[.ret (.blt .sum [.comp (.call 13 [↑0,↑1]) 2 [2,3] aK bx ↑3])]
noncomputable def f16:Fd:=⟨2,2,b16⟩
theorem adz:aL ["net","last"] ["net","last"] (aA s16):={}
include cl in
theorem d16(a:gO K "rate_by" "rate_by" s16 f fd)(gQ:mg "sum"=bx)(b:↥(13,"bends_by",2,0)):↥(["net","last"],2,f16):=by
 exists a,adz,0,0;refine aQ ?_ ?_;.exists(),tV rfl hc (by rfl) gQ (cH (N':=["net","last","length","loads"]) hc (ux rfl (by rfl)) (cM (dB b hr (aY (sv 0) (aY (sv 1) aD rfl) rfl))) ⇑(jj hc (bH (aO (i:=2) ‹["net","last","length","loads"]› rfl (fh rfl) (eS rfl)) (bH (aO (i:=3) ‹["net","last","length","loads"]› rfl (fh rfl) (eS rfl)) gB))) (wW rfl (iR (show 2<=2 by decide) (iR (show 2<=3 by decide) wY))) ⇑(cZ) ⇑((sv 3)))
 exact aq
noncomputable abbrev s17:eK:=top 24
noncomputable def b17:List S:=[.ret (.idx (.call 12 [↑0,.call 16 [↑0,↑1]]) ⇑0)]
noncomputable def f17:Fd:=⟨2,2,b17⟩
theorem adX:aL ["net","last"] ["net","last"] (aA s17):={}
include cl in
theorem d17(a:gO K "stream_by" "stream_by" s17 f fd)(b:↥(12,"light_stream",2,0))(e:↥(16,"rate_by",2,0)):↥(["net","last"],2,f17):=by
 exists a,adX,0,0;refine aQ ?_ ?_;.exists(),au (dB b hr (aY (sv 0) (aY (dB e hr (aY (sv 0) (aY (sv 1) aD rfl) rfl)) aD rfl) rfl)) ak
 exact aq
noncomputable abbrev s18:eK:=top 25
noncomputable def b18:List S:=[.asg 2 (.bin .add ↑1 ⇑1),.asg 3 (.call 5 [↑0,.call 17 [↑0,↑1],.vN 0 0 (.bin .sub (.idx ↑0 ⇑0) ⇑1) ↑2]),.ret (.comp (.uC ⇑0 (.idx ↑0 ⇑0)) 1 [4] a_ bx (.Mm (.bin .din ↑4 ↑3) (.blt .min2 [.idx (.bin .zP ↑3 ↑4) ⇑0,↑2]) ↑2))]
noncomputable def f18:Fd:=⟨2,4,b18⟩
theorem ae2:aL ["net","last","after","come"] ["net","last"] (aA s18):={}
include cl in
theorem d18(a:gO K "closed_hours" "closed_hours" s18 f fd)(gR:mg "min"=bx)(bu:mg "range"=bx)(b:↥(5,"shortest_come",3,0))(e:↥(17,"stream_by",2,0)):↥(["net","last"],2,f18):=by
 exists a,ae2,0,0;refine aQ ?_ ?_;.exists iW (i:=2) ?_ ?_ ?_ ?_ ?_ ?_;exact nd;exact rfl;exact eS rfl;rotate_left;rfl;exact oi;exact aC aX (sv 1) ak
 lia;.exists iW (i:=3) ?_ ?_ ?_ ?_ ?_ ?_;exact nd;exact rfl;exact eS rfl;rotate_left;rfl;exact oi;exact dB b hr (aY (sv 0) (aY (dB e hr (aY (sv 0) (aY (sv 1) aD rfl) rfl)) (aY (Ji (aC dW (au (sv 0) ak) ak) (sv 2)) aD rfl) rfl) rfl)
 lia;.exists(),cH (N':=["net","last","after","come","place"]) hc (ux rfl (by rfl)) (gA rfl (by rfl) bu (au (sv 0) ak)) ⇑(aO (i:=4) ‹["net","last","after","come","place"]› rfl (fh rfl) (eS rfl)) (bQ (dm)) ⇑(cZ) ⇑((oV (JG (bw hr) (sv 4) (sv 3) (by with_unfolding_all rfl)) (qG rfl hc (by rfl) gR (di (au (nZ (bw hr) (sv 3) (sv 4) (λ_ _=>rfl)) ak) (di (sv 2) aW rfl) rfl)) (sv 2)))
 exact aq
noncomputable abbrev s19:eK:=top 26
noncomputable def b19:List S:=[.ifs (.or (.cmp .ne (.blt .len [↑2]) (.idx ↑0 ⇑0)) (.or (.cmp .ne (.idx ↑2 ⇑0) ⇑0) (.cmp .ne (.idx ↑2 (.neg ⇑1)) (.bin .add ↑1 ⇑1)))) [.ret (.con (.bl aK))] [],.ret (.blt .all [.comp ↑2 1 [3] a_ bx (.chain .le .le ⇑0 ↑3 (.bin .add ↑1 ⇑1))])]
noncomputable def U5:Fd:=⟨3,3,b19⟩
theorem afL:aL ["net","last","closed"] ["net","last","closed"] (aA s19):={}
include cl in
theorem d19(a:gO K "closed_right" "closed_right" s19 f fd)(lQ:mg "all"=bx)(cT:mg "len"=bx):↥(["net","last","closed"],3,U5):=by
 exists a,afL,0,0;refine aQ ?_ ?_;.exists fP ?_ ?_ ?_;exact SW.st (mJ (bG (iu (bw hr)) (ig rfl (by rfl) cT (sv 2)) (au (sv 0) ak) (bF _)) (mJ (bG (iu (bw hr)) (au (sv 2) ak) ak (bF _)) (mq (bG (iu (bw hr)) (au (sv 2) (j9 ak)) (aC aX (sv 1) ak) (bF _)))));(· lia;(· exists(),mV);exact aq);exact aq
 lia;.exists(),An rfl hc (by rfl) lQ (cH (N':=["net","last","closed","hour"]) hc (ux rfl (by rfl)) (cM (sv 2)) ⇑(aO (i:=3) ‹["net","last","closed","hour"]› rfl (fh rfl) (eS rfl)) (bQ (dm)) ⇑(cZ) ⇑((JV xu xu ak (sv 3) (aC aX (sv 1) ak))))
 exact aq
noncomputable abbrev s20:eK:=top 27
noncomputable def b20:List S:=[.ret (.blt .max2 [⇑0,.bin .sub (.bin .sub (.idx ↑1 (.idx ↑0 ⇑1)) (.idx ↑1 (.idx ↑0 ⇑0))) (.idx ↑0 ⇑3)])]
noncomputable def f20:Fd:=⟨2,2,b20⟩
theorem afO:aL ["way","closed"] ["way","closed"] (aA s20):={}
include cl in
theorem d20(a:gO K "closed_gap" "closed_gap" s20 f fd)(fJ:mg "max"=bx):↥(["way","closed"],2,f20):=by
 exists a,afO,0,0;refine aQ ?_ ?_;.exists(),nY rfl hc (by rfl) fJ (di ak (di (aC dW (aC dW (au (sv 1) (au (sv 0) ak)) (au (sv 1) (au (sv 0) ak))) (au (sv 0) ak)) aW rfl) rfl)
 exact aq
noncomputable abbrev s21:eK:=top 28
noncomputable def b21:List S:=[.ifs (.not (.call 19 [↑0,↑1,↑2])) [.ret (.con .non)] [],.ret (.blt .sum [.comp (.idx ↑0 ⇑1) 1 [3] a_ bx (.bin .mul (.idx ↑3 ⇑2) (.call 20 [↑3,↑2]))])]
noncomputable def Yh:Fd:=⟨3,3,b21⟩
theorem adJ:aL ["net","last","closed"] ["net","last","closed"] (aA s21):={}
include cl in
theorem d21(a:gO K "closed_sum" "closed_sum" s21 f fd)(gQ:mg "sum"=bx)(b:↥(20,"closed_gap",2,0))(e:↥(19,"closed_right",3,0)):↥(["net","last","closed"],3,Yh):=by
 exists a,adJ,0,0;refine aQ ?_ ?_;.exists fP ?_ ?_ ?_;exact sE (ji (dB e hr (aY (sv 0) (aY (sv 1) (aY (sv 2) aD rfl) rfl) rfl)));(· lia;(· exists(),j5);exact aq);exact aq
 lia;.exists(),tV rfl hc (by rfl) gQ (cH (N':=["net","last","closed","way"]) hc (ux rfl (by rfl)) (cM (au (sv 0) ak)) ⇑(aO (i:=3) ‹["net","last","closed","way"]› rfl (fh rfl) (eS rfl)) (bQ (dm)) ⇑(cZ) ⇑((aC dX (au (sv 3) ak) (dB b hr (aY (sv 3) (aY (sv 2) aD rfl) rfl)))))
 exact aq
noncomputable abbrev s22:eK:=top 30
noncomputable def b22:List S:=[.asg 2 (.comp (.uC ⇑0 (.idx ↑0 ⇑0)) 1 [3] a_ (aj (.cmp .zQ ↑3 ↑1)) ↑3),.ret (.comp (.uC ⇑0 (.idx ↑0 ⇑0)) 1 [3] a_ bx (.Mm (.cmp .inn ↑3 ↑1) ⇑0 (.bin .add (.YJ 2 ↑3) ⇑1)))]
noncomputable def f22:Fd:=⟨2,3,b22⟩
theorem afk:aL ["net","starts","others"] ["net","starts"] (aA s22):={}
include cl in
theorem d22(a:gO K "joined_places" "joined_places" s22 f fd)(bu:mg "range"=bx):↥(["net","starts"],2,f22):=by
 exists a,afk,0,0;refine aQ ?_ ?_;.exists iW (i:=2) ?_ ?_ ?_ ?_ ?_ ?_;exact nd;exact rfl;exact eS rfl;rotate_left;rfl;exact oi;exact cH (N':=["net","starts","others","place"]) hc (ux rfl (by rfl)) (gA rfl (by rfl) bu (au (sv 0) ak)) ⇑(aO (i:=3) ‹["net","starts","others","place"]› rfl (fh rfl) (eS rfl)) (bQ (dm)) ⇑(lq (bG uP (sv 3) (sv 1) (by with_unfolding_all rfl))) ⇑((sv 3))
 lia;.exists(),cH (N':=["net","starts","others","place"]) hc (ux rfl (by rfl)) (gA rfl (by rfl) bu (au (sv 0) ak)) ⇑(aO (i:=3) ‹["net","starts","others","place"]› rfl (fh rfl) (eS rfl)) (bQ (dm)) ⇑(cZ) ⇑((oV (bG CJ (sv 3) (sv 1) (by with_unfolding_all rfl)) ak (aC aX (Wb (k:=2) rfl (by ac_rfl) (sv 3)) ak)))
 exact aq
noncomputable abbrev s23:eK:=top 31
noncomputable def b23:List S:=[.asg 2 (.call 22 [↑0,↑1]),.asg 3 (.comp (.idx ↑0 ⇑1) 1 [4] a_ bx (.tup [.idx ↑2 (.idx ↑4 ⇑0),.idx ↑2 (.idx ↑4 ⇑1),.idx ↑4 ⇑2,.idx ↑4 ⇑3])),.ret (.tup [.bin .add (.blt .Lg [↑2]) ⇑1,.blt .tuple [.comp ↑3 1 [4] a_ (aj (.cmp .ne (.idx ↑4 ⇑0) (.idx ↑4 ⇑1))) ↑4]])]
noncomputable def f23:Fd:=⟨2,4,b23⟩
theorem aeq:aL ["net","starts","joined","ways"] ["net","starts"] (aA s23):={}
include cl in
theorem d23(a:gO K "joined_net" "joined_net" s23 f fd)(fJ:mg "max"=bx)(dZ:mg "tuple"=bx)(b:↥(22,"joined_places",2,0)):↥(["net","starts"],2,f23):=by
 exists a,aeq,0,0;refine aQ ?_ ?_;.exists iW (i:=2) ?_ ?_ ?_ ?_ ?_ ?_;exact nd;exact rfl;exact eS rfl;rotate_left;rfl;exact oi;exact dB b hr (aY (sv 0) (aY (sv 1) aD rfl) rfl)
 lia;.exact(CZ (i:=3) (N':=["net","starts","joined","ways","way"]) hc nd rfl oi (ux rfl (by rfl)) (cM (au (sv 0) ak)) ⇑(aO (i:=4) ‹["net","starts","joined","ways","way"]› rfl (fh rfl) (eS rfl)) (bQ (dm)) ⇑(cZ) ⇑((eG (di (au (sv 2) (au (sv 4) ak)) (di (au (sv 2) (au (sv 4) ak)) (di (au (sv 4) ak) (di (au (sv 4) ak) aW rfl) rfl) rfl) rfl))) (by rfl) (by intro _;rfl) (fh rfl))
 lia;.exists(),eG (di (aC aX (Nv rfl hc (by rfl) fJ (sv 2)) ak) (di (rP rfl (by rfl) dZ (cH (N':=["net","starts","joined","ways","way"]) hc (ux rfl (by rfl)) (cM (sv 3)) ⇑(aO (i:=4) ‹["net","starts","joined","ways","way"]› rfl (fh rfl) (eS rfl)) (bQ (dm)) ⇑(lq (bG (iu (bw hr)) (au (sv 4) ak) (au (sv 4) ak) (bF _))) ⇑((sv 4)))) aW rfl) rfl)
 exact aq
noncomputable abbrev s24:eK:=top 32
noncomputable def b24:List S:=[.ret (.call 15 [.call 23 [↑0,↑1],↑2])]
noncomputable def W4:Fd:=⟨3,3,b24⟩
theorem aeu:aL ["net","starts","last"] ["net","starts","last"] (aA s24):={}
include cl in
theorem d24(a:gO K "most_from" "most_from" s24 f fd)(b:↥(23,"joined_net",2,0))(e:↥(15,"most_by",2,0)):↥(["net","starts","last"],3,W4):=by
 exists a,aeu,0,0;refine aQ ?_ ?_;.exists(),dB e hr (aY (dB b hr (aY (sv 0) (aY (sv 1) aD rfl) rfl)) (aY (sv 2) aD rfl) rfl)
 exact aq
noncomputable abbrev s25:eK:=top 33
noncomputable def b25:List S:=[.asg 3 (.call 18 [.call 23 [↑0,↑1],↑2]),.ret (.comp (.call 22 [↑0,↑1]) 1 [4] a_ bx (.idx ↑3 ↑4))]
noncomputable def f25:Fd:=⟨3,4,b25⟩
theorem adH:aL ["net","starts","last","closed"] ["net","starts","last"] (aA s25):={}
include cl in
theorem d25(a:gO K "closed_from" "closed_from" s25 f fd)(b:↥(18,"closed_hours",2,0))(e:↥(23,"joined_net",2,0))(g:↥(22,"joined_places",2,0)):↥(["net","starts","last"],3,f25):=by
 exists a,adH,0,0;refine aQ ?_ ?_;.exists iW (i:=3) ?_ ?_ ?_ ?_ ?_ ?_;exact nd;exact rfl;exact eS rfl;rotate_left;rfl;exact oi;exact dB b hr (aY (dB e hr (aY (sv 0) (aY (sv 1) aD rfl) rfl)) (aY (sv 2) aD rfl) rfl)
 lia;.exists(),cH (N':=["net","starts","last","closed","place"]) hc (ux rfl (by rfl)) (cM (dB g hr (aY (sv 0) (aY (sv 1) aD rfl) rfl))) ⇑(aO (i:=4) ‹["net","starts","last","closed","place"]› rfl (fh rfl) (eS rfl)) (bQ (dm)) ⇑(cZ) ⇑((au (sv 3) (sv 4)))
 exact aq
noncomputable abbrev s26:eK:=top 34
noncomputable def b26:List S:=[.ifs (.or (.cmp .ne (.blt .len [↑3]) (.idx ↑0 ⇑0)) (.not (.blt .all [.comp ↑1 1 [5] a_ bx (.cmp .eq (.idx ↑3 ↑5) ⇑0)]))) [.ret (.con .non)] [],.asg 4 (.comp (.enm ↑3) 2 [5,6] aK (aj (.cmp .zQ ↑5 ↑1)) ↑6),.ret (.call 21 [.call 23 [↑0,↑1],↑2,.bin .add (.lst [⇑0]) ↑4])]
noncomputable def WK:Fd:=⟨4,5,b26⟩
theorem adN:aL ["net","starts","last","closed","others"] ["net","starts","last","closed"] (aA s26):={}
include cl in
theorem d26(a:gO K "from_sum" "from_sum" s26 f fd)(lQ:mg "all"=bx)(eZ:mg "enumerate"=bx)(cT:mg "len"=bx)(b:↥(21,"closed_sum",3,0))(e:↥(23,"joined_net",2,0)):↥(["net","starts","last","closed"],4,WK):=by
 exists a,adN,0,0;refine aQ ?_ ?_;.exists fP ?_ ?_ ?_;exact SW.st (mJ (bG (iu (bw hr)) (ig rfl (by rfl) cT (sv 3)) (au (sv 0) ak) (bF _)) (mq (sE (ji (An rfl hc (by rfl) lQ (cH (N':=["net","starts","last","closed","others","place"]) hc (ux rfl (by rfl)) (cM (sv 1)) ⇑(aO (i:=5) ‹["net","starts","last","closed","others","place"]› rfl (fh rfl) (eS rfl)) (bQ (dm)) ⇑(cZ) ⇑((v9 (oR (bw hr)) (au (sv 3) (sv 5)) ak (bF _)))))))));(· lia;(· exists(),j5);exact aq);exact aq
 lia;.exact(CZ (i:=4) (N':=["net","starts","last","closed","others","place","hour"]) hc nd rfl oi (ux rfl (by rfl)) (Sg rfl (by rfl) eZ (sv 3)) ⇑(jj hc (bH (aO (i:=5) ‹["net","starts","last","closed","others","place","hour"]› rfl (fh rfl) (eS rfl)) (bH (aO (i:=6) ‹["net","starts","last","closed","others","place","hour"]› rfl (fh rfl) (eS rfl)) gB))) (wW rfl (iR (show 5<=5 by decide) (iR (show 5<=6 by decide) wY))) ⇑(lq (bG uP (sv 5) (sv 1) (by with_unfolding_all rfl))) ⇑((sv 6)) (by rfl) (by intro _;rfl) (fh rfl))
 lia;.exists(),dB b hr (aY (dB e hr (aY (sv 0) (aY (sv 1) aD rfl) rfl)) (aY (sv 2) (aY (aC aX (dG (di ak aW rfl)) (sv 4)) aD rfl) rfl) rfl)
 exact aq
noncomputable abbrev s27:eK:=top 36
noncomputable def b27:List S:=[.ret (.lst [.blt .max2 [⇑0,.bin .sub ↑0 (.bin .pow ⇑10 ⇑18)],.bin .mod ↑0 (.bin .pow ⇑10 ⇑18),⇑0])]
noncomputable def f27:Fd:=⟨1,1,b27⟩
theorem aeh:aL ["cell"] ["cell"] (aA s27):={}
include cl in
theorem d27(a:gO K "_law_pool" "_law_pool" s27 f fd)(fJ:mg "max"=bx):↥(["cell"],1,f27):=by
 exists a,aeh,0,0;refine aQ ?_ ?_;.exists(),dG (di (nY rfl hc (by rfl) fJ (di ak (di (aC dW (sv 0) (aC gZ ak ak)) aW rfl) rfl)) (di (aC fM (sv 0) (aC gZ ak ak)) (di ak aW rfl) rfl) rfl)
 exact aq
noncomputable abbrev s28:eK:=top 37
noncomputable def b28:List S:=[.ifs (.cmp .gt (.idx ↑0 ⇑0) ⇑0) [.asg 2 (.bin .mod (.idx ↑0 ⇑0) ↑1),.zR 0 ⇑0 (.bin .fdiv (.idx ↑0 ⇑0) ↑1),.ret ↑2] [],.zR 0 ⇑2 (.bin .add (.idx ↑0 ⇑2) ⇑1),.asg 3 (.bin .mod (.bin .add (.idx ↑0 ⇑1) (.bin .mul ⇑7919 (.idx ↑0 ⇑2))) ⇑1000000007),.asg 4 (.bin .mod (.bin .mul (.bin .add ↑3 ⇑11) (.bin .add ↑3 ⇑48271)) ⇑998244353),.ret (.bin .mod (.bin .fdiv (.bin .mod (.bin .mul ↑4 ↑4) ⇑2147483647) ⇑8) ↑1)]
noncomputable def f28:Fd:=⟨2,5,b28⟩
theorem adu:aL ["pool","base","digit","near","stir"] ["pool","base"] (aA s28):={}
include cl in
theorem d28(a:gO K "_law_next" "_law_next" s28 f fd):↥(["pool","base"],2,f28):=by
 exists a,adu,0,0;refine aQ ?_ ?_;.exists fP ?_ ?_ ?_;exact bG jX (au (sv 0) ak) ak (bF _);(· lia;(· exists 2,aC fM (au (sv 0) ak) (sv 1));(· lia;exact nC (k:=0) rfl (by ac_rfl) ak (aC yl (au (sv 0) ak) (sv 1));(· lia;(· exists(),sv 2);exact aq)));exact aq
 lia;.exact(nC (k:=0) rfl (by ac_rfl) ak (aC aX (au (sv 0) ak) ak))
 lia;.exists 3,aC fM (aC aX (au (sv 0) ak) (aC dX ak (au (sv 0) ak))) ak
 lia;.exists 4,aC fM (aC dX (aC aX (sv 3) ak) (aC aX (sv 3) ak)) ak
 lia;.exists(),aC fM (aC yl (aC fM (aC dX (sv 4) (sv 4)) ak) ak) (sv 1)
 exact aq
noncomputable abbrev s29:eK:=top 38
noncomputable def b29:List S:=[.ret (.bin .mod (.bin .add (.bin .mul (.call 28 [↑0,⇑1000000]) ⇑1000000) (.call 28 [↑0,⇑1000000])) ↑1)]
noncomputable def f29:Fd:=⟨2,2,b29⟩
theorem afr:aL ["pool","base"] ["pool","base"] (aA s29):={}
include cl in
theorem d29(b:gO K "_law_wide" "_law_wide" s29 f fd)(a:↥(28,"_law_next",2,0)):↥(["pool","base"],2,f29):=by
 exists b,afr,0,0;refine aQ ?_ ?_;.exists(),aC fM (aC aX (aC dX (dB a hr (aY (sv 0) (aY ak aD rfl) rfl)) ak) (dB a hr (aY (sv 0) (aY ak aD rfl) rfl))) (sv 1)
 exact aq
noncomputable abbrev s30:eK:=top 39
noncomputable def b30:List S:=[.asg 4 (.bin .add ⇑2 (.call 28 [↑0,⇑5])),.asg 5 (.lst []),.jB (.uC ⇑0 (.idx (.lst [↑1,.call 28 [↑0,.bin .add ↑1 ⇑1]]) (.call 28 [↑0,⇑2]))) [6] a_ [.asg 7 (.call 28 [↑0,↑4]),.asg 8 (.bin .mod (.bin .add (.bin .add ↑7 ⇑1) (.call 28 [↑0,.bin .sub ↑4 ⇑1])) ↑4),.ifs (.cmp .gt (.call 28 [↑0,⇑4]) ⇑0) [.par 7 8 (.blt .min2 [↑7,↑8]) (.blt .max2 [↑7,↑8])] [],.app 5 (.tup [↑7,↑8,.call 29 [↑0,↑2],.bin .add ⇑1 (.call 29 [↑0,↑3])])],.ret (.tup [↑4,.blt .tuple [↑5]])]
noncomputable def f30:Fd:=⟨4,9,b30⟩
theorem adE:aL ["pool","most","rooms","hours","many","ways","k","one","other"] ["pool","most","rooms","hours"] (aA s30):={}
include cl in
theorem d30(e:gO K "_law_net" "_law_net" s30 f fd)(fJ:mg "max"=bx)(gR:mg "min"=bx)(bu:mg "range"=bx)(dZ:mg "tuple"=bx)(a:↥(28,"_law_next",2,0))(b:↥(29,"_law_wide",2,0)):↥(["pool","most","rooms","hours"],4,f30):=by
 exists e,adE,0,0;refine aQ ?_ ?_;.exists 4,aC aX ak (dB a hr (aY (sv 0) (aY ak aD rfl) rfl))
 lia;.exists 5,dG aW
 lia;.exists 6,gA rfl (by rfl) bu (au (dG (di (sv 1) (di (dB a hr (aY (sv 0) (aY (aC aX (sv 1) ak) aD rfl) rfl)) aW rfl) rfl)) (dB a hr (aY (sv 0) (aY ak aD rfl) rfl))),0;(· lia;(· exists 7,dB a hr (aY (sv 0) (aY (sv 4) aD rfl) rfl));(· lia;(· exists 8,aC fM (aC aX (aC aX (sv 7) ak) (dB a hr (aY (sv 0) (aY (aC dW (sv 4) ak) aD rfl) rfl))) (sv 4));(· lia;(· exists fP ?_ ?_ ?_;exact bG jX (dB a hr (aY (sv 0) (aY ak aD rfl) rfl)) ak (bF _);(· lia;exact Ue (i:=7) (j:=8) hc nd rfl rfl (by decide) rfl rfl (qG rfl hc (by rfl) gR (di (sv 7) (di (sv 8) aW rfl) rfl)) (nY rfl hc (by rfl) fJ (di (sv 7) (di (sv 8) aW rfl) rfl));exact aq);exact aq);(· lia;exact eU (k:=5) rfl (by ac_rfl) (eG (di (sv 7) (di (sv 8) (di (dB b hr (aY (sv 0) (aY (sv 2) aD rfl) rfl)) (di (aC aX ak (dB b hr (aY (sv 0) (aY (sv 3) aD rfl) rfl))) aW rfl) rfl) rfl) rfl));exact aq))))
 lia;.exists(),eG (di (sv 4) (di (rP rfl (by rfl) dZ (sv 5)) aW rfl) rfl)
 exact aq
noncomputable abbrev s31:eK:=top 40
noncomputable def b31:List S:=[.ret (.blt .tuple [.comp (.uC ⇑0 (.bin .sub ↑1 ⇑1)) 1 [2] a_ (aj (.cmp .gt (.call 28 [↑0,⇑3]) ⇑0)) ↑2])]
noncomputable def f31:Fd:=⟨2,2,b31⟩
theorem afZ:aL ["pool","many"] ["pool","many"] (aA s31):={}
include cl in
theorem d31(a:gO K "_law_starts" "_law_starts" s31 f fd)(bu:mg "range"=bx)(dZ:mg "tuple"=bx)(b:↥(28,"_law_next",2,0)):↥(["pool","many"],2,f31):=by
 exists a,afZ,0,0;refine aQ ?_ ?_;.exists(),rP rfl (by rfl) dZ (cH (N':=["pool","many","place"]) hc (ux rfl (by rfl)) (gA rfl (by rfl) bu (aC dW (sv 1) ak)) ⇑(aO (i:=2) ‹["pool","many","place"]› rfl (fh rfl) (eS rfl)) (bQ (dm)) ⇑(lq (bG jX (dB b hr (aY (sv 0) (aY ak aD rfl) rfl)) ak (bF _))) ⇑((sv 2)))
 exact aq
noncomputable abbrev s32:eK:=top 41
noncomputable def b32:List S:=[.asg 1 (.idx (.lst [⇑2,⇑4,⇑30,.bin .add (.bin .pow ⇑10 ⇑9) ⇑1]) (.call 28 [↑0,⇑4])),.asg 2 (.idx (.lst [⇑2,⇑3,⇑5,.bin .pow ⇑10 ⇑6]) (.call 28 [↑0,⇑4])),.ret (.call 30 [↑0,⇑12,↑1,↑2])]
noncomputable def f32:Fd:=⟨1,3,b32⟩
theorem aeC:aL ["pool","rooms","hours"] ["pool"] (aA s32):={}
include cl in
theorem d32(b:gO K "_law_drawn" "_law_drawn" s32 f fd)(e:↥(30,"_law_net",4,0))(a:↥(28,"_law_next",2,0)):↥(["pool"],1,f32):=by
 exists b,aeC,0,0;refine aQ ?_ ?_;.exists 1,au (dG (xF [2,4,30] rfl (di (aC aX (aC gZ ak ak) ak) aW rfl))) (dB a hr (aY (sv 0) (aY ak aD rfl) rfl))
 lia;.exists 2,au (dG (xF [2,3,5] rfl (di (aC gZ ak ak) aW rfl))) (dB a hr (aY (sv 0) (aY ak aD rfl) rfl))
 lia;.exists(),dB e hr (aY (sv 0) (aY ak (aY (sv 1) (aY (sv 2) aD rfl) rfl) rfl) rfl)
 exact aq
noncomputable abbrev s33:eK:=top 42
noncomputable def b33:List S:=[.ifs (.or (.cmp .ne (.blt .len [↑3]) (.idx ↑0 ⇑0)) (.cmp .ne (.idx ↑3 (.neg ⇑1)) (.bin .add ↑2 ⇑1))) [.ret (.con .non)] [],.Lq 3 [4,5] [.ifs (.or (.cmp .lt ↑5 ⇑0) (.or (.cmp .gt ↑5 (.bin .add ↑2 ⇑1)) (.and (.cmp .inn ↑4 ↑1) (.cmp .gt ↑5 ⇑0)))) [.ret (.con .non)] []],.asg 6 ⇑0,.jB (.idx ↑0 ⇑1) [7,8,9,10] aK [.asg 6 (.bin .add ↑6 (.bin .mul ↑9 (.blt .max2 [⇑0,.bin .sub (.bin .sub (.idx ↑3 ↑8) (.idx ↑3 ↑7)) ↑10])))],.ret ↑6]
noncomputable def Yz:Fd:=⟨4,11,b33⟩
theorem aes:aL ["net","starts","last","closed","place","hour","found","begin","end","room","hours"] ["net","starts","last","closed"] (aA s33):={}
include cl in
theorem d33(a:gO K "_law_sum" "_law_sum" s33 f fd)(eZ:mg "enumerate"=bx)(cT:mg "len"=bx)(fJ:mg "max"=bx):↥(["net","starts","last","closed"],4,Yz):=by
 exists a,aes,0,0;refine aQ ?_ ?_;.exists fP ?_ ?_ ?_;exact SW.st (mJ (bG (iu (bw hr)) (ig rfl (by rfl) cT (sv 3)) (au (sv 0) ak) (bF _)) (mq (bG (iu (bw hr)) (au (sv 3) (j9 ak)) (aC aX (sv 2) ak) (bF _))));(· lia;(· exists(),j5);exact aq);exact aq
 lia;.exact(Om (i:=3) e_ hc rfl (by rfl) eZ rfl (by ac_rfl) (jj hc (bH (aO (i:=4) nd rfl oi oi) (bH (aO (i:=5) nd rfl oi oi) gB))) (pA rfl (dz _ _ (dz _ _ kJ 5) 4)) (by lia;(· exists fP ?_ ?_ ?_;exact SW.st (mJ (bG (Jm (bw hr)) (sv 5) ak (bF _)) (mJ (bG jX (sv 5) (aC aX (sv 2) ak) (bF _)) (mq (SW.st (UT (bG CJ (sv 4) (sv 1) (by with_unfolding_all rfl)) (PL (bG jX (sv 5) ak (bF _))))))));(· lia;(· exists(),j5);exact aq);exact aq);exact aq))
 lia;.exists 6,ak
 lia;.exact(pG e_ hc (cM (au (sv 0) ak)) (jj hc (bH (aO (i:=7) nd rfl oi oi) (bH (aO (i:=8) nd rfl oi oi) (bH (aO (i:=9) nd rfl oi oi) (bH (aO (i:=10) nd rfl oi oi) gB))))) (pA rfl (dz _ _ (dz _ _ (dz _ _ (dz _ _ kJ 10) 9) 8) 7)) (by lia;(· exists 6,aC aX (sv 6) (aC dX (sv 9) (nY rfl hc (by rfl) fJ (di ak (di (aC dW (aC dW (au (sv 3) (sv 8)) (au (sv 3) (sv 7))) (sv 10)) aW rfl) rfl))));exact aq))
 lia;.exists(),sv 6
 exact aq
noncomputable abbrev s34:eK:=top 43
noncomputable def b34:List S:=[.asg 3 (.blt .list [↑1]),.asg 4 (.call 28 [↑0,.blt .len [↑3]]),.asg 5 (.call 28 [↑0,⇑8]),.ifs (.cmp .eq ↑5 ⇑0) [.Qi 3 ↑4] [.ifs (.cmp .eq ↑5 ⇑1) [.ins 3 ↑4 (.idx ↑3 ↑4)] [.ifs (.cmp .eq ↑5 ⇑2) [.zR 3 ↑4 (.idx (.lst [.bin .add ↑2 ⇑2,.bin .add ↑2 ⇑1,↑2,⇑0,.neg ⇑1]) (.call 28 [↑0,⇑5]))] [.ifs (.cmp .eq ↑5 ⇑3) [.asg 3 (.bin .add (.comp (.slice ↑3 (.con .non) (.neg ⇑1)) 1 [6] a_ bx (.call 29 [↑0,.bin .add ↑2 ⇑2])) (.lst [.bin .add ↑2 ⇑1]))] [.zR 3 ↑4 (.bin .add (.idx ↑3 ↑4) (.idx (.lst [⇑1,.neg ⇑1,⇑2,.neg ⇑2,.bin .pow ⇑10 ⇑29]) (.call 28 [↑0,⇑5])))]]]],.ret ↑3]
noncomputable def f34:Fd:=⟨3,6,b34⟩
theorem aex:aL ["pool","closed","last","found","at","way"] ["pool","closed","last"] (aA s34):={}
include cl in
theorem d34(b:gO K "_law_other" "_law_other" s34 f fd)(cT:mg "len"=bx)(dH:mg "list"=bx)(a:↥(28,"_law_next",2,0))(e:↥(29,"_law_wide",2,0)):↥(["pool","closed","last"],3,f34):=by
 exists b,aex,0,0;refine aQ ?_ ?_;.exists 3,oF rfl (by rfl) dH (sv 1)
 lia;.exists 4,dB a hr (aY (sv 0) (aY (ig rfl (by rfl) cT (sv 3)) aD rfl) rfl)
 lia;.exists 5,dB a hr (aY (sv 0) (aY ak aD rfl) rfl)
 lia;.exists fP ?_ ?_ ?_;exact bG (oR (bw hr)) (sv 5) ak (bF _);(· lia;exact N6 (k:=3) rfl (by ac_rfl) (sv 4);exact aq);(· lia;(· exists fP ?_ ?_ ?_;exact bG (oR (bw hr)) (sv 5) ak (bF _);(· lia;exact T9 (k:=3) rfl (by ac_rfl) (sv 4) (au (sv 3) (sv 4));exact aq);(· lia;(· exists fP ?_ ?_ ?_;exact bG (oR (bw hr)) (sv 5) ak (bF _);(· lia;exact nC (k:=3) rfl (by ac_rfl) (sv 4) (au (dG (di (aC aX (sv 2) ak) (di (aC aX (sv 2) ak) (di (sv 2) (di ak (di (j9 ak) aW rfl) rfl) rfl) rfl) rfl)) (dB a hr (aY (sv 0) (aY ak aD rfl) rfl)));exact aq);(· lia;(· exists fP ?_ ?_ ?_;exact bG (oR (bw hr)) (sv 5) ak (bF _);(· lia;(· exists 3,aC aX (cH (N':=["pool","closed","last","found","at","way","hour"]) hc (ux rfl (by rfl)) (cM (tZ (sv 3) wZ (vV (j9 ak)))) ⇑(aO (i:=6) ‹["pool","closed","last","found","at","way","hour"]› rfl (fh rfl) (eS rfl)) (bQ (dm)) ⇑(cZ) ⇑((dB e hr (aY (sv 0) (aY (aC aX (sv 2) ak) aD rfl) rfl)))) (dG (di (aC aX (sv 2) ak) aW rfl)));exact aq);(· lia;exact nC (k:=3) rfl (by ac_rfl) (sv 4) (aC aX (au (sv 3) (sv 4)) (au (dG (di ak (di (j9 ak) (di ak (di (j9 ak) (di (aC gZ ak ak) aW rfl) rfl) rfl) rfl) rfl)) (dB a hr (aY (sv 0) (aY ak aD rfl) rfl))));exact aq));exact aq));exact aq));exact aq)
 lia;.exists(),sv 3
 exact aq
noncomputable abbrev s35:eK:=top 44
noncomputable def b35:List S:=[.ret (.and (.inst [.int] ↑0) (.not (.inst [.bool] ↑0)))]
noncomputable def f35:Fd:=⟨1,1,b35⟩
theorem aeU:aL ["found"] ["found"] (aA s35):={}
include cl in
theorem d35(a:gO K "_law_whole" "_law_whole" s35 f fd)(Cv:mg "bool"=bx)(Ly:mg "int"=bx)(cQ:mg "isinstance"=bx):↥(["found"],1,f35):=by
 exists a,aeU,0,0;refine aQ ?_ ?_;.exists(),Bm (qZ .int rfl (by rfl) cQ (sv 0) (by rfl) Ly (by kernel_rfl) (by decide) (by rfl)) (qz (Vx (qZ .bool rfl (by rfl) cQ (sv 0) (by rfl) Cv (by kernel_rfl) (by decide) (by rfl))))
 exact aq
noncomputable abbrev s36:eK:=top 45
noncomputable def b36:List S:=[.asg 2 (.bin .mul (.lst [⇑0]) ↑1),.jB (.uC ⇑0 (.blt .len [↑0])) [3] a_ [.zR 2 (.bin .mod ↑3 ↑1) (.bin .add (.bin .mul (.idx ↑2 (.bin .mod ↑3 ↑1)) ⇑1000003) (.idx ↑0 ↑3))],.ret (.slice ↑2 (.con .non) (.blt .max2 [⇑1,.blt .min2 [.blt .len [↑0],↑1]]))]
noncomputable def f36:Fd:=⟨2,4,b36⟩
theorem aeY:aL ["script","most","cells","k"] ["script","most"] (aA s36):={}
include cl in
theorem d36(a:gO K "_law_folded" "_law_folded" s36 f fd)(cT:mg "len"=bx)(fJ:mg "max"=bx)(gR:mg "min"=bx)(bu:mg "range"=bx):↥(["script","most"],2,f36):=by
 exists a,aeY,0,0;refine aQ ?_ ?_;.exists 2,aC dX (dG (di ak aW rfl)) (sv 1)
 lia;.exists 3,gA rfl (by rfl) bu (ig rfl (by rfl) cT (sv 0)),0;(· lia;exact nC (k:=2) rfl (by ac_rfl) (aC fM (sv 3) (sv 1)) (aC aX (aC dX (au (sv 2) (aC fM (sv 3) (sv 1))) ak) (au (sv 0) (sv 3)));exact aq)
 lia;.exists(),tZ (sv 2) wZ (vV (nY rfl hc (by rfl) fJ (di ak (di (qG rfl hc (by rfl) gR (di (ig rfl (by rfl) cT (sv 0)) (di (sv 1) aW rfl) rfl)) aW rfl) rfl)))
 exact aq
noncomputable abbrev s37:eK:=top 46
noncomputable def b37:List S:=[.ret (.or (.and (.cmp .isN ↑0 (.con .non)) (.cmp .isN ↑1 (.con .non))) (.and (.call 35 [↑0]) (.cmp .eq ↑0 ↑1)))]
noncomputable def f37:Fd:=⟨2,2,b37⟩
theorem adL:aL ["found","due"] ["found","due"] (aA s37):={}
include cl in
theorem d37(a:gO K "_law_same" "_law_same" s37 f fd)(b:↥(35,"_law_whole",1,0)):↥(["found","due"],2,f37):=by
 exists a,adL,0,0;refine aQ ?_ ?_;.exists(),aah (Bm (v9 Im (sv 0) j5 (bF _)) (qz (v9 Im (sv 1) j5 (bF _)))) (qz (Bm (dB b hr (aY (sv 0) aD rfl)) (qz (v9 (oR (bw hr)) (sv 0) (sv 1) (bF _)))))
 exact aq
noncomputable abbrev s38:eK:=top 47
noncomputable def b38:List S:=[.jB (.call 36 [↑0,⇑12]) [1] a_ [.asg 2 (.call 27 [↑1]),.asg 3 (.call 32 [↑2]),.asg 4 (.call 31 [↑2,.idx ↑3 ⇑0]),.asg 5 (.lst [.call 28 [↑2,⇑4],.call 28 [↑2,⇑13],.call 29 [↑2,.bin .pow ⇑10 ⇑7]]),.app 5 (.bin .sub (.bin .mul ⇑2 (.bin .pow ⇑10 ⇑18)) (.call 29 [↑2,.bin .pow ⇑10 ⇑12])),.asg 6 (.idx ↑5 (.call 28 [↑2,⇑4])),.asg 7 (.call 25 [↑3,↑4,↑6]),.ifs (.or (.not (.inst [.list] ↑7)) (.not (.blt .all [.comp ↑7 1 [12] a_ bx (.call 35 [↑12])]))) [.ret (.con (.bl aK))] [],.ifs (.cmp .ne (.call 33 [↑3,↑4,↑6,↑7]) (.call 24 [↑3,↑4,↑6])) [.ret (.con (.bl aK))] [],.asg 5 (.blt .list [↑7]),.jB (.uC ⇑0 ⇑5) [8] a_ [.asg 9 (.blt .list [↑5]),.asg 10 (.call 33 [↑3,↑4,↑6,↑5]),.ifs (.or (.not (.call 37 [.call 26 [↑3,↑4,↑6,↑9],↑10])) (.cmp .ne ↑9 ↑5)) [.ret (.con (.bl aK))] [],.WQ 5 34 2 5 7 28 6],.asg 11 (.blt .list [↑7]),.app 7 ⇑0,.ifs (.cmp .ne (.call 25 [↑3,↑4,↑6]) ↑11) [.ret (.con (.bl aK))] []],.ret (.con (.bl a_))]
noncomputable def f38:Fd:=⟨1,12,b38⟩
theorem adt:aL ["script","cell","pool","net","starts","some","last","told","k","handed","due","kept"] ["script"] (aA s38):={}
include cl in
theorem d38(h:gO K "law" "law" s38 f fd)(lQ:mg "all"=bx)(cQ:mg "isinstance"=bx)(dH:mg "list"=bx)(bu:mg "range"=bx)(j:↥(32,"_law_drawn",1,0))(l:↥(36,"_law_folded",2,0))(a:↥(28,"_law_next",2,0))(m:↥(34,"_law_other",3,0))(o:↥(27,"_law_pool",1,0))(q:↥(37,"_law_same",2,0))(r:↥(31,"_law_starts",2,0))(b:↥(33,"_law_sum",4,0))(u:↥(35,"_law_whole",1,0))(e:↥(29,"_law_wide",2,0))(g:↥(25,"closed_from",3,0))(v:↥(26,"from_sum",4,0))(zqz:↥(24,"most_from",3,0)):↥(["script"],1,f38):=by
 exists h,adt,0,0;refine aQ ?_ ?_;.exists 1,cM (dB l hr (aY (sv 0) (aY ak aD rfl) rfl)),0;(· lia;(· exists 2,dB o hr (aY (sv 1) aD rfl));(· lia;(· exists 3,dB j hr (aY (sv 2) aD rfl));(· lia;(· exists 4,dB r hr (aY (sv 2) (aY (au (sv 3) ak) aD rfl) rfl));(· lia;(· exists 5,dG (di (dB a hr (aY (sv 2) (aY ak aD rfl) rfl)) (di (dB a hr (aY (sv 2) (aY ak aD rfl) rfl)) (di (dB e hr (aY (sv 2) (aY (aC gZ ak ak) aD rfl) rfl)) aW rfl) rfl) rfl));(· lia;exact eU (k:=5) rfl (by ac_rfl) (aC dW (aC dX ak (aC gZ ak ak)) (dB e hr (aY (sv 2) (aY (aC gZ ak ak) aD rfl) rfl)));(· lia;(· exists 6,au (sv 5) (dB a hr (aY (sv 2) (aY ak aD rfl) rfl)));(· lia;(· exists 7,dB g hr (aY (sv 3) (aY (sv 4) (aY (sv 6) aD rfl) rfl) rfl));(· lia;(· exists fP ?_ ?_ ?_;exact SW.st (mJ (sE (ji (qZ .list rfl (by rfl) cQ (sv 7) (by rfl) dH (by kernel_rfl) (by decide) (by rfl)))) (mq (sE (ji (An rfl hc (by rfl) lQ (cH (N':=["script","cell","pool","net","starts","some","last","told","k","handed","due","kept","hour"]) hc (ux rfl (by rfl)) (cM (sv 7)) ⇑(aO (i:=12) ‹["script","cell","pool","net","starts","some","last","told","k","handed","due","kept","hour"]› rfl (fh rfl) (eS rfl)) (bQ (dm)) ⇑(cZ) ⇑((dB u hr (aY (sv 12) aD rfl)))))))));(· lia;(· exists(),mV);exact aq);exact aq);(· lia;(· exists fP ?_ ?_ ?_;exact bG (iu (bw hr)) (dB b hr (aY (sv 3) (aY (sv 4) (aY (sv 6) (aY (sv 7) aD rfl) rfl) rfl) rfl)) (dB zqz hr (aY (sv 3) (aY (sv 4) (aY (sv 6) aD rfl) rfl) rfl)) (bF _);(· lia;(· exists(),mV);exact aq);exact aq);(· lia;(· exists 5,oF rfl (by rfl) dH (sv 7));(· lia;(· exists 8,gA rfl (by rfl) bu ak,0;(· lia;(· exists 9,oF rfl (by rfl) dH (sv 5));(· lia;(· exists 10,dB b hr (aY (sv 3) (aY (sv 4) (aY (sv 6) (aY (sv 5) aD rfl) rfl) rfl) rfl));(· lia;(· exists fP ?_ ?_ ?_;exact SW.st (mJ (sE (ji (dB q hr (aY (dB v hr (aY (sv 3) (aY (sv 4) (aY (sv 6) (aY (sv 9) aD rfl) rfl) rfl) rfl)) (aY (sv 10) aD rfl) rfl)))) (mq (bG (iu (bw hr)) (sv 9) (sv 5) (bF _))));(· lia;(· exists(),mV);exact aq);exact aq);(· lia;exact Pn (z:=5) (p:=2) (x:=5) (y:=7) (t:=6) m a hr nd rfl (.inl rfl) rfl (by ac_rfl) rfl (by ac_rfl) rfl (by ac_rfl) rfl (by ac_rfl);exact aq)))));(· lia;(· exists 11,oF rfl (by rfl) dH (sv 7));(· lia;exact eU (k:=7) rfl (by ac_rfl) ak;(· lia;(· exists fP ?_ ?_ ?_;exact bG (iu (bw hr)) (dB g hr (aY (sv 3) (aY (sv 4) (aY (sv 6) aD rfl) rfl) rfl)) (sv 11) (bF _);(· lia;(· exists(),mV);exact aq);exact aq);exact aq))))))))))))))
 lia;.exists(),mV
 exact aq
end _T
end
noncomputable section
namespace _T
open PySem _L Spec PyProof.Rows _H
noncomputable def Γ:Tab:=λi=>[f0,f1,f2,f3,f4,f5,f6,f7,f8,f9,f10,f11,f12,f13,f14,f15,f16,f17,f18,U5,f20,Yh,f22,f23,W4,f25,WK,f27,f28,f29,f30,f31,f32,Yz,f34,f35,f36,f37,f38][i]?
end _T
end
noncomputable section
namespace _T
open _H
variable{w n j N l:Nat}{z m a b g p i k:Int}{Q:R->List Sl->Prop}{f:Bool}{ch cl:List Int}{F q:Int->Int}{ρ:List Sl}{kvs r:List (Int×Int)}{ds:List D}
local macro_rules|`(tactic|symm)=>`(tactic|first|apply ao|apply G5)
noncomputable abbrev big:Int:=1606938044258990275541962092341162602522202993782792835301376
theorem bK{x y:Int}(h0:0<m)(c:m<big)(k:∀d x z:Int,0<=d->d<m->Q (.val (.int d)) [.own a_ [.int x,.int y,.int z],.val aK (.int m)]):(run Γ w (n+1) 28 [.own a_ [.int x,.int y,.int z],.val aK (.int m)]).sat Q:=by
 have e:m<1606938044258990275541962092341162602522202993782792835301376:=c;refine aM (d:=f28) rfl rfl (by decide) ?_;symm;simp[f28];constructor;.intro _;symm;simp[h0];apply ao;simp[h0,e,ir];apply ao;simp;exact k _ _ _ (mA _ (by omega)) (lw _ h0)
 . intro _;symm;simp[ir];apply ao;simp;generalize s:(y+7919*(z+1))%1000000007=q;have t:0<=q/\q<1000000007:=by omega
   have h:-18446744073709551616<q+11/\q+11<18446744073709551616:=by omega
   symm;simp[h];generalize hs:(q+11)*(q+48271)%998244353=st;have o:-18446744073709551616<st/\st<18446744073709551616:=by omega
   symm;simp[o,h0];exact k _ _ _ (mA _ (by omega)) (lw _ h0)
theorem Kr{x:Int}(k:∀a b c:Int,Q (.own [.int a,.int b,.int c]) [.val aK (.int x)]):(run Γ w (n+1) 27 [.val aK (.int x)]).sat Q:=by refine aM (d:=f27) rfl rfl (by decide) ?_;symm;simp[f27];exact k _ _ _
structure Wy where(s t r h:Int)
variable{ws:List Wy}{v:Wy}
noncomputable def Wy.d(w:Wy):D:=.tup [.int w.s,.int w.t,.int w.r,.int w.h]
structure Wy.Ok(m:Int)(w:Wy):Prop where
 s0:0<=w.s
 s1:w.s<m
 t0:0<=w.t
 t1:w.t<m
 ne:w.s≠w.t
 r0:0<=w.r
 r1:w.r<=1000000000
 h0:1<=w.h
 h1:w.h<=1000000
theorem other(h1:0<=a)(c:a<m)(o:0<=b)(s:b<m-1):0<=(a+1+b)%m/\(a+1+b)%m<m/\(a+1+b)%m≠a:=by
 by_cases h:a+1+b<m;.rw[Int.emod_eq_of_lt (by omega) h];omega
 . have e:(a+1+b)%m=a+1+b-m:=by rw[<-Int.sub_emod_right,Int.emod_eq_of_lt (by omega) (by omega)]
   rw[e];omega
noncomputable def aR(m:Int)(ws:List Wy):D:=.tup [.int m,.tup (ws.map Wy.d)]
structure cX(m:Int)(ws:List Wy):Prop where
 m0:2<=m
 m1:m<=7
 len:ws.length<=12
 ok:∀w∈ws,w.Ok m
@[simp]theorem ag0{m:Int}{ws:List Wy}:LR (aR m ws) (.int 0)=aj (.val (.int m)):=rfl
@[simp]theorem ahA{m:Int}{ws:List Wy}:LR (aR m ws) (.int 1)=aj (.val (.tup (ws.map Wy.d))):=rfl
noncomputable def fU(j:Nat)(f:Bool):D:=.tup [.int j,.bl f]
noncomputable def frm(v:Wy)(f:Bool):Int:=if f then v.s else v.t
noncomputable def too(v:Wy)(f:Bool):Int:=if f then v.t else v.s
theorem lY(e:ws[j]?=aj v)(k:Q (.val (.tup [.int (frm v f),.int (too v f)])) [.val aK (aR m ws),.val aK (fU j f)]):(run Γ w (n+1) 0 [.val aK (aR m ws),.val aK (fU j f)]).sat Q:=by refine aM (d:=f0) rfl rfl (by decide) ?_;symm;simp[f0,fU,jg e];apply ao;cases f with|true=>simp[Wy.d];exact k|false=>simp[Wy.d];exact k
noncomputable def hsp(v:Wy)(f:Bool):Int:=if f then v.h else-v.h
theorem uX(e:ws[j]?=aj v)(k:Q (.val (.int (hsp v f))) [.val aK (aR m ws),.val aK (fU j f)]):(run Γ w (n+1) 1 [.val aK (aR m ws),.val aK (fU j f)]).sat Q:=by refine aM (d:=f1) rfl rfl (by decide) ?_;symm;simp[f1,fU,jg e,Wy.d];apply ao;cases f with|true=>simp;exact k|false=>simp;exact k
noncomputable def QW(s:Sl)(fs:List Int):Prop:=s=.val aK (.lst (fs.map D.int))\/∃b,s=.own b (fs.map D.int)
noncomputable def n6(v:Wy)(g:Int)(f:Bool):Int:=if f then v.r-g else g
theorem uM{s:Sl}{fs:List Int}(hs:QW s fs)(e:ws[j]?=aj v)(c:fs[j]?=aj g)(k:Q (.val (.int (n6 v g f))) [.val aK (aR m ws),s,.val aK (fU j f)]):(run Γ w (n+1) 2 [.val aK (aR m ws),s,.val aK (fU j f)]).sat Q:=by refine aM (d:=f2) rfl rfl (by decide) ?_;symm;rcases hs with rfl|⟨b,rfl⟩;all_goals simp[f2,fU,jg c];apply ao;cases f with|true=>simp[jg e,Wy.d];exact k|false=>simp;exact k
@[simp]theorem acM{c:Call}{n x k:Nat}{src o:P}{is:List Nat}{one:Bool}{ρ:List Sl}:ex c n (.Lk x src k is one o) ρ=(srcOf (isVar src) (ev c src) ρ).bind λds e=>if ds.length<=lim then(gG is one (ev c o) ds [] (e++cx k .aV)).bind λs h=>(lift (put (aP ρ (isVar src) (h.take e.length)) x (.hold s)) ρ).bind λt _=>.ok .next t else .stuck:=(rfl)
@[simp]theorem acb{c:Call}{n:Nat}{src:P}{is:List Nat}{one:Bool}{body:List S}{ρ:List Sl}:ex c n (.G8 src is one body) ρ=(ev c src ρ).bind λr e=>(lift (items r.d) e).bind λds e=>fV is one (gh c n body) ds e:=(rfl)
@[simp]theorem aeg{c:Call}{n x:Nat}{ρ:List Sl}:ex c n (.dC x) ρ=match ρ[x]?with|some (.hold e)=>.ok .next (ρ.set x (.val aK (.lst (e.map D.lst))))|_=>.stuck:=(rfl)
@[simp]theorem acT{c:Call}{n x:Nat}{i e:P}{ρ:List Sl}:ex c n (.Ln x i e) ρ=(cu (isVar i) (ev c i) ρ).bind λk ρ=>(lift (v8 ρ x k) ρ).bind λ_ ρ=>(ev c e ρ).bind λr ρ=>FN ρ x ((jr ρ x).bind λh=>(gq k).bind λk=>kh h k λrow=>if row.length<lim then aj (row++[r.d])else bx):=(rfl)
@[simp]theorem abv{a:Sl}{l:List Sl}{x:Nat}:jr (a::l) x=match(a::l)[x]?with|some (.hold c)=>aj c|_=>bx:=rfl
@[simp]theorem Yb{ρ:List Sl}{x:Nat}{c:List (List D)}:FN ρ x (aj c)=.ok .next (ρ.set x (.hold c)):=rfl
@[simp]theorem aeG{a:Sl}{l:List Sl}{x:Nat}{k:Int}:v8 (a::l) x (.int k)=match(a::l)[x]?with|some (.hold c)=>rowAt c k|_=>bx:=by unfold v8 jr;cases h:(a::l)[x]?with|none=>rfl|some s=>cases s<;>rfl
theorem sO{is:List Nat}{one:Bool}{s:Ev}(J:List Sl->Prop)(g:D->List D){Q:List (List D)->List Sl->Prop}:∀{ds:List D}{c:List (List D)}{ρ:List Sl},J ρ->(∀d,d∈ds->∀ρ,J ρ->∃o,cz ρ is one d=aj o/\(s o).sat λr t=>r=.own (g d)/\J t)->(∀ρ,J ρ->Q (c++ds.map g) ρ)->(gG is one s ds c ρ).sat Q|[],c,ρ,j,h,k=>by rw[Kg];simpa using k ρ j|d::r,c,ρ,j,h,k=>by obtain⟨o,e,h1⟩:=h d (by simp) ρ j;rw[Ib,e];show((s o).bind _).sat Q;rw[bB];refine h1.imp λx t⟨A,j3⟩=>?_;subst A;exact sO J g j3 (λd' u=>h d' (by simp[u])) λy B=>by simpa using k y B
@[simp]theorem ae1{c:Call}{x:Nat}{k:P}{ρ:List Sl}:ev c (.Rz x k) ρ=match ρ[x]?with
 |some (.cR _)=>(cu (isVar k) (ev c k) ρ).bind λe ρ=>match ρ[x]?with|some (.cR kvs)=>lift ((gq e).bind λk=>(mD kvs k).map .val) ρ|_=>.stuck
 |_=>.stuck:=(rfl)
noncomputable def o7(kvs:List (Int×D))(k:Int):Bool:=(kvs.map (·.1)).contains k
noncomputable def Gs(kvs:List (Int×D)):List Int:=kvs.map (·.1)
noncomputable def dsV(kvs:List (Int×D)):List D:=kvs.map (·.2)
@[simp]theorem aeo{c:Call}{x:Nat}{k:P}{neg:Bool}{ρ:List Sl}:ev c (.RB x k neg) ρ=(cu (isVar k) (ev c k) ρ).bind λe ρ=>match ρ[x]?with|some (.cR kvs)=>lift ((gq e).map λk=>.val (.bl (if neg then !o7 kvs k else o7 kvs k))) ρ|_=>.stuck:=(rfl)
@[simp]theorem ace{c:Call}{k e:Int}{ρ:List Sl}:ev c (.Ck k e) ρ=.ok (.val (.dv [k] [.int e])) ρ:=(rfl)
@[simp]theorem ahI{c:Call}{x:Nat}{ρ:List Sl}:ev c (.vw x) ρ=match ρ[x]?with|some (.gV m)=>.ok (.val (.dM m)) (ρ.set x (.val aK (.dM m)))|some (.cR kvs)=>.ok (.val (.dv (Gs kvs) (dsV kvs))) (ρ.set x (.val aK (.dv (Gs kvs) (dsV kvs))))|some (.own b ds)=>.ok (.val (.lst ds)) (ρ.set x (.val b (.lst ds)))|some (.val _ d)=>.ok (.val d) ρ|_=>.stuck:=(rfl)
@[simp]theorem abB{c:Call}{n x:Nat}{ρ:List Sl}:ex c n (.G9 x) ρ=match ρ[x]?with|some .aV=>.ok .next (ρ.set x (.cR []))|some (.cR _)=>.ok .next (ρ.set x (.cR []))|some (.val aK _)=>.ok .next (ρ.set x (.cR []))|_=>.stuck:=(rfl)
@[simp]theorem acw{c:Call}{n x:Nat}{k e:P}{ρ:List Sl}:ex c n (.gw x k e) ρ=(ev c e ρ).bind λr ρ=>match ρ[x]?with
 |some (.cR _)=>(cu (isVar k) (ev c k) ρ).bind λh ρ=>match ρ[x]?,h with|some (.cR kvs),.int k=>if kvs.length<lim then .ok .next (ρ.set x (.cR (gw kvs k r.d)))else .stuck|_,_=>.stuck
 |_=>.stuck:=(rfl)
@[simp]theorem abC{c:Call}{n x:Nat}{i e:P}{sub:Bool}{ρ:List Sl}:ex c n (.Li x i sub e) ρ=(lift (zN ρ x) ρ).bind λ_ ρ=>(cu (isVar i) (ev c i) ρ).bind λk ρ=>(lift (zN ρ x) ρ).bind λl ρ=>(lift ((gq k).bind λi=>at' l i) ρ).bind λa ρ=>(cu (isVar e) (ev c e) ρ).bind λb ρ=>match a,b,ρ[x]?,k with
 |.int u,.int v,aj (.own h ds),.int k=>match ir ds.length k with|some j=>.ok .next (ρ.set x (.own h (ds.set j (.int (if sub then u-v else u+v)))))|none=>.stuck
 |_,_,_,_=>.stuck:=(rfl)
@[simp]theorem Yv{x:Nat}{k:P}:isVar (.Rz x k)=bx:=rfl
@[simp]theorem Xm{x:Nat}{k:P}{b:Bool}:isVar (.RB x k b)=bx:=rfl
@[simp]theorem aaQ{x:Nat}:isVar (.vw x)=bx:=rfl
@[simp]theorem RV{k e:Int}:isVar (.Ck k e)=bx:=rfl
@[simp]theorem ad6{kvs:List (Int×D)}:fr (.cR kvs)=aK:=rfl
@[simp]theorem abJ{r:List (List D)}:fr (.hold r)=aK:=rfl
@[simp]theorem YZ:uB .zP=Dv:=rfl
@[simp]theorem abZ:uB .din=zb aK:=rfl
@[simp]theorem aae{ks:List Int}{ds:List D}{k:Int}:Dv (.dv ks ds) (.int k)=(mD (ks.zip ds) k).map .val:=rfl
@[simp]theorem abY{ks:List Int}{ds:List D}{k:Int}:zb aK (.int k) (.dv ks ds)=aj (.val (.bl (ks.contains k))):=rfl
@[simp]theorem W8{ks:List Int}{ds:List D}:blt .keys [.dv ks ds]=aj (.val (.tup (ks.map D.int))):=rfl
@[simp]theorem abV{ks:List Int}{ds:List D}:blt .YG [.dv ks ds]=if ks.length<=16777216 then aj (.own (ks.map D.int))else bx:=rfl
@[simp]theorem acu{ds:List D}:blt .rvT [.lst ds]=aj (.val (.tup ds.reverse)):=rfl
@[simp]theorem Xr{kvs:List (Int×D)}{x:Option Sl}:eV (.cR kvs) x=.cR kvs:=by cases x<;>rfl
@[simp]theorem Tc{r:List (List D)}{x:Option Sl}:eV (.hold r) x=.hold r:=by cases x<;>rfl
structure HN(m:Int)(ws:List Wy):Prop where
 m0:2<=m
 m1:m<=7
 len:ws.length<=12
 ok:∀w∈ws,(0<=w.s/\w.s<m)/\(0<=w.t/\w.t<m)/\0<=w.h
theorem HN.of(h:cX m ws):HN m ws:=⟨h.m0,h.m1,h.len,λw c=>by have:=h.ok w c;exact⟨⟨this.s0,this.s1⟩,⟨this.t0,this.t1⟩,by have:=this.h0;omega⟩⟩
noncomputable abbrev aB:=Nat×Bool
variable{s:aB}{x:Nat×(Option aB×Int)}{o:Option aB×Int}{c:List aB}{cs:List (List aB×Int)}
noncomputable def sD(s:aB):D:=fU s.1 s.2
noncomputable def jZ(ws:List Wy)(fs:List Int)(p:Int)(s:aB):Bool:=match ws[s.1]?,fs[s.1]?with|some v,aj g=>decide (frm v s.2=p)&&decide (0<n6 v g s.2)|_,_=>aK
theorem lX{fs:List Int}(e:ws[s.1]?=aj v)(h:fs[s.1]?=aj g):jZ ws fs p s=(decide (frm v s.2=p)&&decide (0<n6 v g s.2)):=by unfold jZ;rw[e,h]
noncomputable def jC(ws:List Wy)(fs:List Int)(M:Nat)(l:List aB):List (List aB):=(dr M).map λ(p:Nat)=>l.filter (jZ ws fs (p:Int))
noncomputable def rD(l:List (List aB)):List (List D):=l.map λr=>r.map sD
noncomputable def iw(N:Nat):List aB:=(dr N).flatMap λj=>[(j,a_),(j,aK)]
theorem vJ:iw (N+1)=(iw N++[(N,a_)])++[(N,aK)]:=by simp[iw,range_succ]
theorem yW:(iw N).length=2*N:=by induction N with|zero=>rfl|succ N e=>rw[vJ];simp[e];omega
theorem UW(h:HN m ws)(e:ws[j]?=aj v)(f:Bool):0<=frm v f/\frm v f<m:=by have:=h.ok v (dV e);cases f<;>simp only[frm]<;>simp<;>omega
theorem Jj(h:HN m ws)(e:ws[j]?=aj v)(f:Bool):0<=too v f/\too v f<m:=by have:=h.ok v (dV e);cases f<;>simp only[too]<;>simp<;>omega
theorem J8{fs:List Int}{M:Nat}{l:List aB}(e:ws[s.1]?=aj v)(t:fs[s.1]?=aj g)(h:¬ 0<n6 v g s.2):jC ws fs M (l++[s])=jC ws fs M l:=by unfold jC;refine ia λp _=>?_;rw[l8];simp[lX e t,h]
theorem O7{fs:List Int}{l:List aB}(e:ws[s.1]?=aj v)(u:fs[s.1]?=aj g)(h:0<n6 v g s.2)(y:0<=frm v s.2/\frm v s.2<m)(E:l.length<1000):(∃row,rowAt (rD (jC ws fs m.toNat l)) (frm v s.2)=aj row)/\kh (rD (jC ws fs m.toNat l)) (frm v s.2) (λrow=>if row.length<lim then aj (row++[sD s])else bx)=aj (rD (jC ws fs m.toNat (l++[s]))):=by
 have t:(rD (jC ws fs m.toNat l)).length=m.toNat:=by simp[rD,jC]
 have A:ir (rD (jC ws fs m.toNat l)).length (frm v s.2)=aj (frm v s.2).toNat:=by unfold ir;rw[t,if_pos y.1,if_pos (by omega)]
 have B:(rD (jC ws fs m.toNat l))[(frm v s.2).toNat]?=aj ((l.filter (jZ ws fs (frm v s.2))).map sD):=by simp[rD,jC,show(frm v s.2).toNat<m.toNat by omega,iE y.1]
 refine⟨⟨_,by unfold rowAt;rw[A];exact B⟩,?_⟩;unfold kh;rw[A];show((rD (jC ws fs m.toNat l))[(frm v s.2).toNat]?).bind _=_;rw[B];have C:((l.filter (jZ ws fs (frm v s.2))).map sD).length<lim:=by have:=i_ (jZ ws fs (frm v s.2)) l;rw[dQ];show _<16777216;omega
 show Option.map _ (if _ then _ else _)=_;rw[if_pos C];show aj _=aj _;congr 1;refine ll (by simp[rD,jC]) λi G H=>?_;rw[List.getElem_set];by_cases c:(frm v s.2).toNat=i
 . rw[if_pos c];have:(i:Int)=frm v s.2:=by omega
   simp[rD,jC,this,l8,lX e u,h]
 . rw[if_neg c];have:¬ frm v s.2=(i:Int):=by omega
   simp[rD,jC,l8,lX e u,this]
inductive JOp(m:Int)(ws:List Wy)(fs:List Int)(s:Sl)(i:Nat)(ρ:List Sl):Prop where|mk(s3 s4:Sl)(q0:ρ=[.val aK (aR m ws),s,.hold (rD (jC ws fs m.toNat (iw i))),s3,s4])(q1:fr s3=a_)(q2:fr s4=a_)
inductive JOq(m:Int)(ws:List Wy)(fs:List Int)(s:Sl)(i:Nat)(r:List D)(ρ:List Sl):Prop where|mk(l us:List aB)(s4:Sl)(q0:ρ=[.val aK (aR m ws),s,.hold (rD (jC ws fs m.toNat l)),.val aK (.int i),s4])(q1:fr s4=a_)(q2:r=us.map sD)(q3:l++us=iw (i+1))(q4:∀u∈us,u.1=i)
inductive F1n(a b c d e:Sl)(ρ:List Sl):Prop where|mk(s:Sl)(q0:ρ=[a,b,c,d,e,s])(q1:fr s=a_)
theorem JK{s:Sl}{fs:List Int}(hs:QW s fs)(h:HN m ws)(X:fs.length=ws.length)(k:Q (.val (.lst ((rD (jC ws fs m.toNat (iw ws.length))).map D.lst))) [.val aK (aR m ws),s]):(run Γ w (n+2) 4 [.val aK (aR m ws),s]).sat Q:=by
 have Y:=h.len;have m0:=h.m0;have m1:=h.m1;refine aM (d:=f4) rfl rfl (by decide) ?_;refine dY (λρ=>ρ=[.val aK (aR m ws),s,.hold (rD (jC ws fs m.toNat (iw 0))),.aV,.aV]) ?_ ?_
 . simp[f4,show m<=1000000000 by omega,show-1000000000<=m by omega];refine⟨λ_=>?_,by omega⟩;rw[bB];refine sO (F1n _ _ _ _ _) (λ_=>[]) ⟨.aV,rfl,rfl⟩ ?_ ?_;.rintro d hd _⟨M,rfl,y⟩;simp[y];exact⟨_,rfl,rfl⟩
   .rintro _⟨M,rfl,y⟩;simp[rD,jC,iw]
 rintro _ rfl;refine dY (JOp m ws fs s ws.length) ?_ ?_
 . simp[show(ws.length:Int)<=1000000000 by omega];refine j8 (JOp m ws fs s) ?_ ?_ ⟨.aV,.aV,rfl,rfl,rfl⟩
   . rintro i _ hi⟨s3,s4,rfl,E,t⟩;have H:i<fs.length:=by omega
     have A:ws[i]?=aj ws[i]:=by simp[hi]
     have I:fs[i]?=aj fs[i]:=by simp[H]
     generalize ws[i]=v at*;generalize fs[i]=g at*;simp[E];apply ao;simp;refine cP (JOq m ws fs s i) ?_ ?_ ⟨iw i,[(i,a_),(i,aK)],s4,rfl,t,rfl,by rw[vJ];simp,by simp⟩;.rintro d r _⟨l,e,s4,rfl,t,hr,B,G⟩;cases e with|nil=>cases hr|cons u e=>
         obtain⟨rfl,rfl⟩:d=sD u/\r=e.map sD:=by simpa using hr
         obtain rfl:=G u (by simp);have C:(l++[u])++e=iw (u.1+1):=by rw[fN];exact B
         have J:l.length<1000:=by have:=congrArg kR B;rw[yW]at this;simp at this;omega
         simp[t];apply ao;rcases hs with rfl|⟨b,rfl⟩;all_goals
          simp[sD];refine uM (by first|exact .inl rfl|exact .inr ⟨_,rfl⟩) A I ?_;simp;refine⟨λho=>?_,λho=>?_⟩;.obtain⟨⟨row,O⟩,U⟩:=O7 (ws:=ws) (fs:=fs) (l:=l) A I ho (UW h A u.2) J;symm;simp;refine lY A ?_;simp[O];have W:kh (rD (jC ws fs m.toNat l)) (frm v u.2) (λrow=>if row.length<lim then aj (row++[fU u.1 u.2])else bx)=_:=U;rw[W];simp;exact⟨l++[u],e,_,rfl,rfl,rfl,C,λx L=>G x (by simp[L])⟩
          .exact⟨l++[u],e,_,by rw[J8 A I (by omega)],rfl,rfl,C,λx L=>G x (by simp[L])⟩
     . rintro _⟨l,e,s4,rfl,t,hr,B,G⟩;have:e=[]:=by cases e with|nil=>rfl|cons _ _=>cases hr
       subst this;rw[gE]at B;subst B;simp;exact⟨_,_,rfl,rfl,t⟩
   .rintro _⟨s3,s4,rfl,E,t⟩;exact⟨rfl,_,_,rfl,E,t⟩
 rintro _⟨s3,s4,rfl,E,t⟩;symm;simp;apply ao;simp;exact k
noncomputable abbrev En:=Int×Nat×(Option aB×Int)
variable{es vR:List En}
noncomputable def oS:Option aB->D|none=>.non|some s=>sD s
noncomputable def Aa(e:En):D:=.tup [.int e.2.2.2,.int (e.2.1:Int),oS e.2.2.1]
noncomputable def en(e:En):Int×D:=(e.1,Aa e)
noncomputable def iH(es:List En):D:=.dv (es.map (·.1)) (es.map Aa)
noncomputable def Bk(p:Int):Int×D:=(p,.bl a_)
@[simp]theorem Ss{l:List Int}:Gs (l.map Bk)=l:=by simp[Gs,Bk,io]
theorem Ag{l:List En}:Gs (l.map en)=l.map (·.1):=by simp[Gs,en,io]
theorem rB{l:List En}:o7 (l.map en) p=a_↔∃n o,(p,n,o)∈l:=by show(Gs (l.map en)).contains p=a_↔_;rw[Ag];simp
theorem kin_no{l:List En}(h:¬ ∃n o,(p,n,o)∈l):o7 (l.map en) p=aK:=by cases e:o7 (l.map en) p with|false=>rfl|true=>exact absurd (rB.mp e) h
theorem wQ{u:Type}{p:Int}{x y:u}:∀{l:List (Int×u)},(l.map (·.1)).Nodup->(p,x)∈l->(p,y)∈l->x=y
 |[],_,h,_=>by cases h|e::l,t,h1,h2=>by
   rw[da,eL]at t;rcases de.mp h1 with h1|h1<;>rcases de.mp h2 with h2|h2;.rw[<-h2]at h1;cases h1;rfl
   .exact absurd (cS.mpr ⟨_,h2,by rw[<-h1]⟩) t.1
   .exact absurd (cS.mpr ⟨_,h1,by rw[<-h2]⟩) t.1
   .exact wQ t.2 h1 h2
theorem qu{p:Int}{x:Nat×(Option aB×Int)}:∀{l:List En},(l.map (·.1)).Nodup->(p,x)∈l->mD (l.map en) p=aj (Aa (p,x))
 |[],_,h=>by cases h|e::l,t,h=>by
   have u:=t;rw[da,eL]at t;unfold mD;rw[da,gy];by_cases c:e.1=p;.obtain⟨q,y⟩:=e;cases c;have:=wQ u h (by simp:(q,y)∈(q,y)::l);subst this;simp[en]
   . have h':(p,x)∈l:=by
      rcases de.mp h with h|h;.exact absurd (by rw[<-h]) c
      .exact h
     simp[en,c];have:=qu t.2 h';unfold mD at this;simpa[en]using this
theorem mY{kvs:List (Int×D)}{d:D}(h:o7 kvs p=aK):gw kvs p d=kvs++[(p,d)]:=by
 unfold gw;rw[if_neg];intro t;obtain⟨x,u,e⟩:=i5.mp t;have:o7 kvs p=a_:=by show(kvs.map (·.1)).contains p=a_;rw[ja];exact cS.mpr ⟨x,u,by simpa using e⟩
 rw[this]at h;cases h
theorem zp{kvs:List (Int×D)}{d:D}(h:o7 kvs p=a_):gw kvs p d=kvs.map λe=>if e.1=p then(p,d)else e:=by
 unfold gw;rw[if_pos]
 . refine ia λe _=>?_;by_cases c:e.1=p;.simp[c]
   .simp[c]
 .have h':(kvs.map (·.1)).contains p=a_:=h;rw[ja]at h';obtain⟨x,t,e⟩:=cS.mp h';exact i5.mpr ⟨x,t,by simpa using e⟩
noncomputable def yo(p:Int)(x:Nat×(Option aB×Int))(e:En):En:=if e.1=p then(p,x)else e
noncomputable def ql(es:List En)(p:Int)(x:Nat×(Option aB×Int)):List En:=if p∈es.map (·.1)then es.map (yo p x)else es++[(p,x)]
noncomputable def sI(ch:List Int)(p:Int):List Int:=if p∈ch then ch else ch++[p]
theorem Qa:gw (es.map en) p (Aa (p,x))=(ql es p x).map en:=by
 have h:o7 (es.map en) p=a_↔p∈es.map (·.1):=by show(Gs (es.map en)).contains p=a_↔_;rw[Ag,ja]
 unfold ql;by_cases c:p∈es.map (·.1)
 . rw[if_pos c,zp (h.mpr c),ef,ef];refine ia λe _=>?_;show(if e.1=p then _ else _)=en (yo p x e);unfold yo;by_cases z:e.1=p;.rw[if_pos z,if_pos z];rfl
   .rw[if_neg z,if_neg z]
 .rw[if_neg c,mY (by cases e:o7 (es.map en) p with|false=>rfl|true=>exact absurd (h.mp e) c)];simp[en]
theorem Nr:gw (ch.map Bk) p (.bl a_)=(sI ch p).map Bk:=by
 have h:o7 (ch.map Bk) p=a_↔p∈ch:=by show(Gs (ch.map Bk)).contains p=a_↔_;rw[Ss,ja]
 unfold sI;by_cases c:p∈ch
 . rw[if_pos c,zp (h.mpr c),ef];refine ia λe _=>?_;show(if e=p then _ else _)=Bk e;by_cases z:e=p;.rw[if_pos z,z];rfl
   .rw[if_neg z]
 .rw[if_neg c,mY (by cases e:o7 (ch.map Bk) p with|false=>rfl|true=>exact absurd (h.mp e) c)];simp[Bk]
theorem yp{q:Int}:q∈sI ch p↔q∈ch\/q=p:=by
 unfold sI;split;.exact⟨.inl,λh=>h.elim id λe=>by rw[e];assumption⟩
 .simp
theorem Dw(h:ch.Nodup):(sI ch p).Nodup:=by
 unfold sI;split;.exact h
 .rename_i t;rw[kX];exact⟨h,by simp,λa u b y e=>t (by rw[<-dU.mp y,<-e];exact u)⟩
theorem FJ:(ql es p x).map (·.1)=sI (es.map (·.1)) p:=by
 unfold ql sI;split
 . rw[ef];refine ia λe _=>?_;show(yo p x e).1=e.1;unfold yo;split;.rename_i h;exact h.symm
   .rfl
 .simp
theorem gP{q:Int}{y:Nat×(Option aB×Int)}:(q,y)∈ql es p x↔(q=p/\y=x)\/(q≠p/\(q,y)∈es):=by
 unfold ql;split
 . rename_i t;obtain⟨E,u,A⟩:=cS.mp t;rw[cS];constructor
   . rintro⟨e,he,h⟩;unfold yo at h;split at h;.cases h;exact .inl ⟨rfl,rfl⟩
     .rename_i B;subst h;exact .inr ⟨B,he⟩
   . rintro(⟨rfl,rfl⟩|⟨h1,C⟩);.exact⟨E,u,by unfold yo;rw[if_pos A]⟩
     .exact⟨_,C,by unfold yo;rw[if_neg h1]⟩
 . rename_i t;rw[fk,dU];constructor
   . rintro(h|h);.refine .inr ⟨λe=>t ?_,h⟩;rw[<-e];exact cS.mpr ⟨_,h,rfl⟩
     .cases h;exact .inl ⟨rfl,rfl⟩
   . rintro(⟨rfl,rfl⟩|⟨_,C⟩);.exact .inr rfl
     .exact .inl C
theorem nD{h:Type}[BEq h][LawfulBEq h]:∀{l l2:List h},l.Nodup->(∀a∈l,a∈l2)->l.length<=l2.length
 |[],_,_,_=>um|a::l,l2,A,hs=>by
   have u:=hs a (by simp);have e:=eL.mp A;have:=nD (l:=l) (l2:=l2.erase a) e.2 λb y=>by
    have t:b≠a:=by rintro rfl;exact e.1 y
    exact(List.mem_erase_of_ne t).mpr (hs b (by simp[y]))
   rw[List.length_erase_of_mem u]at this;have:=List.length_pos_of_mem u;simp only[ei];omega
theorem six{l:List Int}(m1:m<=7)(e:l.Nodup)(h:∀p∈l,0<=p/\p<m):l.length<=7:=by
 have:=nD (l2:=[0,1,2,3,4,5,6]) e λq t=>by
  have:=h q t;have:q=0\/q=1\/q=2\/q=3\/q=4\/q=5\/q=6:=by omega
  simpa using this
 simpa using this
theorem lZ{fs:List Int}(h:jZ ws fs p s=a_):∃v g,ws[s.1]?=aj v/\fs[s.1]?=aj g/\frm v s.2=p/\0<n6 v g s.2:=by
 unfold jZ at h;split at h;.rename_i v g e t;simp at h;exact⟨v,g,e,t,h.1,h.2⟩
 .cases h
theorem yt(h:s.1<N):s∈iw N:=by unfold iw;rw[List.mem_flatMap];refine⟨s.1,by simp[h],?_⟩;obtain⟨j,f⟩:=s;cases f<;>simp
noncomputable def iy(ws:List Wy)(b:Int):List aB->Int->Prop|[],a=>a=b|s::c,a=>∃v,ws[s.1]?=aj v/\frm v s.2=a/\iy ws b c (too v s.2)
noncomputable def hst(ws:List Wy)(s:aB):Int:=match ws[s.1]?with|some v=>hsp v s.2|none=>0
theorem ie(e:ws[s.1]?=aj v):hst ws s=hsp v s.2:=by unfold hst;rw[e]
noncomputable def bW(ws:List Wy):List aB->Int|[]=>0|s::c=>hst ws s+bW ws c
theorem kO{ws:List Wy}{c2:List aB}:∀{c1:List aB},bW ws (c1++c2)=bW ws c1+bW ws c2|[]=>by simp[bW]|s::c=>by rw[kE,bW,kO,bW];omega
noncomputable def uq(ws:List Wy)(fs:List Int)(c:List aB):Prop:=∀s∈c,∃v,ws[s.1]?=aj v/\jZ ws fs (frm v s.2) s=a_
theorem iy.app{ws:List Wy}{b q:Int}{c2:List aB}(t:iy ws b c2 q):∀{c1:List aB}{a:Int},iy ws q c1 a->iy ws b (c1++c2) a|[],a,h=>by have:a=q:=h;rw[this];exact t|s::c,a,⟨v,e,u,h⟩=>⟨v,e,u,iy.app t h⟩
theorem CN{ws:List Wy}{b:Int}{c2:List aB}:∀{c1:List aB}{a:Int},iy ws b (c1++c2) a->∃q,iy ws q c1 a/\iy ws b c2 q|[],a,h=>⟨a,rfl,h⟩|s::c,a,⟨v,e,t,h⟩=>by obtain⟨q,h1,u⟩:=CN (c1:=c) h;exact⟨q,⟨v,e,t,h1⟩,u⟩
noncomputable def Pt(ws:List Wy)(fs:List Int)(F:Int->Int):Prop:=∀(s:aB)(v:Wy),ws[s.1]?=aj v->jZ ws fs (frm v s.2) s=a_->F (too v s.2)<=F (frm v s.2)+hsp v s.2
theorem jh{ws:List Wy}{fs:List Int}{F:Int->Int}(h:Pt ws fs F){b:Int}:∀{c:List aB}{a:Int},iy ws b c a->uq ws fs c->F b<=F a+bW ws c|[],a,t,_=>by have:a=b:=t;rw[this,bW];omega|s::c,a,⟨v,e,A,t⟩,ho=>by have h1:=jh h t λu B=>ho u (dI _ B);obtain⟨E,y,o⟩:=ho s (by simp);rw[e]at y;cases y;have C:=h s v e o;rw[A]at C;rw[bW,ie e];omega
noncomputable def rG(ws:List Wy)(s:aB):Int:=match ws[s.1]?with|some v=>too v s.2|none=>0
noncomputable def rK(ws:List Wy):List aB->Int->List Int|[],a=>[a]|s::c,a=>a::rK ws c (rG ws s)
theorem Em{ws:List Wy}:∀{c:List aB}{a:Int},(rK ws c a).length=c.length+1|[],_=>rfl|s::c,a=>by rw[rK,ei,Em];rfl
theorem Kw{m:Int}{ws:List Wy}{b:Int}(t:HN m ws):∀{c:List aB}{a:Int},iy ws b c a->0<=a/\a<m->∀q∈rK ws c a,0<=q/\q<m
 |[],a,_,h,q,hq=>by rw[rK,dU]at hq;rw[hq];exact h|s::c,a,⟨v,e,y,u⟩,h,q,hq=>by
   rw[rK,de]at hq;rcases hq with rfl|hq;.exact h
   . have:rG ws s=too v s.2:=by unfold rG;rw[e]
     rw[this]at hq;exact Kw t u (Jj t e s.2) q hq
theorem DR{ws:List Wy}{b q:Int}:∀{c:List aB}{a:Int},iy ws b c a->q∈rK ws c a->∃c1 c2,c=c1++c2/\iy ws q c1 a/\iy ws b c2 q
 |[],a,h,hq=>by rw[rK,dU]at hq;exact⟨[],[],rfl,hq.symm,by rw[hq];exact h⟩|s::c,a,h,hq=>by
   rw[rK,de]at hq;rcases hq with rfl|hq;.exact⟨[],s::c,rfl,rfl,h⟩
   . obtain⟨v,e,t,u⟩:=h;have:rG ws s=too v s.2:=by unfold rG;rw[e]
     rw[this]at hq;obtain⟨c1,c2,rfl,h1,y⟩:=DR u hq;exact⟨s::c1,c2,rfl,⟨v,e,t,h1⟩,y⟩
theorem Dt{ws:List Wy}{b:Int}:∀{c:List aB}{a:Int},iy ws b c a->¬(rK ws c a).Nodup->∃c1 c2 c3 q,c=c1++(c2++c3)/\0<c2.length/\iy ws q c1 a/\iy ws q c2 q/\iy ws b c3 q
 |[],a,_,h=>absurd (by simp[rK]) h|s::c,a,⟨v,e,u,y⟩,h=>by
   have B:rG ws s=too v s.2:=by unfold rG;rw[e]
   rw[rK,B,eL]at h;by_cases A:a∈rK ws c (too v s.2);.obtain⟨c1,c2,rfl,h1,t⟩:=DR y A;exact⟨[],s::c1,c2,a,rfl,by simp,rfl,⟨v,e,u,h1⟩,t⟩
   .obtain⟨c1,c2,c3,q,rfl,h0,h1,t,C⟩:=Dt y λz=>h ⟨A,z⟩;exact⟨s::c1,c2,c3,q,rfl,h0,⟨v,e,u,h1⟩,t,C⟩
noncomputable def Le(h:Int)(n:Nat)(h':Int)(e:Nat):Prop:=h<h'\/(h=h'/\n<=e)
theorem Le.refl{h:Int}:Le h n h n:=.inr ⟨rfl,dm⟩
theorem Le.trans{c:Int}{k:Nat}(h1:Le a k b l)(e:Le b l c n):Le a k c n:=by unfold Le at*;omega
theorem Le.add{k:Nat}(x:Int)(h1:Le a k b l):Le (a+x) (k+1) (b+x) (l+1):=by unfold Le at*;omega
theorem short{fs:List Int}(A:HN m ws)(h:Pt ws fs F)(B:0<=a/\a<m):∀(n:Nat){c:List aB},c.length<=n->iy ws b c a->uq ws fs c->∃e,iy ws b e a/\uq ws fs e/\e.length<=6/\Le (bW ws e) e.length (bW ws c) c.length/\(rK ws e a).Nodup:=by
 intro n;have done:∀{c:List aB},iy ws b c a->(rK ws c a).Nodup->c.length<=6:=λt u=>by have:=six A.m1 u (Kw A t B);rw[Em]at this;omega
 induction n with|zero=>intro c hc t ho;have:c=[]:=gX (by omega);subst this;exact⟨[],t,ho,by simp,.refl,by simp[rK]⟩|succ n C=>
   intro c hc t ho;by_cases u:(rK ws c a).Nodup;.exact⟨c,t,ho,done t u,.refl,u⟩
   .obtain⟨c1,c2,c3,q,rfl,h0,h1,E,G⟩:=Dt t u;have y:uq ws fs c2:=λs hs=>ho s (by simp[hs]);have hr:=jh h E y;simp only[ek]at hc;obtain⟨e,H,I,J,L,M⟩:=C (c:=c1++c3) (by simp only[ek];omega) (iy.app G h1) λs hs=>ho s (by rcases fk.mp hs with hs|hs<;>simp[hs]);refine⟨e,H,I,J,L.trans ?_,M⟩;rw[kO,kO,kO];simp only[ek];unfold Le;omega
structure GP(m:Int)(ws:List Wy)(fs:List Int)(bs:List (Int×Int))(es:List En):Prop where
 nd:(es.map (·.1)).Nodup
 inm:∀p l o,(p,l,o)∈es->0<=p/\p<m
 z:(0,0,(bx,0))∈es
 wk:∀p l o,(p,l,o)∈es->∃a b c,(a,b)∈bs/\iy ws p c a/\uq ws fs c/\c.length=l/\b+bW ws c=o.2
 stp:∀p l o,(p,l,o)∈es->(o.1=bx/\(p,o.2)∈bs/\l=0)\/∃(s:aB)(v:Wy)(l':Nat)(o':Option aB×Int),o.1=aj s/\ws[s.1]?=aj v/\too v s.2=p/\jZ ws fs (frm v s.2) s=a_/\(frm v s.2,l',o')∈es/\Le (o'.2+hsp v s.2) (l'+1) o.2 l
theorem GP.len{fs:List Int}{bs:List (Int×Int)}(h:GP m ws fs bs es)(m1:m<=7):es.length<=7:=by
 have:=six m1 h.nd λp e=>by obtain⟨⟨p,l,o⟩,he,rfl⟩:=cS.mp e;exact h.inm p l o he
 simpa using this
theorem jN{l:List En}{a b:Nat}{u:Option aB×Int}(e:(l.map (·.1)).Nodup)(h1:(p,a,o)∈l)(h:(p,b,u)∈l):a=b/\o=u:=by have:=wQ e h1 h;cases this;exact⟨rfl,rfl⟩
noncomputable def At(es:List En)(p h:Int)(n:Nat):Prop:=∃l o,(p,l,o)∈es/\Le o.2 l h n
theorem At.le{h h':Int}{e:Nat}(a:At es p h n)(z:Le h n h' e):At es p h' e:=by obtain⟨l,o,h1,t⟩:=a;exact⟨l,o,h1,t.trans z⟩
structure Wh(m:Int)(ws:List Wy)(fs:List Int)(bs:List (Int×Int))(n:Nat)(R:List Int)(es:List En):Prop where
 cm:GP m ws fs bs es
 row:∀p∈R,∃l o,(p,l,o)∈es
 nr:R.Nodup
 wl:∀a b c p,(a,b)∈bs->iy ws p c a->uq ws fs c->c.length<=n->At es p (b+bW ws c) c.length
 cl:∀l o(s:aB)v,ws[s.1]?=aj v->frm v s.2∉R->(frm v s.2,l,o)∈es->jZ ws fs (frm v s.2) s=a_->At es (too v s.2) (o.2+hsp v s.2) (l+1)few:7<=n->R=[]
structure In(m:Int)(ws:List Wy)(fs:List Int)(bs:List (Int×Int))(n:Nat)(R:List Int)(vR:List En)(K:aB->Prop)(es:List En)(ch:List Int):Prop where
 wh:Wh m ws fs bs n R vR
 cm:GP m ws fs bs es
 le:∀p l o,(p,l,o)∈vR->At es p o.2 l
 out:∀p l o,p∉ch->(p,l,o)∈es->(p,l,o)∈vR
 chg:∀p∈ch,∃l o,(p,l,o)∈es
 nc:ch.Nodup
 dn:∀s,K s->∀v,ws[s.1]?=aj v->∀l o,(frm v s.2,l,o)∈vR->At es (too v s.2) (o.2+hsp v s.2) (l+1)few:6<=n->ch=[]
theorem In.row{m:Int}{ws:List Wy}{fs:List Int}{bs:List (Int×Int)}{n:Nat}{R:List Int}{vR:List En}{K:aB->Prop}{es:List En}{ch:List Int}(h:In m ws fs bs n R vR K es ch){p:Int}(e:p∈R):∃l o,(p,l,o)∈es:=by obtain⟨l,o,z⟩:=h.wh.row p e;obtain⟨l,o,z,_⟩:=h.le _ _ _ z;exact⟨l,o,z⟩
theorem In.keep{fs:List Int}{bs:List (Int×Int)}{R:List Int}{K:aB->Prop}(h:In m ws fs bs n R vR K es ch)(e:ws[s.1]?=aj v)(A:(frm v s.2,l,o)∈es)(B:At es (too v s.2) (o.2+hsp v s.2) (l+1)):In m ws fs bs n R vR (λu=>K u\/u=s) es ch:=by
 refine⟨h.wh,h.cm,h.le,h.out,h.chg,h.nc,λu t=>?_,h.few⟩;rcases t with t|rfl;.exact h.dn u t
 .intro G y H I h0;rw[e]at y;cases y;obtain⟨J,L,C,E⟩:=h.le _ _ _ h0;obtain⟨rfl,rfl⟩:=jN h.cm.nd A C;exact B.le (E.add _)
theorem In.put{fs:List Int}{bs:List (Int×Int)}{R:List Int}{K:aB->Prop}(h:In m ws fs bs n R vR K es ch)(L:HN m ws)(hF:Pt ws fs F)(hb:∀a b,(a,b)∈bs->0<=a/\a<m)(hZ:∀a b c,(a,b)∈bs->iy ws 0 c a->uq ws fs c->0<=b+bW ws c)(e:ws[s.1]?=aj v)(M:(frm v s.2,l,o)∈es)(ho:jZ ws fs (frm v s.2) s=a_)(O:¬ At es (too v s.2) (o.2+hsp v s.2) (l+1)):In m ws fs bs n R vR (λu=>K u\/u=s) (ql es (too v s.2) (l+1,(aj s,o.2+hsp v s.2))) (sI ch (too v s.2)):=by
 have m0:=L.m0;obtain⟨E,b0,c,c0,c1,c2,c3,c4⟩:=h.cm.wk _ _ _ M;have H:iy ws (too v s.2) (c++[s]) E:=iy.app (c2:=[s]) ⟨v,e,rfl,rfl⟩ c1;have U:uq ws fs (c++[s]):=λu hu=>by
  rcases fk.mp hu with hu|hu;.exact c2 u hu
  .rw[dU.mp hu];exact⟨v,e,ho⟩
 have w3:(c++[s]).length=l+1:=by simp[c3]
 have W:b0+bW ws (c++[s])=o.2+hsp v s.2:=by rw[kO,<-c4,bW,bW,ie e];omega
 have A:(too v s.2,l+1,(aj s,o.2+hsp v s.2))∈ql es (too v s.2) (l+1,(aj s,o.2+hsp v s.2)):=gP.mpr (.inl ⟨rfl,rfl⟩);have mono:∀{q l2 t},(q,l2,t)∈es->At (ql es (too v s.2) (l+1,(aj s,o.2+hsp v s.2))) q t.2 l2:=λ{q l2 t}z=>by
  by_cases c:q=too v s.2;.subst c;refine⟨_,_,A,?_⟩;have:¬ Le t.2 l2 (o.2+hsp v s.2) (l+1):=λy=>O ⟨_,_,z,y⟩;unfold Le at this ⊢;simp only;omega
  .exact⟨l2,t,gP.mpr (.inr ⟨c,z⟩),.refl⟩
 have RK:∀{q h n},At es q h n->At (ql es (too v s.2) (l+1,(aj s,o.2+hsp v s.2))) q h n:=λ⟨l2,t,G,X⟩=>(mono G).le X;refine⟨h.wh,⟨by rw[FJ];exact Dw h.cm.nd,λp l o z=>?_,?_,λp l2 t z=>?_,λp l2 t z=>?_⟩,λp l o z=>RK (h.le p l o z),λp l o hc z=>?_,λp hc=>?_,Dw h.nc,λu hu=>?_,λh5=>?_⟩
 . rcases gP.mp z with⟨rfl,_⟩|⟨_,z⟩;.exact Jj L e s.2
   .exact h.cm.inm p l o z
 .refine gP.mpr (.inr ⟨λz=>O ?_,h.cm.z⟩);have:=hZ E b0 _ c0 (by rw[<-z]at H;exact H) U;rw[W]at this;rw[<-z];exact⟨_,_,h.cm.z,by unfold Le;simp only;omega⟩
 . rcases gP.mp z with⟨rfl,y⟩|⟨_,z⟩;.cases y;exact⟨E,b0,_,c0,H,U,w3,W⟩
   .exact h.cm.wk p l2 t z
 . rcases gP.mp z with⟨rfl,y⟩|⟨_,z⟩;.cases y;obtain⟨l',o',B,C⟩:=mono M;exact .inr ⟨s,v,l',o',rfl,e,rfl,ho,B,C.add _⟩
   . rcases h.cm.stp p l2 t z with z|⟨s',I,l',o',G,z3,z4,z5,z6,z7⟩;.exact .inl z
     .obtain⟨Y,Z,B,C⟩:=mono z6;exact .inr ⟨s',I,Y,Z,G,z3,z4,z5,B,(C.add _).trans z7⟩
 . rw[yp,not_or]at hc;rcases gP.mp z with⟨rfl,_⟩|⟨_,z⟩;.exact absurd rfl hc.2
   .exact h.out p l o hc.1 z
 . rcases yp.mp hc with hc|rfl;.obtain⟨l2,t,z⟩:=h.chg p hc;obtain⟨Y,Z,z,_⟩:=mono z;exact⟨Y,Z,z⟩
   .exact⟨_,_,A⟩
 . rcases hu with hu|rfl;.exact λI J l0 o0 h0=>RK (h.dn u hu I J l0 o0 h0)
   .intro I J l0 o0 h0;rw[e]at J;cases J;obtain⟨l1,o1,B,C⟩:=h.le _ _ _ h0;obtain⟨rfl,rfl⟩:=jN h.cm.nd M B;exact⟨_,_,A,C.add _⟩
 .obtain⟨c',B,C,q3,q4,_⟩:=short L hF (hb E b0 c0) _ (dm) H U;obtain⟨l1,o1,G,X⟩:=h.wh.wl E b0 c' _ c0 B C (by omega);rw[w3]at q4;refine absurd ((h.le _ _ _ G).le (X.trans ?_)) O;rw[<-W];unfold Le at q4 ⊢;omega
noncomputable def bE(p:Int×Int):En:=(p.1,0,(bx,p.2))
theorem Wh.start{fs:List Int}{bs:List (Int×Int)}(A:∀a b,(a,b)∈bs->0<=a/\a<m)(h0:(0,0)∈bs)(y:(bs.map (·.1)).Nodup):Wh m ws fs bs 0 (bs.map (·.1)) (bs.map bE):=by
 have B:(bs.map bE).map (·.1)=bs.map (·.1):=by rw[ef];rfl
 have un:∀{p l o},(p,l,o)∈bs.map bE->l=0/\o.1=bx/\(p,o.2)∈bs:=λ{p l o}z=>by obtain⟨⟨a,b⟩,h1,e⟩:=cS.mp z;cases e;exact⟨rfl,rfl,h1⟩
 have to:∀{a b},(a,b)∈bs->(a,0,(bx,b))∈bs.map bE:=λh=>cS.mpr ⟨_,h,rfl⟩;refine⟨⟨by rw[B];exact y,λp l o z=>A _ _ (un z).2.2,to h0,λp l o z=>?_,λp l o z=>.inl ⟨(un z).2.1,(un z).2.2,(un z).1⟩⟩,λp t=>?_,y,λa b c p u t _ hc=>?_,λl o s v _ C z=>?_,λh=>by omega⟩;.exact⟨p,o.2,[],(un z).2.2,rfl,λs hs=>(by cases hs),(un z).1.symm,by rw[bW];omega⟩
 .obtain⟨⟨a,b⟩,h1,rfl⟩:=cS.mp t;exact⟨_,_,to h1⟩
 .cases c with|nil=>have:a=p:=t;subst this;exact⟨0,(bx,b),to u,by unfold Le bW;simp⟩|cons _ _=>simp at hc
 .exact absurd (cS.mpr ⟨_,(un z).2.2,rfl⟩) C
theorem Wh.to{fs:List Int}{bs:List (Int×Int)}{R:List Int}(h:Wh m ws fs bs n R es):In m ws fs bs n R es (λ_=>False) es []:=⟨h,h.cm,λp l o z=>⟨l,o,z,.refl⟩,λp l o _ z=>z,λp e=>(by cases e),.nil,λs hs=>hs.elim,λ_=>rfl⟩
theorem In.out'{fs:List Int}{bs:List (Int×Int)}{R:List Int}(h:In m ws fs bs n R vR (λs=>∃p∈R,jZ ws fs p s=a_) es ch):Wh m ws fs bs (n+1) ch es:=by
 have t:∀{p h' k},At vR p h' k->At es p h' k:=λ⟨l,o,A,B⟩=>(h.le _ _ _ A).le B;have G:∀(s:aB)v l o,ws[s.1]?=aj v->(frm v s.2,l,o)∈vR->jZ ws fs (frm v s.2) s=a_->At es (too v s.2) (o.2+hsp v s.2) (l+1):=λs v l o e z ho=>by
  by_cases c:frm v s.2∈R;.exact h.dn s ⟨_,c,ho⟩ v e l o z
  .exact t (h.wh.cl l o s v e c z ho)
 refine⟨h.cm,h.chg,h.nc,λa b c p y H ho hc=>?_,λl o s v e hc z hs=>G s v l o e (h.out _ _ _ hc z) hs,λO=>h.few (by omega)⟩;rcases ol c with rfl|⟨C,s,rfl⟩;.exact t (h.wh.wl a b [] p y H ho (um))
 . rw[oo]at*;obtain⟨q,h1,v,e,rfl,E⟩:=CN H;have E:too v s.2=p:=E;subst E;obtain⟨U,I,J⟩:=ho s (by simp);rw[e]at I;cases I;simp only[ek,ei,length_nil]at hc;obtain⟨l,o,A,B⟩:=h.wh.wl a b C _ y h1 (λu L=>ho u (by simp[L])) (by omega);refine(G s v l o e A J).le ?_;have:=B.add (hsp v s.2);have M:bW ws (C++[s])=bW ws C+hsp v s.2:=by rw[kO,bW,bW,ie e];omega
   rw[M,<-Int.add_assoc];simpa using this
structure rY(m:Int)(ws:List Wy)(fs:List Int)(bs:List (Int×Int))(es:List En):Prop where
 cm:GP m ws fs bs es
 cl:∀l o(s:aB)v,ws[s.1]?=aj v->(frm v s.2,l,o)∈es->jZ ws fs (frm v s.2) s=a_->At es (too v s.2) (o.2+hsp v s.2) (l+1)bg:∀a b,(a,b)∈bs->At es a b 0
theorem Wh.fin{fs:List Int}{bs:List (Int×Int)}(h:Wh m ws fs bs n [] es):rY m ws fs bs es:=⟨h.cm,λl o s v e z ho=>h.cl l o s v e (by simp) z ho,λa b t=>by have:=h.wl a b [] a t rfl (λs hs=>by cases hs) (um);simpa[bW]using this⟩
noncomputable abbrev Cme(m:Int)(ws:List Wy)(fs:List Int)(es:List En):Prop:=GP m ws fs [(0,0)] es
noncomputable abbrev jk(m:Int)(ws:List Wy)(fs:List Int)(es:List En):Prop:=rY m ws fs [(0,0)] es
theorem In.imp{fs:List Int}{bs:List (Int×Int)}{R:List Int}{K e:aB->Prop}(h:In m ws fs bs n R vR K es ch)(z:∀s,e s->K s):In m ws fs bs n R vR e es ch:=⟨h.wh,h.cm,h.le,h.out,h.chg,h.nc,λs hs=>h.dn s (z s hs),h.few⟩
theorem Uo{fs:List Int}{l:List aB}(e:0<=p/\p<m):at' ((rD (jC ws fs m.toNat l)).map D.lst) p=aj (.lst ((l.filter (jZ ws fs p)).map sD)):=by rw[tH e.1 (by simp[rD,jC];omega)];simp[rD,jC,show p.toNat<m.toNat by omega,iE e.1]
@[simp]theorem cut3{a b c:D}:Ms (.tup [a,b,c]) (part (.con .non) .non) (part (.con (.int 2)) (.int 2))=aj (.val (.tup [a,b])):=rfl
theorem Vy{j:Int}:cm .lt (.tup [.int a,.int i]) (.tup [.int b,.int j])=aj (bI [a,i] [b,j]):=rfl
theorem lex_lt{i:Nat}:bI [a,(i:Int)] [b,(j:Int)]=a_↔¬ Le b j a i:=by unfold Le;simp[bI];omega
noncomputable def u6(bs:List (Int×Int)):Sl:=.val aK (.dv (bs.map (·.1)) (bs.map λp=>.int p.2))
noncomputable abbrev bg:Sl:=u6 [(0,0)]
inductive JC2(m:Int)(ws:List Wy)(fs:List Int)(bs:List (Int×Int))(a0 a1 a2 a3 a6:Sl)(n:Nat)(R:List Int)(vR:List En)(pre:List Int)(p:Int)(r:List D)(ρ:List Sl):Prop where|mk(es:List En)(ch:List Int)(cI us:List aB)(s8 s9 ju:Sl)(q0:ρ=[a0,a1,a2,a3,.cR (es.map en),.val aK (.int p),a6,.cR (ch.map Bk),s8,s9,ju])(q1:A3 (fr s8=a_) (fr s9=a_) (fr ju=a_))(q2:r=us.map sD)(q3:cI++us=(iw ws.length).filter (jZ ws fs p))(q4:In m ws fs bs n R vR (λs=>(∃q∈pre,jZ ws fs q s=a_)\/s∈cI) es ch)
inductive JC1(m:Int)(ws:List Wy)(fs:List Int)(bs:List (Int×Int))(a0 a1 a2 a3 a6:Sl)(n:Nat)(R:List Int)(vR:List En)(r:List D)(ρ:List Sl):Prop where|mk(es:List En)(ch pre qs:List Int)(s5 s8 s9 ju:Sl)(q0:ρ=[a0,a1,a2,a3,.cR (es.map en),s5,a6,.cR (ch.map Bk),s8,s9,ju])(q1:A4 (fr s5=a_) (fr s8=a_) (fr s9=a_) (fr ju=a_))(q2:r=qs.map D.int)(q3:pre++qs=R)(q4:In m ws fs bs n R vR (λs=>∃q∈pre,jZ ws fs q s=a_) es ch)
inductive JCw(m:Int)(ws:List Wy)(fs:List Int)(bs:List (Int×Int))(a0 a1 a2 a3:Sl)(M:Nat)(ρ:List Sl):Prop where|mk(n:Nat)(R:List Int)(es:List En)(s5 s7 s8 s9 ju:Sl)(q0:ρ=[a0,a1,a2,a3,.cR (es.map en),s5,.own aK (R.map D.int),s7,s8,s9,ju])(q1:A4 (fr s5=a_) (fr s8=a_) (fr s9=a_) (fr ju=a_))(q2:(s7=.aV\/∃d,s7=.val aK d))(q3:Wh m ws fs bs n R es)(q4:8<=n+M)
inductive JC0(a0 a1 a2 a3:Sl)(bs:List (Int×Int))(r:List D)(ρ:List Sl):Prop where|mk(cI us:List (Int×Int))(s5:Sl)(q0:ρ=[a0,a1,a2,a3,.cR ((cI.map bE).map en),s5,.aV,.aV,.aV,.aV,.aV])(q1:fr s5=a_)(q2:r=(us.map (·.1)).map D.int)(q3:cI++us=bs)
theorem Dr{a b:Int}:∀{bs:List (Int×Int)},(bs.map (·.1)).Nodup->(a,b)∈bs->mD ((bs.map (·.1)).zip (bs.map λp=>D.int p.2)) a=aj (.int b)
 |[],_,h=>by cases h|p::bs,e,h=>by
   rw[da,eL]at e;unfold mD;rw[da,da,List.zip_cons_cons,gy];rcases de.mp h with h|h;.subst h;simp
   .have t:p.1≠a:=λz=>e.1 (by rw[z];exact cS.mpr ⟨_,h,rfl⟩);have:=Dr e.2 h;unfold mD at this;simpa[t]using this
theorem oW{s:Sl}{fs:List Int}{bs:List (Int×Int)}(hw:100<=w)(hF:Pt ws fs F)(hb:∀a b,(a,b)∈bs->0<=a/\a<m)(h0:(0,0)∈bs)(J:(bs.map (·.1)).Nodup)(hZ:∀a b c,(a,b)∈bs->iy ws 0 c a->uq ws fs c->0<=b+bW ws c)(hs:QW s fs)(h:HN m ws)(hf:fs.length=ws.length)(k:∀es,rY m ws fs bs es->Q (.val (iH es)) [.val aK (aR m ws),s,u6 bs]):(run Γ w (n+3) 5 [.val aK (aR m ws),s,u6 bs]).sat Q:=by
 have hn:=h.len;have m0:=h.m0;have m1:=h.m1;refine aM (d:=f5) rfl rfl (by decide) ?_;refine dY (λρ=>ρ=[.val aK (aR m ws),s,u6 bs,.val aK (.lst ((rD (jC ws fs m.toNat (iw ws.length))).map D.lst)),.aV,.aV,.aV,.aV,.aV,.aV,.aV]) ?_ ?_;.have aw:=hs;rcases hs with rfl|⟨b,rfl⟩;all_goals simp[f5,u6];refine JK (by first|exact .inl rfl|exact .inr ⟨_,rfl⟩) h hf ?_;simp
 rintro _ rfl;generalize hA:((rD (jC ws fs m.toNat (iw ws.length))).map D.lst)=A;have ax:bs.length<=7:=by
  have:=six m1 J λp hp=>by obtain⟨⟨a,b⟩,h1,rfl⟩:=cS.mp hp;exact hb a b h1
  simpa using this
 apply ao;simp;apply ao;simp[u6];refine cP (JC0 (.val aK (aR m ws)) s (u6 bs) (.val aK (.lst A)) bs) ?_ ?_ ⟨[],bs,.aV,rfl,rfl,by rw[ef],rfl⟩;.rintro d r _⟨G,C,s5,rfl,U,hr,hd⟩;cases C with|nil=>cases hr|cons u C=>
     obtain⟨rfl,rfl⟩:d=.int u.1/\r=(C.map (·.1)).map D.int:=by simpa using hr
     have al:(G++[u])++C=bs:=by rw[fN];exact hd
     have hg:=Dr (a:=u.1) (b:=u.2) J (by rw[<-hd];simp);have hk:o7 ((G.map bE).map en) u.1=aK:=kin_no λ⟨l,o,z⟩=>by obtain⟨⟨a,b⟩,h1,e⟩:=cS.mp z;cases e;rw[<-hd,gN,kX]at J;exact J.2.2 u.1 (cS.mpr ⟨_,h1,rfl⟩) u.1 (by simp) rfl
     have hp:gw ((G.map bE).map en) u.1 (.tup [.int u.2,.int 0,.non])=((G++[u]).map bE).map en:=by rw[mY hk,gN,gN];rfl
     have ay:G.length<=bs.length:=by rw[<-hd];simp
     simp[U];apply ao;rw[ef]at hp;simp[u6,hg];refine⟨λ_=>⟨G++[u],C,.val aK (.int u.1),by rw[hp],rfl,(ef ..).symm,al⟩,by show _<16777216;omega⟩
 rintro _⟨G,C,s5,rfl,U,hr,hd⟩;have:C=[]:=by cases C with|nil=>rfl|cons _ _=>cases hr
 subst this;rw[gE]at hd;obtain rfl:bs=G:=hd.symm;simp;apply ao;simp[u6,show bs.length<=16777216 by omega];apply ao;simp;rw[show map (en ∘ bE) bs=(bs.map bE).map en from(ef ..).symm,show map (D.int ∘ λx=>x.1) bs=(bs.map (·.1)).map D.int from(ef ..).symm];refine j7 (JCw m ws fs bs _ _ _ _) ?_ (k:=w) (m:=50) (by omega) ⟨0,bs.map (·.1),bs.map bE,s5,.aV,.aV,.aV,.aV,rfl,⟨U,rfl,rfl,rfl⟩,.inl rfl,Wh.start hb h0 J,by omega⟩;rintro M _⟨n',R,es,s5,s7,s8,s9,ju,rfl,⟨U,W,X,E⟩,h7,hW,hM⟩;by_cases hR:R=[];.subst hR;simp;apply ao;simp;have:=k es hW.fin;simp[io,en];exact this
 . have am:0<R.length:=by cases R with|nil=>exact absurd rfl hR|cons _ _=>simp
   simp[am];refine dY (λρ=>ρ=[.val aK (aR m ws),s,u6 bs,.val aK (.lst A),.cR (es.map en),s5,.own aK (R.map D.int),.cR [],s8,s9,ju]) ?_ ?_
   . rcases h7 with rfl|⟨d,rfl⟩;.simp[u6]
     .simp[u6]
   rintro _ rfl;symm;simp;refine cP (JC1 m ws fs bs _ _ _ _ _ n' R es) ?_ ?_ ⟨es,[],[],R,s5,s8,s9,ju,rfl,⟨U,W,X,E⟩,rfl,rfl,hW.to.imp λs hs=>by obtain⟨q,hq,_⟩:=hs;cases hq⟩;.rintro d r _⟨t,ch,pre,qs,s5,s8,s9,ju,rfl,⟨U,W,X,E⟩,hr,L,B⟩;cases qs with|nil=>cases hr|cons p qs=>
       obtain⟨rfl,rfl⟩:d=.int p/\r=qs.map D.int:=by simpa using hr
       have af:p∈R:=by rw[<-L];simp
       have ap:0<=p/\p<m:=by obtain⟨l,o,ho⟩:=B.row af;exact B.cm.inm _ _ _ ho
       have Z:=Uo (ws:=ws) (fs:=fs) (l:=iw ws.length) ap;rw[hA]at Z;simp[U];apply ao;simp[Z];refine cP (JC2 m ws fs bs _ _ _ _ _ n' R es pre p) ?_ ?_ ⟨t,ch,[],_,s8,s9,ju,rfl,⟨W,X,E⟩,rfl,rfl,B.imp λs hs=>by rcases hs with hs|hs;exact hs;cases hs⟩;.rintro d r _⟨t,ch,G,C,s8,s9,ju,rfl,⟨W,X,E⟩,hr,O,B⟩;cases C with|nil=>cases hr|cons u C=>
           obtain⟨rfl,rfl⟩:d=sD u/\r=C.map sD:=by simpa using hr
           have hu:jZ ws fs p u=a_:=by
            have:u∈(iw ws.length).filter (jZ ws fs p):=by rw[<-O];simp
            exact(hB.mp this).2
           obtain⟨v,g,e1,e2,e3,e4⟩:=lZ hu;have ag:(G++[u])++C=(iw ws.length).filter (jZ ws fs p):=by rw[fN];exact O
           obtain⟨I,op,ac⟩:=B.row af;subst e3;have gp:=qu B.cm.nd ac;have av:=B.cm.len m1;have ar:ch.length<=7:=six m1 B.nc λq hq=>by obtain⟨l,o,z⟩:=B.chg q hq;exact B.cm.inm _ _ _ z
           have ah:∀s,((∃q∈pre,jZ ws fs q s=a_)\/s∈G++[u])->((∃q∈pre,jZ ws fs q s=a_)\/s∈G)\/s=u:=λs hs=>by
            rcases hs with hs|hs;.exact .inl (.inl hs)
            . rcases fk.mp hs with hs|hs;.exact .inl (.inr hs)
              .exact .inr (by simpa using hs)
           simp[W];apply ao;simp[sD];refine lY e1 ?_;simp[X];apply ao;simp[gp,Aa];refine uX e1 ?_;simp[gp,Aa,E];apply ao;have keep:At t (too v u.2) (op.2+hsp v u.2) (I+1)->JC2 m ws fs bs (.val aK (aR m ws)) s (u6 bs) (.val aK (.lst A)) (.lent (R.map D.int)) n' R es pre (frm v u.2) (C.map sD) [.val aK (aR m ws),s,u6 bs,.val aK (.lst A),.cR (t.map en),.val aK (.int (frm v u.2)),.lent (R.map D.int),.cR (ch.map Bk),.val aK (fU u.1 u.2),.val aK (.int (too v u.2)),.val aK (.tup [.int (op.2+hsp v u.2),.int ((I:Int)+1)])]:=λH=>⟨t,ch,G++[u],C,_,_,_,rfl,⟨rfl,rfl,rfl⟩,rfl,ag,(B.keep e1 ac H).imp ah⟩;have ai:¬ At t (too v u.2) (op.2+hsp v u.2) (I+1)->JC2 m ws fs bs (.val aK (aR m ws)) s (u6 bs) (.val aK (.lst A)) (.lent (R.map D.int)) n' R es pre (frm v u.2) (C.map sD) [.val aK (aR m ws),s,u6 bs,.val aK (.lst A),.cR ((ql t (too v u.2) (I+1,(aj u,op.2+hsp v u.2))).map en),.val aK (.int (frm v u.2)),.lent (R.map D.int),.cR ((sI ch (too v u.2)).map Bk),.val aK (fU u.1 u.2),.val aK (.int (too v u.2)),.val aK (.tup [.int (op.2+hsp v u.2),.int ((I:Int)+1)])]:=λH=>⟨_,_,G++[u],C,_,_,_,rfl,⟨rfl,rfl,rfl⟩,rfl,ag,(B.put h hF hb hZ e1 ac hu H).imp ah⟩;have p1:gw (t.map en) (too v u.2) (.tup [.int (op.2+hsp v u.2),.int ((I:Int)+1),fU u.1 u.2])=(ql t (too v u.2) (I+1,(aj u,op.2+hsp v u.2))).map en:=by rw[<-Qa];simp[Aa,oS,sD]
           have p2:gw (ch.map Bk) (too v u.2) (.bl a_)=(sI ch (too v u.2)).map Bk:=Nr;by_cases hq:∃l o,(too v u.2,l,o)∈t
           . obtain⟨l,o,Y⟩:=hq;have gt:=qu B.cm.nd Y;have kt:o7 (t.map en) (too v u.2)=a_:=rB.mpr ⟨l,o,Y⟩;have ae:=lex_lt (a:=op.2+hsp v u.2) (i:=I+1) (b:=o.2) (j:=l);rw[show((I+1:Nat):Int)=(I:Int)+1 by omega]at ae;simp[kt,gt,Aa,Vy];refine⟨λz=>?_,λz=>?_⟩
             . have H:¬ At t (too v u.2) (op.2+hsp v u.2) (I+1):=λ⟨l2,o2,y1,y2⟩=>by obtain⟨rfl,rfl⟩:=jN B.cm.nd Y y1;exact ae.mp z y2
               symm;simp[p1];refine⟨by decide,λ_=>?_,by show _<16777216;omega⟩;symm;simp[p2];refine⟨λ_=>ai H,by show _<16777216;omega⟩
             . have H:At t (too v u.2) (op.2+hsp v u.2) (I+1):=by
                refine⟨l,o,Y,?_⟩;by_cases y:Le o.2 l (op.2+hsp v u.2) (I+1);.exact y
                .rw[ae.mpr y]at z;cases z
               exact keep H
           .have kt:o7 (t.map en) (too v u.2)=aK:=kin_no hq;simp[kt];apply ao;simp[p1];refine⟨by decide,λ_=>?_,by show _<16777216;omega⟩;symm;simp[p2];exact⟨λ_=>ai λ⟨l2,o2,y1,_⟩=>hq ⟨l2,o2,y1⟩,by show _<16777216;omega⟩
       . rintro _⟨t,ch,G,C,s8,s9,ju,rfl,⟨W,X,E⟩,hr,O,B⟩;have:C=[]:=by cases C with|nil=>rfl|cons _ _=>cases hr
         subst this;rw[gE]at O;simp;refine⟨t,ch,pre++[p],qs,_,_,_,_,rfl,⟨rfl,W,X,E⟩,rfl,by rw[fN];exact L,B.imp λs hs=>?_⟩;obtain⟨q,hq,hs⟩:=hs;rcases fk.mp hq with hq|hq;.exact .inl ⟨q,hq,hs⟩
         . obtain rfl:q=p:=by simpa using hq
           refine .inr ?_;rw[O];obtain⟨v,g,e1,_⟩:=lZ hs;exact hB.mpr ⟨yt (eY e1).1,hs⟩
   . rintro _⟨t,ch,pre,qs,s5,s8,s9,ju,rfl,⟨U,W,X,E⟩,hr,L,B⟩;have:qs=[]:=by cases qs with|nil=>rfl|cons _ _=>cases hr
     subst this;rw[gE]at L;subst L;have ar:ch.length<=7:=six m1 B.nc λq hq=>by obtain⟨l,o,z⟩:=B.chg q hq;exact B.cm.inm _ _ _ z
     have hO:=B.out';have aE:n'<7:=by
      by_cases c:7<=n';.exact absurd (hW.few c) hR
      .omega
     simp;apply ao;simp[show ch.length<=16777216 by omega];exact⟨M-1,by omega,n'+1,ch,t,_,_,_,_,_,rfl,⟨U,W,X,E⟩,.inr ⟨_,rfl⟩,hO,by omega⟩
theorem zF{s:Sl}{fs:List Int}(u:100<=w)(t:Pt ws fs F)(hs:QW s fs)(h:HN m ws)(y:fs.length=ws.length)(k:∀es,jk m ws fs es->Q (.val (iH es)) [.val aK (aR m ws),s,bg]):(run Γ w (n+3) 5 [.val aK (aR m ws),s,bg]).sat Q:=by
 have m0:=h.m0;have one:∀{a b:Int},(a,b)∈[((0:Int),(0:Int))]->a=0/\b=0:=λe=>by have:=dU.mp e;cases this;exact⟨rfl,rfl⟩
 refine oW u t (λa b e=>by obtain⟨rfl,rfl⟩:=one e;omega) (by simp) (by simp) (λa b c e A ho=>?_) hs h y k;obtain⟨rfl,rfl⟩:=one e;have:=jh t A ho;omega
theorem jk.all{m:Int}{ws:List Wy}{fs:List Int}{es:List En}(h:jk m ws fs es){b:Int}:∀{c:List aB}{a:Int}{l:Nat}{o:Option aB×Int},iy ws b c a->uq ws fs c->(a,l,o)∈es->At es b (o.2+bW ws c) (l+c.length)|[],a,l,o,t,_,z=>by have:a=b:=t;subst this;exact⟨l,o,z,by unfold Le bW;simp⟩|s::c,a,l,o,⟨v,e,A,t⟩,ho,z=>by subst A;obtain⟨J,y,B⟩:=ho s (by simp);rw[e]at y;cases y;obtain⟨L,M,C,O⟩:=h.cl l o s v e z B;obtain⟨l2,E,G,H⟩:=jk.all h t (λu I=>ho u (dI _ I)) C;refine⟨l2,E,G,H.trans ?_⟩;rw[bW,ie e,ei];unfold Le at*;omega
theorem jk.l5{fs:List Int}(h:jk m ws fs es)(t:HN m ws)(u:Pt ws fs F)(z:(p,l,o)∈es):l<=6:=by
 have m0:=t.m0;obtain⟨a,b,c,e,c1,c2,c3,c4⟩:=h.cm.wk p l o z;obtain⟨rfl,rfl⟩:a=0/\b=0:=by have:=dU.mp e;cases this;exact⟨rfl,rfl⟩
 obtain⟨G,y,A,H,B,_⟩:=short t u ⟨by omega,by omega⟩ _ (dm) c1 c2;obtain⟨l2,I,C,E⟩:=h.all y A h.cm.z;obtain⟨rfl,rfl⟩:=jN h.cm.nd z C;rw[Int.zero_add]at c4;rw[c3,c4]at B;unfold Le at*;simp only at E;omega
theorem jk.on{fs:List Int}(h:jk m ws fs es)(z:(p,l,o)∈es):(o=(bx,0)/\p=0/\l=0)\/∃(s:aB)(v:Wy)(t:Nat)(e:Option aB×Int),o=(aj s,e.2+hsp v s.2)/\l=t+1/\ws[s.1]?=aj v/\too v s.2=p/\jZ ws fs (frm v s.2) s=a_/\(frm v s.2,t,e)∈es:=by
 rcases h.cm.stp p l o z with⟨h1,u,rfl⟩|⟨s,v,t,e,h1,y,rfl,A,B,E⟩
 . obtain⟨rfl,_⟩:p=0/\o.2=0:=by have:=dU.mp u;exact⟨congrArg Prod.fst this,congrArg Prod.snd this⟩
   exact .inl ⟨(jN h.cm.nd z h.cm.z).2,rfl,rfl⟩
 . obtain⟨l2,G,C,H⟩:=h.cl t e s v y B A;obtain⟨rfl,rfl⟩:=jN h.cm.nd z C;refine .inr ⟨s,v,t,e,?_,?_,y,rfl,A,B⟩;.exact Prod.ext_iff.mpr ⟨h1,by show _=e.2+hsp v s.2;unfold Le at*;omega⟩
   .unfold Le at*;omega
structure QM(ws:List Wy)(fs:List Int)(es:List En)(p:Int)(L:Nat)(H:Int)(a:Int)(l:Nat)(h:Int)(c:List aB):Prop where
 Lz:iy ws p c a
 jC:uq ws fs c
 nd:(c.map (·.1)).Nodup
 lv:∀s∈c,∀v,ws[s.1]?=aj v->∃l1 o1 o2,(frm v s.2,l1,o1)∈es/\(too v s.2,l1+1,o2)∈es/\l<=l1
 len:c.length+l=L
 hrs:bW ws c+h=H
theorem kI{g:Bool}(h:g≠f):frm v g=too v f/\too v g=frm v f:=by cases f<;>cases g<;>first|exact absurd rfl h|exact⟨rfl,rfl⟩
theorem QM.cons{m:Int}{ws:List Wy}{fs:List Int}{es:List En}{p:Int}{L l:Nat}{H x:Int}{c:List aB}{s:aB}{v:Wy}{o I:Option aB×Int}(hc:Cme m ws fs es)(h:QM ws fs es p L H (too v s.2) (l+1) (x+hsp v s.2) c)(e:ws[s.1]?=aj v)(h1:(too v s.2,l+1,o)∈es)(B:(frm v s.2,l,I)∈es)(ho:jZ ws fs (frm v s.2) s=a_):QM ws fs es p L H (frm v s.2) l x (s::c):=by
 refine⟨⟨v,e,rfl,h.Lz⟩,λu hu=>?_,?_,λu hu x ex=>?_,by have:=h.len;simp only[ei];omega,by have:=h.hrs;rw[bW,ie e];omega⟩
 . rcases de.mp hu with rfl|hu;.exact⟨v,e,ho⟩
   .exact h.jC u hu
 . rw[da,eL];refine⟨λJ=>?_,h.nd⟩;obtain⟨t,ht,M⟩:=cS.mp J;obtain⟨C,E,G,y,A,O⟩:=h.lv t ht v (by rw[M];exact e);by_cases z:t.2=s.2;.rw[z]at y;have:=(jN hc.nd y B).1;omega
   .rw[(kI z).2]at A;have:=(jN hc.nd A B).1;omega
 . rcases de.mp hu with rfl|hu;.rw[e]at ex;cases ex;exact⟨l,_,_,B,h1,dm⟩
   .obtain⟨C,E,G,y,A,O⟩:=h.lv u hu x ex;exact⟨C,E,G,y,A,by omega⟩
theorem rC(e:(es.map (·.1)).Nodup)(h:(p,x)∈es):mD ((es.map (·.1)).zip (es.map Aa)) p=aj (Aa (p,x)):=by
 have:(es.map (·.1)).zip (es.map Aa)=es.map en:=by rw[List.zip_map'];rfl
 rw[this];exact qu e h
inductive JSt(m:Int)(ws:List Wy)(fs:List Int)(es:List En)(p:Int)(L:Nat)(H:Int)(a0 a1 a2:Sl)(M:Nat)(ρ:List Sl):Prop where|mk(a:Int)(l:Nat)(o:Option aB×Int)(c:List aB)(s5:Sl)(q0:ρ=[a0,a1,a2,.own aK (c.reverse.map sD),.val aK (.int a),s5])(q1:fr s5=a_)(q2:(a,l,o)∈es)(q3:QM ws fs es p L H a l o.2 c)(q4:l<=M)
theorem Gp{L:Nat}{fs:List Int}(H:100<=w)(h:jk m ws fs es)(I:L<=6)(C:(p,L,o)∈es)(k:∀c,QM ws fs es p L o.2 0 0 0 c->Q (.val (.tup (c.map sD))) [.val aK (aR m ws),.val aK (iH es),.val aK (.int p)]):(run Γ w (n+2) 6 [.val aK (aR m ws),.val aK (iH es),.val aK (.int p)]).sat Q:=by
 refine aM (d:=f6) rfl rfl (by decide) ?_;symm;simp[f6];apply ao;simp;apply ao;simp;refine j7 (JSt m ws fs es p L o.2 _ _ _) ?_ (k:=w) (m:=L) (by omega) ⟨p,L,o,[],.aV,rfl,rfl,C,⟨rfl,λs hs=>(by cases hs),by simp,by simp,by simp,by rw[bW];omega⟩,dm⟩;rintro M _⟨a,l,J,c,s5,rfl,E,t,hc,O⟩;have u:=rC h.cm.nd t;rcases h.on t with⟨rfl,rfl,rfl⟩|⟨s,v,A,G,rfl,rfl,e,rfl,ho,B⟩;.simp[iH,u,Aa,oS];symm;simp;exact k c hc
 . simp[iH,u,Aa,oS,sD,fU];symm;simp[u,Aa,oS,E];apply ao;have y:c.length<16777216:=by have:=hc.len;omega
   simp[y];apply ao;simp[sD];refine lY e ?_;simp;exact⟨A,by omega,frm v s.2,A,G,s::c,.val aK (fU s.1 s.2),by simp[iH,sD],rfl,B,hc.cons h.cm e t B ho,dm⟩
noncomputable def sg(x:Int)(f:Bool):Int:=if f then x else-x
noncomputable def jO(x:Int)(fs:List Int)(s:aB):List Int:=fs.set s.1 ((fs[s.1]?.getD 0)+sg x s.2)
noncomputable def aug(x:Int)(fs:List Int)(c:List aB):List Int:=c.foldl (jO x) fs
@[simp]theorem yr{x:Int}{fs:List Int}{s:aB}:(jO x fs s).length=fs.length:=by simp[jO]
theorem nU{x:Int}:∀{c:List aB}{fs:List Int},(aug x fs c).length=fs.length|[],_=>rfl|s::c,fs=>by show(aug x (jO x fs s) c).length=_;rw[nU,yr]
theorem nP{x:Int}{j:Nat}:∀{c:List aB}{fs:List Int},j∉c.map (·.1)->(aug x fs c)[j]?=fs[j]?|[],_,_=>rfl|s::c,fs,h=>by rw[da,de,not_or]at h;show(aug x (jO x fs s) c)[j]?=_;rw[nP h.2];unfold jO;rw[eR (λz=>h.1 z.symm)]
theorem wg{x:Int}:∀{c:List aB}{fs:List Int}{s:aB}{g:Int},(c.map (·.1)).Nodup->s∈c->fs[s.1]?=aj g->(aug x fs c)[s.1]?=aj (g+sg x s.2)
 |[],_,_,_,_,h,_=>by cases h|t::c,fs,s,g,u,h,e=>by
   rw[da,eL]at u;show(aug x (jO x fs t) c)[s.1]?=_;have y:=(eY e).1;rcases de.mp h with rfl|h;.rw[nP u.1];unfold jO;rw[cv y,e];rfl
   .refine wg u.2 h ?_;unfold jO;rw[eR (λz=>u.1 (by rw[z];exact cS.mpr ⟨s,h,rfl⟩))];exact e
inductive JWt(x:Int)(fs:List Int)(c:List aB)(a0 a1 a2:Sl)(r:List D)(ρ:List Sl):Prop where|mk(cI us:List aB)(s4 s5:Sl)(q0:ρ=[a0,a1,a2,.own aK ((aug x fs cI).map D.int),s4,s5])(q1:fr s4=a_)(q2:fr s5=a_)(q3:r=us.map sD)(q4:cI++us=c)
theorem zc{s:Sl}{x:Int}{fs:List Int}(hs:QW s fs)(hc:∀s∈c,s.1<fs.length)(k:Q (.own ((aug x fs c).map D.int)) [s,.val aK (.tup (c.map sD)),.val aK (.int x)]):(run Γ w (n+1) 7 [s,.val aK (.tup (c.map sD)),.val aK (.int x)]).sat Q:=by
 refine aM (d:=f7) rfl rfl (by decide) ?_;refine dY (λρ=>ρ=[s,.val aK (.tup (c.map sD)),.val aK (.int x),.own aK (fs.map D.int),.aV,.aV]) ?_ ?_;.rcases hs with rfl|⟨b,rfl⟩;all_goals simp[f7]
 rintro _ rfl;symm;simp;refine cP (JWt x fs c _ _ _) ?_ ?_ ⟨[],c,.aV,.aV,rfl,rfl,rfl,rfl,rfl⟩;.rintro d r _⟨e,h,s4,s5,rfl,A,B,hr,hd⟩;cases h with|nil=>cases hr|cons u h=>
     obtain⟨rfl,rfl⟩:d=sD u/\r=h.map sD:=by simpa using hr
     have E:u.1<(aug x fs e).length:=by rw[nU];exact hc u (by rw[<-hd];simp)
     have y:(aug x fs e)[u.1]?=aj (aug x fs e)[u.1]:=by simp[E]
     have C:ir (aug x fs e).length (u.1:Int)=aj u.1:=by unfold ir;rw[if_pos (by omega),if_pos (by omega)];simp
     have he:aug x fs (e++[u])=(aug x fs e).set u.1 ((aug x fs e)[u.1]+sg x u.2):=by unfold aug;rw[List.foldl_append];show jO x (aug x fs e) u=_;unfold jO;rw[y];rfl
     have t:(e++[u])++h=c:=by rw[fN];exact hd
     generalize(aug x fs e)[u.1]=g at*;simp[sD,fU,A,B];apply ao;obtain⟨j,f⟩:=u;cases f with|true=>simp[jg y,C];exact⟨e++[(j,a_)],h,_,_,by rw[he,p_];rfl,rfl,rfl,rfl,t⟩|false=>simp[jg y,C];exact⟨e++[(j,aK)],h,_,_,by rw[he,p_];rfl,rfl,rfl,rfl,t⟩
 . rintro _⟨e,h,s4,s5,rfl,A,B,hr,hd⟩;have:h=[]:=by cases h with|nil=>rfl|cons _ _=>cases hr
   subst this;rw[gE]at hd;subst hd;simp;apply ao;simp;exact k
noncomputable def Et(F:Int->Int)(D:Int):List En->Int->Int|[],p=>F p+D|e::es,p=>if e.1=p then e.2.2.2 else Et F D es p
theorem gH{F:Int->Int}{D p:Int}{l:Nat}{o:Option aB×Int}:∀{es:List En},(es.map (·.1)).Nodup->(p,l,o)∈es->Et F D es p=o.2
 |[],_,h=>by cases h|e::es,t,h=>by
   rw[da,eL]at t;rw[Et];rcases de.mp h with rfl|h;.rw[if_pos rfl]
   .rw[if_neg (λz=>t.1 (by rw[z];exact cS.mpr ⟨_,h,rfl⟩))];exact gH t.2 h
theorem mW{F:Int->Int}{D p:Int}:∀{es:List En},(¬ ∃l o,(p,l,o)∈es)->Et F D es p=F p+D|[],_=>rfl|e::es,h=>by rw[Et,if_neg (λz=>h ⟨e.2.1,e.2.2,by rw[<-z];simp⟩)];exact mW λ⟨l,o,z⟩=>h ⟨l,o,dI _ z⟩
theorem DG(F:Int->Int):∀(es:List En),∃D,∀p l o,(p,l,o)∈es->o.2<=F p+D
 |[]=>⟨0,λ_ _ _ h=>by cases h⟩|e::es=>by
   obtain⟨D,h⟩:=DG F es;refine⟨max D (e.2.2.2-F e.1),λp l o z=>?_⟩;rcases de.mp z with rfl|z;.simp only;omega
   .have:=h p l o z;omega
theorem jk.pt{fs:List Int}{D:Int}(h:jk m ws fs es)(t:Pt ws fs F)(u:∀p l o,(p,l,o)∈es->o.2<=F p+D):Pt ws fs (Et F D es):=λs v e ho=>by
 by_cases c:∃l o,(frm v s.2,l,o)∈es;.obtain⟨l,o,c⟩:=c;obtain⟨l2,y,c2,c3⟩:=h.cl l o s v e c ho;rw[gH h.cm.nd c,gH h.cm.nd c2];unfold Le at c3;omega
 . rw[mW c];have h1:=t s v e ho;by_cases c2:∃l o,(too v s.2,l,o)∈es;.obtain⟨l2,y,c2⟩:=c2;rw[gH h.cm.nd c2];have:=u _ _ _ c2;omega
   .rw[mW c2];omega
theorem Ip{fs:List Int}{G:Int->Int}(d:Int)(h:Pt ws fs F)(t:Pt ws fs G):Pt ws fs (λp=>min (F p) (G p+d)):=λs v e ho=>by have h1:=h s v e ho;have u:=t s v e ho;simp only;omega
theorem uL{ws:List Wy}{fs:List Int}{F:Int->Int}(h:Pt ws fs F){b:Int}:∀{c:List aB}{a:Int},iy ws b c a->uq ws fs c->F b=F a+bW ws c->∀s∈c,∀v,ws[s.1]?=aj v->F (too v s.2)=F (frm v s.2)+hsp v s.2
 |[],_,_,_,_,s,hs,_,_=>by cases hs|s::c,a,⟨v,e,y,A⟩,ho,he,u,hu,x,ex=>by
   have t:uq ws fs c:=λu hu=>ho u (dI _ hu);have h1:=jh h A t;obtain⟨E,B,o⟩:=ho s (by simp);rw[e]at B;cases B;have C:=h s v e o;rw[y]at C;rw[bW,ie e]at he;rcases de.mp hu with rfl|hu;.rw[e]at ex;cases ex;rw[y];omega
   .exact uL h A t (by omega) u hu x ex
theorem tW{fs:List Int}{x:Int}{t:aB}(hc:uq ws fs c)(e:ws[t.1]?=aj v)(h:jZ ws (aug x fs c) (frm v t.2) t=a_):jZ ws fs (frm v t.2) t=a_\/∃s∈c,s.1=t.1/\t.2≠s.2:=by
 by_cases z:t.1∈c.map (·.1)
 . obtain⟨s,hs,es⟩:=cS.mp z;by_cases q:t.2=s.2;.have:t=s:=Prod.ext_iff.mpr ⟨es.symm,q⟩;subst this;obtain⟨y,u,o⟩:=hc t hs;rw[e]at u;cases u;exact .inl o
   .exact .inr ⟨s,hs,es,q⟩
 .refine .inl ?_;unfold jZ at h ⊢;rwa[nP z]at h
theorem Pt.aug{ws:List Wy}{fs:List Int}{F:Int->Int}(h:Pt ws fs F){a b x:Int}{c:List aB}(y:iy ws b c a)(ho:uq ws fs c)(he:F b=F a+bW ws c):Pt ws (aug x fs c) F:=λt v e o=>by
 rcases tW ho e o with o|⟨u,A,B,ne⟩;.exact h t v e o
 . have:=uL h y ho he u A v (by rw[B];exact e);rw[(kI ne).1,(kI ne).2];have:hsp v t.2=-hsp v u.2:=by cases h1:t.2<;>cases h2:u.2<;>simp[hsp]<;>(rw[h1,h2]at ne;exact absurd rfl ne)
   omega
noncomputable def fc(G:Wy->Int):List Wy->List Int->Int|v::ws,g::fs=>G v*g+fc G ws fs|_,_=>0
noncomputable def jE(H:Wy->Int):List Wy->Int|[]=>0|v::ws=>H v+jE H ws
theorem wH{G H:Wy->Int}:∀{ws:List Wy}{fs:List Int},fs.length=ws.length->(∀(j:Nat)v g,ws[j]?=aj v->fs[j]?=aj g->G v*g<=H v)->fc G ws fs<=jE H ws|[],[],_,_=>fg _|[],_::_,h,_=>by simp at h|_::_,[],h,_=>by simp at h|v::ws,g::fs,h,k=>by have h1:=k 0 v g rfl rfl;have u:=wH (G:=G) (H:=H) (ws:=ws) (fs:=fs) (by simpa using h) λj v g e t=>k (j+1) v g (by simpa using e) (by simpa using t);rw[fc,jE];omega
theorem Ie{G H:Wy->Int}:∀{ws:List Wy}{fs:List Int},fs.length=ws.length->(∀(j:Nat)v g,ws[j]?=aj v->fs[j]?=aj g->H v<=G v*g)->jE H ws<=fc G ws fs|[],[],_,_=>fg _|[],_::_,h,_=>by simp at h|_::_,[],h,_=>by simp at h|v::ws,g::fs,h,k=>by have h1:=k 0 v g rfl rfl;have u:=Ie (G:=G) (H:=H) (ws:=ws) (fs:=fs) (by simpa using h) λj v g e t=>k (j+1) v g (by simpa using e) (by simpa using t);rw[fc,jE];omega
theorem CV{G:Wy->Int}{v:Wy}{g y:Int}:∀{j:Nat}{ws:List Wy}{fs:List Int},ws[j]?=aj v->fs[j]?=aj g->fc G ws (fs.set j (g+y))=fc G ws fs+G v*y|_,[],_,e,_=>by simp at e|_,_::_,[],_,e=>by simp at e|0,u::ws,f::fs,h,t=>by simp at h t;subst h t;rw[List.set_cons_zero,fc,fc,mul_add];omega|j+1,u::ws,f::fs,h,t=>by rw[List.set_cons_succ,fc,fc,CV (j:=j) (by simpa using h) (by simpa using t)];omega
noncomputable def gap(k:Int)(q:Int->Int)(v:Wy):Int:=q v.t-q v.s-k*v.h
theorem JC{x:Int}:gap k q v*sg x f=x*(q (too v f)-q (frm v f)-k*hsp v f):=by cases f with|true=>show(q v.t-q v.s-k*v.h)*x=x*(q v.t-q v.s-k*v.h);exact qA _ _|false=>show(q v.t-q v.s-k*v.h)*(-x)=x*(q v.s-q v.t-k*(-v.h));rw[mul_neg,mul_neg k,show q v.s-q v.t- -(k*v.h)=-(q v.t-q v.s-k*v.h)by omega,mul_neg,qA]
theorem qJ{k x:Int}{q:Int->Int}{ws:List Wy}{b:Int}:∀{c:List aB}{fs:List Int}{a:Int},fs.length=ws.length->iy ws b c a->fc (gap k q) ws (aug x fs c)=fc (gap k q) ws fs+x*(q b-q a-k*bW ws c)
 |[],fs,a,_,h=>by have:a=b:=h;subst this;show _=_+x*(q a-q a-k*0);simp;rfl|s::c,fs,a,u,⟨v,e,A,B⟩=>by
   show fc (gap k q) ws (aug x (jO x fs s) c)=_;have t:s.1<fs.length:=by rw[u];exact(eY e).1
   have y:fs[s.1]?=aj fs[s.1]:=by simp[t]
   rw[qJ (by rw[yr];exact u) B];have:jO x fs s=fs.set s.1 (fs[s.1]+sg x s.2):=by unfold jO;rw[y];rfl
   rw[this,CV e y,JC,A,Int.add_assoc,<-mul_add,bW,ie e,mul_add k];congr 2;omega
structure Mf(ws:List Wy)(fs:List Int):Prop where
 len:fs.length=ws.length
 ok:∀(j:Nat)v g,ws[j]?=aj v->fs[j]?=aj g->0<=g/\g<=v.r
theorem Mf.aug{ws:List Wy}{fs:List Int}{c:List aB}{x:Int}(h:Mf ws fs)(B:(c.map (·.1)).Nodup)(C:0<x)(hc:∀s∈c,∃v g,ws[s.1]?=aj v/\fs[s.1]?=aj g/\x<=n6 v g s.2):Mf ws (aug x fs c):=by
 refine⟨by rw[nU];exact h.len,λj v g t e=>?_⟩;by_cases z:j∈c.map (·.1);.obtain⟨s,hs,rfl⟩:=cS.mp z;obtain⟨E,g',u,y,A⟩:=hc s hs;rw[t]at u;cases u;rw[wg B hs y]at e;cases e;have:=h.ok _ _ _ t y;cases hf:s.2<;>rw[hf]at A<;>simp[n6,sg]at A ⊢<;>omega
 .rw[nP z]at e;exact h.ok _ _ _ t e
noncomputable def eX(q:Int->Int)(v:Wy):Int:=v.r*max 0 (q v.t-q v.s-v.h)
noncomputable def dF(q:Int->Int)(ws:List Wy):Int:=jE (eX q) ws
theorem MP:gap 1 q v=q v.t-q v.s-v.h:=by unfold gap;omega
theorem Ep{fs:List Int}(h:Mf ws fs):fc (gap 1 q) ws fs<=dF q ws:=wH h.len λj v g e u=>by
 have:=h.ok _ _ _ e u;rw[MP];unfold eX;generalize q v.t-q v.s-v.h=y;by_cases c:0<=y;.rw[Int.max_eq_right c,qA];exact Int.mul_le_mul_of_nonneg_right this.2 c
 .rw[qB (by omega),qv];exact Int.mul_nonpos_of_nonpos_of_nonneg (by omega) this.1
theorem Dj{fs:List Int}(h:Mf ws fs)(A:Pt ws fs q):dF q ws=fc (gap 1 q) ws fs:=by
 refine Int.le_antisymm (Ie h.len λj v g e u=>?_) (Ep h);have E:=h.ok _ _ _ e u;have C:0<v.r-g->q v.t<=q v.s+v.h:=λz=>A (j,a_) v e (by rw[lX (s:=(j,a_)) e u];simp[frm,n6];omega);have B:0<g->q v.s<=q v.t+-v.h:=λz=>A (j,aK) v e (by rw[lX (s:=(j,aK)) e u];simp[frm,n6];omega);rw[MP];unfold eX;generalize G:q v.t-q v.s-v.h=y;by_cases c:g=v.r
 . subst c;by_cases c0:0<v.r;.have:=B c0;rw[Int.max_eq_right (by omega),qA];exact fg _
   . have:v.r=0:=by omega
     rw[this];simp
 . have:=C (by omega);rw[qB (by omega),qv];by_cases c0:0<g;.have:=B c0;rw[show y=0 by omega];simp
   .rw[show g=0 by omega];simp
noncomputable def pI(fs:List Int)(x:List aB×Int):List Int:=aug x.2 fs x.1
noncomputable def flow(N:Nat)(cs:List (List aB×Int)):List Int:=cs.foldl pI (cx N 0)
theorem rR{x:List aB×Int}:flow N (cs++[x])=aug x.2 (flow N cs) x.1:=by unfold flow;rw[List.foldl_append];rfl
noncomputable def bT(H:List aB×Int->Int):List (List aB×Int)->Int|[]=>0|x::cs=>H x+bT H cs
theorem jL{H:List aB×Int->Int}{x:List aB×Int}:∀{cs:List (List aB×Int)},bT H (cs++[x])=bT H cs+H x|[]=>by simp[bT]|y::cs=>by rw[kE,bT,bT,jL];omega
theorem gW{H K:List aB×Int->Int}:∀{cs:List (List aB×Int)},(∀x∈cs,H x=K x)->bT H cs=bT K cs|[],_=>rfl|x::cs,h=>by rw[bT,bT,h x (by simp),gW λy e=>h y (by simp[e])]
theorem Hs{H:List aB×Int->Int}:∀{cs:List (List aB×Int)},(∀x∈cs,1<=H x)->(cs.length:Int)<=bT H cs|[],_=>by simp[bT]|x::cs,h=>by have h1:=h x (by simp);have t:=Hs (H:=H) (cs:=cs) λy e=>h y (by simp[e]);rw[bT,ei];omega
noncomputable def Vm(ws:List Wy)(T:Int)(x:List aB×Int):Int:=if bW ws x.1<=T then x.2*(T-bW ws x.1+1)else 0
noncomputable def val(ws:List Wy)(T:Int)(cs:List (List aB×Int)):Int:=bT (Vm ws T) cs
structure jt(m:Int)(ws:List Wy)(T v:Int):Prop where
 ex:∃q:Int->Int,q 0=0/\q (m-1)=T+1/\dF q ws=v
 le:∀q:Int->Int,q 0=0->q (m-1)=T+1->v<=dF q ws
theorem yU{T:Int}{fs:List Int}{G:Int->Int}(fit:Mf ws fs)(dt:∀k q,fc (gap k q) ws fs=bT (λx=>x.2*(q (m-1)-q 0-k*bW ws x.1)) cs)(A:∀x∈cs,bW ws x.1<=T+1)(B:Pt ws fs G)(t:G 0=0)(u:G (m-1)=T+1):jt m ws T (val ws T cs):=by
 have y:∀q:Int->Int,q 0=0->q (m-1)=T+1->fc (gap 1 q) ws fs=val ws T cs:=λq e h=>by
  rw[dt,e,h];refine gW λx C=>?_;have:=A x C;unfold Vm;split;.congr 1;omega
  .rw[show T+1-0-1*bW ws x.1=0 by omega,qv]
 exact⟨⟨G,t,u,by rw[Dj fit B,y G t u]⟩,λq e h=>by rw[<-y q e h];exact Ep fit⟩
structure Ad(m:Int)(ws:List Wy)(cs:List (List aB×Int))(fs:List Int)(F:Int->Int)(d:Int):Prop where
 fit:Mf ws fs
 pt:Pt ws fs F
 z:F 0=0
 e:F (m-1)=d
 d0:0<=d
 nn:(∀v∈ws,1<=v.h)->1<=d/\∀x∈cs,1<=bW ws x.1
 ch:∀x∈cs,bW ws x.1<=d/\0<x.2/\∀s∈x.1,s.1<ws.length
 dt:∀k q,fc (gap k q) ws fs=bT (λx=>x.2*(q (m-1)-q 0-k*bW ws x.1)) cs
 lst:∀T,0<=T->T+1<=d->jt m ws T (val ws T cs)
theorem tX{G:Wy->Int}:∀{ws:List Wy}{n:Nat},fc G ws (cx n 0)=0|[],n=>by unfold fc;rfl|v::ws,0=>rfl|v::ws,n+1=>by rw[g9,fc,tX];simp
theorem wB(h:(cx n (0:Int))[j]?=aj g):g=0:=(List.mem_replicate.mp (dV h)).2
noncomputable def F01(b p:Int):Int:=if p=0 then 0 else b
theorem Ad.zero(m0:2<=m)(A:∀v∈ws,0<=v.h)(hr:∀v∈ws,0<=v.r):∃b,Ad m ws [] (cx ws.length 0) (F01 b) b:=by
 have fit:Mf ws (cx ws.length 0):=⟨by simp,λj v g t u=>by rw[wB u];exact⟨fg _,hr v (dV t)⟩⟩;have pt:∀b:Int,0<=b->(∀v∈ws,b<=v.h)->Pt ws (cx ws.length 0) (F01 b):=λb b0 B s v e ho=>by obtain⟨E,g,t,u,_,y⟩:=lZ ho;rw[e]at t;cases t;have:=wB u;subst this;have:=B v (dV e);cases hf:s.2<;>rw[hf]at y<;>simp[n6,hsp,F01]at y ⊢;split<;>split<;>omega
 have dt:∀k q,fc (gap k q) ws (cx ws.length 0)=bT (λx=>x.2*(q (m-1)-q 0-k*bW ws x.1)) []:=λk q=>by rw[tX];rfl
 have t:∀b,F01 b (m-1)=b:=λb=>by unfold F01;rw[if_neg (by omega)]
 by_cases c:∀v∈ws,1<=v.h;.exact⟨1,fit,pt 1 (by omega) c,rfl,t 1,by omega,λ_=>⟨fg _,by simp⟩,by simp,dt,λT h1 C=>yU fit dt (by simp) (pt 1 (by omega) c) rfl (by rw[t];omega)⟩
 .exact⟨0,fit,pt 0 (by omega) A,rfl,t 0,by omega,λz=>absurd z c,by simp,dt,λT h1 C=>by omega⟩
theorem Ad.at{d T:Int}{fs:List Int}{G:Int->Int}(h:Ad m ws cs fs F d)(e:d<=T+1)(t:Pt ws fs G)(u:G 0=0)(y:G (m-1)=T+1):jt m ws T (val ws T cs):=yU h.fit h.dt (λx A=>Int.le_trans (h.ch x A).1 e) t u y
theorem Ad.more{d:Int}{fs:List Int}{x:Int}(h:Ad m ws cs fs F d)(t:jk m ws fs es)(u:(m-1,l,o)∈es)(hc:QM ws fs es (m-1) l o.2 0 0 0 c)(A:0<x)(hr:∀s∈c,∃v g,ws[s.1]?=aj v/\fs[s.1]?=aj g/\x<=n6 v g s.2):∃G,Ad m ws (cs++[(c,x)]) (aug x fs c) G o.2:=by
 obtain⟨D,H⟩:=DG F es;have B:=t.pt h.pt H;have J:bW ws c=o.2:=by have:=hc.hrs;omega
 have C:Et F D es 0=0:=gH t.cm.nd t.cm.z;have E:Et F D es (m-1)=o.2:=gH t.cm.nd u;have hd:d<=o.2:=by have:=jh h.pt hc.Lz hc.jC;rw[h.e,h.z]at this;omega
 refine⟨Et F D es,h.fit.aug hc.nd A hr,B.aug hc.Lz hc.jC (by rw[C,E];omega),C,E,by have:=h.d0;omega,λz=>⟨by have:=(h.nn z).1;omega,λy hy=>?_⟩,λy hy=>?_,λk q=>?_,λT h0 h1=>?_⟩
 . rcases fk.mp hy with hy|hy;.exact(h.nn z).2 y hy
   .rw[dU.mp hy];show 1<=bW ws c;have:=(h.nn z).1;omega
 . rcases fk.mp hy with hy|hy;.have:=h.ch y hy;exact⟨by omega,this.2⟩
   .rw[dU.mp hy];refine⟨by show bW ws c<=_;omega,A,λs hs=>?_⟩;obtain⟨v,g,e,_⟩:=hr s hs;exact(eY e).1
 .rw[qJ h.fit.len hc.Lz,jL,h.dt]
 . have I:val ws T (cs++[(c,x)])=val ws T cs:=by unfold val;rw[jL];show _+(if bW ws c<=T then _ else 0)=_;rw[if_neg (by omega)];omega
   rw[I];by_cases q:T+1<=d;.exact h.lst T h0 q
   . refine h.at (by omega) (Ip (T+1-d) B h.pt) ?_ ?_;.have:=h.z;omega
     .have:=h.e;omega
theorem Ad.least{d T:Int}{fs:List Int}(h:Ad m ws cs fs F d)(t:jk m ws fs es)(u:¬ ∃l o,(m-1,l,o)∈es)(h0:0<=T):jt m ws T (val ws T cs):=by
 by_cases q:T+1<=d;.exact h.lst T h0 q
 . obtain⟨D,y⟩:=DG F es;have A:=t.pt (D:=max D (T+1-d)) h.pt λp l o z=>by have:=y p l o z;omega
   have B:Et F (max D (T+1-d)) es 0=0:=gH t.cm.nd t.cm.z;have C:Et F (max D (T+1-d)) es (m-1)=F (m-1)+max D (T+1-d):=mW u;refine h.at (by omega) (Ip (T+1-d) A h.pt) ?_ ?_;.have:=h.z;omega
   .have:=h.e;omega
noncomputable def Hh(v:Wy)(f:Bool):Int:=7*hsp v f+1
noncomputable def Ru(ws:List Wy)(fs:List Int)(P:Int->Int):Prop:=∀(s:aB)(v:Wy),ws[s.1]?=aj v->jZ ws fs (frm v s.2) s=a_->P (too v s.2)<=P (frm v s.2)+Hh v s.2
noncomputable def zZ(ws:List Wy)(c:List aB):Int:=7*bW ws c+c.length
theorem sU(e:ws[s.1]?=aj v):zZ ws (s::c)=Hh v s.2+zZ ws c:=by unfold zZ Hh;rw[bW,ie e,ei];omega
theorem Ai{ws:List Wy}{fs:List Int}{P:Int->Int}(h:Ru ws fs P){b:Int}:∀{c:List aB}{a:Int},iy ws b c a->uq ws fs c->P b<=P a+zZ ws c|[],a,t,_=>by have:a=b:=t;rw[this];simp[zZ,bW]|s::c,a,⟨v,e,A,t⟩,ho=>by have h1:=Ai h t λu B=>ho u (dI _ B);obtain⟨E,y,o⟩:=ho s (by simp);rw[e]at y;cases y;have C:=h s v e o;rw[A]at C;rw[sU e];omega
theorem vm{ws:List Wy}{fs:List Int}{P:Int->Int}(h:Ru ws fs P){b:Int}:∀{c:List aB}{a:Int},iy ws b c a->uq ws fs c->P b=P a+zZ ws c->∀s∈c,∀v,ws[s.1]?=aj v->P (too v s.2)=P (frm v s.2)+Hh v s.2
 |[],_,_,_,_,s,hs,_,_=>by cases hs|s::c,a,⟨v,e,y,A⟩,ho,he,u,hu,x,ex=>by
   have t:uq ws fs c:=λu hu=>ho u (dI _ hu);have h1:=Ai h A t;obtain⟨E,B,o⟩:=ho s (by simp);rw[e]at B;cases B;have C:=h s v e o;rw[y]at C;rw[sU e]at he;rcases de.mp hu with rfl|hu;.rw[e]at ex;cases ex;rw[y];omega
   .exact vm h A t (by omega) u hu x ex
noncomputable def tgt(ws:List Wy)(fs:List Int)(P:Int->Int)(s:aB):Bool:=match ws[s.1]?with|some v=>jZ ws fs (frm v s.2) s&&decide (P (too v s.2)=P (frm v s.2)+Hh v s.2)|none=>aK
theorem Ik{fs:List Int}{P:Int->Int}(e:ws[s.1]?=aj v):tgt ws fs P s=(jZ ws fs (frm v s.2) s&&decide (P (too v s.2)=P (frm v s.2)+Hh v s.2)):=by unfold tgt;rw[e]
noncomputable def HF(ws:List Wy)(fs:List Int)(P:Int->Int):Nat:=((iw ws.length).filter (tgt ws fs P)).length
theorem Ec{fs:List Int}{P:Int->Int}(h:ws.length<=12):HF ws fs P<=24:=by have:=i_ (tgt ws fs P) (iw ws.length);rw[yW]at this;unfold HF;omega
theorem HX{p q:aB->Bool}(h:∀t,q t=a_->p t=a_):∀(l:List aB),(l.filter q).length<=(l.filter p).length|[]=>dm|t::l=>by have e:=HX h l;cases hq:q t with|true=>simp[hq,h t hq,e]|false=>cases hp:p t with|true=>simp[hq,hp];omega|false=>simp[hq,hp,e]
theorem Jw{p q:aB->Bool}{s:aB}(h:∀t,q t=a_->p t=a_)(e:p s=a_)(u:q s=aK):∀{l:List aB},s∈l->(l.filter q).length<(l.filter p).length
 |[],hs=>by cases hs|t::l,hs=>by
   have le:=HX h l;rcases de.mp hs with rfl|hs;.simp[e,u];omega
   .have y:=Jw h e u hs;cases hq2:q t with|true=>simp[hq2,h t hq2,y]|false=>cases hp2:p t with|true=>simp[hq2,hp2];omega|false=>simp[hq2,hp2,y]
theorem Iu{fs:List Int}(h:(c.map (·.1)).Nodup)(hs:s∈c)(e:ws[s.1]?=aj v)(t:fs[s.1]?=aj g):jZ ws (aug (n6 v g s.2) fs c) p s=aK:=by
 rw[lX e (wg h hs t)];have:n6 v (g+sg (n6 v g s.2) s.2) s.2=0:=by cases s.2<;>simp[n6,sg]<;>omega
 rw[this];simp
theorem Ru.aug{ws:List Wy}{fs:List Int}{P:Int->Int}(h:Ru ws fs P){a b:Int}{c:List aB}{s:aB}{v:Wy}{g:Int}(G:iy ws b c a)(ho:uq ws fs c)(H:(c.map (·.1)).Nodup)(he:P b=P a+zZ ws c)(hs:s∈c)(e:ws[s.1]?=aj v)(I:fs[s.1]?=aj g):Ru ws (aug (n6 v g s.2) fs c) P/\HF ws (aug (n6 v g s.2) fs c) P<HF ws fs P:=by
 have B:=vm h G ho he;have back:∀(t u:aB)(x:Wy),u∈c->u.1=t.1->t.2≠u.2->ws[t.1]?=aj x->P (too x t.2)<P (frm x t.2)+Hh x t.2:=λt u x y A ne ex=>by
  have h1:=B u y x (by rw[A];exact ex);rw[(kI ne).1,(kI ne).2];have C:hsp x t.2=-hsp x u.2:=by cases h1:t.2<;>cases C:u.2<;>simp[hsp]<;>(rw[h1,C]at ne;exact absurd rfl ne)
  unfold Hh at*;omega
 refine⟨λt x ex o=>?_,?_⟩
 . rcases tW ho ex o with o|⟨u,y,A,ne⟩;.exact h t x ex o
   .have:=back t u x y A ne ex;omega
 . obtain⟨J,E,o⟩:=ho s hs;rw[e]at E;cases E;refine Jw (s:=s) (λt ht=>?_) (by rw[Ik e,o,B s hs v e];simp) (by rw[Ik e,Iu H hs e I];rfl) (yt (eY e).1);unfold tgt at ht ⊢;split at ht
   . rename_i x ex;simp only[eW,decide_eq_true_eq]at ht ⊢;refine⟨?_,ht.2⟩;rcases tW ho ex ht.1 with o|⟨u,y,A,ne⟩;.exact o
     .have:=back t u x y A ne ex;omega
   .cases ht
noncomputable abbrev Qq:=List (Option Bool)
noncomputable def lC:List Wy->Qq->Int|v::ws,aj f::es=>Hh v f+lC ws es|_::ws,bx::es=>lC ws es|_,_=>0
noncomputable def Gi(N:Nat):List aB->Qq|[]=>cx N bx|s::c=>(Gi N c).set s.1 (aj s.2)
theorem xg{N:Nat}:∀{c:List aB},(Gi N c).length=N|[]=>by simp[Gi]|s::c=>by rw[Gi,List.length_set,xg]
theorem Ew{N j:Nat}:∀{c:List aB},j<N->j∉c.map (·.1)->(Gi N c)[j]?=aj bx|[],h,_=>by simp[Gi,h]|s::c,h,e=>by rw[da,de,not_or]at e;rw[Gi,eR (λz=>e.1 z.symm)];exact Ew h e.2
theorem yf{v:Wy}{f:Bool}:∀{j:Nat}{ws:List Wy}{es:Qq},ws[j]?=aj v->es[j]?=aj bx->lC ws (es.set j (aj f))=lC ws es+Hh v f|_,[],_,e,_=>by simp at e|_,_::_,[],_,e=>by simp at e|0,u::ws,x::es,h,t=>by simp at h t;subst h t;rw[List.set_cons_zero,lC,lC];omega|j+1,u::ws,x::es,h,t=>by have y:=yf (f:=f) (j:=j) (ws:=ws) (es:=es) (by simpa using h) (by simpa using t);rw[List.set_cons_succ];cases x with|none=>rw[lC,lC,y]|some g=>rw[lC,lC,y];omega
theorem uU:∀{ws:List Wy}{n:Nat},lC ws (cx n bx)=0|[],n=>by unfold lC;rfl|v::ws,0=>rfl|v::ws,n+1=>by rw[g9,lC,uU]
theorem wL{ws:List Wy}{b:Int}:∀{c:List aB}{a:Int},iy ws b c a->(c.map (·.1)).Nodup->lC ws (Gi ws.length c)=zZ ws c|[],_,_,_=>by rw[Gi,uU];simp[zZ,bW]|s::c,a,⟨v,e,_,t⟩,h=>by rw[da,eL]at h;rw[Gi,yf e (Ew (eY e).1 h.1),wL t h.2,sU e];omega
noncomputable def ur:Nat->List Qq|0=>[[]]|n+1=>(ur n).map (bx::·)++((ur n).map (aj a_::·)++(ur n).map (aj aK::·))
theorem tQ:∀{n:Nat},(ur n).length=3^n|0=>rfl|n+1=>by rw[ur,ek,ek,dQ,dQ,dQ,tQ,Nat.pow_succ];omega
theorem sH:∀{e:Qq},e∈ur e.length|[]=>by simp[ur]|x::e=>by have h:=sH (e:=e);rw[ei,ur,fk,fk];cases x with|none=>exact .inl (cS.mpr ⟨e,h,rfl⟩)|some f=>cases f with|true=>exact .inr (.inl (cS.mpr ⟨e,h,rfl⟩))|false=>exact .inr (.inr (cS.mpr ⟨e,h,rfl⟩))
structure Mq(m:Int)(ws:List Wy)(k:Nat)(fs:List Int)(P:Int->Int)(lam:Int)(seen:List Qq):Prop where
 pt:Ru ws fs P
 z:P 0=0
 e:P (m-1)=lam
 nd:seen.Nodup
 sl:∀e∈seen,e.length=ws.length/\lC ws e<=lam
 cnt:k+HF ws fs P<=25*(seen.length+1)
theorem Mq.few{t:Int}{k:Nat}{fs:List Int}{P:Int->Int}{seen:List Qq}(h:Mq m ws k fs P t seen)(u:ws.length<=12):k<=13286050:=by
 have h1:=nD (l2:=ur ws.length) h.nd λe he=>by rw[<-(h.sl e he).1];exact sH
 rw[tQ]at h1;have y:3^ws.length<=3^12:=oP (by decide) u;have A:(3:Nat)^12=531441:=by decide
 have:=h.cnt;omega
theorem Mq.zero(y:ws.length<=12)(A:∀v∈ws,0<=v.h):Mq m ws 0 (cx ws.length 0) (λ_=>0) 0 []:=by refine⟨λs v e ho=>?_,rfl,rfl,.nil,by simp,by have:=Ec (fs:=cx ws.length 0) (P:=λ_=>0) y;simp;omega⟩;obtain⟨C,g,t,B,_,u⟩:=lZ ho;rw[e]at t;cases t;have:=wB B;subst this;have:=A v (dV e);cases hf:s.2<;>rw[hf]at u<;>simp[n6,Hh,hsp]at u ⊢;omega
noncomputable def LQ(F:Int->Int)(D:Int):List En->Int->Int|[],p=>F p+D|e::es,p=>if e.1=p then 7*e.2.2.2+(e.2.1:Int)else LQ F D es p
theorem o9{F:Int->Int}{D p:Int}{l:Nat}{o:Option aB×Int}:∀{es:List En},(es.map (·.1)).Nodup->(p,l,o)∈es->LQ F D es p=7*o.2+l
 |[],_,h=>by cases h|e::es,t,h=>by
   rw[da,eL]at t;rw[LQ];rcases de.mp h with rfl|h;.rw[if_pos rfl]
   .rw[if_neg (λz=>t.1 (by rw[z];exact cS.mpr ⟨_,h,rfl⟩))];exact o9 t.2 h
theorem wR{F:Int->Int}{D p:Int}:∀{es:List En},(¬ ∃l o,(p,l,o)∈es)->LQ F D es p=F p+D|[],_=>rfl|e::es,h=>by rw[LQ,if_neg (λz=>h ⟨e.2.1,e.2.2,by rw[<-z];simp⟩)];exact wR λ⟨l,o,z⟩=>h ⟨l,o,dI _ z⟩
theorem KQ(F:Int->Int):∀(es:List En),∃D,∀p l o,(p,l,o)∈es->7*o.2+(l:Int)<=F p+D
 |[]=>⟨0,λ_ _ _ h=>by cases h⟩|e::es=>by
   obtain⟨D,h⟩:=KQ F es;refine⟨max D (7*e.2.2.2+(e.2.1:Int)-F e.1),λp l o z=>?_⟩;rcases de.mp z with rfl|z;.simp only;omega
   .have:=h p l o z;omega
theorem jk.pts{fs:List Int}{P:Int->Int}{D:Int}(h:jk m ws fs es)(t:HN m ws)(u:Pt ws fs F)(y:Ru ws fs P)(A:∀p l o,(p,l,o)∈es->7*o.2+(l:Int)<=P p+D):Ru ws fs (LQ P D es):=λs v e ho=>by
 by_cases c:∃l o,(frm v s.2,l,o)∈es;.obtain⟨l,o,c⟩:=c;obtain⟨l2,B,c2,c3⟩:=h.cl l o s v e c ho;rw[o9 h.cm.nd c,o9 h.cm.nd c2];have:=h.l5 t u c2;unfold Le at c3;unfold Hh;omega
 . rw[wR c];have h1:=y s v e ho;by_cases c2:∃l o,(too v s.2,l,o)∈es;.obtain⟨l2,B,c2⟩:=c2;rw[o9 h.cm.nd c2];have:=A _ _ _ c2;omega
   .rw[wR c2];omega
theorem Mq.more{t:Int}{k:Nat}{fs:List Int}{P:Int->Int}{seen:List Qq}(h:Mq m ws k fs P t seen)(B:HN m ws)(I:Pt ws fs F)(u:jk m ws fs es)(y:(m-1,l,o)∈es)(hc:QM ws fs es (m-1) l o.2 0 0 0 c)(hs:s∈c)(e:ws[s.1]?=aj v)(C:fs[s.1]?=aj g):∃J L M,Mq m ws (k+1) (aug (n6 v g s.2) fs c) J L M:=by
 have O:bW ws c=o.2:=by have:=hc.hrs;omega
 have U:c.length=l:=by have:=hc.len;omega
 have W:zZ ws c=7*o.2+l:=by unfold zZ;rw[O,U]
 have X:t<=zZ ws c:=by have:=Ai h.pt hc.Lz hc.jC;rw[h.e,h.z]at this;omega
 by_cases q:t=zZ ws c;.have A:=h.pt.aug hc.Lz hc.jC hc.nd (by rw[h.e,h.z];omega) hs e C;exact⟨P,t,seen,A.1,h.z,h.e,h.nd,h.sl,by have:=h.cnt;omega⟩
 . obtain⟨D,Y⟩:=KQ P es;have Z:=u.pts B I h.pt Y;have E:LQ P D es 0=0:=by rw[o9 u.cm.nd u.cm.z];rfl
   have G:LQ P D es (m-1)=zZ ws c:=by rw[o9 u.cm.nd y,W]
   have A:=Z.aug hc.Lz hc.jC hc.nd (by rw[E,G];omega) hs e C;have H:=wL hc.Lz hc.nd;refine⟨LQ P D es,zZ ws c,seen++[Gi ws.length c],A.1,E,G,?_,λx hx=>?_,?_⟩;.rw[kX];refine⟨h.nd,by simp,λa ha b hb ab=>?_⟩;have:=(h.sl a ha).2;rw[ab,dU.mp hb,H]at this;omega
   . rcases fk.mp hx with hx|hx;.have:=h.sl x hx;exact⟨this.1,by omega⟩
     .rw[dU.mp hx];exact⟨xg,by rw[H];exact fg _⟩
   .have h1:=Ec (fs:=fs) (P:=LQ P D es) B.len;have h2:=h.cnt;rw[ek,im];omega
noncomputable def cD(x:List aB×Int):D:=.tup [.tup (x.1.map sD),.int x.2]
theorem Wm{ns:List Int}(h:ns≠[]):∃i,ns.min?=aj i/\i∈ns/\∀j∈ns,i<=j:=by cases e:ns.min? with|none=>rw[List.min?_eq_none_iff]at e;exact absurd e h|some i=>have:=oe.mp e;exact⟨i,rfl,this.1,this.2⟩
noncomputable def Za:D->aB|.tup [.int j,.bl f]=>(j.toNat,f)|_=>(0,a_)
@[simp]theorem Ia{s:aB}:Za (sD s)=s:=rfl
noncomputable def Rr(ws:List Wy)(fs:List Int)(s:aB):Int:=match ws[s.1]?,fs[s.1]?with|some v,aj g=>n6 v g s.2|_,_=>0
noncomputable def rmD(ws:List Wy)(fs:List Int)(d:D):D:=.int (Rr ws fs (Za d))
@[simp]theorem aai{es:List En}{p:Int}:zb aK (.int p) (iH es)=aj (.val (.bl (o7 (es.map en) p))):=by show aj (R.val (.bl ((es.map (·.1)).contains p)))=aj (R.val (.bl ((Gs (es.map en)).contains p)));rw[Ag]
noncomputable def Chk(m:Int)(ws:List Wy)(x:List aB×Int):Prop:=x.1.length<=6/\(∀s∈x.1,s.1<ws.length)/\iy ws (m-1) x.1 0/\(x.1.map (·.1)).Nodup
structure Stg(m:Int)(ws:List Wy)(cI:List (List aB×Int))(x:List aB×Int):Prop where
 iv:∃F d,Ad m ws cI (flow ws.length cI) F d
 ht:∃F,Pt ws (flow ws.length cI) F/\F 0=0/\F (m-1)=bW ws x.1
 op:uq ws (flow ws.length cI) x.1
 rm:∀s∈x.1,∃v g,ws[s.1]?=aj v/\(flow ws.length cI)[s.1]?=aj g/\x.2<=n6 v g s.2
theorem Ad.ht{d:Int}{fs:List Int}(h:Ad m ws cs fs F d)(t:jk m ws fs es)(u:(m-1,l,o)∈es)(hc:QM ws fs es (m-1) l o.2 0 0 0 c):(∃F,Pt ws fs F/\F 0=0/\F (m-1)=bW ws c)/\d<=bW ws c:=by
 obtain⟨D,y⟩:=DG F es;have A:bW ws c=o.2:=by have:=hc.hrs;omega
 refine⟨⟨Et F D es,t.pt h.pt y,gH t.cm.nd t.cm.z,by rw[gH t.cm.nd u,A]⟩,?_⟩;have:=jh h.pt hc.Lz hc.jC;rw[h.e,h.z]at this;omega
noncomputable def Gr(m:Int)(ws:List Wy)(cs:List (List aB×Int)):Prop:=cs.Pairwise (λa b=>bW ws a.1<=bW ws b.1)/\∀h x e,cs=h++x::e->Stg m ws h x
theorem Gr.snoc{y:List aB×Int}(h:Gr m ws cs)(h1:∀x∈cs,bW ws x.1<=bW ws y.1)(A:Stg m ws cs y):Gr m ws (cs++[y]):=by
 refine⟨?_,λu x t e=>?_⟩;.rw[kQ];exact⟨h.1,by simp,λa B b C=>by rw[dU.mp C];exact h1 a B⟩
 . rcases ol t with rfl|⟨r,z,rfl⟩;.obtain⟨E,G⟩:=List.append_inj' e rfl;cases G;subst E;exact A
   . rw[oo]at e;have H:cs++[y]=(u++x::r)++[z]:=by rw[e];simp
     exact h.2 u x r (List.append_inj' H rfl).1
structure Ends(m:Int)(ws:List Wy)(cs:List (List aB×Int))(fs:List Int)(F:Int->Int)(d:Int)(es:List En):Prop where
 fl:fs=flow ws.length cs
 iv:Ad m ws cs fs F d
 cm:jk m ws fs es
 no:¬ ∃l o,(m-1,l,o)∈es
 ck:∀x∈cs,Chk m ws x
 st:Gr m ws cs
inductive FcE(a0 a1 a2 a3 a4 a5 a6:Sl)(ρ:List Sl):Prop where|mk(s:Sl)(q0:ρ=[a0,a1,a2,a3,a4,a5,a6,s])(q1:fr s=a_)
inductive JE(m:Int)(ws:List Wy)(M:Nat)(ρ:List Sl):Prop where|mk(cs:List (List aB×Int))(fs:List Int)(es:List En)(F:Int->Int)(d:Int)(s5 s6:Sl)(q0:ρ=[.val aK (aR m ws),.val aK (.int (m-1)),.own aK (fs.map D.int),.own aK (cs.map cD),.val aK (iH es),s5,s6])(q1:(fr s5=a_/\fr s6=a_))(q2:fs=flow ws.length cs)(q3:Ad m ws cs fs F d)(q4:jk m ws fs es)(q5:(∃P lam seen,Mq m ws cs.length fs P lam seen))(q6:cs.length+M=13286050)(q7:(∀x∈cs,Chk m ws x))(q8:Gr m ws cs)
theorem yN(hw:13286250<=w)(h:HN m ws)(hr:∀v∈ws,0<=v.r)(k:∀cs fs F d es,cs.length<=13286050->Ends m ws cs fs F d es->Q (.own (cs.map cD)) [.val aK (aR m ws)]):(run Γ w (n+4) 8 [.val aK (aR m ws)]).sat Q:=by
 have hn:=h.len;have m0:=h.m0;have m1:=h.m1;refine aM (d:=f8) rfl rfl (by decide) ?_;symm;simp[f8];refine dY (λρ=>ρ=[.val aK (aR m ws),.val aK (.int (m-1)),.own aK ((flow ws.length []).map D.int),.aV,.aV,.aV,.aV]) ?_ ?_;.simp[flow];show _<=16777216;omega
 rintro _ rfl;have hh:∀v∈ws,0<=v.h:=λv hv=>(h.ok v hv).2.2;obtain⟨b0,I0⟩:∃b,Ad m ws [] (flow ws.length []) (F01 b) b:=Ad.zero m0 hh hr;symm;simp;apply ao;simp;refine zF (by omega) I0.pt (.inr ⟨a_,rfl⟩) h I0.fit.len λes t=>?_;simp;apply ao;simp;refine j7 (JE m ws) ?_ (k:=w) (m:=13286050) (by omega) ⟨[],flow ws.length [],es,F01 b0,b0,.aV,.aV,rfl,⟨rfl,rfl⟩,rfl,I0,t,⟨_,_,_,Mq.zero hn hh⟩,by simp,by simp,by simp,λcI x ay e=>by cases cI<;>cases e⟩;rintro M _⟨cs,fs,es,F,d,s5,s6,rfl,⟨h5,h6⟩,G,H,t,⟨P,aE,seen,hS⟩,hM,O,hst⟩;have ac:=H.fit.len;by_cases hq:∃l o,(m-1,l,o)∈es
 . obtain⟨l,o,A⟩:=hq;have kt:o7 (es.map en) (m-1)=a_:=rB.mpr ⟨l,o,A⟩;have ae:=t.l5 h H.pt A;simp[kt];apply ao;simp;refine Gp (by omega) t ae A λc hc=>?_;simp[h5];apply ao;have af:c.length<=6:=by have:=hc.len;omega
   have Qn:∀s∈c,∃v g,ws[s.1]?=aj v/\fs[s.1]?=aj g/\0<n6 v g s.2:=λs hs=>by obtain⟨v,e,o⟩:=hc.jC s hs;obtain⟨v',g,B,E,_,e4⟩:=lZ o;exact⟨v',g,B,E,e4⟩
   simp[show c.length<=16777216 by omega];refine bV (FcE _ _ _ _ _ _ _) (rmD ws fs) ⟨.aV,rfl,rfl⟩ ?_ ?_;.rintro d hd _⟨s',rfl,U⟩;obtain⟨s,hs,rfl⟩:=cS.mp hd;obtain⟨v,g,B,E,_⟩:=Qn s hs;simp[U,sD];refine uM (.inr ⟨a_,rfl⟩) B E ?_;simp;refine⟨?_,_,rfl,rfl⟩;show D.int (Rr ws fs (Za (sD s)))=_;rw[Ia];unfold Rr;rw[B,E]
   rintro _⟨s',rfl,U⟩;have W:(c.map sD).map (rmD ws fs)=(c.map (Rr ws fs)).map D.int:=by rw[ef,ef];rfl
   rw[W];have ag:c≠[]:=by rintro rfl;have:(0:Int)=m-1:=hc.Lz;omega
   obtain⟨x,ah,ai,al⟩:=Wm (ns:=c.map (Rr ws fs)) (by simpa using ag);obtain⟨s,hs,am⟩:=cS.mp ai;obtain⟨v,g,B,E,e3⟩:=Qn s hs;have ap:n6 v g s.2=x:=by rw[<-am];unfold Rr;rw[B,E]
   have ar:0<x:=by omega
   have I:∀s∈c,∃v g,ws[s.1]?=aj v/\fs[s.1]?=aj g/\x<=n6 v g s.2:=λu L=>by obtain⟨v,g,B,E,_⟩:=Qn u L;refine⟨v,g,B,E,?_⟩;have:=al _ (cS.mpr ⟨u,L,rfl⟩);unfold Rr at this;rw[B,E]at this;exact this
   have X:∀s∈c,s.1<ws.length:=λu L=>by obtain⟨v,g,B,_⟩:=Qn u L;exact(eY B).1
   obtain⟨F',J⟩:=H.more t A hc ar I;have Y:Gr m ws (cs++[(c,x)]):=by obtain⟨g1,g2⟩:=H.ht t A hc;refine hst.snoc (λy hy=>Int.le_trans (H.ch y hy).1 g2) ?_;have Z:=H;rw[G]at Z g1 I;exact⟨⟨_,_,Z⟩,g1,by rw[<-G];exact hc.jC,I⟩
   have C:=hS.more h H.pt t A hc hs B E;rw[ap]at C;obtain⟨P',W0,LC,C⟩:=C;have aI:=C.few hn;generalize c.map (Rr ws fs)=ns at*;simp[fB,ah,h6];apply ao;simp[show cs.length<16777216 by omega];apply ao;simp;refine zc (.inr ⟨a_,rfl⟩) (λu L=>by rw[ac];exact X u L) ?_;simp;apply ao;have av:aug x fs c=flow ws.length (cs++[(c,x)]):=by rw[rR,<-G]
   simp;refine zF (by omega) J.pt (.inr ⟨a_,rfl⟩) h J.fit.len λaw ax=>?_;simp;refine⟨M-1,by omega,cs++[(c,x)],aug x fs c,aw,F',o.2,.val aK (.tup (c.map sD)),.val aK (.int x),by simp[cD],⟨rfl,rfl⟩,av,J,ax,⟨P',W0,LC,by rw[ek];exact C⟩,by simp;omega,λy hy=>?_,Y⟩;rcases fk.mp hy with hy|hy;.exact O y hy
   . obtain rfl:y=(c,x):=by simpa using hy
     exact⟨af,X,hc.Lz,hc.nd⟩
 .have kt:o7 (es.map en) (m-1)=aK:=kin_no hq;simp[kt];apply ao;simp;exact k cs fs F d es (by omega) ⟨G,H,t,hq,O,hst⟩
theorem T5{c:Call}{x:Nat}{k d:P}:ev c (.YH x k d) ρ=match ρ[x]?with
 |some (.gV _)=>(cu (isVar k) (ev c k) ρ).bind λe ρ=>(cu (isVar d) (ev c d) ρ).bind λh ρ=>match ρ[x]?with|some (.gV m)=>lift ((m.get e).bind λo=>(gq h).map λv=>.val (.int (o.getD v))) ρ|_=>.stuck
 |_=>.stuck:=(rfl)
theorem Pz{c:Call}{x:Nat}:ex c n (.Lj x aK) ρ=match ρ[x]?with|some .aV=>.ok .next (ρ.set x (.gV (.k [])))|_=>.stuck:=(rfl)
theorem Ox{c:Call}{x:Nat}{k e:P}:ex c n (.dput x k e) ρ=(ev c e ρ).bind λr ρ=>match ρ[x]?with
 |some (.gV _)=>(cu (isVar k) (ev c k) ρ).bind λh ρ=>match ρ[x]?,r with
   |some (.gV m),.val (.int v)=>match m.put h v with|some t=>.ok .next (ρ.set x (.gV t))|none=>.stuck
   |_,_=>.stuck
 |_=>.stuck:=(rfl)
@[simp]theorem Xe{x:Nat}{k d:P}:isVar (.YH x k d)=bx:=rfl
@[simp]theorem Zd{kvs:List (Int×Int)}:blt .Lh [.dM (.k kvs)]=if kvs.length<=16777216/\kvs.Pairwise (λa b=>a.1<b.1)then aj (.own (kvs.map jY))else bx:=rfl
theorem Uz:(Dc.get (.k kvs) (.int i))=aj ((kvs.find? λe=>decide (e.1=i)).map (·.2)):=rfl
theorem aaI{v:Int}(h:kvs.length<lim):Dc.put (.k kvs) (.int i) v=aj (.k (putD kvs i v)):=by show(if _ then _ else _)=_;rw[if_pos h]
noncomputable def hsD(ws:List Wy)(d:D):D:=.int (hst ws (Za d))
theorem DN{ws:List Wy}:∀{c:List aB},(c.map (hst ws)).sum=bW ws c|[]=>rfl|s::c=>by rw[da,nN,DN,bW]
inductive F2s(a b:Sl)(ρ:List Sl):Prop where|mk(s:Sl)(q0:ρ=[a,b,s])(q1:fr s=a_)
theorem Ay(hc:∀s∈c,s.1<ws.length)(B:c.length<=1000)(k:Q (.val (.int (bW ws c))) [.val aK (aR m ws),.val aK (.tup (c.map sD))]):(run Γ w (n+2) 3 [.val aK (aR m ws),.val aK (.tup (c.map sD))]).sat Q:=by
 refine aM (d:=f3) rfl rfl (by decide) ?_;symm;simp[f3,show c.length<=16777216 by omega];refine bV (F2s _ _) (hsD ws) ⟨.aV,rfl,rfl⟩ ?_ ?_
 . rintro d hd _⟨A,rfl,h⟩;obtain⟨s,hs,rfl⟩:=cS.mp hd;have y:=hc s hs;have e:ws[s.1]?=aj ws[s.1]:=by simp[y]
   simp[h,sD];refine uX e ?_;simp;refine⟨?_,_,rfl,rfl⟩;show D.int (hst ws (Za (sD s)))=_;rw[Ia,ie e]
 rintro _⟨A,rfl,h⟩;have t:(c.map sD).map (hsD ws)=(c.map (hst ws)).map D.int:=by rw[ef,ef];rfl
 rw[t];have u:=DN (ws:=ws) (c:=c);generalize c.map (hst ws)=ns at*;simp[fB,u];exact k
noncomputable def gv(kvs:List (Int×Int))(k:Int):Int:=((kvs.find? λe=>decide (e.1=k)).map (·.2)).getD 0
noncomputable def Z1(W:Int->Int->Int):Prop:=∀k a b,W k (a+b)=W k a+W k b
noncomputable def uh(W:Int->Int->Int):List (Int×Int)->Int|[]=>0|kv::r=>W kv.1 kv.2+uh W r
theorem Dq{W:Int->Int->Int}{b:List (Int×Int)}:∀{a:List (Int×Int)},uh W (a++b)=uh W a+uh W b|[]=>by simp[uh]|x::a=>by rw[kE,uh,uh,Dq];omega
theorem Ea{k v:Int}:∀{r:List (Int×Int)},k∉r.map (·.1)->(r.map λe=>if e.1=k then(e.1,v)else e)=r|[],_=>rfl|x::r,h=>by rw[da,de,not_or]at h;rw[da,Ea h.2,if_neg (λz=>h.1 z.symm)]
theorem Df{W:Int->Int->Int}(A:Z1 W){k x:Int}:∀{r:List (Int×Int)},(r.map (·.1)).Nodup->k∈r.map (·.1)->uh W (r.map λe=>if e.1=k then(e.1,gv r k+x)else e)=uh W r+W k x
 |[],_,h=>by cases h|y::r,t,h=>by
   rw[da,eL]at t;by_cases c:y.1=k
   . have u:gv (y::r) k=y.2:=by unfold gv;rw[gy];simp[c]
     rw[u,da,if_pos c,Ea (by rw[<-c];exact t.1),uh,uh];show W y.1 (y.2+x)+_=_;rw[A,c];omega
   . have u:gv (y::r) k=gv r k:=by unfold gv;rw[gy];simp[c]
     have B:k∈r.map (·.1):=by
      rcases de.mp h with h|h;.exact absurd h.symm c
      .exact h
     rw[u,da,if_neg c,uh,uh,Df A t.2 B];omega
theorem Tw(h:k∉r.map (·.1)):gv r k=0:=by
 unfold gv;rw[List.find?_eq_none.mpr];.rfl
 .intro x t;simp;intro e;exact h (cS.mpr ⟨x,t,e⟩)
theorem Z8(h:∀t∈r,0<t.2):0<=gv r k:=by unfold gv;cases e:r.find? λt=>decide (t.1=k)with|none=>simp|some x=>have:=h x (List.mem_of_find?_eq_some e);simp;omega
theorem xj{x:Int}(u:(r.map (·.1)).Nodup):((putD r k (gv r k+x)).map (·.1)).Nodup/\(putD r k (gv r k+x)).length<=r.length+1/\(∀h∈putD r k (gv r k+x),h=(k,gv r k+x)\/h∈r)/\∀W,Z1 W->uh W (putD r k (gv r k+x))=uh W r+W k x:=by
 have B:(r.any λh=>decide (h.1=k))=a_↔k∈r.map (·.1):=by rw[i5,cS];exact⟨λ⟨y,h1,A⟩=>⟨y,h1,by simpa using A⟩,λ⟨y,h1,A⟩=>⟨y,h1,by simpa using A⟩⟩
 unfold putD;by_cases c:k∈r.map (·.1)
 . rw[if_pos (B.mpr c)];have e:(r.map λh=>if h.1=k then(h.1,gv r k+x)else h).map (·.1)=r.map (·.1):=by rw[ef];refine ia λy _=>?_;show(if y.1=k then _ else _:Int×Int).1=y.1;split<;>rfl
   refine⟨by rw[e];exact u,by simp,λh t=>?_,λW C=>Df C u c⟩;obtain⟨y,E,rfl⟩:=cS.mp t;by_cases z:y.1=k;.rw[if_pos z,z];exact .inl rfl
   .rw[if_neg z];exact .inr E
 . rw[if_neg λz=>c (B.mp z),Tw c,Int.zero_add];refine⟨?_,by simp,λh t=>?_,λW _=>?_⟩;.rw[gN,kX];exact⟨u,by simp,λa G b H e=>c (by
      have:b=k:=by simpa using H
      rw[<-this,<-e];exact G)⟩
   . rcases fk.mp t with hj|hj;.exact .inr hj
     .exact .inl (dU.mp hj)
   .rw[Dq];simp[uh]
theorem Wv{v:Int}(h:r.Pairwise (λa b=>a.1<b.1))(u:∀y∈r,y.1<=k):(putD r k v).Pairwise (λa b=>a.1<b.1):=by
 unfold putD;split;.rw[List.pairwise_map];refine h.imp λ{a b}e=>?_;split<;>split<;>exact e
 .rename_i A;rw[kQ];refine⟨h,by simp,λa t b B=>?_⟩;have h1:=u a t;have C:a.1≠k:=λz=>A (i5.mpr ⟨a,t,by simpa using z⟩);rw[dU.mp B];show a.1<k;omega
noncomputable def U6:D->Int×Int|.tup [.int a,.int b]=>(a,b)|_=>(0,0)
@[simp]theorem ahj{a b:Int}:U6 (.tup [.int a,.int b])=(a,b):=rfl
structure Rb(ws:List Wy)(cs:List (List aB×Int))(kvs:List (Int×Int)):Prop where
 nd:(kvs.map (·.1)).Nodup
 len:kvs.length<=cs.length
 nn:∀kv∈kvs,1<=kv.1/\0<kv.2
 key:∀kv∈kvs,∃x∈cs,kv.1=bW ws x.1
 so:kvs.Pairwise (λa b=>a.1<b.1)sm:∀W,Z1 W->uh W kvs=bT (λx=>W (bW ws x.1) x.2) cs
theorem Rb.put(h:Rb ws cs kvs){x:List aB×Int}(h0:1<=bW ws x.1)(h1:0<x.2)(C:∀y∈cs,bW ws y.1<=bW ws x.1):Rb ws (cs++[x]) (putD kvs (bW ws x.1) (gv kvs (bW ws x.1)+x.2)):=by
 obtain⟨p1,p2,p3,E⟩:=xj (k:=bW ws x.1) (x:=x.2) h.nd;have G:=h.len;refine⟨p1,by simp;omega,λu t=>?_,λu t=>?_,Wv h.so λu t=>?_,λW B=>?_⟩
 . rcases p3 u t with e|e;.have:=Z8 (k:=bW ws x.1) λu t=>(h.nn u t).2;rw[e];exact⟨h0,by show 0<_+_;omega⟩
   .exact h.nn u e
 . rcases p3 u t with e|e;.exact⟨x,by simp,by rw[e]⟩
   .obtain⟨y,A,e⟩:=h.key u e;exact⟨y,by simp[A],e⟩
 .obtain⟨y,A,e⟩:=h.key u t;rw[e];exact C y A
 .rw[E W B,h.sm W B,jL]
theorem Kc{ws:List Wy}{b:Int}(h0:∀v∈ws,0<=v.h)(t:∀v∈ws,v.h<=1000000):∀{c:List aB}{a:Int},iy ws b c a->bW ws c<=1000000*(c.length:Int)
 |[],_,_=>by simp[bW]|s::c,a,⟨v,e,_,u⟩=>by
   have h1:=Kc h0 t u;have y:=t v (dV e);have A:=h0 v (dV e);have B:hst ws s<=1000000:=by rw[ie e];unfold hsp;split<;>omega
   rw[bW,ei];omega
theorem Rb.few(h:Rb ws cs kvs)(y:∀x∈cs,Chk m ws x)(A:ws.length<=12):kvs.length<=531441:=by
 have h1:=nD (l2:=(ur ws.length).map λe=>lC ws e/7) h.nd λk t=>by obtain⟨B,u,rfl⟩:=cS.mp t;obtain⟨x,C,e⟩:=h.key B u;obtain⟨c1,c2,c3,c4⟩:=y x C;refine cS.mpr ⟨Gi ws.length x.1,by have:=sH (e:=Gi ws.length x.1);rwa[xg]at this,?_⟩;rw[wL c3 c4,e];unfold zZ;omega
 rw[dQ,dQ,tQ]at h1;have E:3^ws.length<=3^12:=oP (by decide) A;have G:(3:Nat)^12=531441:=by decide
 omega
inductive JBn(m:Int)(ws:List Wy)(cs:List (List aB×Int))(r:List D)(ρ:List Sl):Prop where|mk(cI us:List (List aB×Int))(kvs:List (Int×Int))(s2 s3 s4:Sl)(q0:ρ=[.val aK (aR m ws),.gV (.k kvs),s2,s3,s4])(q1:A3 (fr s2=a_) (fr s3=a_) (fr s4=a_))(q2:r=us.map cD)(q3:cI++us=cs)(q4:Rb ws cI kvs)
theorem uQ(Z:13286250<=w)(h:cX m ws)(k:∀cs fs F d es kvs,kvs.length<=531441->Ends m ws cs fs F d es->Rb ws cs kvs->kvs.Pairwise (λa b=>a.1<b.1)->(∀H∈kvs,H.1<=6000000)->Q (.own (kvs.map jY)) [.val aK (aR m ws)]):(run Γ w (n+5) 10 [.val aK (aR m ws)]).sat Q:=by
 refine aM (d:=f10) rfl rfl (by decide) ?_;symm;simp[f10,Pz];apply ao;simp;refine yN Z (HN.of h) (λv C=>(h.ok v C).r0) λcs fs F d es hl A=>?_;simp;refine cP (JBn m ws cs) ?_ ?_ ⟨[],cs,[],.aV,.aV,.aV,rfl,⟨rfl,rfl,rfl⟩,rfl,rfl,⟨by simp,by simp,by simp,by simp,by simp,λW _=>rfl⟩⟩;.rintro d r _⟨E,B,kvs,s2,s3,s4,rfl,⟨I,U,X⟩,hr,hd,t⟩;cases B with|nil=>cases hr|cons u B=>
     obtain⟨rfl,rfl⟩:d=cD u/\r=B.map cD:=by simpa using hr
     have J:u∈cs:=by rw[<-hd];simp
     have G:=A.ck u J;have ac:E.length<=cs.length:=by rw[<-hd];simp
     have L:=t.len;have M:(E++[u])++B=cs:=by rw[fN];exact hd
     simp[cD,I,U];apply ao;simp;refine Ay G.2.1 (by have:=G.1;omega) ?_;simp[X];apply ao;simp[Ox,T5,Uz];rw[aaI (by show _<16777216;omega)];simp;refine⟨E++[u],B,_,_,_,_,rfl,⟨rfl,rfl,rfl⟩,rfl,M,t.put ((A.iv.nn λv C=>(h.ok v C).h0).2 u J) (A.iv.ch u J).2.1 λy hy=>?_⟩;have hst:=A.st.1;rw[<-hd,kQ]at hst;exact hst.2.2 y hy u (by simp)
 . rintro _⟨E,B,kvs,s2,s3,s4,rfl,⟨I,U,X⟩,hr,hd,t⟩;have:B=[]:=by cases B with|nil=>rfl|cons _ _=>cases hr
   subst this;rw[gE]at hd;subst hd;have L:=t.len;simp;apply ao;simp[show kvs.length<=16777216 by omega,t.so];refine k E fs F d es kvs (t.few A.ck (HN.of h).len) A t t.so λH O=>?_;obtain⟨x,Y,e⟩:=t.key H O;have h1:=Kc (λv C=>((HN.of h).ok v C).2.2) (λv C=>(h.ok v C).h1) (A.ck x Y).2.2.1;have I:=(A.ck x Y).1;rw[e];omega
noncomputable def vt(T k v:Int):Int:=if k<=T then v*(T-k+1)else 0
noncomputable def gt(T k v:Int):Int:=if k<=T then v else 0
theorem Vl{T:Int}:Z1 (vt T):=λk a b=>by
 unfold vt;split;.exact Int.add_mul ..
 .rfl
theorem R8{T:Int}:Z1 (gt T):=λk a b=>by unfold gt;split<;>rfl
noncomputable def cY(m:Int)(ws:List Wy)(cs:List (List aB×Int)):Prop:=(∀v∈ws,1<=v.h)/\∃fs F d es,Ends m ws cs fs F d es
noncomputable def Rt(ws:List Wy)(cs:List (List aB×Int))(T:Int):Int:=bT (λx=>gt T (bW ws x.1) x.2) cs
noncomputable def U8(cs:List (List aB×Int)):Int:=bT (λx=>x.2) cs
theorem jt.uniq{T v e:Int}(h:jt m ws T v)(h':jt m ws T e):v=e:=by obtain⟨q,t,u,y⟩:=h.ex;obtain⟨r,r0,r1,A⟩:=h'.ex;have:=h.le r r0 r1;have:=h'.le q t u;omega
theorem cY.least{m:Int}{ws:List Wy}{cs:List (List aB×Int)}(h:cY m ws cs){T:Int}(h0:0<=T):jt m ws T (val ws T cs):=by obtain⟨t,fs,F,d,es,e⟩:=h;exact e.iv.least e.cm e.no h0
theorem yz{H K:List aB×Int->Int}:∀{cs:List (List aB×Int)},bT (λx=>H x-K x) cs=bT H cs-bT K cs|[]=>rfl|x::cs=>by rw[bT,bT,bT,yz];omega
theorem xN{H K:List aB×Int->Int}:∀{cs:List (List aB×Int)},(∀x∈cs,H x<=K x)->bT H cs<=bT K cs|[],_=>fg _|x::cs,h=>by have h1:=h x (by simp);have t:=xN (H:=H) (K:=K) (cs:=cs) λy e=>h y (by simp[e]);rw[bT,bT];omega
theorem BJ{T:Int}:Rt ws cs T=val ws T cs-val ws (T-1) cs:=by
 unfold Rt val;rw[<-yz];refine gW λx _=>?_;show gt T (bW ws x.1) x.2=vt T (bW ws x.1) x.2-vt (T-1) (bW ws x.1) x.2;unfold gt vt;by_cases c:bW ws x.1<=T-1;.rw[if_pos (by omega),if_pos (by omega),if_pos c,<-Int.mul_sub,show T-bW ws x.1+1-(T-1-bW ws x.1+1)=1 by omega,mul_one]
 . by_cases c2:bW ws x.1<=T;.rw[if_pos c2,if_pos c2,if_neg c,show T-bW ws x.1+1=1 by omega,mul_one];omega
   .rw[if_neg c2,if_neg c2,if_neg c];rfl
theorem cY.nn{m:Int}{ws:List Wy}{cs:List (List aB×Int)}(h:cY m ws cs):∀x∈cs,1<=bW ws x.1/\0<x.2:=by obtain⟨e,fs,F,d,es,t⟩:=h;exact λx u=>⟨(t.iv.nn e).2 x u,(t.iv.ch x u).2.1⟩
theorem cY.dg(h:cY m ws cs){T:Int}(h0:T<=0):val ws T cs=0:=by
 have:val ws T cs=bT (λ_=>0) cs:=gW λx e=>by have:=(h.nn x e).1;show vt T (bW ws x.1) x.2=0;unfold vt;rw[if_neg (by omega)]
 rw[this];clear this h;induction cs with|nil=>rfl|cons x cs t=>rw[bT,t];rfl
theorem cY.val_eq{e:List (List aB×Int)}(h:cY m ws cs)(h':cY m ws e)(T:Int):val ws T cs=val ws T e:=by
 by_cases c:0<=T;.exact(h.least c).uniq (h'.least c)
 .rw[h.dg (by omega),h'.dg (by omega)]
theorem cY.QB{e:List (List aB×Int)}(h:cY m ws cs)(h':cY m ws e)(T:Int):Rt ws cs T=Rt ws e T:=by rw[BJ,BJ,h.val_eq h',h.val_eq h']
theorem cY.mono(h:cY m ws cs){T U:Int}(t:T<=U):Rt ws cs T<=Rt ws cs U:=xN λx e=>by have:=(h.nn x e).2;unfold gt;split<;>split<;>omega
theorem cY.Zi(h:cY m ws cs){T:Int}:Rt ws cs T<=U8 cs:=xN λx e=>by have:=(h.nn x e).2;unfold gt;split<;>omega
theorem cY.Zb(h:cY m ws cs){T:Int}:0<=Rt ws cs T:=by
 have h1:=h.mono (T:=min T 0) (U:=T) (by omega);have:Rt ws cs (min T 0)=0:=by rw[BJ,h.dg (by omega),h.dg (by omega)];rfl
 omega
noncomputable def moD(T:Int)(d:D):Option D:=if(U6 d).1<=T then aj (.int ((U6 d).2*(T-(U6 d).1+1)))else bx
theorem J7{T:Int}:∀(kvs:List (Int×Int)),∃ns:List Int,(kvs.map jY).filterMap (moD T)=ns.map D.int/\ns.sum=uh (vt T) kvs
 |[]=>⟨[],rfl,rfl⟩|kv::r=>by
   obtain⟨ns,h1,h⟩:=J7 (T:=T) r;have e:moD T (jY kv)=if kv.1<=T then aj (.int (kv.2*(T-kv.1+1)))else bx:=rfl;rw[da,ib,h1,uh,<-h,e];unfold vt;by_cases c:kv.1<=T;.rw[if_pos c,if_pos c];exact⟨_::ns,rfl,by rw[nN]⟩
   .rw[if_neg c,if_neg c];exact⟨ns,rfl,by omega⟩
inductive F2t(a b:Sl)(ρ:List Sl):Prop where|mk(s:Sl)(t:Sl)(q0:ρ=[a,b,s,t])(q1:fr s=a_)(q2:fr t=a_)
theorem Am{T:Int}{s:Sl}(hs:s=.own aK (kvs.map jY)\/s=.val aK (.lst (kvs.map jY)))(B:kvs.length<=16000000)(h0:∀h∈kvs,1<=h.1/\0<h.2)(C:T<=4000000000000000000)(k:Q (.val (.int (uh (vt T) kvs))) [s,.val aK (.int T)]):(run Γ w (n+1) 14 [s,.val aK (.int T)]).sat Q:=by refine aM (d:=f14) rfl rfl (by decide) ?_;symm;rcases hs with rfl|rfl;all_goals
  simp[f14,show kvs.length<=16777216 by omega];refine gC (F2t _ _) (moD T) ⟨.aV,.aV,rfl,rfl,rfl⟩ ?_ ?_
  . rintro d hd _⟨s,t,rfl,hs,ht⟩;obtain⟨h,u,rfl⟩:=cS.mp hd;have:=(h0 h u).1;have e:moD T (jY h)=if h.1<=T then aj (.int (h.2*(T-h.1+1)))else bx:=rfl;by_cases c:h.1<=T
    . rw[if_pos c]at e;have y:pM (.int h.2) (.int (T-h.1+1))=aj (.val (.int (h.2*(T-h.1+1)))):=by show(if _ then _ else _)=_;rw[if_pos];right;omega
      rw[e];simp[hs,ht,jY,c,y];exact⟨_,_,rfl,rfl,rfl⟩
    .rw[if_neg c]at e;rw[e];simp[hs,ht,jY,c];exact⟨_,_,rfl,rfl,rfl⟩
  .rintro _⟨s,t,rfl,hs,ht⟩;obtain⟨ns,h1,A⟩:=J7 (T:=T) kvs;rw[h1];simp[fB,A];exact k
theorem rO{T:Int}(t:13286250<=w)(h:cX m ws)(u:T<=4000000000000000000)(k:∀cs,cY m ws cs->Q (.val (.int (val ws T cs))) [.val aK (aR m ws),.val aK (.int T)]):(run Γ w (n+6) 15 [.val aK (aR m ws),.val aK (.int T)]).sat Q:=by refine aM (d:=f15) rfl rfl (by decide) ?_;symm;simp[f15];refine uQ t h λcs fs F d es kvs B y e _ _=>?_;simp;refine Am (.inl rfl) (by omega) e.nn u ?_;simp;rw[e.sm _ Vl];exact k cs ⟨λv A=>(h.ok v A).h0,fs,F,d,es,y⟩
noncomputable def byD(T:Int)(d:D):Option D:=if(U6 d).1<=T then aj d else bx
noncomputable def uw(T:Int)(kvs:List (Int×Int)):List (Int×Int):=kvs.filter λe=>decide (e.1<=T)
theorem K4{T:Int}:∀{kvs:List (Int×Int)},(kvs.map jY).filterMap (byD T)=(uw T kvs).map jY
 |[]=>rfl|kv::r=>by
   have e:byD T (jY kv)=if kv.1<=T then aj (jY kv)else bx:=rfl;rw[da,ib,K4,e];unfold uw;rw[List.filter_cons];by_cases c:kv.1<=T;.rw[if_pos c,if_pos (by simpa using c)];rfl
   .rw[if_neg c,if_neg (by simpa using c)]
theorem CK{T:Int}:∀{kvs:List (Int×Int)},((uw T kvs).map (·.2)).sum=uh (gt T) kvs
 |[]=>rfl|kv::r=>by
   have e:=CK (T:=T) (kvs:=r);unfold uw at e ⊢;rw[List.filter_cons,uh];unfold gt at*;by_cases c:kv.1<=T;.rw[if_pos (by simpa using c),if_pos c,da,nN,e]
   .rw[if_neg (by simpa using c),if_neg c,e];omega
theorem zu{T:Int}(u:13286250<=w)(h:cX m ws)(k:∀cs kvs,kvs.length<=531441->cY m ws cs->Rb ws cs kvs->Q (.own ((uw T kvs).map jY)) [.val aK (aR m ws),.val aK (.int T)]):(run Γ w (n+6) 13 [.val aK (aR m ws),.val aK (.int T)]).sat Q:=by
 refine aM (d:=f13) rfl rfl (by decide) ?_;symm;simp[f13];refine uQ u h λcs fs F d es kvs y A B _ _=>?_;simp[show kvs.length<=16777216 by omega];refine gC (F2s _ _) (byD T) ⟨.aV,rfl,rfl⟩ ?_ ?_
 . rintro d hd _⟨s,rfl,hs⟩;obtain⟨t,C,rfl⟩:=cS.mp hd;have e:byD T (jY t)=if t.1<=T then aj (jY t)else bx:=rfl;by_cases c:t.1<=T;.rw[if_pos c]at e;rw[e];simp[hs,jY,c];exact⟨_,rfl,rfl⟩
   .rw[if_neg c]at e;rw[e];simp[hs,jY,c];exact⟨_,rfl,rfl⟩
 .rintro _⟨s,rfl,hs⟩;rw[K4];simp;exact k cs kvs y ⟨λv E=>(h.ok v E).h0,fs,F,d,es,A⟩ B
noncomputable def V0(d:D):D:=.int (U6 d).2
theorem BK{T:Int}(B:13286250<=w)(h:cX m ws)(k:∀cs,cY m ws cs->Q (.val (.int (Rt ws cs T))) [.val aK (aR m ws),.val aK (.int T)]):(run Γ w (n+7) 16 [.val aK (aR m ws),.val aK (.int T)]).sat Q:=by
 refine aM (d:=f16) rfl rfl (by decide) ?_;symm;simp[f16];refine zu B h λcs kvs H C E=>?_;have u:(uw T kvs).length<=16777216:=by have:=i_ (λy:Int×Int=>decide (y.1<=T)) kvs;unfold uw;omega
 simp[u];refine bV (F2t _ _) V0 ⟨.aV,.aV,rfl,rfl,rfl⟩ ?_ ?_;.rintro d hd _⟨s,t,rfl,hs,ht⟩;obtain⟨y,G,rfl⟩:=cS.mp hd;simp[hs,ht,jY,V0,U6];exact⟨_,_,rfl,rfl,rfl⟩
 . rintro _⟨s,t,rfl,hs,ht⟩;have e:((uw T kvs).map jY).map V0=((uw T kvs).map (·.2)).map D.int:=by rw[ef,ef];rfl
   rw[e];have A:=CK (T:=T) (kvs:=kvs);rw[E.sm _ R8]at A;generalize(uw T kvs).map (·.2)=ns at*;simp[fB,A];exact k cs C
noncomputable def mH:List (List aB×Int)->Int->List (List aB×Int)|[],_=>[]|x::r,q=>(x.1,min q x.2)::mH r (q-min q x.2)
noncomputable def QT:List (List aB×Int)->Int->Int|[],q=>q|x::r,q=>QT r (q-min q x.2)
theorem P0:∀{l:List (List aB×Int)}{q:Int},(mH l q).length=l.length|[],_=>rfl|x::r,q=>by rw[mH,ei,P0,ei]
theorem CT:∀{l:List (List aB×Int)}{q:Int}{y:List aB×Int},y∈mH l q->∃x∈l,y.1=x.1
 |[],_,_,h=>by cases h|x::r,q,y,h=>by
   rw[mH,de]at h;rcases h with rfl|h;.exact⟨x,by simp,rfl⟩
   .obtain⟨z,hz,e⟩:=CT h;exact⟨z,by simp[hz],e⟩
theorem QK:∀{l:List (List aB×Int)}{q:Int},(∀x∈l,0<x.2)->0<=q->q<=U8 l->QT l q=0
 |[],q,_,h0,h1=>by have h1:q<=0:=h1;rw[QT];omega|x::r,q,h,h0,h1=>by
   have A:=h x (by simp);have h1:q<=x.2+U8 r:=h1;have hr:0<=U8 r:=by
    have:∀(l:List (List aB×Int)),(∀x∈l,0<x.2)->0<=U8 l:=λl=>by induction l with|nil=>intro _;exact fg _|cons y l t=>intro e;have B:=t λz hz=>e z (by simp[hz]);have C:=e y (by simp);show 0<=y.2+U8 l;omega
    exact this r λz hz=>h z (by simp[hz])
   rw[QT];exact QK (λy u=>h y (by simp[u])) (by omega) (by omega)
inductive JCu(a0 a1:Sl)(N:Nat)(out:List (List aB×Int))(z:Int)(r:List D)(ρ:List Sl):Prop where|mk(us cI:List (List aB×Int))(q:Int)(s4 s5 s6:Sl)(q0:ρ=[a0,a1,.own aK (cI.map cD),.val aK (.int q),s4,s5,s6])(q1:A3 (fr s4=a_) (fr s5=a_) (fr s6=a_))(q2:r=us.map cD)(q3:cI++mH us q=out)(q4:QT us q=z)(q5:cI.length+us.length=N)
theorem GC{q:Int}(E:cs.length<=16000000)(hz:QT cs q=0)(k:Q (.own ((mH cs q).map cD)) [.own aK (cs.map cD),.val aK (.int q)]):(run Γ w (n+1) 9 [.own aK (cs.map cD),.val aK (.int q)]).sat Q:=by
 refine aM (d:=f9) rfl rfl (by decide) ?_;symm;simp[f9];apply ao;simp;apply ao;simp;refine cP (JCu _ _ cs.length (mH cs q) 0) ?_ ?_ ⟨cs,[],q,.aV,.aV,.aV,rfl,⟨rfl,rfl,rfl⟩,rfl,rfl,hz,by simp⟩;.rintro d r _⟨e,h,q,s4,s5,s6,rfl,⟨t,y,A⟩,hr,ho,hz,B⟩;cases e with|nil=>cases hr|cons u e=>
     obtain⟨rfl,rfl⟩:d=cD u/\r=e.map cD:=by simpa using hr
     rw[mH]at ho;rw[QT]at hz;rw[ei]at B;simp[cD,t,y];apply ao;simp[A];apply ao;simp[show h.length<16777216 by omega];apply ao;simp;have C:(if u.2<q then u.2 else q)=min q u.2:=by split<;>omega
     rw[C];exact⟨e,h++[(u.1,min q u.2)],q-min q u.2,_,_,_,by rw[gN];rfl,⟨rfl,rfl,rfl⟩,rfl,by rw[fN];exact ho,hz,by simp;omega⟩
 . rintro _⟨e,h,q,s4,s5,s6,rfl,⟨t,y,A⟩,hr,ho,hz,B⟩;have:e=[]:=by cases e with|nil=>rfl|cons _ _=>cases hr
   subst this;rw[mH,gE]at ho;rw[QT]at hz;subst ho;subst hz;simp;apply ao;simp;apply ao;simp;exact k
theorem Je{fs:List Int}:∀{c:List aB},aug 0 fs c=fs
 |[]=>rfl|s::c=>by
   show aug 0 (jO 0 fs s) c=fs;have:jO 0 fs s=fs:=by
    unfold jO;have h0:sg 0 s.2=0:=by cases s.2<;>rfl
    rw[h0,Int.add_zero];refine List.ext_getElem? λi=>?_;rw[mv];split
    . rename_i e;subst e;split;.rename_i h;simp[h]
      .rename_i h;simp at h;simp[h]
    .rfl
   rw[this,Je]
structure Hk(m:Int)(ws:List Wy)(ts:List (List aB×Int))(fs:List Int):Prop where
 fit:Mf ws fs
 ht:∃F,Pt ws fs F/\F 0=0
 dt:∀k q,fc (gap k q) ws fs=bT (λx=>x.2*(q (m-1)-q 0-k*bW ws x.1)) ts
theorem Ih:∀{l:List (List aB×Int)}{fs:List Int}{H:List aB×Int->Int},(∀x∈l,0<x.2)->(∀c,H (c,0)=0)->(mH l 0).foldl pI fs=fs/\bT H (mH l 0)=0
 |[],_,_,_,_=>⟨rfl,rfl⟩|x::r,fs,H,h,t=>by
   have C:=h x (by simp);have u:=Ih (l:=r) (fs:=fs) (λy A=>h y (by simp[A])) t;have e:mH (x::r) 0=(x.1,0)::mH r 0:=by rw[mH,show min 0 x.2=0 by omega,Int.sub_self]
   rw[e,nX,bT,t,u.2];have B:pI fs (x.1,0)=fs:=Je;rw[B];exact⟨u.1,rfl⟩
theorem pR{H:List aB×Int->Int}{b:List (List aB×Int)}:∀{a:List (List aB×Int)},bT H (a++b)=bT H a+bT H b|[]=>by simp[bT]|x::a=>by rw[kE,bT,bT,pR];omega
theorem Ends.light{d:Int}{fs:List Int}(B:Ends m ws cs fs F d es):∀(t A:List (List aB×Int))(q:Int),A++t=cs->0<=q->Hk m ws (A++mH t q) ((mH t q).foldl pI (flow ws.length A)):=by
 have pos:∀x∈cs,0<x.2:=λx I=>(B.iv.ch x I).2.1;have C:∀A t,A++t=cs->Hk m ws A (flow ws.length A):=λA t e=>by cases t with|nil=>rw[gE]at e;subst e;rw[<-B.fl];exact⟨B.iv.fit,⟨F,B.iv.pt,B.iv.z⟩,B.iv.dt⟩|cons x r=>have s:=B.st.2 A x r e.symm;obtain⟨J,d0,iv⟩:=s.iv;exact⟨iv.fit,⟨J,iv.pt,iv.z⟩,iv.dt⟩
 have zero:∀(t E:List (List aB×Int))(gs:List Int),(∀x∈t,0<x.2)->Hk m ws E gs->Hk m ws (E++mH t 0) ((mH t 0).foldl pI gs):=λt E gs L h=>by have hz:=λH M=>Ih (l:=t) (fs:=gs) (H:=H) L M;rw[(hz (λ_=>0) λ_=>rfl).1];refine⟨h.fit,h.ht,λk q=>?_⟩;rw[pR,(hz (λx=>x.2*(q (m-1)-q 0-k*bW ws x.1)) λc=>by simp).2,h.dt,Int.add_zero]
 intro t;induction t with|nil=>intro A q e _;rw[mH,gE];exact C A [] e|cons x r O=>
   intro A q e Y;have I:=pos x (by rw[<-e];simp);have hr:∀y∈r,0<y.2:=λy U=>pos y (by rw[<-e];simp[U]);rw[mH];by_cases c:x.2<=q
   . have G:min q x.2=x.2:=by omega
     rw[G];have:=O (A++[x]) (q-x.2) (by rw[fN];exact e) (by omega);rw[fN,rR]at this;exact this
   . have G:min q x.2=q:=by omega
     rw[G,Int.sub_self,nX];have s:=B.st.2 A x r e.symm;have ck:=B.ck x (by rw[<-e];simp);obtain⟨F1,p1,p2,p3⟩:=s.ht;obtain⟨J,d0,iv⟩:=s.iv;have g:Hk m ws (A++[(x.1,q)]) (pI (flow ws.length A) (x.1,q)):=by
      show Hk m ws _ (aug q (flow ws.length A) x.1);refine⟨?_,⟨F1,p1.aug ck.2.2.1 s.op (by rw[p2,p3];omega),p2⟩,λk Z=>?_⟩
      . by_cases z:q=0;.subst z;rw[Je];exact iv.fit
        .refine iv.fit.aug ck.2.2.2 (by omega) λu W=>?_;obtain⟨v,g,h1,X,h3⟩:=s.rm u W;exact⟨v,g,h1,X,by omega⟩
      .rw[qJ iv.fit.len ck.2.2.1,iv.dt,jL]
     have:=zero r _ _ hr g;rw[fN]at this;exact this
theorem Jf{ws:List Wy}{T:Int}:∀{cs:List (List aB×Int)},cs.Pairwise (λa b=>bW ws a.1<=bW ws b.1)->(∀x∈cs,0<x.2)->0<=Rt ws cs T/\bT (λx=>x.2*(T+1-bW ws x.1)) (mH cs (Rt ws cs T))=val ws T cs
 |[],_,_=>⟨fg _,rfl⟩|x::r,t,h=>by
   have G:=h x (by simp);have t:=lb.mp t;obtain⟨H,e⟩:=Jf (T:=T) t.2 λy hy=>h y (by simp[hy]);have u:Rt ws (x::r) T=gt T (bW ws x.1) x.2+Rt ws r T:=rfl;have A:val ws T (x::r)=vt T (bW ws x.1) x.2+val ws T r:=rfl;by_cases c:bW ws x.1<=T
   . have B:gt T (bW ws x.1) x.2=x.2:=by unfold gt;rw[if_pos c]
     have C:vt T (bW ws x.1) x.2=x.2*(T+1-bW ws x.1):=by unfold vt;rw[if_pos c];congr 1;omega
     rw[u,A,B,C,mH,show min (x.2+Rt ws r T) x.2=x.2 by omega,show x.2+Rt ws r T-x.2=Rt ws r T by omega,bT,e];exact⟨by omega,rfl⟩
   . have z:∀y∈x::r,¬ bW ws y.1<=T:=λy hy=>by
      rcases de.mp hy with rfl|hy;.exact c
      .have:=t.1 y hy;omega
     have r0:Rt ws (x::r) T=0:=by
      have:Rt ws (x::r) T=bT (λ_=>0) (x::r):=gW λy hy=>by unfold gt;rw[if_neg (z y hy)]
      rw[this];have:∀l:List (List aB×Int),bT (λ_=>0) l=0:=λl=>by induction l with|nil=>rfl|cons y l e=>rw[bT,e];rfl
      exact this _
     have E:val ws T (x::r)=0:=by
      have:val ws T (x::r)=bT (λ_=>0) (x::r):=gW λy hy=>by unfold Vm;rw[if_neg (z y hy)]
      rw[this];have:∀l:List (List aB×Int),bT (λ_=>0) l=0:=λl=>by induction l with|nil=>rfl|cons y l e=>rw[bT,e];rfl
      exact this _
     rw[r0,E];exact⟨fg _,(Ih (fs:=[]) h λc=>by simp).2⟩
noncomputable def late(ws:List Wy):Int:=jE (λv=>v.h) ws
theorem Ei{ws:List Wy}{b:Int}{t:aB}{v:Wy}(e:ws[t.1]?=aj v):∀{c:List aB}{a:Int},iy ws b c a->t∈c->frm v t.2∈rK ws c a/\too v t.2∈rK ws c a
 |[],_,_,h=>by cases h|s::c,a,⟨y,u,A,B⟩,h=>by
   have C:rG ws s=too y s.2:=by unfold rG;rw[u]
   rw[rK,C];rcases de.mp h with rfl|h;.rw[e]at u;cases u;refine⟨by rw[A];simp,dI _ ?_⟩;cases c<;>simp[rK]
   .have:=Ei e B h;exact⟨dI _ this.1,dI _ this.2⟩
theorem Dm{ws:List Wy}{b:Int}:∀{c:List aB}{a:Int},iy ws b c a->(rK ws c a).Nodup->(c.map (·.1)).Nodup
 |[],_,_,_=>by simp|s::c,a,⟨v,e,A,B⟩,h=>by
   have C:rG ws s=too v s.2:=by unfold rG;rw[e]
   rw[rK,C,eL]at h;rw[da,eL];refine⟨λE=>?_,Dm B h.2⟩;obtain⟨t,ht,y⟩:=cS.mp E;have u:=Ei (t:=t) (by rw[y];exact e) B ht;by_cases z:t.2=s.2;.rw[z,A]at u;exact h.1 u.1
   .rw[(kI z).2,A]at u;exact h.1 u.2
theorem TY(u:∀v∈ws,0<=v.h)(y:iy ws b c a)(A:(c.map (·.1)).Nodup):0<=late ws+bW ws c:=by
 have h1:=qJ (k:=1) (x:=1) (q:=λ_=>0) (fs:=cx ws.length 0) (by simp) y;rw[tX]at h1;have E:fc (gap 1 λ_=>0) ws (aug 1 (cx ws.length 0) c)<=late ws:=by
  refine wH (by rw[nU];simp) λj v g t e=>?_;have G:=u v (dV t);have B:g=0\/g=1\/g=-1:=by
   by_cases z:j∈c.map (·.1);.obtain⟨s,hs,rfl⟩:=cS.mp z;have C:s.1<ws.length:=(eY t).1;rw[wg A hs (g:=0) (by simp[C])]at e;cases e;cases s.2<;>simp[sg]
   .rw[nP z]at e;exact .inl (wB e)
  unfold gap;rcases B with rfl|rfl|rfl<;>simp<;>omega
 omega
noncomputable def uI(m:Int)(L:Int)(i:Nat):List (Int×Int):=(0,0)::(dr i).map λ(j:Nat)=>(1+(j:Int),L)
theorem lB{L:Int}{i:Nat}:(a,b)∈uI m L i↔(a=0/\b=0)\/(1<=a/\a<1+(i:Int)/\b=L):=by
 unfold uI;rw[de,cS];constructor
 . rintro(h|⟨j,e,h⟩);.cases h;exact .inl ⟨rfl,rfl⟩
   .cases h;have:=gd.mp e;exact .inr ⟨by omega,by omega,rfl⟩
 . rintro(⟨rfl,rfl⟩|⟨h1,t,rfl⟩);.exact .inl rfl
   .exact .inr ⟨(a-1).toNat,gd.mpr (by omega),by rw[Prod.mk.injEq];exact⟨by omega,rfl⟩⟩
theorem KH{L:Int}{i:Nat}:uI m L (i+1)=uI m L i++[(1+(i:Int),L)]:=by unfold uI;rw[range_succ,gN];rfl
theorem Ws{L:Int}{i:Nat}:((uI m L i).map (·.1)).Nodup:=by
 unfold uI;rw[da,ef,eL];refine⟨λh=>?_,?_⟩;.obtain⟨j,_,e⟩:=cS.mp h;have e:1+(j:Int)=0:=e;omega
 .refine List.Pairwise.map _ (λa b(h:a≠b)=>?_) List.nodup_range;show 1+(a:Int)≠1+(b:Int);omega
noncomputable def bD(p:Int×Int):Int×D:=(p.1,.int p.2)
theorem Qt{bs:List (Int×Int)}:Gs (bs.map bD)=bs.map (·.1):=by simp[Gs,bD,io]
theorem YQ{bs:List (Int×Int)}:dsV (bs.map bD)=bs.map λp=>.int p.2:=by simp[dsV,bD,io]
theorem Zv{bs:List (Int×Int)}(h:p∉bs.map (·.1)):o7 (bs.map bD) p=aK:=by cases e:o7 (bs.map bD) p with|false=>rfl|true=>have e:(Gs (bs.map bD)).contains p=a_:=e;rw[Qt,ja]at e;exact absurd e h
theorem PN{c:Call}{x:Nat}{e:Int}:ex c n (.Lp x k e) ρ=match ρ[x]?with|some .aV=>.ok .next (ρ.set x (.cR [(k,.int e)]))|some (.cR _)=>.ok .next (ρ.set x (.cR [(k,.int e)]))|some (.val aK _)=>.ok .next (ρ.set x (.cR [(k,.int e)]))|_=>.stuck:=(rfl)
noncomputable def hD4(d:D):D:=match d with|.tup [_,_,_,h]=>h|_=>d
@[simp]theorem ahn{a b c h:D}:hD4 (.tup [a,b,c,h])=h:=rfl
theorem yL:∀{ws:List Wy},(ws.map Wy.h).sum=late ws|[]=>rfl|v::ws=>by rw[da,nN,yL];rfl
inductive F6c(a0 a1 a2 a3 a4 a5:Sl)(ρ:List Sl):Prop where|mk(s:Sl)(q0:ρ=[a0,a1,a2,a3,a4,a5,s])(q1:fr s=a_)
inductive JFc(m:Int)(ws:List Wy)(a0 a1:Sl)(i:Nat)(ρ:List Sl):Prop where|mk(s4:Sl)(q0:ρ=[a0,a1,.val aK (.int (late ws)),.cR ((uI m (late ws) i).map bD),s4,.aV])(q1:fr s4=a_)
noncomputable def Yx(es:List En)(p:Int):Int:=Et (λ_=>0) 0 es p
noncomputable def lbD(es:List En):D->D|.int p=>.int (Yx es p)|d=>d
theorem Az{s:Sl}{fs:List Int}(Y:100<=w)(hs:QW s fs)(h:HN m ws)(E:fs.length=ws.length)(I:Pt ws fs F)(k:∀es,rY m ws fs (uI m (late ws) (m-1).toNat) es->Q (.own (((dr m.toNat).map λ(i:Nat)=>Yx es (i:Int)).map D.int)) [.val aK (aR m ws),s]):(run Γ w (n+4) 11 [.val aK (aR m ws),s]).sat Q:=by
 have m0:=h.m0;have m1:=h.m1;have hn:=h.len;have U:∀v∈ws,0<=v.h:=λv Z=>(h.ok v Z).2.2;have ac:0<=late ws:=by
  have:∀(l:List Wy),(∀v∈l,0<=v.h)->0<=late l:=λl=>by induction l with|nil=>intro _;exact fg _|cons v l ih=>intro E;have h1:=E v (by simp);have J:=ih λu hu=>E u (by simp[hu]);show 0<=v.h+late l;omega
  exact this ws U
 refine aM (d:=f11) rfl rfl (by decide) ?_;refine dY (λρ=>ρ=[.val aK (aR m ws),s,.val aK (.int (late ws)),.aV,.aV,.aV]) ?_ ?_
 . simp[f11,show ws.length<=16777216 by omega];refine bV (F6c _ _ _ _ _ _) hD4 ⟨.aV,rfl,rfl⟩ ?_ ?_;.rintro d hd _⟨B,rfl,t⟩;obtain⟨v,_,rfl⟩:=cS.mp hd;simp[t,Wy.d];exact⟨_,rfl,rfl⟩
   . rintro _⟨B,rfl,t⟩;have e:(ws.map Wy.d).map hD4=(ws.map Wy.h).map D.int:=by rw[ef,ef];rfl
     rw[e];have e2:=yL (ws:=ws);generalize ws.map Wy.h=ns at*;simp[fB,e2]
 rintro _ rfl;symm;simp[PN];refine dY (JFc m ws (.val aK (aR m ws)) s (m-1).toNat) ?_ ?_
 . simp[show m<=1000000000 by omega,show-1000000000<=m by omega];rw[show m.toNat-1=(m-1).toNat by omega];refine j8 (JFc m ws (.val aK (aR m ws)) s) ?_ ?_ ⟨.aV,rfl,rfl⟩
   . rintro i _ hi⟨s4,rfl,G⟩;have L:o7 ((uI m (late ws) i).map bD) (1+(i:Int))=aK:=Zv λz=>by obtain⟨⟨a,b⟩,y,e⟩:=cS.mp z;have e:a=1+(i:Int):=e;rcases lB.mp y with⟨h1,_⟩|⟨h1,J,_⟩<;>omega
     have H:gw ((uI m (late ws) i).map bD) (1+(i:Int)) (.int (late ws))=(uI m (late ws) (i+1)).map bD:=by rw[mY L,KH,gN];rfl
     simp[G];apply ao;simp[H];refine⟨λ_=>⟨_,rfl,rfl⟩,?_⟩;have:(uI m (late ws) i).length=i+1:=by simp[uI]
     show _<16777216;omega
   .rintro _⟨s4,rfl,G⟩;exact⟨rfl,_,rfl,G⟩
 rintro _⟨s4,rfl,G⟩;have W:∀a b,(a,b)∈uI m (late ws) (m-1).toNat->0<=a/\a<m:=λa b y=>by rcases lB.mp y with⟨h1,_⟩|⟨h1,J,_⟩<;>omega
 have hZ:∀a b c,(a,b)∈uI m (late ws) (m-1).toNat->iy ws 0 c a->uq ws fs c->0<=b+bW ws c:=λa b c y H ho=>by
  obtain⟨c',X,q2,q3,q4,q5⟩:=short h I (W a b y) _ (dm) H ho;have h1:=TY U X (Dm X q5);have J:bW ws c'<=bW ws c:=by unfold Le at q4;omega
  rcases lB.mp y with⟨rfl,rfl⟩|⟨_,_,rfl⟩;.have:=jh I H ho;omega
  .omega
 have LK:∀{n:Nat}{Q:R->List Sl->Prop}(B:Sl),QW B fs->(∀es,rY m ws fs (uI m (late ws) (m-1).toNat) es->Q (.val (iH es)) [.val aK (aR m ws),B,u6 (uI m (late ws) (m-1).toNat)])->(run Γ w (n+3) 5 [.val aK (aR m ws),B,u6 (uI m (late ws) (m-1).toNat)]).sat Q:=λB t k'=>oW Y I W (lB.mpr (.inl ⟨rfl,rfl⟩)) Ws hZ t h E k';generalize M:uI m (late ws) (m-1).toNat=bs at*;symm;rcases hs with rfl|⟨b,rfl⟩;all_goals
  simp[Qt,YQ];refine LK _ (by first|exact .inl rfl|exact .inr ⟨_,rfl⟩) λes A=>?_;simp;apply ao;simp[show m<=1000000000 by omega,show-1000000000<=m by omega];refine⟨λ_=>?_,by show _<=16777216;omega⟩;refine bV (F6c _ _ _ _ _ _) (lbD es) ⟨.aV,rfl,rfl⟩ ?_ ?_
  . rintro d hd _⟨B,rfl,t⟩;obtain⟨i,hi,rfl⟩:=cS.mp hd;have hi:=gd.mp hi;obtain⟨l,o,z,_⟩:∃l o,((i:Int),l,o)∈es/\True:=by
     have C:∃b,((i:Int),b)∈bs:=by
      rw[<-M];by_cases c:i=0;.exact⟨0,lB.mpr (.inl ⟨by omega,rfl⟩)⟩
      .exact⟨late ws,lB.mpr (.inr ⟨by omega,by omega,rfl⟩)⟩
     obtain⟨b,O⟩:=C;obtain⟨l,o,z,_⟩:=A.bg _ _ O;exact⟨l,o,z,trivial⟩
    have gz:=rC A.cm.nd z;have W2:Yx es (i:Int)=o.2:=gH A.cm.nd z;simp[t,iH,gz,Aa,lbD,W2];exact⟨_,rfl,rfl⟩
  . rintro _⟨B,rfl,t⟩;have e:((dr m.toNat).map λ(k:Nat)=>D.int (k:Int)).map (lbD es)=((dr m.toNat).map λ(i:Nat)=>Yx es (i:Int)).map D.int:=by rw[ef,ef];rfl
    rw[e];have L:=k es A;generalize((dr m.toNat).map λ(i:Nat)=>Yx es (i:Int))=ns at*;simp;exact L
noncomputable def lgD(fs:List Int)(cl:List Int):D:=.tup [.lst (fs.map D.int),.lst (cl.map D.int)]
inductive JLi(m q:Int)(ws:List Wy)(ts:List (List aB×Int))(r:List D)(ρ:List Sl):Prop where|mk(cI us:List (List aB×Int))(s3 s4:Sl)(q0:ρ=[.val aK (aR m ws),.val aK (.int q),.own aK ((flow ws.length cI).map D.int),s3,s4])(q1:(fr s3=a_/\fr s4=a_))(q2:r=us.map cD)(q3:cI++us=ts)
theorem KJ:(flow N cs).length=N:=by
 have:∀(cs:List (List aB×Int))(fs:List Int),(cs.foldl pI fs).length=fs.length:=λcs=>by induction cs with|nil=>intro fs;rfl|cons x cs e=>intro fs;rw[nX,e];exact nU
 unfold flow;rw[this];simp
theorem GZ{q:Int}(Y:13286250<=w)(h:cX m ws)(O:0<=q)(Z:∀cs,cY m ws cs->q<=U8 cs)(k:∀cs fs cl,cY m ws cs->cs.Pairwise (λa b=>bW ws a.1<=bW ws b.1)->Hk m ws (mH cs q) fs->Q (.val (lgD fs cl)) [.val aK (aR m ws),.val aK (.int q)]):(run Γ w (n+5) 12 [.val aK (aR m ws),.val aK (.int q)]).sat Q:=by
 have hn:=h.len;have U:=HN.of h;refine aM (d:=f12) rfl rfl (by decide) ?_;refine dY (λρ=>ρ=[.val aK (aR m ws),.val aK (.int q),.own aK ((flow ws.length []).map D.int),.aV,.aV]) ?_ ?_;.simp[f12,flow];show _<=16777216;omega
 rintro _ rfl;symm;simp;refine yN Y U (λv E=>(h.ok v E).r0) λcs fs F d es ac A=>?_;have B:cY m ws cs:=⟨λv E=>(h.ok v E).h0,fs,F,d,es,A⟩;have C:=A.light cs [] q rfl O;have G:(mH cs q).foldl pI (flow ws.length [])=flow ws.length (mH cs q):=rfl;rw[G,nS]at C;have H:=A.ck;simp;refine GC (by omega) (QK (λx I=>(A.iv.ch x I).2.1) O (Z cs B)) ?_;simp;refine cP (JLi m q ws (mH cs q)) ?_ ?_ ⟨[],mH cs q,.aV,.aV,rfl,⟨rfl,rfl⟩,rfl,rfl⟩;.rintro d r _⟨J,t,s3,s4,rfl,⟨W,X⟩,hr,hd⟩;cases t with|nil=>cases hr|cons u t=>
     obtain⟨rfl,rfl⟩:d=cD u/\r=t.map cD:=by simpa using hr
     have L:(J++[u])++t=mH cs q:=by rw[fN];exact hd
     obtain⟨x,I,e⟩:=CT (l:=cs) (q:=q) (y:=u) (by rw[<-hd];simp);simp[cD,W,X];apply ao;simp;refine zc (.inr ⟨a_,rfl⟩) (λs hs=>by rw[KJ];exact(H x I).2.1 s (by rw[<-e];exact hs)) ?_;simp;exact⟨J++[u],t,_,_,by rw[rR],⟨rfl,rfl⟩,rfl,L⟩
 . rintro _⟨J,t,s3,s4,rfl,⟨W,X⟩,hr,hd⟩;have:t=[]:=by cases t with|nil=>rfl|cons _ _=>cases hr
   subst this;rw[gE]at hd;subst hd;obtain⟨F1,p1,p2⟩:=C.ht;simp;apply ao;simp;refine Az (by omega) (.inl rfl) U C.fit.len p1 λM ae=>?_;have hk:=λcl=>k cs (flow ws.length (mH cs q)) cl B A.st.1 C;generalize((dr m.toNat).map λ(i:Nat)=>Yx M (i:Int))=ns at*;simp;exact hk ns
theorem xJ{T:Int}(y:13286250<=w)(h:cX m ws)(k:∀cs fs A,cY m ws cs->Hk m ws A fs->bT (λx=>x.2*(T+1-bW ws x.1)) A=val ws T cs->Q (.val (.lst (fs.map D.int))) [.val aK (aR m ws),.val aK (.int T)]):(run Γ w (n+8) 17 [.val aK (aR m ws),.val aK (.int T)]).sat Q:=by refine aM (d:=f17) rfl rfl (by decide) ?_;symm;simp[f17];refine BK y h λcs u=>?_;simp;refine GZ y h u.Zb (λt e=>by rw[u.QB e];exact e.Zi) λt fs cl e C B=>?_;rw[u.QB e]at B;simp[lgD];exact k t fs _ e B (Jf C λx E=>(e.nn x E).2).2
noncomputable def aJ(row:List Int)(i:Int):Int:=row.getD i.toNat 0
theorem gk{row:List Int}(h0:0<=i)(h:i<(row.length:Int)):at' (row.map D.int) i=aj (.int (aJ row i)):=by
 rw[tH h0 (by simpa using h)];have:i.toNat<row.length:=by omega
 simp[aJ,this]
noncomputable def Mx(T:Int)(q:Int->Int)(p:Int):Int:=max 0 (min (T+1) (q p))
theorem qt{H K:Wy->Int}:∀{ws:List Wy},(∀v∈ws,H v<=K v)->jE H ws<=jE K ws|[],_=>fg _|v::ws,h=>by have h1:=h v (by simp);have t:=qt (H:=H) (K:=K) (ws:=ws) λu e=>h u (by simp[e]);rw[jE,jE];omega
theorem JP{T:Int}{r:Int->Int}(h:cX m ws)(hr:∀p,0<=p->p<m->r p=Mx T q p):dF r ws<=dF q ws:=qt λv e=>by have ho:=h.ok v e;have h0:=ho.h0;unfold eX;refine Int.mul_le_mul_of_nonneg_left ?_ ho.r0;rw[hr _ ho.s0 ho.s1,hr _ ho.t0 ho.t1];unfold Mx;omega
theorem oZ{G H:Wy->Int}:∀{ws:List Wy}{fs:List Int},fs.length=ws.length->(∀(j:Nat)v g,ws[j]?=aj v->fs[j]?=aj g->G v*g<=H v)->jE H ws<=fc G ws fs->∀(j:Nat)v g,ws[j]?=aj v->fs[j]?=aj g->G v*g=H v
 |[],[],_,_,_,j,v,g,e,_=>by simp at e|[],_::_,h,_,_,_,_,_,_,_=>by simp at h|_::_,[],h,_,_,_,_,_,_,_=>by simp at h|u::ws,x::fs,h,k,ht,j,v,g,t,y=>by
   have A:fs.length=ws.length:=by simpa using h
   have C:=k 0 u x rfl rfl;have B:∀(j:Nat)v g,ws[j]?=aj v->fs[j]?=aj g->G v*g<=H v:=λj v g a b=>k (j+1) v g (by simpa using a) (by simpa using b);have E:=wH A B;rw[fc,jE]at ht;cases j with|zero=>cases t;cases y;omega|succ j=>exact oZ A B (by omega) j v g (by simpa using t) (by simpa using y)
theorem ZD{fs:List Int}(h:Mf ws fs)(he:dF q ws<=fc (gap 1 q) ws fs):Pt ws fs q:=λs v e ho=>by obtain⟨E,g,A,B,_,u⟩:=lZ ho;rw[e]at A;cases A;have G:=h.ok _ _ _ e B;have ht:=oZ (H:=eX q) h.len (λj v g a b=>by
  have:=h.ok _ _ _ a b;rw[MP];unfold eX;generalize q v.t-q v.s-v.h=y;by_cases c:0<=y;.rw[Int.max_eq_right c,mul_comm];exact Int.mul_le_mul_of_nonneg_right this.2 c
  .rw[max_eq_left (by omega),mul_zero];exact Int.mul_nonpos_of_nonpos_of_nonneg (by omega) this.1) he _ _ _ e B;rw[MP]at ht;unfold eX at ht;cases hf:s.2 with
 |true=>
   rw[hf]at u;simp only[n6]at u;show q v.t<=q v.s+v.h;generalize C:q v.t-q v.s-v.h=y at ht;by_cases c:0<y;.rw[Int.max_eq_right (by omega),mul_comm]at ht;have:=Int.mul_lt_mul_of_pos_right (show g<v.r by simp at u;omega) c;omega
   .omega|false=>
   rw[hf]at u;simp only[n6]at u;show q v.s<=q v.t+-v.h;generalize C:q v.t-q v.s-v.h=y at ht;by_cases c:y<0;.rw[max_eq_left (by omega),mul_zero]at ht;have:=Int.mul_neg_of_neg_of_pos c (show 0<g by simpa using u);omega
   .omega
theorem Ej{T v:Int}{fs:List Int}{e:List (List aB×Int)}(h:Hk m ws e fs)(hs:bT (λx=>x.2*(T+1-bW ws x.1)) e=v)(t:q 0=0)(u:q (m-1)=T+1):fc (gap 1 q) ws fs=v:=by rw[h.dt,t,u,<-hs];exact gW λx _=>by congr 1;omega
theorem Hk.hts{T v:Int}{fs:List Int}{e:List (List aB×Int)}(t:Hk m ws e fs)(h:cX m ws)(h0:0<=T)(hs:bT (λx=>x.2*(T+1-bW ws x.1)) e=v)(u:jt m ws T v):∃q,Pt ws fs q/\q 0=0/\q (m-1)=T+1/\∀p,0<=q p/\q p<=T+1:=by
 obtain⟨q,A,B,C⟩:=u.ex;have c0:Mx T q 0=0:=by unfold Mx;omega
 have c1:Mx T q (m-1)=T+1:=by unfold Mx;omega
 have y:=JP (T:=T) (q:=q) (r:=Mx T q) h λ_ _ _=>rfl;exact⟨Mx T q,ZD t.fit (by rw[Ej t hs c0 c1];omega),c0,c1,λp=>by unfold Mx;omega⟩
noncomputable def pL(T:Int)(es:List En)(p:Int):Int:=min (Et (λ_=>T+1) 0 es p) (T+1)
noncomputable def QR(m T:Int):List (Int×Int):=[(0,0),(m-1,T+1)]
theorem jR{T:Int}(e:(es.map (·.1)).Nodup)(h:(p,l,o)∈es):pL T es p=min o.2 (T+1):=by unfold pL;rw[gH e h]
theorem vZ{T:Int}(h:¬ ∃l o,(p,l,o)∈es):pL T es p=T+1:=by unfold pL;rw[mW h];omega
noncomputable def Mh(T:Int)(es:List En)(p:Int):Bool:=es.any λe=>decide (e.1=p)&&decide (e.2.2.2<=T+1)
theorem nW{T:Int}:Mh T es p=a_↔∃l o,(p,l,o)∈es/\o.2<=T+1:=by
 unfold Mh;rw[i5];constructor;.rintro⟨⟨e,l,o⟩,he,z⟩;simp at z;obtain⟨rfl,z⟩:=z;exact⟨l,o,he,z⟩
 .rintro⟨l,o,he,z⟩;exact⟨_,he,by simp[z]⟩
noncomputable def phi(T:Int)(es:List En)(q:Int->Int)(p:Int):Int:=if Mh T es p=a_ then 0 else-(1+q p)
structure Clh(m T:Int)(ws:List Wy)(fs:List Int)(es:List En):Prop where
 pt:Pt ws fs (pL T es)z:pL T es 0=0
 e:pL T es (m-1)=T+1
 bd:∀p,0<=pL T es p/\pL T es p<=T+1
theorem Clh.of{T:Int}{fs:List Int}{O:List (List aB×Int)}(h0:0<=T)(hh:∀v∈ws,1<=v.h)(U:Hk m ws O fs)(hq:Pt ws fs q)(q0:q 0=0)(q1:q (m-1)=T+1)(qb:∀p,0<=q p/\q p<=T+1)(hc:rY m ws fs (QR m T) es):Clh m T ws fs es:=by
 have nd:=hc.cm.nd;have up:∀p l o,(p,l,o)∈es->q p<=o.2:=λp l o z=>by
  obtain⟨a,b,c,hab,hp,ho,_,e⟩:=hc.cm.wk p l o z;have:=jh hq hp ho;have ae:q a=b:=by
   rcases de.mp hab with hab|hab;.cases hab;exact q0
   .rw[dU]at hab;cases hab;exact q1
  omega
 have bd:∀p,0<=pL T es p/\pL T es p<=T+1:=λp=>by
  by_cases c:∃l o,(p,l,o)∈es;.obtain⟨l,o,c⟩:=c;rw[jR nd c];have:=up p l o c;have:=qb p;omega
  .rw[vZ c];omega
 have r0:Mh T es 0=a_:=nW.mpr ⟨0,(bx,0),hc.cm.z,by simp only;omega⟩;obtain⟨lE,oE,W,X⟩:=hc.bg (m-1) (T+1) (by simp[QR]);have af:oE.2=T+1:=by have:=up _ _ _ W;unfold Le at X;omega
 have r1:Mh T es (m-1)=a_:=nW.mpr ⟨lE,oE,W,by omega⟩;have back:∀(j:Nat)v g,ws[j]?=aj v->fs[j]?=aj g->0<g->jZ ws fs (frm v (j,aK).2) (j,aK)=a_:=λj v g u A Y=>by rw[lX (s:=(j,aK)) u A];simp[frm,n6];omega
 have term:∀(j:Nat)v g,ws[j]?=aj v->fs[j]?=aj g->gap 0 (phi T es q) v*g<=0/\(0<g->Mh T es v.t=aK->gap 0 (phi T es q) v*g<0):=λj v g u A=>by
  have Y:=U.fit.ok _ _ _ u A;by_cases g0:g=0;.subst g0;exact⟨by simp,λz=>by omega⟩
  have ho:=back j v g u A (by omega);have ag:q v.s<=q v.t+-v.h:=hq (j,aK) v u ho;have h1:=hh v (dV u);have I:gap 0 (phi T es q) v=phi T es q v.t-phi T es q v.s:=by unfold gap;omega
  rw[I];cases rt:Mh T es v.t with|true=>obtain⟨l,o,M,z2⟩:=nW.mp rt;obtain⟨l2,E,B,C⟩:=hc.cl l o (j,aK) v u M ho;have B:(v.s,l2,E)∈es:=B;have C:Le E.2 l2 (o.2+-v.h) (l+1):=C;have rs:Mh T es v.s=a_:=nW.mpr ⟨l2,E,B,by unfold Le at C;omega⟩;unfold phi;rw[rt,rs];exact⟨by simp,λ_ z=>by cases z⟩|false=>
    have Z:phi T es q v.t-phi T es q v.s<0:=by
     have p1:phi T es q v.t=-(1+q v.t):=by unfold phi;rw[rt];rfl
     have p2:phi T es q v.s=0\/phi T es q v.s=-(1+q v.s):=by
      unfold phi;split;.exact .inl rfl
      .exact .inr rfl
     have:=qb v.t;omega
    have:=Int.mul_neg_of_neg_of_pos Z (show 0<g by omega);exact⟨by omega,λ_ _=>this⟩
 have ac:jE (λ_=>0) ws<=fc (gap 0 (phi T es q)) ws fs:=by
  have u:phi T es q 0=0:=by unfold phi;rw[if_pos r0]
  have A:phi T es q (m-1)=0:=by unfold phi;rw[if_pos r1]
  rw[U.dt,u,A];have e3:bT (λx=>x.2*(0-0-0*bW ws x.1)) O=bT (λ_=>0) O:=gW λx _=>by simp
  rw[e3];have J:∀l:List (List aB×Int),bT (λ_=>0) l=0:=λl=>by induction l with|nil=>rfl|cons y l ih=>rw[bT,ih];rfl
  have e5:∀l:List Wy,jE (λ_=>0) l=0:=λl=>by induction l with|nil=>rfl|cons y l ih=>rw[jE,ih];rfl
  rw[J,e5];exact fg _
 have L:∀(j:Nat)v g,ws[j]?=aj v->fs[j]?=aj g->0<g->Mh T es v.t=a_:=λj v g u A Y=>by have ht:=oZ (G:=gap 0 (phi T es q)) (H:=λ_=>0) U.fit.len (λj v g a b=>(term j v g a b).1) ac j v g u A;cases rt:Mh T es v.t with|true=>rfl|false=>have:=(term j v g u A).2 Y rt;omega
 refine⟨λs v e ho=>?_,by rw[jR nd hc.cm.z];simp only;omega,by rw[jR nd W];omega,bd⟩;obtain⟨v',g,u,A,_,J⟩:=lZ ho;rw[e]at u;cases u;have h1:=hh v (dV e);have b1:=bd (too v s.2);obtain⟨j,f⟩:=s
 cases f with|true=>
   show pL T es v.t<=pL T es v.s+v.h;have b1:0<=pL T es v.t/\pL T es v.t<=T+1:=b1;by_cases c:∃l o,(v.s,l,o)∈es;.obtain⟨l,o,c⟩:=c;obtain⟨l2,E,B,C⟩:=hc.cl l o (j,a_) v e c ho;have B:(v.t,l2,E)∈es:=B;have C:Le E.2 l2 (o.2+v.h) (l+1):=C;rw[jR nd c,jR nd B];unfold Le at C;omega
   .rw[vZ c];omega|false=>
   show pL T es v.s<=pL T es v.t+-v.h;have J:0<g:=by simpa[n6]using J
   obtain⟨l,o,M,z2⟩:=nW.mp (L j v g e A J);obtain⟨l2,E,B,C⟩:=hc.cl l o (j,aK) v e M ho;have B:(v.s,l2,E)∈es:=B;have C:Le E.2 l2 (o.2+-v.h) (l+1):=C;rw[jR nd M,jR nd B];unfold Le at C;omega
structure Cls(m T:Int)(ws:List Wy)(cl:List Int):Prop where
 len:(cl.length:Int)=m
 z:aJ cl 0=0
 e:aJ cl (m-1)=T+1
 bd:∀x∈cl,0<=x/\x<=T+1
 lst:jt m ws T (dF (aJ cl) ws)
@[simp]theorem QC{k e:Int}{p q:P}:isVar (.vN k e p q)=bx:=rfl
theorem Iz{c:Call}{e:Int}{p q:P}:ev c (.vN k e p q) ρ=(cu (isVar p) (ev c p) ρ).bind λx ρ=>(cu (isVar q) (ev c q) ρ).bind λy ρ=>lift (dl2 k e x y) ρ:=(rfl)
theorem Su{e j:Int}(h:i≠k):dl2 k e (.int i) (.int j)=aj (.val (.dv [k,i] [.int e,.int j])):=by show(if i=k then bx else _)=_;rw[if_neg h]
noncomputable def clD(T:Int)(es:List En):D->D|.int p=>.int (pL T es p)|d=>d
theorem qD{T:Int}(h0:0<=p)(h1:p<m):aJ ((dr m.toNat).map λ(i:Nat)=>pL T es (i:Int)) p=pL T es p:=by unfold aJ;rw[eu,eM,k9 (by omega)];show pL T es (p.toNat:Int)=_;rw[iE h0]
inductive F4c(a0 a1 a2 a3:Sl)(ρ:List Sl):Prop where|mk(s:Sl)(q0:ρ=[a0,a1,a2,a3,s])(q1:fr s=a_)
theorem Bo{T:Int}(O:13286250<=w)(h:cX m ws)(h0:0<=T)(k:∀cl,Cls m T ws cl->Q (.own (cl.map D.int)) [.val aK (aR m ws),.val aK (.int T)]):(run Γ w (n+9) 18 [.val aK (aR m ws),.val aK (.int T)]).sat Q:=by
 have m0:=h.m0;have m1:=h.m1;have U:=HN.of h;refine aM (d:=f18) rfl rfl (by decide) ?_;symm;simp[f18];apply ao;simp;refine xJ O h λcs fs ts W B u=>?_;have J:=W.least h0;obtain⟨q,G,L,M,X⟩:=B.hts h h0 u J;simp[Iz,Su (k:=0) (e:=0) (i:=m-1) (j:=T+1) (by omega)];have H:∀a b,(a,b)∈QR m T->0<=a/\a<m:=λa b hab=>by
  rcases de.mp hab with hab|hab;.cases hab;omega
  .rw[dU]at hab;cases hab;omega
 have Y:∀{n:Nat}{Q:R->List Sl->Prop}(A:Sl),QW A fs->(∀es,rY m ws fs (QR m T) es->Q (.val (iH es)) [.val aK (aR m ws),A,u6 (QR m T)])->(run Γ w (n+3) 5 [.val aK (aR m ws),A,u6 (QR m T)]).sat Q:=λA t Z=>oW (by omega) G H (by simp[QR]) (by simp[QR];omega) (λa b c hab hp ho=>by
   have:=jh G hp ho;have ac:q a=b:=by
    rcases de.mp hab with hab|hab;.cases hab;exact L
    .rw[dU]at hab;cases hab;exact M
   omega) t U B.fit.len Z;refine Y _ (.inl rfl) λes y=>?_;have hc:=Clh.of h0 (λv E=>(h.ok v E).h0) B G L M X y;simp;apply ao;simp[show m<=1000000000 by omega,show-1000000000<=m by omega];refine⟨λ_=>?_,by show _<=16777216;omega⟩;refine bV (F4c _ _ _ _) (clD T es) ⟨.aV,rfl,rfl⟩ ?_ ?_
 . rintro d hd _⟨A,rfl,t⟩;obtain⟨i,hi,rfl⟩:=cS.mp hd;have hi:=gd.mp hi;by_cases c:∃l o,((i:Int),l,o)∈es
   . have C:=rB.mpr c;obtain⟨l,o,z⟩:=c;have gz:=rC y.cm.nd z;have W2:=jR (T:=T) y.cm.nd z;have em:(if T+1<o.2 then T+1 else o.2)=min o.2 (T+1):=by split<;>omega
     simp[t,C];simp[iH,gz,Aa,clD,W2,em];exact⟨_,rfl,rfl⟩
   . have C:o7 (es.map en) (i:Int)=aK:=by cases z:o7 (es.map en) (i:Int)with|false=>rfl|true=>exact absurd (rB.mp z) c
     simp[t,C,clD,vZ c];exact⟨_,rfl,rfl⟩
 . rintro _⟨A,rfl,t⟩;have e:((dr m.toNat).map λ(k:Nat)=>D.int (k:Int)).map (clD T es)=((dr m.toNat).map λ(i:Nat)=>pL T es (i:Int)).map D.int:=by rw[ef,ef];rfl
   rw[e];have hd:dF (aJ ((dr m.toNat).map λ(i:Nat)=>pL T es (i:Int))) ws=dF (pL T es) ws:=by refine Int.le_antisymm (qt λv E=>?_) (qt λv E=>?_)<;>.have ho:=h.ok v E;unfold eX;rw[qD ho.s0 ho.s1,qD ho.t0 ho.t1];exact fg _
   have I:Cls m T ws ((dr m.toNat).map λ(i:Nat)=>pL T es (i:Int)):=by
    refine⟨by simp;omega,by rw[qD (by omega) (by omega)];exact hc.z,by rw[qD (by omega) (by omega)];exact hc.e,λx hx=>?_,?_⟩;.obtain⟨i,_,rfl⟩:=cS.mp hx;exact hc.bd _
    .rw[hd,Dj B.fit hc.pt,Ej B u hc.z hc.e];exact J
   have C:=k _ I;generalize((dr m.toNat).map λ(i:Nat)=>pL T es (i:Int))=ns at*;simp;exact C
theorem Wc{c:Call}{x:Nat}{e:P}:ev c (.YJ x e) ρ=(lift (pk ρ x) ρ).bind λ_ ρ=>(cu (isVar e) (ev c e) ρ).bind λk ρ=>(lift (pk ρ x) ρ).bind λd ρ=>lift (PQ d k) ρ:=(rfl)
@[simp]theorem XR{x:Nat}{e:P}:isVar (.YJ x e)=bx:=rfl
theorem VN{S:List Int}(h:i∈S)(e:S.length<=1000):PQ (.lst (S.map D.int)) (.int i)=aj (.val (.int (S.idxOf i))):=by show((S.map D.int).mapM gq).bind _=_;rw[fB];show(if _ then _ else _)=_;rw[if_pos ⟨h,e⟩]
noncomputable def iK(m:Int):List Int:=(dr m.toNat).map λ(i:Nat)=>(i:Int)
noncomputable def oth(m:Int)(St:List Int):List Int:=(iK m).filter λp=>!St.contains p
noncomputable def jn(m:Int)(St:List Int)(p:Int):Int:=if St.contains p=a_ then 0 else((oth m St).idxOf p:Int)+1
theorem jc:p∈iK m↔0<=p/\p<m:=by
 unfold iK;rw[cS];constructor;.rintro⟨i,hi,rfl⟩;have:=gd.mp hi;omega
 .rintro⟨h0,h1⟩;exact⟨p.toNat,gd.mpr (by omega),by omega⟩
theorem kW{St:List Int}:p∈oth m St↔(0<=p/\p<m)/\p∉St:=by unfold oth;rw[hB,jc];simp
theorem nj:(iK m).length=m.toNat:=by unfold iK;simp
theorem qx{St:List Int}:(oth m St).length<=m.toNat:=by have:=i_ (λp=>!St.contains p) (iK m);rw[nj]at this;exact this
theorem DX{St:List Int}(m0:1<=m)(h:m-1∉St):∃l,oth m St=l++[m-1]/\m-1∉l:=by
 have e:iK m=iK (m-1)++[m-1]:=by unfold iK;rw[show m.toNat=(m-1).toNat+1 by omega,range_succ,gN];congr 1;show[(((m-1).toNat:Nat):Int)]=_;rw[iE (by omega)]
 refine⟨(iK (m-1)).filter λp=>!St.contains p,?_,λz=>?_⟩;.unfold oth;rw[e,l8];congr 1;simp[h]
 .have:=jc.mp (hB.mp z).1;omega
theorem tO{St:List Int}(m0:1<=m)(h:m-1∉St):jn m St (m-1)=((oth m St).length:Int):=by obtain⟨l,e,t⟩:=DX m0 h;unfold jn;rw[if_neg (by simpa using h),e,List.idxOf_append,if_neg t];simp
theorem zy{St:List Int}(h:0<=p/\p<m):0<=jn m St p/\jn m St p<=((oth m St).length:Int):=by
 unfold jn;by_cases c:St.contains p=a_;.rw[if_pos c];omega
 .rw[if_neg c];have:=ii.mpr (kW.mpr ⟨h,by simpa using c⟩);omega
noncomputable def qj(m:Int)(St:List Int)(q:Int->Int)(i:Int):Int:=if i=0 then 0 else q ((oth m St).getD (i-1).toNat 0)
theorem Ig{St:List Int}(h:0<=p/\p<m)(e:p∈St->q p=0):qj m St q (jn m St p)=q p:=by
 unfold jn;by_cases c:St.contains p=a_;.rw[if_pos c,e (by simpa using c)];rfl
 .rw[if_neg c];have t:=kW.mpr ⟨h,(by simpa using c:p∉St)⟩;have hi:=ii.mpr t;unfold qj;rw[if_neg (by omega),show(((oth m St).idxOf p:Int)+1-1).toNat=(oth m St).idxOf p by omega,eu,eF hi];show q (oth m St)[(oth m St).idxOf p]=_;rw[lc hi]
noncomputable def jw(m:Int)(St:List Int)(v:Wy):Wy:=⟨jn m St v.s,jn m St v.t,v.r,v.h⟩
noncomputable def xX(m:Int)(St:List Int)(ws:List Wy):List Wy:=(ws.map (jw m St)).filter λv=>decide (v.s≠v.t)
noncomputable def jm(m:Int)(St:List Int):Int:=((oth m St).length:Int)+1
theorem jU{m:Int}{St:List Int}{g q:Int->Int}:∀{ws:List Wy},(∀v∈ws,0<=v.h/\g (jn m St v.s)=q v.s/\g (jn m St v.t)=q v.t)->dF g (xX m St ws)=dF q ws
 |[],_=>rfl|v::ws,h=>by
   have h1:=h v (by simp);have A:=jU (m:=m) (St:=St) (g:=g) (q:=q) (ws:=ws) λu C=>h u (by simp[C]);have B:dF q (v::ws)=eX q v+dF q ws:=rfl;by_cases c:jn m St v.s=jn m St v.t
   . have e:xX m St (v::ws)=xX m St ws:=by unfold xX;rw[da,iz (by simp[jw,c])]
     have y:eX q v=0:=by unfold eX;rw[<-h1.2.1,<-h1.2.2,c,qB (by omega),qv]
     rw[e,A,B,y];omega
   . have e:xX m St (v::ws)=jw m St v::xX m St ws:=by unfold xX;rw[da,ix (by simp[jw,c])]
     have y:eX g (jw m St v)=eX q v:=by unfold eX jw;simp only;rw[h1.2.1,h1.2.2]
     have E:dF g (jw m St v::xX m St ws)=eX g (jw m St v)+dF g (xX m St ws):=rfl;rw[e,E,y,A,B]
noncomputable def jQ(m:Int)(St:List Int):Prop:=∀p∈St,0<=p/\p<m-1
theorem jQ.ne{St:List Int}(h:jQ m St):m-1∉St:=λz=>by have:=h _ z;omega
theorem ni{St:List Int}(h:cX m ws)(H:m<=6)(y:jQ m St):cX (jm m St) (xX m St ws):=by
 have m0:=h.m0;obtain⟨l,e,_⟩:=DX (by omega) y.ne;have A:=qx (m:=m) (St:=St);have h1:1<=(oth m St).length:=by rw[e];simp
 refine⟨by unfold jm;omega,by unfold jm;omega,?_,λv B=>?_⟩;.have:=i_ (λv=>decide (v.s≠v.t)) (ws.map (jw m St));rw[dQ]at this;have:=h.len;unfold xX;omega
 .obtain⟨C,E⟩:=hB.mp B;obtain⟨u,G,rfl⟩:=cS.mp C;have o:=h.ok u G;have b1:=zy (St:=St) ⟨o.s0,o.s1⟩;have b2:=zy (St:=St) ⟨o.t0,o.t1⟩;exact⟨b1.1,by unfold jm;show jn m St u.s<_;omega,b2.1,by unfold jm;show jn m St u.t<_;omega,by simpa using E,o.r0,o.r1,o.h0,o.h1⟩
structure mC(m:Int)(St:List Int)(ws:List Wy)(T v:Int):Prop where
 ex:∃q:Int->Int,(∀p∈St,q p=0)/\q (m-1)=T+1/\dF q ws=v
 le:∀q:Int->Int,(∀p∈St,q p=0)->q (m-1)=T+1->v<=dF q ws
theorem vA{T v:Int}{St:List Int}(h:cX m ws)(u:jQ m St)(y:jt (jm m St) (xX m St ws) T v):mC m St ws T v:=by
 have m0:=h.m0;have A:=tO (St:=St) (m:=m) (by omega) u.ne;refine⟨?_,λq B C=>?_⟩
 . obtain⟨g,E,G,H⟩:=y.ex;refine⟨λp=>g (jn m St p),λp I=>?_,?_,?_⟩;.show g (jn m St p)=0;unfold jn;rw[if_pos (by simpa using I)];exact E
   .show g (jn m St (m-1))=_;rw[A,<-G];unfold jm;congr 1;omega
   .rw[<-H];exact(jU λv t=>⟨by have:=(h.ok v t).h0;omega,rfl,rfl⟩).symm
 . have e:=jU (m:=m) (St:=St) (g:=qj m St q) (q:=q) (ws:=ws) λv t=>by have o:=h.ok v t;exact⟨by have:=o.h0;omega,Ig ⟨o.s0,o.s1⟩ (B _),Ig ⟨o.t0,o.t1⟩ (B _)⟩
   rw[<-e];refine y.le _ rfl ?_;have:=Ig (m:=m) (p:=m-1) (St:=St) (q:=q) ⟨by omega,by omega⟩ (λz=>absurd z u.ne);rw[A]at this;unfold jm;rw[show((oth m St).length:Int)+1-1=((oth m St).length:Int)by omega,this,C]
inductive F2j(a0 a1 a2:Sl)(ρ:List Sl):Prop where|mk(s:Sl)(q0:ρ=[a0,a1,a2,s])(q1:fr s=a_)
noncomputable def Oe(St:List Int)(d:D):Option D:=if St.contains (mZ d)then bx else aj d
theorem Eh{St:List Int}:∀{l:List Int},(l.map D.int).filterMap (Oe St)=(l.filter λp=>!St.contains p).map D.int|[]=>rfl|p::l=>by have e:=Eh (St:=St) (l:=l);cases c:St.contains p with|true=>rw[da,ko (by show(if St.contains p=a_ then _ else _)=_;rw[c];rfl),e,iz (by simp[c]at c ⊢;exact c)]|false=>rw[da,kn (b:=.int p) (by show(if St.contains p=a_ then _ else _)=_;rw[c];rfl),e,ix (by simp[c]at c ⊢;exact c)];rfl
noncomputable def jnD(m:Int)(St:List Int)(d:D):D:=.int (jn m St (mZ d))
theorem Q8:((dr m.toNat).map λ(k:Nat)=>D.int (k:Int))=(iK m).map D.int:=by unfold iK;rw[ef];rfl
theorem pY{St:List Int}(m0:2<=m)(m1:m<=7)(B:St.length<=100)(k:Q (.own (((iK m).map (jn m St)).map D.int)) [.val aK (aR m ws),.val aK (.tup (St.map D.int))]):(run Γ w (n+1) 22 [.val aK (aR m ws),.val aK (.tup (St.map D.int))]).sat Q:=by
 refine aM (d:=f22) rfl rfl (by decide) ?_;have y:=qx (m:=m) (St:=St);have hpl:=nj (m:=m);symm;simp[f22,show m<=1000000000 by omega,show-1000000000<=m by omega];refine⟨λ_=>?_,by show _<=16777216;omega⟩;rw[Q8];refine gC (F2j _ _ _) (Oe St) ⟨.aV,rfl,rfl⟩ ?_ ?_
 . rintro d hd _⟨s,rfl,hs⟩;obtain⟨p,t,rfl⟩:=cS.mp hd;have h:=o5 (S:=St) (i:=p)
   cases c:St.contains p with|true=>
     have e:Oe St (.int p)=bx:=by show(if St.contains p=a_ then _ else _)=_;rw[c];rfl
     rw[c]at h;simp[hs,h,e];exact⟨_,rfl,rfl⟩|false=>
     have e:Oe St (.int p)=aj (.int p):=by show(if St.contains p=a_ then _ else _)=_;rw[c];rfl
     rw[c]at h;simp[hs,h,e];exact⟨_,rfl,rfl⟩
 rintro _⟨s,rfl,hs⟩;rw[Eh];have A:((iK m).filter λp=>!St.contains p)=oth m St:=rfl;rw[A];simp;apply ao;simp[show m<=1000000000 by omega,show-1000000000<=m by omega];refine⟨λ_=>?_,by show _<=16777216;omega⟩;rw[Q8];refine bV (F2j _ _ _) (jnD m St) ⟨.aV,rfl,rfl⟩ ?_ ?_
 . rintro d hd _⟨s,rfl,hs⟩;obtain⟨p,t,rfl⟩:=cS.mp hd;have t:=jc.mp t;have h:=JQ (S:=St) (i:=p)
   cases c:St.contains p with|true=>
     have e:jnD m St (.int p)=.int 0:=by show D.int (if St.contains p=a_ then _ else _)=_;rw[c];rfl
     rw[c]at h;simp[hs,h,e];exact⟨_,rfl,rfl⟩|false=>
     have e:jnD m St (.int p)=.int ((oth m St).idxOf p+1):=by show D.int (if St.contains p=a_ then _ else _)=_;rw[c];rfl
     rw[c]at h;have u:=VN (S:=oth m St) (i:=p) (kW.mpr ⟨t,by simpa using c⟩) (by omega);simp[hs,h,Wc,u,e];exact⟨_,rfl,rfl⟩
 . rintro _⟨s,rfl,hs⟩;have e:((iK m).map D.int).map (jnD m St)=((iK m).map (jn m St)).map D.int:=by rw[ef,ef];rfl
   rw[e];generalize(iK m).map (jn m St)=js at*;simp;exact k
noncomputable def jwD(m:Int)(St:List Int):D->D|.tup [.int s,.int t,.int r,.int h]=>(jw m St ⟨s,t,r,h⟩).d|d=>d
@[simp]theorem Zj{m:Int}{St:List Int}{v:Wy}:jwD m St v.d=(jw m St v).d:=rfl
noncomputable def neD:D->Option D|.tup [.int s,.int t,.int r,.int h]=>if s=t then bx else aj (.tup [.int s,.int t,.int r,.int h])|d=>aj d
theorem Qs{s t r h:Int}:neD (.tup [.int s,.int t,.int r,.int h])=if s=t then bx else aj (.tup [.int s,.int t,.int r,.int h]):=rfl
theorem QV:neD v.d=if v.s=v.t then bx else aj v.d:=rfl
theorem Ju:∀{l:List Wy},(l.map Wy.d).filterMap neD=(l.filter λv=>decide (v.s≠v.t)).map Wy.d
 |[]=>rfl|v::l=>by
   have e:=Ju (l:=l);by_cases c:v.s=v.t;.rw[da,ko (by rw[QV,if_pos c]),e,iz (by simp[c])]
   .rw[da,kn (b:=v.d) (by rw[QV,if_neg c]),e,ix (by simp[c])];rfl
theorem afN{St:List Int}(h0:0<=p)(h1:p<m):at' (((iK m).map (jn m St)).map D.int) p=aj (.int (jn m St p)):=by rw[tH h0 (by simp[iK];omega)];unfold iK;rw[ef,ef,eM,k9 (by omega)];show aj (D.int (jn m St (p.toNat:Int)))=_;rw[iE h0]
theorem ae9{St:List Int}(m0:1<=m)(e:jQ m St):((iK m).map (jn m St)).max?=aj ((oth m St).length:Int):=by rw[og];refine⟨cS.mpr ⟨m-1,jc.mpr (by omega),tO m0 e.ne⟩,λb h=>?_⟩;obtain⟨p,t,rfl⟩:=cS.mp h;exact(zy (jc.mp t)).2
inductive F4j(a0 a1 a2 a3:Sl)(ρ:List Sl):Prop where|mk(s:Sl)(q0:ρ=[a0,a1,a2,a3,s])(q1:fr s=a_)
theorem kj{St:List Int}(h:cX m ws)(E:jQ m St)(G:St.length<=100)(k:Q (.val (aR (jm m St) (xX m St ws))) [.val aK (aR m ws),.val aK (.tup (St.map D.int))]):(run Γ w (n+2) 23 [.val aK (aR m ws),.val aK (.tup (St.map D.int))]).sat Q:=by
 have m0:=h.m0;have m1:=h.m1;have J:=h.len;have y:=ae9 (m:=m) (St:=St) (by omega) E;have u:∀p,0<=p->p<m->at' (((iK m).map (jn m St)).map D.int) p=aj (.int (jn m St p)):=λp h0 h1=>afN h0 h1;refine aM (d:=f23) rfl rfl (by decide) ?_;symm;simp[f23];refine pY m0 m1 G ?_;have H:((iK m).map (jn m St)).length<=7:=by rw[dQ,nj];omega
 generalize(iK m).map (jn m St)=js at*;simp;apply ao;simp[show ws.length<=16777216 by omega];refine bV (F4j _ _ _ _) (jwD m St) ⟨.aV,rfl,rfl⟩ ?_ ?_;.rintro d hd _⟨s,rfl,hs⟩;obtain⟨v,B,rfl⟩:=cS.mp hd;have o:=h.ok v B;rw[Zj];simp[hs,Wy.d,u _ o.s0 o.s1,u _ o.t0 o.t1,jw];exact⟨_,rfl,rfl⟩
 rintro _⟨s,rfl,hs⟩;have e:(ws.map Wy.d).map (jwD m St)=(ws.map (jw m St)).map Wy.d:=by rw[ef,ef];rfl
 rw[e];have I:(ws.map (jw m St)).length=ws.length:=dQ _;have C:=k;unfold xX at C;generalize ws.map (jw m St)=A at*;simp;apply ao;simp[fB,y,show A.length<=16777216 by omega];refine gC (λρ=>∃s,ρ=[.val aK (aR m ws),.val aK (.tup (St.map D.int)),.own aK (js.map D.int),.lent (A.map Wy.d),s]/\fr s=a_) neD ⟨.aV,rfl,rfl⟩ ?_ ?_
 . rintro d hd _⟨s,rfl,hs⟩;obtain⟨v,B,rfl⟩:=cS.mp hd;by_cases c:v.s=v.t;.simp[hs,Wy.d,Qs,c]
   .simp[hs,Wy.d,Qs,c]
 rintro _⟨s,rfl,hs⟩;rw[Ju];generalize(A.filter λv=>decide (v.s≠v.t))=fs at*;simp;exact C
theorem G4{T:Int}{St:List Int}(t:13286250<=w)(h:cX m ws)(u:m<=6)(e:jQ m St)(y:St.length<=100)(h0:0<=T)(A:T<=4000000000000000000)(k:∀v,jt (jm m St) (xX m St ws) T v->Q (.val (.int v)) [.val aK (aR m ws),.val aK (.tup (St.map D.int)),.val aK (.int T)]):(run Γ w (n+7) 24 [.val aK (aR m ws),.val aK (.tup (St.map D.int)),.val aK (.int T)]).sat Q:=by refine aM (d:=W4) rfl rfl (by decide) ?_;symm;simp[W4];refine kj h e y ?_;simp;refine rO t (ni h u e) A λcs B=>?_;simp;exact k _ (B.least h0)
structure HR(m T:Int)(cl:List Int):Prop where
 len:(cl.length:Int)=m
 z:aJ cl 0=0
 e:aJ cl (m-1)=T+1
 bd:∀x∈cl,0<=x/\x<=T+1
theorem HR.last{T:Int}(h:HR m T cl)(m0:2<=m):at' (cl.map D.int) (-1)=aj (.int (T+1)):=by have he:=h.e;have t:=h.len;obtain⟨l,x,rfl⟩:∃l x,cl=l++[x]:=⟨cl.dropLast,cl.getLast (by rintro rfl;simp at t;omega),(mi _).symm⟩;rw[ek,im]at t;unfold aJ at he;rw[eu,fw (by omega),show(m-1).toNat-l.length=0 by omega]at he;have he:x=T+1:=he;rw[gN,List.map_singleton,Dd,he]
theorem Fg{e:Type}{l:List e}:(l.map λ_=>D.bl a_).mapM xW=aj (l.map λ_=>a_):=by induction l with|nil=>rfl|cons a l h=>simp[h]
theorem Kh{e:Type}{l:List e}:(l.map λ_=>a_).all id=a_:=by simp
theorem BR{T:Int}(h:cX m ws)(hc:HR m T cl)(k:Q (.val (.bl a_)) [.val aK (aR m ws),.val aK (.int T),.own a_ (cl.map D.int)]):(run Γ w (n+1) 19 [.val aK (aR m ws),.val aK (.int T),.own a_ (cl.map D.int)]).sat Q:=by
 have m0:=h.m0;have m1:=h.m1;have u:=hc.len;have e:=gk (row:=cl) (i:=0) (by omega) (by omega);have y:=hc.last m0;rw[hc.z]at e;refine aM (d:=U5) rfl rfl (by decide) ?_;symm;simp[U5,u,e,y];apply ao;simp[show cl.length<=16777216 by omega];refine bV (λρ=>∃s,ρ=[_,_,.lent (cl.map D.int),s]/\fr s=a_) (λ_=>.bl a_) ⟨.aV,rfl,rfl⟩ ?_ ?_;.rintro d hd _⟨s,rfl,hs⟩;obtain⟨x,A,rfl⟩:=cS.mp hd;have t:=hc.bd x A;simp[hs,t.1,t.2]
 rintro _⟨s,rfl,hs⟩;have B:((cl.map D.int).map λ_=>D.bl a_).mapM xW=aj ((cl.map D.int).map λ_=>a_):=Fg;have C:((cl.map D.int).map λ_=>a_).all id=a_:=Kh;generalize((cl.map D.int).map λ_=>D.bl a_)=X at*;generalize((cl.map D.int).map λ_=>a_)=Y at*;simp[B,C];exact k
theorem Oz(h:v.Ok m)(A:(cl.length:Int)=m)(k:Q (.val (.int (max 0 (aJ cl v.t-aJ cl v.s-v.h)))) [.val aK v.d,.own a_ (cl.map D.int)]):(run Γ w (n+1) 20 [.val aK v.d,.own a_ (cl.map D.int)]).sat Q:=by
 have e:=gk (row:=cl) h.s0 (by have:=h.s1;omega);have u:=gk (row:=cl) h.t0 (by have:=h.t1;omega);refine aM (d:=f20) rfl rfl (by decide) ?_;symm;have y:(if v.h<aJ cl v.t-aJ cl v.s then aJ cl v.t-aJ cl v.s-v.h else 0)=max 0 (aJ cl v.t-aJ cl v.s-v.h):=by split<;>omega
 simp[f20,Wy.d,e,u,y];exact k
noncomputable def dtD(cl:List Int):D->D|.tup [.int s,.int t,.int r,.int h]=>.int (eX (aJ cl) ⟨s,t,r,h⟩)|d=>d
theorem Zw:dtD cl v.d=.int (eX (aJ cl) v):=rfl
theorem zx{H:Wy->Int}:∀{ws:List Wy},(ws.map H).sum=jE H ws|[]=>rfl|v::ws=>by rw[da,nN,zx];rfl
theorem yw{T:Int}(h:cX m ws)(hc:HR m T cl)(k:Q (.val (.int (dF (aJ cl) ws))) [.val aK (aR m ws),.val aK (.int T),.own aK (cl.map D.int)]):(run Γ w (n+2) 21 [.val aK (aR m ws),.val aK (.int T),.own aK (cl.map D.int)]).sat Q:=by
 have u:=h.len;refine aM (d:=Yh) rfl rfl (by decide) ?_;symm;simp[Yh];refine BR h hc ?_;simp;apply ao;simp[show ws.length<=16777216 by omega];refine bV (λρ=>∃s,ρ=[.val aK (aR m ws),.val aK (.int T),.own aK (cl.map D.int),s]/\fr s=a_) (dtD cl) ⟨.aV,rfl,rfl⟩ ?_ ?_
 . rintro d hd _⟨s,rfl,hs⟩;obtain⟨v,t,rfl⟩:=cS.mp hd;have ho:=h.ok v t;have r0:=ho.r0;have r1:=ho.r1;have e:LR v.d (.int 2)=aj (.val (.int v.r)):=by simp[Wy.d]
   rw[Zw];simp[hs,e];refine Oz ho hc.len ?_;simp[show v.r<18446744073709551616 by omega,show-18446744073709551616<v.r by omega];rfl
 . rintro _⟨s,rfl,hs⟩;have e:(ws.map Wy.d).map (dtD cl)=(ws.map (eX (aJ cl))).map D.int:=by rw[ef,ef];rfl
   rw[e];have es:(ws.map (eX (aJ cl))).sum=dF (aJ cl) ws:=zx;generalize ws.map (eX (aJ cl))=y at*;simp[fB,es];exact k
structure tR(m T:Int)(St:List Int)(cl:List Int):Prop where
 len:(cl.length:Int)=m
 z:∀p∈St,aJ cl p=0
 e:aJ cl (m-1)=T+1
 bd:∀x∈cl,0<=x/\x<=T+1
theorem Dp{T:Int}(h:∀x∈cl,0<=x/\x<=T+1)(e:0<=p)(p1:p<(cl.length:Int)):0<=aJ cl p/\aJ cl p<=T+1:=by
 have:p.toNat<cl.length:=by omega
 unfold aJ;rw[eu,eF this];exact h _ (jI this)
noncomputable def Dy(m:Int)(St cl:List Int):List Int:=0::(oth m St).map (aJ cl)
theorem wD{St:List Int}(h:0<=p/\p<m)(hz:∀p∈St,aJ cl p=0):aJ (Dy m St cl) (jn m St p)=aJ cl p:=by
 unfold jn;by_cases c:St.contains p=a_;.rw[if_pos c,hz p (by simpa using c)];rfl
 . rw[if_neg c];have t:=kW.mpr ⟨h,(by simpa using c:p∉St)⟩;have hi:=ii.mpr t;have e:aJ (Dy m St cl) (((oth m St).idxOf p:Int)+1)=aJ cl ((oth m St)[(oth m St).idxOf p]):=by show(Dy m St cl).getD (((oth m St).idxOf p:Int)+1).toNat 0=_;rw[show(((oth m St).idxOf p:Int)+1).toNat=(oth m St).idxOf p+1 by omega,eu];show((oth m St).map (aJ cl))[(oth m St).idxOf p]?.getD 0=_;rw[eM,eF hi];rfl
   rw[e,lc hi]
theorem RT{T:Int}{St:List Int}(m0:2<=m)(h0:0<=T)(h:jQ m St)(hc:tR m T St cl):HR (jm m St) T (Dy m St cl):=by
 refine⟨?_,rfl,?_,λx hx=>?_⟩;.unfold Dy jm;rw[ei,dQ];omega
 .have:=wD (m:=m) (p:=m-1) (St:=St) (cl:=cl) ⟨by omega,by omega⟩ hc.z;rw[tO (by omega) h.ne]at this;unfold jm;rw[show((oth m St).length:Int)+1-1=((oth m St).length:Int)by omega,this,hc.e]
 . unfold Dy at hx;rcases de.mp hx with rfl|hx;.omega
   .obtain⟨p,t,rfl⟩:=cS.mp hx;have:=(kW.mp t).1;exact Dp hc.bd this.1 (by have:=hc.len;omega)
theorem Ft{T:Int}{St:List Int}(U:13286250<=w)(h:cX m ws)(W:m<=6)(y:jQ m St)(L:St.length<=100)(h0:0<=T)(k:∀cl,tR m T St cl->mC m St ws T (dF (aJ cl) ws)->Q (.own (cl.map D.int)) [.val aK (aR m ws),.val aK (.tup (St.map D.int)),.val aK (.int T)]):(run Γ w (n+10) 25 [.val aK (aR m ws),.val aK (.tup (St.map D.int)),.val aK (.int T)]).sat Q:=by
 have m0:=h.m0;have X:=ni h W y;refine aM (d:=f25) rfl rfl (by decide) ?_;symm;simp[f25];refine kj h y L ?_;simp;refine Bo U X h0 λcl hc=>?_;simp;apply ao;simp;refine pY m0 (by omega) L ?_;have G:=tO (m:=m) (St:=St) (by omega) y.ne;have M:((iK m).map λp=>aJ cl (jn m St p)).length=m.toNat:=by rw[dQ,nj]
 have t:∀p,0<=p->p<m->aJ ((iK m).map λp=>aJ cl (jn m St p)) p=aJ cl (jn m St p):=λp Y p1=>by show((iK m).map λp=>aJ cl (jn m St p)).getD p.toNat 0=_;unfold iK;rw[ef,eu,eM,k9 (by omega)];show aJ cl (jn m St (p.toNat:Int))=_;rw[iE Y]
 have H:tR m T St ((iK m).map λp=>aJ cl (jn m St p)):=by
  refine⟨by omega,λp u=>?_,?_,λx A=>?_⟩;.have E:=y p u;rw[t p (by omega) (by omega)];unfold jn;rw[if_pos (by simpa using u)];exact hc.z
  .rw[t _ (by omega) (by omega),G,<-hc.e];unfold jm;congr 1;omega
  .obtain⟨p,u,rfl⟩:=cS.mp A;have E:=zy (St:=St) (jc.mp u);exact Dp hc.bd E.1 (by have:=hc.len;unfold jm at this;omega)
 have I:mC m St ws T (dF (aJ ((iK m).map λp=>aJ cl (jn m St p))) ws):=by
  have e:=jU (m:=m) (St:=St) (g:=aJ cl) (q:=aJ ((iK m).map λp=>aJ cl (jn m St p))) (ws:=ws) λv Z=>by have o:=h.ok v Z;exact⟨by have:=o.h0;omega,(t _ o.s0 o.s1).symm,(t _ o.t0 o.t1).symm⟩
  rw[<-e];exact vA h y hc.lst
 have O:=k _ H I;have J:∀p∈iK m,at' (cl.map D.int) (jn m St p)=aj (.int (aJ cl (jn m St p))):=λp u=>by have E:=zy (St:=St) (jc.mp u);exact gk E.1 (by have:=hc.len;unfold jm at this;omega)
 have ac:((iK m).map (jn m St)).length=m.toNat:=by rw[dQ,nj]
 have B:∀x∈(iK m).map (jn m St),at' (cl.map D.int) x=aj (.int (aJ cl x)):=λx A=>by obtain⟨p,u,rfl⟩:=cS.mp A;exact J p u
 have C:((iK m).map λp=>aJ cl (jn m St p))=((iK m).map (jn m St)).map (aJ cl):=by rw[ef];rfl
 rw[C]at O;generalize(iK m).map (jn m St)=js at*;simp[show js.length<=16777216 by omega];refine bV (F4j _ _ _ _) (λd=>.int (aJ cl (mZ d))) ⟨.aV,rfl,rfl⟩ ?_ ?_;.rintro d hd _⟨s,rfl,hs⟩;obtain⟨x,A,rfl⟩:=cS.mp hd;simp[hs,B x A];exact⟨rfl,_,rfl,rfl⟩
 . rintro _⟨s,rfl,hs⟩;have e:(js.map D.int).map (λd=>.int (aJ cl (mZ d)))=(js.map (aJ cl)).map D.int:=by rw[ef,ef];rfl
   rw[e];generalize js.map (aJ cl)=ns at*;simp;exact O
noncomputable def iG(cl:List Int):List D:=(cl.map D.int).mapIdx λi d=>D.tup [.int (i:Int),d]
noncomputable def Te(St:List Int):D->Option D|.tup [.int p,x]=>if St.contains p then bx else aj x|_=>bx
theorem Jk{St:List Int}(t:(cl.length:Int)=m):(iG cl).filterMap (Te St)=((oth m St).map (aJ cl)).map D.int:=by
 have h:iG cl=(iK m).map λp=>D.tup [.int p,.int (aJ cl p)]:=by
  refine ll (by simp[iG,iK];omega) λi h1 u=>?_;have hi:i<cl.length:=by simpa[iG]using h1
  simp[iG,iK,aJ,hi]
 rw[h];unfold oth;generalize iK m=l;induction l with|nil=>rfl|cons p l e=>cases c:St.contains p with|true=>rw[da,ko (by show(if St.contains p=a_ then _ else _)=_;rw[c];rfl),e,iz (by simp[c]at c ⊢;exact c)]|false=>rw[da,kn (b:=.int (aJ cl p)) (by show(if St.contains p=a_ then _ else _)=_;rw[c];rfl),e,ix (by simp[c]at c ⊢;exact c)];rfl
theorem Hv{T:Int}{St:List Int}(h:cX m ws)(M:m<=6)(B:jQ m St)(O:St.length<=100)(h0:0<=T)(hc:tR m T St cl)(k:Q (.val (.int (dF (aJ cl) ws))) [.val aK (aR m ws),.val aK (.tup (St.map D.int)),.val aK (.int T),.val a_ (.lst (cl.map D.int))]):(run Γ w (n+3) 26 [.val aK (aR m ws),.val aK (.tup (St.map D.int)),.val aK (.int T),.own a_ (cl.map D.int)]).sat Q:=by
 have m0:=h.m0;have y:=hc.len;have U:=ni h M B;refine aM (d:=WK) rfl rfl (by decide) ?_;symm;simp[WK,y,show St.length<=16777216 by omega];refine bV (λρ=>∃s,ρ=[_,_,_,.own a_ (cl.map D.int),.aV,s]/\fr s=a_) (λ_=>.bl a_) ⟨.aV,rfl,rfl⟩ ?_ ?_;.rintro d hd _⟨s,rfl,hs⟩;obtain⟨p,I,rfl⟩:=cS.mp hd;have hb:=B p I;have J:=gk (row:=cl) (i:=p) (by omega) (by omega);rw[hc.z p I]at J;simp[hs,J]
 rintro _⟨s,rfl,hs⟩;have W:((St.map D.int).map λ_=>D.bl a_).mapM xW=aj ((St.map D.int).map λ_=>a_):=Fg;have Z:((St.map D.int).map λ_=>a_).all id=a_:=Kh;generalize((St.map D.int).map λ_=>D.bl a_)=X at*;generalize((St.map D.int).map λ_=>a_)=Y at*;simp[W,Z];apply ao;simp[show cl.length<=16777216 by omega];have E:=Jk (St:=St) y;have G:∀d∈iG cl,∃(i:Nat)(x:Int),d=.tup [.int (i:Int),.int x]:=λd hd=>by unfold iG at hd;rw[List.mem_mapIdx]at hd;obtain⟨i,hi,rfl⟩:=hd;exact⟨i,cl[i]'(by simpa using hi),by simp⟩
 have e0:(List.mapIdx (λi d=>D.tup [D.int (i:Int),d]) (cl.map D.int))=iG cl:=rfl;rw[e0];generalize iG cl=en at*;refine gC (λρ=>∃s t,ρ=[.val aK (aR m ws),.val aK (.tup (St.map D.int)),.val aK (.int T),.val a_ (.lst (cl.map D.int)),.aV,s,t]/\fr s=a_/\fr t=a_) (Te St) ⟨.aV,.aV,rfl,rfl,rfl⟩ ?_ ?_
 . rintro d hd _⟨s,t,rfl,hs,ht⟩;obtain⟨i,x,rfl⟩:=G d hd;have C:=o5 (S:=St) (i:=(i:Int))
   cases c:St.contains (i:Int)with|true=>
     have e:Te St (.tup [.int (i:Int),.int x])=bx:=by show(if St.contains (i:Int)=a_ then _ else _)=_;rw[c];rfl
     rw[c]at C;simp[hs,ht,C,e];exact⟨_,_,⟨rfl,rfl⟩,rfl,rfl⟩|false=>
     have e:Te St (.tup [.int (i:Int),.int x])=aj (.int x):=by show(if St.contains (i:Int)=a_ then _ else _)=_;rw[c];rfl
     rw[c]at C;simp[hs,ht,C,e];exact⟨_,_,⟨rfl,rfl⟩,rfl,rfl⟩
 rintro _⟨s,t,rfl,hs,ht⟩;rw[E];have hok:=RT m0 h0 B hc;have A:dF (aJ (Dy m St cl)) (xX m St ws)=dF (aJ cl) ws:=jU λv hv=>by have o:=h.ok v hv;exact⟨by have:=o.h0;omega,wD ⟨o.s0,o.s1⟩ hc.z,wD ⟨o.t0,o.t1⟩ hc.z⟩
 have H:Dy m St cl=0::(oth m St).map (aJ cl):=rfl;have ac:=qx (m:=m) (St:=St);have L:((oth m St).map (aJ cl)).length<=7:=by rw[dQ];omega
 rw[H]at hok A;have u:=λ{w n:Nat}{Q:R->List Sl->Prop}=>yw (w:=w) (n:=n) (Q:=Q) U hok;rw[A]at u;generalize(oth m St).map (aJ cl)=os at*;rw[da]at u;simp;apply ao;simp;refine kj h B O ?_;simp;refine⟨by show _<=16777216;omega,?_⟩;refine u ?_;simp;exact k
theorem sG(h:a<=1000000000000000000000):a<big:=by show _<(1606938044258990275541962092341162602522202993782792835301376:Int);omega
theorem Eg{ns:List Int}{lo hi:Int}(h0:0<=i)(h1:i<(ns.length:Int))(k:∀x∈ns,lo<=x/\x<=hi):∃r,at' (ns.map D.int) i=aj (.int r)/\lo<=r/\r<=hi:=by
 have e:i.toNat<ns.length:=by omega
 refine⟨ns[i.toNat],?_,k _ (jI e)⟩;rw[tH h0 (by simpa using h1)];simp[e]
theorem jK{x y:Int}(h0:0<m)(e:m<big)(k:∀d x z:Int,0<=d->d<m->Q (.val (.int d)) [.own a_ [.int x,.int y,.int z],.val aK (.int m)]):(run Γ w (n+2) 29 [.own a_ [.int x,.int y,.int z],.val aK (.int m)]).sat Q:=by refine aM (d:=f29) rfl rfl (by decide) ?_;symm;simp[f29];refine bK (by decide) (by decide) λa x z h t=>?_;simp;refine bK (by decide) (by decide) λb x z b0 b1=>?_;simp[h0];exact k _ _ _ (mA _ (by omega)) (lw _ h0)
inductive JNt(y m p l:Int)(i:Nat)(ρ:List Sl):Prop where|mk(x z:Int)(ws:List Wy)(s6 s7 s8:Sl)(q0:ρ=[.own a_ [.int x,.int y,.int z],.val aK (.int 12),.val aK (.int p),.val aK (.int l),.val aK (.int m),.own aK (ws.map Wy.d),s6,s7,s8])(q1:A3 (fr s6=a_) (fr s7=a_) (fr s8=a_))(q2:(∀v∈ws,v.Ok m))(q3:ws.length=i)
theorem K3{x y l:Int}(p0:1<=p)(p1:p<=1000000001)(l0:1<=l)(l1:l<=1000000)(k:∀(m:Int)(ws:List Wy)(x z:Int),cX m ws->m<=6->Q (.val (aR m ws)) [.own a_ [.int x,.int y,.int z],.val aK (.int 12),.val aK (.int p),.val aK (.int l)]):(run Γ w (n+4) 30 [.own a_ [.int x,.int y,.int z],.val aK (.int 12),.val aK (.int p),.val aK (.int l)]).sat Q:=by
 refine aM (d:=f30) rfl rfl (by decide) ?_;symm;simp[f30];refine bK (by decide) (by decide) λd x z E G=>?_;simp;obtain⟨m,H,m0,m1⟩:∃m,m=2+d/\2<=m/\m<=6:=⟨_,rfl,by omega,by omega⟩;rw[<-H];symm;simp;apply ao;simp;refine bK (by decide) (by decide) λc x z c0 c1=>?_;simp;refine bK (by decide) (by decide) λe x z I J=>?_;obtain⟨N,A,N0,N1⟩:=Eg (ns:=[12,c]) (lo:=0) (hi:=12) I (by simpa using J) (by simp;omega);simp only[da,lz]at A;simp[A,show N<=1000000000 by omega];refine⟨by omega,?_⟩;refine j8 (JNt y m p l) ?_ ?_ ⟨x,z,[],.aV,.aV,.aV,rfl,⟨rfl,rfl,rfl⟩,by simp,rfl⟩
 . rintro i _ hi⟨x,z,ws,s6,s7,s8,rfl,⟨L,M,O⟩,hok,U⟩;simp[L];apply ao;simp;refine bK (by omega) (sG (by omega)) λa x z B C=>?_;simp[M];apply ao;simp;refine bK (by omega) (sG (by omega)) λb x z b0 b1=>?_;obtain⟨t0,t1,W⟩:=other B C b0 b1;simp[O,show 0<m by omega];generalize(a+1+b)%m=t at*;refine dY (λρ=>∃x z s t,ρ=[.own a_ [.int x,.int y,.int z],.val aK (.int 12),.val aK (.int p),.val aK (.int l),.val aK (.int m),.own aK (ws.map Wy.d),.val aK (.int i),.val aK (.int s),.val aK (.int t)]/\0<=s/\s<m/\0<=t/\t<m/\s≠t) ?_ ?_;.simp;refine bK (by decide) (by decide) λc x z c0 c1=>?_;simp;refine⟨λ_=>?_,λ_=>⟨x,z,a,t,⟨⟨rfl,rfl⟩,rfl,rfl⟩,B,C,t0,t1,λz=>W z.symm⟩⟩;symm;simp;refine⟨x,z,_,_,⟨⟨rfl,rfl⟩,rfl,rfl⟩,?_⟩;split<;>split<;>omega
   . rintro _⟨x,z,s,t,rfl,X,Y,Z,q4,q5⟩;symm;simp;refine jK (by omega) (sG (by omega)) λr x z r0 r1=>?_;simp;refine jK (by omega) (sG (by omega)) λh x z h0 h1=>?_;simp[show ws.length<16777216 by omega];refine⟨x,z,ws++[⟨s,t,r,1+h⟩],_,_,_,by rw[gN];rfl,⟨rfl,rfl,rfl⟩,λu hu=>?_,by simp;omega⟩;rcases fk.mp hu with hu|hu;.exact hok u hu
     .rw[dU.mp hu];exact⟨X,Y,Z,q4,q5,r0,by show r<=_;omega,by show 1<=1+h;omega,by show 1+h<=_;omega⟩
 .rintro _⟨x,z,ws,s6,s7,s8,rfl,_,hok,U⟩;symm;simp;exact k m ws x z ⟨m0,by omega,by omega,hok⟩ m1
inductive FSt(y:Int)(a1:Sl)(ρ:List Sl):Prop where|mk(x z:Int)(s:Sl)(q0:ρ=[.own a_ [.int x,.int y,.int z],a1,s])(q1:fr s=a_)
noncomputable def PSt(m:Int)(d:D):Prop:=∃p,d=.int p/\0<=p/\p<m-1
theorem Ku{xs:List D}(h:∀x∈xs,PSt m x):∃St:List Int,xs=St.map D.int/\jQ m St:=by induction xs with|nil=>exact⟨[],rfl,by simp[jQ]⟩|cons x xs t=>obtain⟨p,rfl,u,p1⟩:=h x (by simp);obtain⟨St,e,hs⟩:=t λy A=>h y (by simp[A]);exact⟨p::St,by rw[e];rfl,λq hq=>by
    rcases de.mp hq with rfl|hq;.exact⟨u,p1⟩
    .exact hs q hq⟩
theorem Bp{x y:Int}(m0:2<=m)(m1:m<=6)(k:∀(St:List Int)(x z:Int),jQ m St->(St.length:Int)<=m-1->Q (.val (.tup (St.map D.int))) [.own a_ [.int x,.int y,.int z],.val aK (.int m)]):(run Γ w (n+2) 31 [.own a_ [.int x,.int y,.int z],.val aK (.int m)]).sat Q:=by
 refine aM (d:=f31) rfl rfl (by decide) ?_;symm;simp[f31,show m-1<=1000000000 by omega,show-1000000000<=m-1 by omega];refine⟨λ_=>?_,by omega⟩;refine GQ (FSt y _) (PSt m) ⟨x,z,.aV,rfl,rfl⟩ ?_ ?_
 . rintro d hd _⟨x,z,s,rfl,hs⟩;obtain⟨j,t,rfl⟩:=cS.mp hd;have t:=gd.mp t;simp[hs];refine bK (by decide) (by decide) λc x z c0 c1=>?_;simp;have u:PSt m (D.int (j:Int)):=⟨j,rfl,by omega,by omega⟩;split;.exact⟨u,x,z,_,rfl,rfl⟩
   .exact⟨x,z,_,rfl,rfl⟩
 .rintro xs _⟨x,z,s,rfl,hs⟩e h;obtain⟨St,rfl,A⟩:=Ku h;simp at e;simp;exact k St x z A (by omega)
theorem Bc{e:Type}{xs:List e}{lo hi:Option Int}:(cut xs lo hi).length<=xs.length:=by unfold cut;simp;omega
theorem DY{cs:List Int}{a b:Option Int}:cut (cs.map D.int) a b=(cut cs a b).map D.int:=by unfold cut;simp
theorem afV{b:Blt}{ps:List P}:Ms (.lst ds) (part (.con .non) .non) (part (.blt b ps) (.int i))=aj (.own (cut ds bx (aj i))):=rfl
inductive aft(ns:List Int)(_:Nat)(ρ:List Sl):Prop where|mk(cs:List Int)(s:Sl)(q0:ρ=[.val aK (.lst (ns.map D.int)),.val aK (.int 12),.own aK (cs.map D.int),s])(q1:fr s=a_)(q2:cs.length=12)
theorem BX{ns:List Int}(B:ns.length<=63)(k:∀cs:List Int,cs.length<=12->Q (.own (cs.map D.int)) [.val aK (.lst (ns.map D.int)),.val aK (.int 12)]):(run Γ w (n+1) 36 [.val aK (.lst (ns.map D.int)),.val aK (.int 12)]).sat Q:=by
 refine aM (d:=f36) rfl rfl (by decide) ?_;refine dY (λρ=>ρ=[.val aK (.lst (ns.map D.int)),.val aK (.int 12),.own aK ((cx 12 (0:Int)).map D.int),.aV]) ?_ ?_;.simp[f36];decide
 rintro _ rfl;symm;simp[show(ns.length:Int)<=1000000000 by omega];refine j8 (aft ns) ?_ ?_ ⟨cx 12 0,.aV,by simp,rfl,by simp⟩;.rintro i _ hi⟨cs,s,rfl,hs,e⟩;obtain⟨j,t,h⟩:∃j:Nat,(i:Int)%12=(j:Int)/\j<cs.length:=⟨i%12,by omega,by omega⟩;have u:at' (cs.map D.int) (j:Int)=aj (.int cs[j]):=jg (by simp[h]);have y:at' (ns.map D.int) (i:Int)=aj (.int ns[i]):=jg (by simp[hi]);have A:ir cs.length (j:Int)=aj j:=Jt h;simp[hs];apply ao;simp[t,u,y,A];exact⟨cs.set j (cs[j]*1000003+ns[i]),.val aK (.int i),by simp[p_],rfl,by simpa using e⟩
 .rintro _⟨cs,s,rfl,hs,e⟩;symm;simp[afV,DY];exact k _ (g_ Bc (by omega))
theorem mC.uniq{T v e:Int}{St:List Int}(h:mC m St ws T v)(h':mC m St ws T e):v=e:=by obtain⟨q,a,b,c⟩:=h.ex;obtain⟨t,u,y,A⟩:=h'.ex;have h1:=h.le t u y;have B:=h'.le q a b;omega
theorem Ua{T:Int}{St:List Int}(t:13286250<=w)(h:cX m ws)(u:m<=6)(e:jQ m St)(y:St.length<=100)(A:T<=4000000000000000000)(k:∀cs,cY (jm m St) (xX m St ws) cs->Q (.val (.int (val (xX m St ws) T cs))) [.val aK (aR m ws),.val aK (.tup (St.map D.int)),.val aK (.int T)]):(run Γ w (n+7) 24 [.val aK (aR m ws),.val aK (.tup (St.map D.int)),.val aK (.int T)]).sat Q:=by refine aM (d:=W4) rfl rfl (by decide) ?_;symm;simp[W4];refine kj h e y ?_;simp;refine rO t (ni h u e) A λcs B=>?_;simp;exact k cs B
theorem Gb{x y:Int}(k:∀(m:Int)(ws:List Wy)(x z:Int),cX m ws->m<=6->Q (.val (aR m ws)) [.own a_ [.int x,.int y,.int z]]):(run Γ w (n+5) 32 [.own a_ [.int x,.int y,.int z]]).sat Q:=by refine aM (d:=f32) rfl rfl (by decide) ?_;symm;simp[f32];refine bK (by decide) (by decide) λe x z h t=>?_;obtain⟨p,ep,A,p1⟩:=Eg (ns:=[2,4,30,1000000001]) (lo:=1) (hi:=1000000001) h (by simpa using t) (by simp);simp only[da,lz]at ep;simp[ep];apply ao;simp;refine bK (by decide) (by decide) λe x z h t=>?_;obtain⟨l,u,B,C⟩:=Eg (ns:=[2,3,5,1000000]) (lo:=1) (hi:=1000000) h (by simpa using t) (by simp);simp only[da,lz]at u;simp[u];apply ao;simp;refine K3 A p1 B C λm ws x z E G=>?_;simp;exact k m ws x z E G
noncomputable def inB(T x:Int):Bool:=decide (0<=x)&&decide (x<=T+1)
noncomputable def TJ(T:Int):D->D|.int x=>.bl (inB T x)|d=>d
theorem My{T:Int}:(cl.map D.int).map (TJ T)=(cl.map (inB T)).map D.bl:=by rw[ef,ef];rfl
theorem CQ(e:(cl.length:Int)=m)(m0:2<=m):at' (cl.map D.int) (-1)=aj (.int (aJ cl (m-1))):=by
 obtain⟨l,x,rfl⟩:∃l x,cl=l++[x]:=⟨cl.dropLast,cl.getLast (by rintro rfl;simp at e;omega),(mi _).symm⟩;rw[ek,im]at e;have he:aJ (l++[x]) (m-1)=x:=by unfold aJ;rw[eu,fw (by omega),show(m-1).toNat-l.length=0 by omega];rfl
 rw[gN,List.map_singleton,Dd,he]
theorem zH{T:Int}(h:cX m ws)(t:(cl.length:Int)=m)(hz:aJ cl 0=0)(k:∀b:Bool,(b=a_↔HR m T cl)->Q (.val (.bl b)) [.val aK (aR m ws),.val aK (.int T),.own a_ (cl.map D.int)]):(run Γ w (n+1) 19 [.val aK (aR m ws),.val aK (.int T),.own a_ (cl.map D.int)]).sat Q:=by
 have m0:=h.m0;have m1:=h.m1;have y:=gk (row:=cl) (i:=0) (by omega) (by omega);have A:=CQ t m0;rw[hz]at y;refine aM (d:=U5) rfl rfl (by decide) ?_;symm;by_cases c:aJ cl (m-1)=T+1
 . simp[U5,t,y,A,c];symm;simp[show cl.length<=16777216 by omega];refine bV (λρ=>∃s,ρ=[_,_,.lent (cl.map D.int),s]/\fr s=a_) (TJ T) ⟨.aV,rfl,rfl⟩ ?_ ?_;.rintro d hd _⟨s,rfl,hs⟩;obtain⟨x,u,rfl⟩:=cS.mp hd;by_cases c1:0<=x<;>by_cases c2:x<=T+1<;>simp[hs,c1,c2,TJ,inB]
   rintro _⟨s,rfl,hs⟩;rw[My];have B:=k ((cl.map (inB T)).all id) (by
    rw[fH];constructor;.intro z;refine⟨t,hz,c,λx u=>?_⟩;have:=z _ (cS.mpr ⟨x,u,rfl⟩);simpa[inB]using this
    .intro z b C;obtain⟨x,u,rfl⟩:=cS.mp C;have:=z.bd x u;simp[inB,this.1,this.2]);generalize cl.map (inB T)=bs at*;simp;exact B
 .simp[U5,t,y,A,c];symm;simp;exact k aK ⟨λz=>Bool.noConfusion z,λz=>absurd z.e c⟩
theorem Fv{T:Int}(h:cX m ws)(e:(cl.length:Int)=m)(hz:aJ cl 0=0)(k:∀d:D,(d=.non/\¬ HR m T cl\/d=.int (dF (aJ cl) ws)/\HR m T cl)->Q (.val d) [.val aK (aR m ws),.val aK (.int T),.own aK (cl.map D.int)]):(run Γ w (n+2) 21 [.val aK (aR m ws),.val aK (.int T),.own aK (cl.map D.int)]).sat Q:=by
 by_cases hc:HR m T cl;.exact yw h hc (k _ (.inr ⟨rfl,hc⟩))
 . refine aM (d:=Yh) rfl rfl (by decide) ?_;symm;simp[Yh];refine zH h e hz λb t=>?_;have:b=aK:=by cases b with|true=>exact absurd (t.mp rfl) hc|false=>rfl
   subst this;simp;apply ao;simp;exact k _ (.inl ⟨rfl,hc⟩)
theorem K5{T:Int}{St:List Int}(m0:2<=m)(h0:0<=T)(h:jQ m St)(t:(cl.length:Int)=m)(hz:∀p∈St,aJ cl p=0)(hc:HR (jm m St) T (Dy m St cl)):tR m T St cl:=by
 refine⟨t,hz,?_,λx u=>?_⟩;.have:=wD (m:=m) (p:=m-1) (St:=St) (cl:=cl) ⟨by omega,by omega⟩ hz;rw[tO (by omega) h.ne]at this;have he:=hc.e;unfold jm at he;rw[show((oth m St).length:Int)+1-1=((oth m St).length:Int)by omega,this]at he;exact he
 . obtain⟨i,hi⟩:=kb u;have y:=(eY hi).1;have e:aJ cl (i:Int)=x:=by unfold aJ;rw[eu,kq,hi];rfl
   by_cases c:(i:Int)∈St;.rw[hz _ c]at e;omega
   .have:=hc.bd (aJ cl (i:Int)) (by unfold Dy;exact dI _ (cS.mpr ⟨_,kW.mpr ⟨⟨by omega,by omega⟩,c⟩,rfl⟩));rw[e]at this;exact this
noncomputable def zD(cl:List Int):D->D|.int p=>.bl (decide (aJ cl p=0))|d=>d
noncomputable def vz(m T:Int)(ws:List Wy)(St cl:List Int)(d:D):Prop:=d=.non/\¬ tR m T St cl\/d=.int (dF (aJ cl) ws)/\tR m T St cl
theorem vz.uniq{T:Int}{St:List Int}{d e:D}(h:vz m T ws St cl d)(g:vz m T ws St cl e):d=e:=by
 rcases h with⟨rfl,h⟩|⟨rfl,h⟩<;>rcases g with⟨rfl,g⟩|⟨rfl,g⟩;.rfl
 .exact absurd g h
 .exact absurd h g
 .rfl
theorem GK{T:Int}{St:List Int}(h:cX m ws)(M:m<=6)(y:jQ m St)(O:St.length<=100)(h0:0<=T)(X:cl.length<=1000)(k:∀d s,vz m T ws St cl d->(s=.own a_ (cl.map D.int)\/s=.val a_ (.lst (cl.map D.int)))->Q (.val d) [.val aK (aR m ws),.val aK (.tup (St.map D.int)),.val aK (.int T),s]):(run Γ w (n+3) 26 [.val aK (aR m ws),.val aK (.tup (St.map D.int)),.val aK (.int T),.own a_ (cl.map D.int)]).sat Q:=by
 have m0:=h.m0;by_cases hc:tR m T St cl;.exact Hv h M y O h0 hc (k _ _ (.inr ⟨rfl,hc⟩) (.inr rfl))
 have C:=λs hs=>k .non s (.inl ⟨rfl,hc⟩) hs;refine aM (d:=WK) rfl rfl (by decide) ?_;symm;by_cases cm:(cl.length:Int)=m
 . simp[WK,cm,show St.length<=16777216 by omega];refine bV (λρ=>∃s,ρ=[_,_,_,.own a_ (cl.map D.int),.aV,s]/\fr s=a_) (zD cl) ⟨.aV,rfl,rfl⟩ ?_ ?_;.rintro d hd _⟨s,rfl,hs⟩;obtain⟨p,A,rfl⟩:=cS.mp hd;have U:=y p A;have Z:=gk (row:=cl) (i:=p) (by omega) (by omega);simp[hs,Z,zD];first|rfl|exact⟨rfl,_,rfl,rfl⟩|skip
   rintro _⟨s,rfl,hs⟩;have ez:(St.map D.int).map (zD cl)=(St.map λp=>decide (aJ cl p=0)).map D.bl:=by rw[ef,ef];rfl
   rw[ez];by_cases hz:∀p∈St,aJ cl p=0
   . have E:(St.map λp=>decide (aJ cl p=0)).all id=a_:=by rw[fH];intro b U;obtain⟨p,A,rfl⟩:=cS.mp U;simp[hz p A]
     generalize(St.map λp=>decide (aJ cl p=0))=Y at*;simp[E];apply ao;simp[show cl.length<=16777216 by omega];have G:=Jk (St:=St) cm;have H:∀d∈iG cl,∃(i:Nat)(x:Int),d=.tup [.int (i:Int),.int x]:=λd hd=>by unfold iG at hd;rw[List.mem_mapIdx]at hd;obtain⟨i,hi,rfl⟩:=hd;exact⟨i,cl[i]'(by simpa using hi),by simp⟩
     have e0:(List.mapIdx (λi d=>D.tup [D.int (i:Int),d]) (cl.map D.int))=iG cl:=rfl;rw[e0];generalize iG cl=en at*;refine gC (λρ=>∃s t,ρ=[.val aK (aR m ws),.val aK (.tup (St.map D.int)),.val aK (.int T),.val a_ (.lst (cl.map D.int)),.aV,s,t]/\fr s=a_/\fr t=a_) (Te St) ⟨.aV,.aV,rfl,rfl,rfl⟩ ?_ ?_
     . rintro d hd _⟨s,t,rfl,hs,ht⟩;obtain⟨i,x,rfl⟩:=H d hd;have B:=o5 (S:=St) (i:=(i:Int))
       cases c:St.contains (i:Int)with|true=>
         have e:Te St (.tup [.int (i:Int),.int x])=bx:=by show(if St.contains (i:Int)=a_ then _ else _)=_;rw[c];rfl
         rw[c]at B;simp[hs,ht,B,e];exact⟨_,_,⟨rfl,rfl⟩,rfl,rfl⟩|false=>
         have e:Te St (.tup [.int (i:Int),.int x])=aj (.int x):=by show(if St.contains (i:Int)=a_ then _ else _)=_;rw[c];rfl
         rw[c]at B;simp[hs,ht,B,e];exact⟨_,_,⟨rfl,rfl⟩,rfl,rfl⟩
     rintro _⟨s,t,rfl,hs,ht⟩;rw[G];have I:¬ HR (jm m St) T (Dy m St cl):=λz=>hc (K5 m0 h0 y cm hz z);have hj:=ni h M y;have ac:=qx (m:=m) (St:=St);have W:((oth m St).map (aJ cl)).length<=7:=by rw[dQ];omega
     have J:((Dy m St cl).length:Int)=jm m St:=by unfold Dy jm;rw[ei,dQ];omega
     have u:=λ{w n:Nat}{Q:R->List Sl->Prop}(k':Q (.val .non) _)=>Fv (w:=w) (n:=n) (Q:=Q) hj J rfl λd hd=>by
      rcases hd with⟨rfl,_⟩|⟨_,z⟩;.exact k'
      .exact absurd z I
     have L:Dy m St cl=0::(oth m St).map (aJ cl):=rfl;rw[L]at u;generalize(oth m St).map (aJ cl)=os at*;rw[da]at u;simp;apply ao;simp;refine kj h y O ?_;simp;refine⟨by show _<=16777216;omega,?_⟩;refine u ?_;simp;exact C _ (.inr rfl)
   . have E:(St.map λp=>decide (aJ cl p=0)).all id=aK:=by cases q:(St.map λp=>decide (aJ cl p=0)).all id with|false=>rfl|true=>rw[fH]at q;exact absurd (λp A=>by simpa using q _ (cS.mpr ⟨p,A,rfl⟩)) hz
     generalize(St.map λp=>decide (aJ cl p=0))=Y at*;simp[E];apply ao;simp;exact C _ (.inl rfl)
 .simp[WK,cm];symm;simp;exact C _ (.inl rfl)
theorem MT{c:Call}{x:Nat}{is:List Nat}{body:List S}{b:Bool}(h:ρ[x]?=aj (.own b ds)):ex c n (.Lq x is body) ρ=(fV is aK (gh c n body) (ds.mapIdx λi d=>D.tup [.int (i:Int),d]) (ρ.set x (.lent ds))).bind λfl t=>.ok fl (t.set x (.own b ds)):=by
 show((srcOf (aj x) (ev c (.var x)) ρ).bind λds y=>(fV is aK (gh c n body) (ds.mapIdx λi d=>D.tup [.int (i:Int),d]) y).bind λfl t=>.ok fl (aP ρ (aj x) t))=_;have e:srcOf (aj x) (ev c (.var x)) ρ=.ok ds (ρ.set x (.lent ds)):=by unfold srcOf;simp only;rw[h]
 have u:∀t,aP ρ (aj x) t=t.set x (.own b ds):=λt=>by unfold aP;simp only;rw[h]
 rw[e];simp only[u];rfl
noncomputable def Wg(T:Int)(St:List Int)(i:Nat)(x:Int):Prop:=0<=x/\x<=T+1/\((i:Int)∈St->x<=0)
inductive JLs(T:Int)(St:List Int)(cl:List Int)(a0 a1 a2:Sl)(r:List D)(ρ:List Sl):Prop where|mk(i:Nat)(s4 s5:Sl)(q0:ρ=[a0,a1,a2,.lent (cl.map D.int),s4,s5,.aV,.aV,.aV,.aV,.aV])(q1:(fr s4=a_/\fr s5=a_))(q2:r=(iG cl).drop i)(q3:i<=cl.length)(q4:∀(j:Nat)x,j<i->cl[j]?=aj x->Wg T St j x)
inductive JLd(ws:List Wy)(cl:List Int)(a0 a1 a2 a3 a4 a5:Sl)(r:List D)(ρ:List Sl):Prop where|mk(us:List Wy)(f:Int)(s7 s8 s9 ju:Sl)(q0:ρ=[a0,a1,a2,a3,a4,a5,.val aK (.int f),s7,s8,s9,ju])(q1:A4 (fr s7=a_) (fr s8=a_) (fr s9=a_) (fr ju=a_))(q2:r=us.map Wy.d)(q3:f+dF (aJ cl) us=dF (aJ cl) ws)(q4:∀v∈us,v∈ws)
theorem yH{T:Int}{St:List Int}(h:cX m ws)(m6:m<=6)(hS:jQ m St)(h0:0<=T)(ac:cl.length<=1000)(k:∀d,vz m T ws St cl d->Q (.val d) [.val aK (aR m ws),.val aK (.tup (St.map D.int)),.val aK (.int T),.own a_ (cl.map D.int)]):(run Γ w (n+1) 33 [.val aK (aR m ws),.val aK (.tup (St.map D.int)),.val aK (.int T),.own a_ (cl.map D.int)]).sat Q:=by
 have m0:=h.m0;have hn:=h.len;refine aM (d:=Yz) rfl rfl (by decide) ?_;symm;by_cases cm:(cl.length:Int)=m
 . have X:=CQ cm m0;by_cases I:aJ cl (m-1)=T+1
   . simp[Yz,cm,X,I];symm;rw[MT (b:=a_) (ds:=cl.map D.int) rfl,bB];have ae:(iG cl).length=cl.length:=by simp[iG]
     refine cP (JLs T St cl (.val aK (aR m ws)) (.val aK (.tup (St.map D.int))) (.val aK (.int T))) ?_ ?_ ⟨0,.aV,.aV,rfl,⟨rfl,rfl⟩,rfl,um,λj x H=>absurd H (Nat.not_lt_zero _)⟩
     . rintro d r _⟨i,s4,s5,rfl,⟨Y,Z⟩,hr,hi,J⟩;have B:i<cl.length:=by
        rcases n9 i cl.length with z|z;.exact z
        .rw[kG (by omega)]at hr;cases hr
       rw[fE (by omega)]at hr;obtain⟨rfl,rfl⟩:d=(iG cl)[i]'(by omega)/\r=(iG cl).drop (i+1):=by cases hr;exact⟨rfl,rfl⟩
       have ed:(iG cl)[i]'(by omega)=.tup [.int (i:Int),.int cl[i]]:=by simp[iG]
       have ex:cl[i]?=aj cl[i]:=eF B;rw[ed];have er:aJ cl (i:Int)=cl[i]:=by unfold aJ;rw[eu,kq,ex];rfl
       have E:cl[i]∈cl:=jI B;generalize cl[i]=x at*;simp[Y,Z];apply ao;have no:¬ Wg T St i x->¬ tR m T St cl:=λz y=>z ⟨(y.bd x E).1,(y.bd x E).2,λq=>by have:=y.z _ q;omega⟩;have A:=JQ (S:=St) (i:=(i:Int));by_cases c1:x<0;.simp[c1];symm;simp;exact k _ (.inl ⟨rfl,no λz=>by have:=z.1;omega⟩)
       by_cases c2:T+1<x;.simp[c1,c2];symm;simp;exact k _ (.inl ⟨rfl,no λz=>by have:=z.2.1;omega⟩)
       have G:((i:Int)∈St->x<=0)->∀(j:Nat)y,j<i+1->cl[j]?=aj y->Wg T St j y:=λz j y H L=>by
        by_cases e:j=i;.subst e;rw[ex]at L;cases L;exact⟨by omega,by omega,z⟩
        .exact J j y (by omega) L
       cases c3:St.contains (i:Int)with|false=>rw[c3]at A;simp[c1,c2,A];exact⟨i+1,_,_,rfl,⟨rfl,rfl⟩,rfl,B,G λz=>by simp at c3;exact absurd z c3⟩|true=>
         rw[c3]at A;by_cases c4:0<x;.simp[c1,c2,A,c4];symm;simp;exact k _ (.inl ⟨rfl,no λz=>by have:=z.2.2 (by simpa using c3);omega⟩)
         .simp[c1,c2,A,c4];exact⟨i+1,_,_,rfl,⟨rfl,rfl⟩,rfl,B,G λ_=>by omega⟩
     . rintro _⟨i,s4,s5,rfl,⟨Y,Z⟩,hr,hi,J⟩;have af:i=cl.length:=by
        rcases n9 i cl.length with z|z;.rw[fE (by omega)]at hr;cases hr
        .omega
       have rq:∀p:Int,0<=p->p<m->∃x,cl[p.toNat]?=aj x/\aJ cl p=x:=λp p0 p1=>by
        have:p.toNat<cl.length:=by omega
        exact⟨_,eF this,by unfold aJ;rw[eu,eF this];rfl⟩
       have hC:tR m T St cl:=by
        refine⟨cm,λp hp=>?_,I,λx hx=>?_⟩;.have hb:=hS p hp;obtain⟨x,ex,er⟩:=rq p (by omega) (by omega);have:=J p.toNat x (by have:=(eY ex).1;omega) ex;rw[er];have z:=this.2.2 (by rw[show((p.toNat:Nat):Int)=p by omega];exact hp);have:=this.1;omega
        .obtain⟨j,H⟩:=kb hx;have:=J j x (by have:=(eY H).1;omega) H;exact⟨this.1,this.2.1⟩
       simp;apply ao;simp;apply ao;simp;refine cP (JLd ws cl _ _ _ _ _ _) ?_ ?_ ⟨ws,0,.aV,.aV,.aV,.aV,rfl,⟨rfl,rfl,rfl,rfl⟩,rfl,by omega,λv hv=>hv⟩;.rintro d r _⟨C,f,s7,s8,s9,ju,rfl,⟨h7,h8,h9,M⟩,hr,O,hu⟩;cases C with|nil=>cases hr|cons v C=>
           obtain⟨rfl,rfl⟩:d=v.d/\r=C.map Wy.d:=by simpa using hr
           have ho:=h.ok v (hu v (by simp));have r0:=ho.r0;have r1:=ho.r1;have a1:=gk (row:=cl) ho.s0 (by have:=ho.s1;omega);have a2:=gk (row:=cl) ho.t0 (by have:=ho.t1;omega);have em:(if v.h<aJ cl v.t-aJ cl v.s then aJ cl v.t-aJ cl v.s-v.h else 0)=max 0 (aJ cl v.t-aJ cl v.s-v.h):=by split<;>omega
           have U:dF (aJ cl) (v::C)=v.r*max 0 (aJ cl v.t-aJ cl v.s-v.h)+dF (aJ cl) C:=rfl;rw[U]at O;simp[h7,h8,h9,M,Wy.d];apply ao;simp[a1,a2,em,show v.r<18446744073709551616 by omega,show-18446744073709551616<v.r by omega];exact⟨C,_,_,_,_,_,rfl,⟨rfl,rfl,rfl,rfl⟩,rfl,by omega,λu W=>hu u (by simp[W])⟩
       . rintro _⟨C,f,s7,s8,s9,ju,rfl,_,hr,O,_⟩;have:C=[]:=by cases C with|nil=>rfl|cons _ _=>cases hr
         subst this;symm;simp;have:f=dF (aJ cl) ws:=by rw[<-O];show f=f+0;omega
         subst this;exact k _ (.inr ⟨rfl,hC⟩)
   .simp[Yz,cm,X,I];symm;simp;exact k _ (.inl ⟨rfl,λz=>I z.e⟩)
 .simp[Yz,cm];symm;simp;exact k _ (.inl ⟨rfl,λz=>cm z.len⟩)
theorem uK{c:Call}{is:List Nat}{one:Bool}{u:P}(J:List Sl->Prop)(P:D->Prop){Q:List D->List Sl->Prop}(j:J ρ)(h:∀d,d∈ds->∀ρ,J ρ->∃e,cz ρ is one d=aj e/\(ev c u e).sat λr y=>P r.d/\J y)(k:∀xs ρ,J ρ->xs.length=ds.length->(∀x∈xs,P x)->Q xs ρ):(lN c is one bx u ds ρ).sat Q:=by suffices hh:∀(ds:List D)(t:List D)(ρ:List Sl),J ρ->(∀x∈t,P x)->(∀d,d∈ds->∀ρ,J ρ->∃e,cz ρ is one d=aj e/\(ev c u e).sat λr y=>P r.d/\J y)->(turns is one (mO c bx) (ev c u) ds t ρ).sat λxs ρ=>J ρ/\(∀x∈xs,P x)/\xs.length=t.length+ds.length from(hh ds [] ρ j (by simp) h).imp λxs ρ⟨A,q2,q3⟩=>k xs ρ A (by simpa using q3) q2;intro ds;induction ds with|nil=>intro t ρ j B _;exact⟨j,B,by simp⟩|cons d ds E=>
   intro t ρ j B h;obtain⟨e,G,h1⟩:=h d (by simp) ρ j;rw[qY,G];show((mO c bx e).bind _).sat _;rw[mO];show((ev c u e).bind _).sat _;rw[bB];refine h1.imp λr y⟨H,j3⟩=>?_;refine(E (t++[r.d]) y j3 (λx hx=>?_) λd' C=>h d' (by simp[C])).imp λxs I⟨A,q2,q3⟩=>⟨A,q2,by simp at q3 ⊢;omega⟩;rcases fk.mp hx with hx|hx;.exact B x hx
   .rw[dU.mp hx];exact H
theorem ints_of:∀{X:List D},(∀d∈X,∃i,d=D.int i)->∃es:List Int,X=es.map D.int/\es.length=X.length|[],_=>⟨[],rfl,rfl⟩|d::X,h=>by obtain⟨i,rfl⟩:=h d (by simp);obtain⟨es,rfl,e⟩:=ints_of (X:=X) λd hd=>h d (by simp[hd]);exact⟨i::es,rfl,by simp⟩
theorem UJ{c:Call}{x:Nat}{i e:P}:ex c n (.ins x i e) ρ=(lift (zN ρ x) ρ).bind λ_ ρ=>(cu (isVar i) (ev c i) ρ).bind λk ρ=>(ev c e ρ).bind λr ρ=>match ρ[x]?,k with|some (.own b ds),.int j=>if 0<=j/\j<=1000000/\ds.length<lim then .ok .next (ρ.set x (.own b (ds.take j.toNat++r.d::ds.drop j.toNat)))else .stuck|_,_=>.stuck:=(rfl)
theorem vU{d:D}(h:d∈cl.map D.int):∃i,d=D.int i:=by obtain⟨i,_,rfl⟩:=cS.mp h;exact⟨i,rfl⟩
theorem ZW:Ms (.lst ds) (part (.con .non) .non) (part (.neg (.con (.int 1))) (.int (-1)))=aj (.own (cut ds bx (aj (-1)))):=rfl
inductive FOt(y:Int)(l:List Sl)(ρ:List Sl):Prop where|mk(x z:Int)(s:Sl)(q0:ρ=.own a_ [.int x,.int y,.int z]::(l++[s]))(q1:fr s=a_)
inductive MOt(y T:Int)(b:Bool)(cl:List Int)(ρ:List Sl):Prop where|mk(x z:Int)(es:List Int)(s4 s5:Sl)(q0:ρ=[.own a_ [.int x,.int y,.int z],.own b (cl.map D.int),.val aK (.int T),.own aK (es.map D.int),s4,s5])(q1:es.length<=cl.length+1)
theorem kZ{x y T:Int}{b:Bool}(hc:0<cl.length)(U:cl.length<=900)(h0:0<=T)(W:T<=2000000000000000000)(k:∀(es:List Int)(x z:Int),es.length<=cl.length+1->Q (.own (es.map D.int)) [.own a_ [.int x,.int y,.int z],.own b (cl.map D.int),.val aK (.int T)]):(run Γ w (n+3) 34 [.own a_ [.int x,.int y,.int z],.own b (cl.map D.int),.val aK (.int T)]).sat Q:=by
 refine aM (d:=f34) rfl rfl (by decide) ?_;symm;simp[f34,show cl.length<=16777216 by omega];apply ao;simp;refine bK (by omega) (by show _<(1606938044258990275541962092341162602522202993782792835301376:Int);omega) λa x z Y Z=>?_;obtain⟨j,rfl⟩:∃j:Nat,a=j:=⟨a.toNat,by omega⟩;have G:j<cl.length:=by omega
 have t:ir cl.length (j:Int)=aj j:=Jt G;have H:at' (cl.map D.int) (j:Int)=aj (.int cl[j]):=jg (by simp[G]);simp;apply ao;simp;refine bK (by decide) (by decide) λe x z e0 h=>?_;simp;refine dY (MOt y T b cl) ?_ ?_
 . simp;refine⟨λq=>?_,λq=>?_⟩
   . symm;simp[t];obtain⟨es,h,I⟩:=ints_of (X:=(cl.map D.int).eraseIdx j) λd hd=>vU (List.mem_of_mem_eraseIdx hd);rw[h];have J:((cl.map D.int).eraseIdx j).length<=cl.length:=by rw[List.length_eraseIdx];split<;>simp
     exact⟨λ_=>⟨x,z,es,_,_,rfl,by omega⟩,by show _<=16777216;omega⟩
   symm;simp;refine⟨λq=>?_,λq=>?_⟩
   . symm;rw[UJ];simp[H];obtain⟨es,h,I⟩:=ints_of (X:=(cl.map D.int).take j++D.int cl[j]::(cl.map D.int).drop j) λd hd=>by
      rcases fk.mp hd with hd|hd;.exact vU (List.mem_of_mem_take hd)
      . rcases de.mp hd with rfl|hd;.exact⟨_,rfl⟩
        .exact vU (List.mem_of_mem_drop hd)
     have J:((cl.map D.int).take j++D.int cl[j]::(cl.map D.int).drop j).length=cl.length+1:=by simp;omega
     rw[h];exact⟨λ_ _=>⟨x,z,es,_,_,rfl,by omega⟩,by omega,by show _<16777216;omega⟩
   symm;simp;refine⟨λq=>?_,λq=>?_⟩
   . symm;simp;refine bK (by decide) (by decide) λu x z L M=>?_;obtain⟨v,ev⟩:∃v,at' [D.int (T+2),D.int (T+1),D.int T,D.int 0,D.int (-1)] u=aj (.int v):=by
      have:u=0\/u=1\/u=2\/u=3\/u=4:=by omega
      rcases this with rfl|rfl|rfl|rfl|rfl<;>exact⟨_,rfl⟩
     simp[ev,t];exact⟨x,z,cl.set j v,_,_,by rw[p_],by simp⟩
   symm;simp;refine⟨λq=>?_,λq=>?_⟩
   . symm;have A:(cut cl bx (aj (-1))).length<=16777216:=g_ Bc (by omega);simp[ZW,DY,A];refine uK (FOt y [.own b (cl.map D.int),.val aK (.int T),.own aK (cl.map D.int),.val aK (.int j),.val aK (.int e)]) (λd=>∃i,d=D.int i) ⟨x,z,.aV,rfl,rfl⟩ ?_ ?_;.rintro d hd _⟨x,z,s,rfl,hs⟩;simp[hs];refine jK (by omega) (sG (by omega)) λr x z r0 r1=>?_;simp;exact⟨_,_,_,rfl,rfl⟩
     rintro xs _⟨x,z,s,rfl,hs⟩B C;obtain⟨es,rfl,he⟩:=ints_of C;have O:es.length<=cl.length:=by have:=Bc (xs:=cl) (lo:=bx) (hi:=aj (-1));simp at B;omega
     simp[show es.length+1<=16777216 by omega];exact⟨x,z,es++[T+1],.val aK (.int j),.val aK (.int e),by simp,by simp;omega⟩
   . symm;simp[H];refine bK (by decide) (by decide) λu x z L M=>?_;obtain⟨v,ev⟩:∃v,at' [D.int 1,D.int (-1),D.int 2,D.int (-2),D.int (100000000000000000000000000000)] u=aj (.int v):=by
      have:u=0\/u=1\/u=2\/u=3\/u=4:=by omega
      rcases this with rfl|rfl|rfl|rfl|rfl<;>exact⟨_,rfl⟩
     simp[ev,t];exact⟨x,z,cl.set j (cl[j]+v),_,_,by rw[p_],by simp⟩
 rintro _⟨x,z,es,s4,s5,rfl,E⟩;symm;simp;exact k es x z E
theorem uW(k:Q (.val (.bl a_)) [.val aK (.int i)]):(run Γ w (n+1) 35 [.val aK (.int i)]).sat Q:=by refine aM (d:=f35) rfl rfl (by decide) ?_;symm;simp[f35];exact k
theorem Jx{T:Int}{St:List Int}{d:D}(hd:vz m T ws St cl d)(k:Q (.val (.bl a_)) [.val aK d,.val aK d]):(run Γ w (n+2) 37 [.val aK d,.val aK d]).sat Q:=by
 refine aM (d:=f37) rfl rfl (by decide) ?_;symm;rcases hd with⟨rfl,_⟩|⟨rfl,_⟩;.simp[f37];exact k
 .simp[f37];refine uW ?_;simp;exact k
theorem WD{c:Call}{z f p x y g t:Nat}:ex c n (.WQ z f p x y g t) ρ=(lift (pk ρ x) ρ).bind λ_ ρ=>(lift (pk ρ y) ρ).bind λ_ ρ=>(ev c (.call g [.var p,.con (.int 2)]) ρ).bind λr ρ=>match r.d with|.int 0=>(qe c f p x t ρ).bind λr ρ=>(lift (put ρ z (lF r)) ρ).bind λe _=>.ok .next e|.int 1=>(qe c f p y t ρ).bind λr ρ=>(lift (put ρ z (lF r)) ρ).bind λe _=>.ok .next e|_=>.stuck:=(rfl)
theorem zm{c:Call}{f p x t:Nat}(h:pk ρ x=aj (.lst (cl.map D.int)))(e:0<cl.length->(ev c (.call f [.var p,.var x,.var t]) ρ).sat Q)(u:(ev c (.call f [.var p,.lst [.con (.int 0)],.var t]) ρ).sat Q):(qe c f p x t ρ).sat Q:=by unfold qe;rw[h];cases cl with|nil=>exact u|cons a cl=>exact e (by simp)
inductive J79(v:Sl)(r:List D)(ρ:List Sl):Prop where|mk(s1:Sl)(s2:Sl)(s3:Sl)(s4:Sl)(s5:Sl)(s6:Sl)(s7:Sl)(s8:Sl)(s9:Sl)(ju:Sl)(JH:Sl)(q0:ρ=[v,s1,s2,s3,s4,s5,s6,s7,s8,s9,ju,JH])(q1:A6 (fr s1=a_) (fr s2=a_) (fr s3=a_) (fr s4=a_) (fr s5=a_) (fr s6=a_))(q2:A5 (fr s7=a_) (fr s8=a_) (fr s9=a_) (fr ju=a_) (fr JH=a_))(q3:∀d∈r,∃i,d=D.int i)
inductive K79(y:Int)(a0 a1 a3 a4 a6 a7 a11:Sl)(i:Nat)(ρ:List Sl):Prop where|mk(x z:Int)(cl:List Int)(s8 s9 ju:Sl)(q0:ρ=[a0,a1,.own aK [.int x,.int y,.int z],a3,a4,.own aK (cl.map D.int),a6,a7,s8,s9,ju,a11])(q1:A3 (fr s8=a_) (fr s9=a_) (fr ju=a_))(q2:cl.length<=10+i)
inductive F12(a0 a1 a2 a3 a4 a5 a6 a7 a8 a9 a10 a11:Sl)(ρ:List Sl):Prop where|mk(s:Sl)(q0:ρ=[a0,a1,a2,a3,a4,a5,a6,a7,a8,a9,a10,a11,s])(q1:fr s=a_)
theorem Mw{e:Type}{l:List e}:(l.map λ_=>D.bl a_).mapM xW=aj (l.map λ_=>a_):=by induction l with|nil=>rfl|cons a l h=>simp[h]
theorem all_true{e:Type}{l:List e}:(l.map λ_=>a_).all id=a_:=by simp
theorem MN(ns:List Int)(hn:ns.length<=63):∃as,run Γ 100000000 40 38 [.val aK (.lst (ns.map D.int))]=.ok (.val (.bl a_)) as:=by
 suffices h:(run Γ 100000000 40 38 [.val aK (.lst (ns.map D.int))]).sat λr _=>r=.val (.bl a_)by obtain⟨a,ρ,e,rfl⟩:=sat_iff.mp h;exact⟨ρ,e⟩
 refine aM (d:=f38) rfl rfl (by decide) ?_;symm;simp[f38];refine BX hn λcs ae=>?_;simp;refine cP (J79 (.val aK (.lst (ns.map D.int)))) ?_ ?_ ⟨_,_,_,_,_,_,_,_,_,_,_,rfl,⟨rfl,rfl,rfl,rfl,rfl,rfl⟩,⟨rfl,rfl,rfl,rfl,rfl⟩,λd hd=>?_⟩
 . rintro d r _⟨s1,s2,s3,s4,s5,s6,s7,s8,s9,ju,JH,rfl,⟨h1,h2,h3,h4,h5,h6⟩,⟨h7,I,B,t,M⟩,hd⟩;obtain⟨x,rfl⟩:=hd d (by simp);simp[h1];apply ao;simp;refine Kr λa y c=>?_;simp[h2];apply ao;simp;refine Gb λm ws a c E G=>?_;have m0:=E.m0;simp[h3];apply ao;simp;refine Bp m0 G λA a c H lA=>?_;simp[h4];have la:A.length<=5:=by omega
   symm;simp;refine bK (by decide) (by decide) λt1 a c af ag=>?_;simp;refine bK (by decide) (by decide) λt2 a c ah ai=>?_;simp;refine jK (by decide) (by decide) λt3 a c al am=>?_;simp[h5];apply ao;simp;refine jK (by decide) (by decide) λt4 a c ap ar=>?_;simp;refine⟨λ_=>?_,by decide⟩;symm;simp;refine bK (by decide) (by decide) λe a c e0 O=>?_;obtain⟨T,eT,T0,J⟩:=Eg (ns:=[t1,t2,t3,2000000000000000000-t4]) (lo:=0) (hi:=2000000000000000000) e0 (by simpa using O) (by simp;omega);simp only[da,lz]at eT;simp[eT,h6];obtain⟨r1,av,ec,cl,rfl,rfl,L,U⟩:=sat_iff.mp (Ft (w:=100000000) (n:=29) (Q:=λr ρ=>∃cl:List Int,r=.own (cl.map D.int)/\ρ=[.val aK (aR m ws),.val aK (.tup (A.map D.int)),.val aK (.int T)]/\tR m T A cl/\mC m A ws T (dF (aJ cl) ws)) (by decide) E G H (by omega) T0 λcl L U=>⟨cl,rfl,rfl,L,U⟩);have aw:=L.len;symm;simp[show(run Γ 100000000 39 25 [Sl.val aK (aR m ws),.val aK (.tup (A.map D.int)),.val aK (.int T)])=_ from ec,h7];apply ao;simp[show cl.length<=16777216 by omega];refine bV (F12 _ _ _ _ _ _ _ _ _ _ _ _) (λ_=>.bl a_) ⟨.aV,rfl,rfl⟩ ?_ ?_;.rintro d hd _⟨s,rfl,hs⟩;obtain⟨i,hi,rfl⟩:=cS.mp hd;simp[hs];refine uW ?_;simp;exact⟨_,rfl,rfl⟩
   rintro _⟨s,rfl,hs⟩;have em:=Mw (l:=cl.map D.int);have ea:=all_true (l:=cl.map D.int);generalize((cl.map D.int).map λ_=>D.bl a_)=X at*;generalize((cl.map D.int).map λ_=>a_)=Y at*;simp[em,ea];clear em ea;symm;simp;refine yH E G H T0 (by omega) λd C=>?_;obtain rfl:d=.int (dF (aJ cl) ws):=by
    rcases C with⟨_,z⟩|⟨z,_⟩;.exact absurd L z
    .exact z
   simp;refine G4 (by decide) E G H (by omega) T0 (by omega) λv hv=>?_;obtain rfl:v=dF (aJ cl) ws:=(vA E H hv).uniq U;simp;apply ao;simp;apply ao;simp;refine j8 (K79 y _ _ _ _ _ _ _) ?_ ?_ ⟨a,c,cl,s8,s9,ju,rfl,⟨I,B,t⟩,by omega⟩
   . rintro i _ hi⟨a,c,es,s8,s9,ju,rfl,⟨I,B,t⟩,ax⟩;simp[I];apply ao;simp[show es.length<=16777216 by omega,B];apply ao;simp;refine yH E G H T0 (by omega) λd1 C=>?_;simp[t];apply ao;simp;refine GK E G H (by omega) T0 (by omega) λd2 s W hs=>?_;obtain rfl:=C.uniq W;have Z:∀{s9:Sl},fr s9=a_->(ex (run Γ 100000000 39) 100000000 (.WQ 5 34 2 5 7 28 6) [.val aK (.lst (ns.map D.int)),.val aK (.int x),.own aK [.int a,.int y,.int c],.val aK (aR m ws),.val aK (.tup (A.map D.int)),.own aK (es.map D.int),.val aK (.int T),.own aK (cl.map D.int),.val aK (.int i),s9,.val aK d1,JH]).sat λfl ρ=>fl=.next/\K79 y (.val aK (.lst (ns.map D.int))) (.val aK (.int x)) (.val aK (aR m ws)) (.val aK (.tup (A.map D.int))) (.val aK (.int T)) (.own aK (cl.map D.int)) JH (i+1) ρ:=λ{s9}B=>by
      rw[WD];simp;refine bK (by decide) (by decide) λu a c u0 u1=>?_;have:u=0\/u=1:=by omega
      rcases this with rfl|rfl
      . simp;rw[bB];refine zm (cl:=es) (by exact rfl) (λhp=>?_) ?_;.simp;refine kZ hp (by omega) T0 J λfs a c hf=>?_;simp;exact⟨_,_,_,_,_,_,rfl,⟨rfl,B,rfl⟩,by omega⟩
        .simp;refine kZ (cl:=[0]) (by decide) (by decide) T0 J λfs a c hf=>?_;simp;exact⟨_,_,_,_,_,_,rfl,⟨rfl,B,rfl⟩,by have:([0]:List Int).length=1:=rfl;omega⟩
      . simp;rw[bB];refine zm (cl:=cl) (by exact rfl) (λhp=>?_) ?_;.simp;refine kZ hp (by omega) T0 J λfs a c hf=>?_;simp;exact⟨_,_,_,_,_,_,rfl,⟨rfl,B,rfl⟩,by omega⟩
        .simp;refine kZ (cl:=[0]) (by decide) (by decide) T0 J λfs a c hf=>?_;simp;exact⟨_,_,_,_,_,_,rfl,⟨rfl,B,rfl⟩,by have:([0]:List Int).length=1:=rfl;omega⟩
     rcases hs with rfl|rfl;all_goals simp;refine Jx C ?_;simp[EY];apply ao;refine(Z rfl).imp λfl ρ⟨O,e2⟩=>?_;subst O;exact e2
   .rintro _⟨a,c,es,s8,s9,ju,rfl,⟨I,B,t⟩,_⟩;symm;simp[show cl.length<=16777216 by omega,M];apply ao;simp[show cl.length<16777216 by omega];apply ao;simp[show(run Γ 100000000 39 25 [Sl.val aK (aR m ws),.val aK (.tup (A.map D.int)),.val aK (.int T)])=_ from ec,EY];exact⟨_,_,_,_,_,_,_,_,_,_,_,rfl,⟨rfl,rfl,rfl,rfl,rfl,rfl⟩,⟨rfl,I,B,t,rfl⟩,λd ac=>hd d (by simp[ac])⟩
 .rintro _⟨s1,s2,s3,s4,s5,s6,s7,s8,s9,ju,JH,rfl,_⟩;symm;simp
 .obtain⟨i,_,rfl⟩:=cS.mp hd;exact⟨i,rfl⟩
end _T
end
structure PySem.W.Fast:Prop where(tw14632088645350460544 tw5901335887826687415 tw1048780691344243522 tw18202634459675867302 tw9052627457680399579 tw9649979603178125145 tw5296557560573954850 tw12449184134351537970 tw18142520364611220927 tw17377113442238196816 tw11048513425419490693 tw11490971183462235181 tw1470017209894942833 tw6483091498392080408 tw17882052858826436482 tw1560150074292892618 tw6064836470534068915 tw10968389100687216271 tw13163483651425952116 tw6135322192637201309 tw13310194929749914978 tw18375784848390045767 tw17633613169463569887 tw13619777617732547163 tw12369349546306742973 tw13507412598243292773 tw13780534671029465680 tw14554313503995656743 tw169399545081880591 tw10947890227634620434 tw16461340119783439819 tw18331681931785520416 tw11977330996791506478 tw6450082535762993167 tw15441152082617687017 tw3498871657668041197 tw2302034159860372888 tw17599199079534972476 tw10815287746147316517 tw8713824483924422206 tw2651020147989958298 tw18172449130056761876 tw9180140001853335527 tw7984032249435684945 tw7774140472425333006 tw13559726248385864574 tw10714431620612637978 tw10265842611836292539 tw15565663339505413149 tw8432547875213791586 tw12345014108258777929 tw12539807784582017442 tw1705845202820110150 tw7089422009480440974 tw16255416793663777267 tw15422571412490389711 tw16080901622203184685 tw8885023001833288193 tw5886707675070960049 tw5275780322454763531 tw14710688953292865710 tw5411621919105681588 tw1683338456958709328 tw812445367789595058 tw9525737039207099168 tw7204478913095858991 tw1192011568791905352 tw10675441161920522871 tw13943434225500194454 tw4911412977184308924 tw52860480955722393 tw3367651591962978306 tw5364549758550871466 tw15138070733791661507 tw14594381258505635203 tw12494685969679131847 tw13302689968469559487 tw3552849147081505359 tw4877357936915238194 tw13773984338810385125 tw14426824522209383336 tw1875356127537392062 tw4390341169367852049 tw8075366810864165556 tw1517997287176797509 tw4693728147975748609 tw14963021300637149563 tw5457845277304537482 tw7361072646464745079 tw3583830821592209178 tw5904629263887348587 tw2415292721174894069 tw3074479935466665415 tw14521397234691596028 tw14282425057099091846 tw2760983684797425999 tw8840831693952228647 tw145241745927883963 tw14014324673183658139 tw18037263140810471580 tw6934463931741939042 tw13207170481646804324 tw7783607490365664301 tw14999561727439915094 tw5283332352818672705 tw12613200093239562012 tw10761795133612719710 tw5375705543716896501 tw7350381683442516666 tw1845121829780425755 tw10017302938950653883 tw9313988618501936643 tw9848905027613222933 tw2329880065529066601 tw13833209606374951514 tw11153123164386025868 tw13260611980966243329 tw3666340437337128216 tw8490402729333973509 tw16175146557771424822 tw10257865747773016276 tw7816562117293914780 tw12525118160611252066 tw1597026295717648061 tw4450212594624812010 tw17770163234192461249 tw89165436812040743 tw10988871426940419523 tw9159771985331933291 tw1557724773594822767 tw15490567555664085873 tw1146229170302896397 tw4918260868214472680 tw72959555152901902 tw1338650553499532155 tw11419523116553011432 tw4194419937616727213 tw1098874296729541713 tw6969277838762644258 tw15372413071839864449 tw11921656178712591668 tw13465550063618263310 tw13591846756005228124 tw7898816492005034060 tw16293926645159845196 tw10281761443768382657 tw561995075704522682 tw12954677114550793106 tw7055195627272333532 tw12893765262061596934 tw17115338360318346342 tw8849345424413964828 tw1341681697451892166 tw9962251319777121351 tw5778285311364689604 tw15944377636074692830 tw14497078958767093311 tw15904807188668746276 tw13289541843318869753 tw8437113139670390747 tw13226066948439165035 tw13940821534558620710 tw5444581205995102047 tw6162876703898032110 tw7209291080552057010 tw326677031216160114 tw304649255357756048 tw4288978787098936700 tw4334641113500187502 tw13651290871362384861 tw890599062097100488 tw1284446634564680201 tw295747206879691072 tw15380395186091505298 tw427168380528814521 tw17730615672175655013 tw1384862952061171493 tw15296444752258669721 tw4847390767507923073 tw17918905802285897237 tw7785190178766735782 tw5771917908479815462 tw11176387556905887688 tw2987782117914478229 tw8439699588067553703 tw6214728784433068135 tw11124916070502976743 tw3756539100382965959 tw3032353807738311489 tw9789738460758975774 tw485775786245725906 tw3444650030878761708 tw3284902132234986926 tw9732073171209061423 tw6296300895991014514 tw2228046484911154583 tw6933669818890062379 tw5690544865770742910 tw13640259024559980816 tw14381850593033051269 tw1365363939394219943 tw2631851245970610441 tw2166742907307662049 tw4184189571150632264 tw2042269034428587033 tw2390128862726571973 tw17575647803207786422 tw2837143288880235143 tw17126862294161508344 tw4040568880525628800 tw3548003780267591305 tw11194462604343214904 tw6560362798311683050 tw4293765870017539686 tw15185059551401902103 tw12990422425475878124 tw12535735940905387550 tw693664873413072757 tw2227260565606883612 tw18386818977342493564 tw17080098101139635718 tw16151919216855948207 tw1087213530754508561 tw3694039368642568440 tw5566722738135161497 tw13262480639885021537 tw4127679292221074506 tw14479628887459525716 tw4277932457276998300 tw7845563293410649031 tw5721602933686137063 tw3282060841117956878 tw10340241565975217895 tw9247641654849954937 tw16151190094883620097 tw500307592062200026 tw10366315006785194701 tw1561780708506794838 tw944680778705320596 tw15139843004454981729 tw16773745000266515315 tw17699686134308115085 tw7325605211216146146 tw199644103918700886 tw211687284873075598 tw14811359041767953712 tw1641909552562828650 tw4661642550579316351 tw11520846501486289731 tw16675463557338469241:True)
namespace _T
open PySem _L Spec PyProof.Rows _H
theorem lkS{P:List b_ → Prop}{n:Nat}(h:∀(a:b_)(b:List b_),b.length=n → P (a::b))(b:List b_)(c:b.length=n+1):P b:=by cases b with|nil=>cases c|cons a b=>exact h a b (Nat.succ.inj c)
theorem lk0{P:List b_ → Prop}(h:P [])(b:List b_)(c:b.length=0):P b:=by cases b with|nil=>exact h|cons a b=>cases c
theorem Ga{P:List b_ → Prop}(h:∀a,P [a]):∀b:List b_,b.length=1 → P b:=lkS λa=>lk0 (h a)
theorem il{P:List b_ → Prop}(h:∀a b,P [a,b]):∀c:List b_,c.length=2 → P c:=lkS λa=>Ga (h a)
theorem wX{P:List b_ → Prop}(h:∀a b c,P [a,b,c]):∀e:List b_,e.length=3 → P e:=lkS λa=>il (h a)
theorem Vq{P:List b_ → Prop}(h:∀a b c d,P [a,b,c,d]):∀e:List b_,e.length=4 → P e:=lkS λa=>wX (h a)
theorem lk5{P:List b_ → Prop}(h:∀a b c d e,P [a,b,c,d,e]):∀f:List b_,f.length=5 → P f:=lkS λa=>Vq (h a)
local macro_rules|`(term|‹$p›)=>`(λ_ _ _ _ _ _=>$p)
structure Txt(K:PySem.W.Frag):Prop where
 D0:bC K "step_places" s0
 D1:bC K "step_hours" s1
 D2:bC K "step_room" s2
 D3:bC K "steps_hours" s3
 D4:bC K "open_steps" s4
 D5:bC K "shortest_come" s5
 D6:bC K "steps_to" s6
 D7:bC K "stream_with" s7
 D8:bC K "chains_to_end" s8
 D9:bC K "cut_to_rate" s9
 D10:bC K "bends_of" ju
 D11:bC K "found_clocks" JH
 D12:bC K "light_stream" s12
 D13:bC K "bends_by" s13
 D14:bC K "most_of" s14
 D15:bC K "most_by" s15
 D16:bC K "rate_by" s16
 D17:bC K "stream_by" s17
 D18:bC K "closed_hours" s18
 D19:bC K "closed_right" s19
 D20:bC K "closed_gap" s20
 D21:bC K "closed_sum" s21
 D22:bC K "joined_places" s22
 D23:bC K "joined_net" s23
 D24:bC K "most_from" s24
 D25:bC K "closed_from" s25
 D26:bC K "from_sum" s26
 D27:bC K "_law_pool" s27
 D28:bC K "_law_next" s28
 D29:bC K "_law_wide" s29
 D30:bC K "_law_net" s30
 D31:bC K "_law_starts" s31
 D32:bC K "_law_drawn" s32
 D33:bC K "_law_sum" s33
 D34:bC K "_law_other" s34
 D35:bC K "_law_whole" s35
 D36:bC K "_law_folded" s36
 D37:bC K "_law_same" s37
 D38:bC K "law" s38
 lQ:PySem.W.nsIn K dS "all"=aj bx
 Cv:PySem.W.nsIn K dS "bool"=aj bx
 eZ:PySem.W.nsIn K dS "enumerate"=aj bx
 Ly:PySem.W.nsIn K dS "int"=aj bx
 cQ:PySem.W.nsIn K dS "isinstance"=aj bx
 cT:PySem.W.nsIn K dS "len"=aj bx
 dH:PySem.W.nsIn K dS "list"=aj bx
 fJ:PySem.W.nsIn K dS "max"=aj bx
 gR:PySem.W.nsIn K dS "min"=aj bx
 bu:PySem.W.nsIn K dS "range"=aj bx
 mF:PySem.W.nsIn K dS "reversed"=aj bx
 t8:PySem.W.nsIn K dS "sorted"=aj bx
 gQ:PySem.W.nsIn K dS "sum"=aj bx
 dZ:PySem.W.nsIn K dS "tuple"=aj bx
noncomputable def iC{K:PySem.W.Frag}(T:Txt K):Nat->cw:=λk=>0
structure Oks(Pg:dE)(w:eH)(K:PySem.W.Frag)(mg:Str->Option b_)(base:eP)(cl:Nat->cw)(n:Nat):Prop where
 c0:aU Pg w K mg base n (run Γ 100000000 n) 0 "step_places" 2
 c1:aU Pg w K mg base n (run Γ 100000000 n) 1 "step_hours" 2
 c2:aU Pg w K mg base n (run Γ 100000000 n) 2 "step_room" 3
 c3:aU Pg w K mg base n (run Γ 100000000 n) 3 "steps_hours" 2
 c4:aU Pg w K mg base n (run Γ 100000000 n) 4 "open_steps" 2
 c5:aU Pg w K mg base n (run Γ 100000000 n) 5 "shortest_come" 3
 c6:aU Pg w K mg base n (run Γ 100000000 n) 6 "steps_to" 3
 c7:aU Pg w K mg base n (run Γ 100000000 n) 7 "stream_with" 3
 c8:aU Pg w K mg base n (run Γ 100000000 n) 8 "chains_to_end" 1
 c9:aU Pg w K mg base n (run Γ 100000000 n) 9 "cut_to_rate" 2
 c10:aU Pg w K mg base n (run Γ 100000000 n) 10 "bends_of" 1
 c11:aU Pg w K mg base n (run Γ 100000000 n) 11 "found_clocks" 2
 c12:aU Pg w K mg base n (run Γ 100000000 n) 12 "light_stream" 2
 c13:aU Pg w K mg base n (run Γ 100000000 n) 13 "bends_by" 2
 c14:aU Pg w K mg base n (run Γ 100000000 n) 14 "most_of" 2
 c15:aU Pg w K mg base n (run Γ 100000000 n) 15 "most_by" 2
 c16:aU Pg w K mg base n (run Γ 100000000 n) 16 "rate_by" 2
 c17:aU Pg w K mg base n (run Γ 100000000 n) 17 "stream_by" 2
 c18:aU Pg w K mg base n (run Γ 100000000 n) 18 "closed_hours" 2
 c19:aU Pg w K mg base n (run Γ 100000000 n) 19 "closed_right" 3
 c20:aU Pg w K mg base n (run Γ 100000000 n) 20 "closed_gap" 2
 c21:aU Pg w K mg base n (run Γ 100000000 n) 21 "closed_sum" 3
 c22:aU Pg w K mg base n (run Γ 100000000 n) 22 "joined_places" 2
 c23:aU Pg w K mg base n (run Γ 100000000 n) 23 "joined_net" 2
 c24:aU Pg w K mg base n (run Γ 100000000 n) 24 "most_from" 3
 c25:aU Pg w K mg base n (run Γ 100000000 n) 25 "closed_from" 3
 c26:aU Pg w K mg base n (run Γ 100000000 n) 26 "from_sum" 4
 c27:aU Pg w K mg base n (run Γ 100000000 n) 27 "_law_pool" 1
 Qo:aU Pg w K mg base n (run Γ 100000000 n) 28 "_law_next" 2
 YM:aU Pg w K mg base n (run Γ 100000000 n) 29 "_law_wide" 2
 c30:aU Pg w K mg base n (run Γ 100000000 n) 30 "_law_net" 4
 c31:aU Pg w K mg base n (run Γ 100000000 n) 31 "_law_starts" 2
 c32:aU Pg w K mg base n (run Γ 100000000 n) 32 "_law_drawn" 1
 c33:aU Pg w K mg base n (run Γ 100000000 n) 33 "_law_sum" 4
 c34:aU Pg w K mg base n (run Γ 100000000 n) 34 "_law_other" 3
 c35:aU Pg w K mg base n (run Γ 100000000 n) 35 "_law_whole" 1
 c36:aU Pg w K mg base n (run Γ 100000000 n) 36 "_law_folded" 2
 c37:aU Pg w K mg base n (run Γ 100000000 n) 37 "_law_same" 2
 c38:aU Pg w K mg base n (run Γ 100000000 n) 38 "law" 1
set_option maxHeartbeats 0 in
theorem Ir{Pg:dE}{w:eH}{K:PySem.W.Frag}{mg:Str->Option b_}{base:eP}(T:Txt K)(X:K.In base)(G:base.Ns dS mg):∀n,Oks Pg w K mg base (iC T) n
 |0=>{
   c0:=bL (ps:=["net","step"]) X G T.D0 rfl ‹il λ_ _=>rfl›
   c1:=bL (ps:=["net","step"]) X G T.D1 rfl ‹il λ_ _=>rfl›
   c2:=bL (ps:=["net","stream","step"]) X G T.D2 rfl ‹wX λ_ _ _=>rfl›
   c3:=bL (ps:=["net","steps"]) X G T.D3 rfl ‹il λ_ _=>rfl›
   c4:=bL (ps:=["net","stream"]) X G T.D4 rfl ‹il λ_ _=>rfl›
   c5:=bL (ps:=["net","stream","begun"]) X G T.D5 rfl ‹wX λ_ _ _=>rfl›
   c6:=bL (ps:=["net","come","place"]) X G T.D6 rfl ‹wX λ_ _ _=>rfl›
   c7:=bL (ps:=["stream","steps","loads"]) X G T.D7 rfl ‹wX λ_ _ _=>rfl›
   c8:=bL (ps:=["net"]) X G T.D8 rfl ‹Ga λ_=>rfl›
   c9:=bL (ps:=["pairs","rate"]) X G T.D9 rfl ‹il λ_ _=>rfl›
   c10:=bL (ps:=["net"]) X G T.D10 rfl ‹Ga λ_=>rfl›
   c11:=bL (ps:=["net","stream"]) X G T.D11 rfl ‹il λ_ _=>rfl›
   c12:=bL (ps:=["net","rate"]) X G T.D12 rfl ‹il λ_ _=>rfl›
   c13:=bL (ps:=["net","last"]) X G T.D13 rfl ‹il λ_ _=>rfl›
   c14:=bL (ps:=["bends","last"]) X G T.D14 rfl ‹il λ_ _=>rfl›
   c15:=bL (ps:=["net","last"]) X G T.D15 rfl ‹il λ_ _=>rfl›
   c16:=bL (ps:=["net","last"]) X G T.D16 rfl ‹il λ_ _=>rfl›
   c17:=bL (ps:=["net","last"]) X G T.D17 rfl ‹il λ_ _=>rfl›
   c18:=bL (ps:=["net","last"]) X G T.D18 rfl ‹il λ_ _=>rfl›
   c19:=bL (ps:=["net","last","closed"]) X G T.D19 rfl ‹wX λ_ _ _=>rfl›
   c20:=bL (ps:=["way","closed"]) X G T.D20 rfl ‹il λ_ _=>rfl›
   c21:=bL (ps:=["net","last","closed"]) X G T.D21 rfl ‹wX λ_ _ _=>rfl›
   c22:=bL (ps:=["net","starts"]) X G T.D22 rfl ‹il λ_ _=>rfl›
   c23:=bL (ps:=["net","starts"]) X G T.D23 rfl ‹il λ_ _=>rfl›
   c24:=bL (ps:=["net","starts","last"]) X G T.D24 rfl ‹wX λ_ _ _=>rfl›
   c25:=bL (ps:=["net","starts","last"]) X G T.D25 rfl ‹wX λ_ _ _=>rfl›
   c26:=bL (ps:=["net","starts","last","closed"]) X G T.D26 rfl ‹Vq λ_ _ _ _=>rfl›
   c27:=bL (ps:=["cell"]) X G T.D27 rfl ‹Ga λ_=>rfl›
   Qo:=bL (ps:=["pool","base"]) X G T.D28 rfl ‹il λ_ _=>rfl›
   YM:=bL (ps:=["pool","base"]) X G T.D29 rfl ‹il λ_ _=>rfl›
   c30:=bL (ps:=["pool","most","rooms","hours"]) X G T.D30 rfl ‹Vq λ_ _ _ _=>rfl›
   c31:=bL (ps:=["pool","many"]) X G T.D31 rfl ‹il λ_ _=>rfl›
   c32:=bL (ps:=["pool"]) X G T.D32 rfl ‹Ga λ_=>rfl›
   c33:=bL (ps:=["net","starts","last","closed"]) X G T.D33 rfl ‹Vq λ_ _ _ _=>rfl›
   c34:=bL (ps:=["pool","closed","last"]) X G T.D34 rfl ‹wX λ_ _ _=>rfl›
   c35:=bL (ps:=["found"]) X G T.D35 rfl ‹Ga λ_=>rfl›
   c36:=bL (ps:=["script","most"]) X G T.D36 rfl ‹il λ_ _=>rfl›
   c37:=bL (ps:=["found","due"]) X G T.D37 rfl ‹il λ_ _=>rfl›
   c38:=bL (ps:=["script"]) X G T.D38 rfl ‹Ga λ_=>rfl›}|n+1=>have a:=Ir (Pg:=Pg) (w:=w) (base:=base) T X G n
   {c0:=bJ (ps:=["net","step"]) X G T.D0 rfl rfl ‹il λ_ _=>rfl› λ_ _ F=>d0 (cl:=iC T) F
    c1:=bJ (ps:=["net","step"]) X G T.D1 rfl rfl ‹il λ_ _=>rfl› λ_ _ F=>d1 (cl:=iC T) F
    c2:=bJ (ps:=["net","stream","step"]) X G T.D2 rfl rfl ‹wX λ_ _ _=>rfl› λ_ _ F=>d2 (cl:=iC T) F
    c3:=bJ (ps:=["net","steps"]) X G T.D3 rfl rfl ‹il λ_ _=>rfl› λ_ _ F=>d3 (cl:=iC T) F (mg_none_of X G T.gQ) a.c1
    c4:=bJ (ps:=["net","stream"]) X G T.D4 rfl rfl ‹il λ_ _=>rfl› λ_ _ F=>d4 (cl:=iC T) F (mg_none_of X G T.cT) (mg_none_of X G T.bu) a.c0 a.c2
    c5:=bJ (ps:=["net","stream","begun"]) X G T.D5 rfl rfl ‹wX λ_ _ _=>rfl› λ_ _ F=>d5 (cl:=iC T) F (mg_none_of X G T.cT) (mg_none_of X G T.dH) a.c4 a.c1 a.c0
    c6:=bJ (ps:=["net","come","place"]) X G T.D6 rfl rfl ‹wX λ_ _ _=>rfl› λ_ _ F=>d6 (cl:=iC T) F (mg_none_of X G T.mF) (mg_none_of X G T.dZ) a.c0
    c7:=bJ (ps:=["stream","steps","loads"]) X G T.D7 rfl rfl ‹wX λ_ _ _=>rfl› λ_ _ F=>d7 (cl:=iC T) F (mg_none_of X G T.dH)
    c8:=bJ (ps:=["net"]) X G T.D8 rfl rfl ‹Ga λ_=>rfl› λ_ _ F=>d8 (cl:=iC T) F (mg_none_of X G T.cT) (mg_none_of X G T.gR) a.c5 a.c2 a.c6 a.c7
    c9:=bJ (ps:=["pairs","rate"]) X G T.D9 rfl rfl ‹il λ_ _=>rfl› λ_ _ F=>d9 (cl:=iC T) F (mg_none_of X G T.gR)
    c10:=bJ (ps:=["net"]) X G T.D10 rfl rfl ‹Ga λ_=>rfl› λ_ _ F=>d10 (cl:=iC T) F (mg_none_of X G T.t8) a.c8 a.c3
    c11:=bJ (ps:=["net","stream"]) X G T.D11 rfl rfl ‹il λ_ _=>rfl› λ_ _ F=>d11 (cl:=iC T) F (mg_none_of X G T.bu) (mg_none_of X G T.gQ) a.c5
    c12:=bJ (ps:=["net","rate"]) X G T.D12 rfl rfl ‹il λ_ _=>rfl› λ_ _ F=>d12 (cl:=iC T) F (mg_none_of X G T.cT) a.c8 a.c9 a.c11 a.c7
    c13:=bJ (ps:=["net","last"]) X G T.D13 rfl rfl ‹il λ_ _=>rfl› λ_ _ F=>d13 (cl:=iC T) F a.c10
    c14:=bJ (ps:=["bends","last"]) X G T.D14 rfl rfl ‹il λ_ _=>rfl› λ_ _ F=>d14 (cl:=iC T) F (mg_none_of X G T.gQ)
    c15:=bJ (ps:=["net","last"]) X G T.D15 rfl rfl ‹il λ_ _=>rfl› λ_ _ F=>d15 (cl:=iC T) F a.c10 a.c14
    c16:=bJ (ps:=["net","last"]) X G T.D16 rfl rfl ‹il λ_ _=>rfl› λ_ _ F=>d16 (cl:=iC T) F (mg_none_of X G T.gQ) a.c13
    c17:=bJ (ps:=["net","last"]) X G T.D17 rfl rfl ‹il λ_ _=>rfl› λ_ _ F=>d17 (cl:=iC T) F a.c12 a.c16
    c18:=bJ (ps:=["net","last"]) X G T.D18 rfl rfl ‹il λ_ _=>rfl› λ_ _ F=>d18 (cl:=iC T) F (mg_none_of X G T.gR) (mg_none_of X G T.bu) a.c5 a.c17
    c19:=bJ (ps:=["net","last","closed"]) X G T.D19 rfl rfl ‹wX λ_ _ _=>rfl› λ_ _ F=>d19 (cl:=iC T) F (mg_none_of X G T.lQ) (mg_none_of X G T.cT)
    c20:=bJ (ps:=["way","closed"]) X G T.D20 rfl rfl ‹il λ_ _=>rfl› λ_ _ F=>d20 (cl:=iC T) F (mg_none_of X G T.fJ)
    c21:=bJ (ps:=["net","last","closed"]) X G T.D21 rfl rfl ‹wX λ_ _ _=>rfl› λ_ _ F=>d21 (cl:=iC T) F (mg_none_of X G T.gQ) a.c20 a.c19
    c22:=bJ (ps:=["net","starts"]) X G T.D22 rfl rfl ‹il λ_ _=>rfl› λ_ _ F=>d22 (cl:=iC T) F (mg_none_of X G T.bu)
    c23:=bJ (ps:=["net","starts"]) X G T.D23 rfl rfl ‹il λ_ _=>rfl› λ_ _ F=>d23 (cl:=iC T) F (mg_none_of X G T.fJ) (mg_none_of X G T.dZ) a.c22
    c24:=bJ (ps:=["net","starts","last"]) X G T.D24 rfl rfl ‹wX λ_ _ _=>rfl› λ_ _ F=>d24 (cl:=iC T) F a.c23 a.c15
    c25:=bJ (ps:=["net","starts","last"]) X G T.D25 rfl rfl ‹wX λ_ _ _=>rfl› λ_ _ F=>d25 (cl:=iC T) F a.c18 a.c23 a.c22
    c26:=bJ (ps:=["net","starts","last","closed"]) X G T.D26 rfl rfl ‹Vq λ_ _ _ _=>rfl› λ_ _ F=>d26 (cl:=iC T) F (mg_none_of X G T.lQ) (mg_none_of X G T.eZ) (mg_none_of X G T.cT) a.c21 a.c23
    c27:=bJ (ps:=["cell"]) X G T.D27 rfl rfl ‹Ga λ_=>rfl› λ_ _ F=>d27 (cl:=iC T) F (mg_none_of X G T.fJ)
    Qo:=bJ (ps:=["pool","base"]) X G T.D28 rfl rfl ‹il λ_ _=>rfl› λ_ _ F=>d28 (cl:=iC T) F
    YM:=bJ (ps:=["pool","base"]) X G T.D29 rfl rfl ‹il λ_ _=>rfl› λ_ _ F=>d29 (cl:=iC T) F a.Qo
    c30:=bJ (ps:=["pool","most","rooms","hours"]) X G T.D30 rfl rfl ‹Vq λ_ _ _ _=>rfl› λ_ _ F=>d30 (cl:=iC T) F (mg_none_of X G T.fJ) (mg_none_of X G T.gR) (mg_none_of X G T.bu) (mg_none_of X G T.dZ) a.Qo a.YM
    c31:=bJ (ps:=["pool","many"]) X G T.D31 rfl rfl ‹il λ_ _=>rfl› λ_ _ F=>d31 (cl:=iC T) F (mg_none_of X G T.bu) (mg_none_of X G T.dZ) a.Qo
    c32:=bJ (ps:=["pool"]) X G T.D32 rfl rfl ‹Ga λ_=>rfl› λ_ _ F=>d32 (cl:=iC T) F a.c30 a.Qo
    c33:=bJ (ps:=["net","starts","last","closed"]) X G T.D33 rfl rfl ‹Vq λ_ _ _ _=>rfl› λ_ _ F=>d33 (cl:=iC T) F (mg_none_of X G T.eZ) (mg_none_of X G T.cT) (mg_none_of X G T.fJ)
    c34:=bJ (ps:=["pool","closed","last"]) X G T.D34 rfl rfl ‹wX λ_ _ _=>rfl› λ_ _ F=>d34 (cl:=iC T) F (mg_none_of X G T.cT) (mg_none_of X G T.dH) a.Qo a.YM
    c35:=bJ (ps:=["found"]) X G T.D35 rfl rfl ‹Ga λ_=>rfl› λ_ _ F=>d35 (cl:=iC T) F (mg_none_of X G T.Cv) (mg_none_of X G T.Ly) (mg_none_of X G T.cQ)
    c36:=bJ (ps:=["script","most"]) X G T.D36 rfl rfl ‹il λ_ _=>rfl› λ_ _ F=>d36 (cl:=iC T) F (mg_none_of X G T.cT) (mg_none_of X G T.fJ) (mg_none_of X G T.gR) (mg_none_of X G T.bu)
    c37:=bJ (ps:=["found","due"]) X G T.D37 rfl rfl ‹il λ_ _=>rfl› λ_ _ F=>d37 (cl:=iC T) F a.c35
    c38:=bJ (ps:=["script"]) X G T.D38 rfl rfl ‹Ga λ_=>rfl› λ_ _ F=>d38 (cl:=iC T) F (mg_none_of X G T.lQ) (mg_none_of X G T.cQ) (mg_none_of X G T.dH) (mg_none_of X G T.bu) a.c32 a.c36 a.Qo a.c34 a.c27 a.c37 a.c31 a.c33 a.c35 a.YM a.c25 a.c26 a.c24}
set_option maxHeartbeats 0 in
theorem Um{Pg:dE}{w:eH}{K:PySem.W.Frag}{mg:Str->Option b_}{h:eP}{i:cw}(T:Txt K)(X:K.In h)(G:h.Ns dS mg)(g:mg "law"=aj (.ref i)):∃fd:hP,(∀(s:cr)(u:b_),nE s fd ⟨[u],[]⟩ [("script",u)])/\∀base:eP,K.In base->base.Ns dS mg->oX Pg w K mg base Io 40 i fd ["script"] (Ff K 1 (run Γ 100000000 40 38)):=by
 obtain⟨f,fd,a,F⟩:=T.D38.ex;have e:=g.symm.trans (mg_of X G a);cases e;refine⟨fd,λs u=>?_,λbase j l=>?_⟩;.obtain⟨oc,q,kV,m,r,t,cdv,ct,o,rfl,lk,p⟩:=F.ex;exact .of_eq rfl
 .have b:=Ir (Pg:=Pg) (w:=w) (base:=base) T j l 39;exact d38 (cl:=iC T) (k:=39) (n:=100000000) (c:=run Γ 100000000 39) F (mg_none_of X G T.lQ) (mg_none_of X G T.cQ) (mg_none_of X G T.dH) (mg_none_of X G T.bu) b.c32 b.c36 b.Qo b.c34 b.c27 b.c37 b.c31 b.c33 b.c35 b.YM b.c25 b.c26 b.c24
end _T
open PySem W PyProof.Rows
set_option maxRecDepth 100000 in
set_option maxHeartbeats 0 in
theorem PySem.Challenge.cw_hourhaul_k79_closed_hours_for_starts_holds : PySem.Challenge.rw_hourhaul_k79_closed_hours_for_starts.Holds := by
 w_on;o_law;k_head;(case hw=>w_witness2);k_fill;refine _L.Iv (l:=PySem.Challenge.rw_hourhaul_k79_closed_hours_for_starts) (n:=63) (k:=40) (x:="script") (CX:=_L.Io) (sp:=λK=>_H.Ff K 1 (_H.run _T.Γ 100000000 40 38)) rfl (by decide) rfl ⟨rfl,by decide,by decide⟩ (λw h Y=>PySem.W.kIn_of Y) ?F ?S ?C;case F=>
  intro w mg j h f G b;refine _T.Um ?T f G b;constructor;iterate 39(· refine' _H.T8 ?a ?l ?c ?k;case a|l|c|k=>k_is)
  iterate 14(· k_is)
 case S=>intro K H a ns g m i;obtain⟨as,e⟩:=_T.MN ns g;exact _H.Gw i e
 case C=>exact λH s e o z=>z
