import PyProof.Rows.All
import Wide.All
import OpenK.AllK
import Wide.FinOn
import PyProof.ToksMono
import Lean
import PyProof.EqAt
import PyProof.EqKinds
import PyProof.TupleCall
import PyProof.NeKinds
import PyProof.ZipIter
import PyProof.StrWalks
import PyProof.ConsumeWalk
import PyProof.ExcArgs
import PyProof.ExcBaseAll.ValueError
import KE.KIsAll
import PyProof.EnumFor
import PyProof.EnumMake
import PyProof.EnumStmt
import PyProof.Rows.EnumRows
import PyProof.DictWalks
import PyProof.Rows.SetFrom
import PyProof.DictItems
import KE.KDictList
import PyProof.TupleIter
import PyProof.RulesRaise
import PyProof.RulesTry
import PyProof.MeetsIn
import KE.KEqDict
import PyProof.StrOps2
import PyProof.StrCalls6
import PyProof.ListMulRoad
import PyProof.FactsAll.tuple
import KE.KSortTup
import PyProof.Rows.Range3
import PyProof.Rows.ChunkLeaf
import PyProof.StationsW
import PyProof.PassesOwn
import PyProof.NsDelKeeps
import OpenK.ZGo
import PyProof.StrLawsReplace
import PySem.Challenge.RW_manyleaf_k21_contents_shown_and_read
set_option Elab.async false
set_option linter.all false
set_option maxRecDepth 100000
section
open Array renaming getElem?_eq_some_iff→cS,getElem?_setIfInBounds_ne→cX,length_toList→cY,size_setIfInBounds→d6,getElem?_setIfInBounds_self_of_lt→eM,getElem?_toList→gi,forIn_toList→hW,getElem?_eq_getElem→ie,getElem?_eq_none→jo
open Bool renaming false_ne_true→aj,and_eq_true→ak,false_eq_true→bz,false_and→ck,beq_eq_decide_eq→cH,eq_iff_iff→cK,true_and→cL,or_eq_true→eN,or_true→fC,or_false→gB,and_false→ig,not_eq_true'→iB,and_true→iO,or_eq_false_iff→jY
open Classical renaming propDecidable→fH
open False renaming elim→cZ
open ForInStep renaming yield→eQ
open Int renaming toNat_natCast→bt,emod_lt_of_pos→cM,emod_nonneg→dF,mul_le_mul_of_nonneg_left→gq,natCast_mul→gO,toNat_of_nonneg→gP,fdiv_eq_ediv_of_nonneg→hG,natCast_nonneg→kG
open LawfulBEq renaming eq_of_beq→cO
open List renaming getElem?_eq_getElem→ah,length_map→al,size_toArray→am,length_append→ax,mem_cons→aC,getElem?_map→aI,mem_cons_of_mem→aJ,all_eq_true→aP,length_cons→aQ,map_cons→aS,getElem?_eq_some_iff→aT,replicate→a0,getD_eq_getElem?_getD→bc,mem_of_getElem?→bd,mem_append→bn,mem_singleton→bq,mem_append_right→bv,all_cons→bw,map_append→bx,getElem?_cons_succ→bA,mem_cons_self→bC,mem_map→bN,range→bO,length_singleton→bP,not_mem_nil→bT,length_set→b6,contains_cons→b7,getElem?_append_right→cw,drop_eq_getElem_cons→cC,getElem?_cons_zero→cN,append_assoc→c5,replicate_succ→c6,any_cons→c8,getElem?_append_left→c9,getElem?_eq_none→dg,getElem_toArray→dw,append_nil→dG,find?_cons→dH,nil_append→dI,getElem_mem→dM,length_take→dN,lookup→dZ,flatten_cons→d9,map_map→eR,map_nil→eU,mem_append_left→fg,forIn_cons→fJ,nodup_cons→fK,take_succ_eq_append_getElem→fT,getElem?_set_self→fW,all_map→gk,toArray→gm,cons_append→gr,length_drop→gu,take_length→gv,getElem?_set_ne→gA,filterMap_cons→gQ,length_reverse→gR,map_congr_left→gS,map→hY,forIn_nil→ii,mem_range→ij,foldl→iE,length_range→iF,length_eq_zero_iff→iR,drop_length→je,lookup_cons→jf,range_succ_eq_map→jq,length_nil→jD,mem_filter→jE,of_mem_zip→jF,mem_of_mem_drop→jZ,flatMap_append→km,getElem?_range→ko,mem_filterMap→kH
open Nat renaming le_refl→af,lt_of_lt_of_le→av,ne_of_lt→aA,le_add_right→aB,le_trans→aR,lt_of_le_of_lt→bI,zero_le→bJ,lt_succ_of_lt→bV,ne_of_gt→b5,lt_succ_self→cm,le_succ→cG,succ_le_succ→dO,le_of_ble_eq_true→eV,lt_irrefl→e8,mul_le_mul_right→fh,mul_le_mul→il,le_max_right→jg,succ_ne_self→jh,le_max_left→jG,lt_or_ge→jH,zero_add→jI,le_of_eq→lx,le_of_lt→lA,sub_self→lB,succ_mul→lC,mul_one→lQ,max→ma
open Ne renaming symm→cx
open Option renaming some→a9,map_eq_some_iff→bF,bind_some→dP,isSome_iff_exists→d_,isNone_some→h_,isSome_map→iG
open Option.some renaming inj→aK,injEq→f7
open PyProof renaming noPylong_small→jr
open PyProof.Rows renaming callWith_type1→a_,boot_list→cW,slot_tuple_getitem→ef,seqObj→fF,callWith_builtin1→gp,zipApart_new→im,tail_of_ItemOn→iw,boot_tuple→iS,subscriptTail_builtinR→ju,boot_int→jJ,boot_str→jK,AllBare→kf,subscriptTail→kZ,envOfC→lG,IsTup→lJ
open PyProof.Rows.F renaming plain_set_update_loop→fI,entry_set_update_loop→iQ
open PyProof.Rows.IsTup renaming new→lO
open PySem renaming wpAny_bind→ac,Shared→ag,wpAny_pure→ai,Builtin→ar,wpAny→ay,FuncData→aE,wpAny_loadPart'→aF,mainGlobals→aM,Program→aO,Around→aX,wpAny_field→aZ,wpAny_holding→bb,wpAny_with_toks→bh,wpAny_Call_Name_kw→bj,wpAny_loadPart_at→bo,wpAny_setField_rec→br,Spec→bH,mem_of_lookup→bK,sizeLine_eq→bL,World→bM,wpAny_callSpecial?_slot→bR,codeAny_builtin→bY,compareOp→bZ,plainId_quiet→b9,wpAny_isSubtype_exc→ce,wpAny_ite_split→cg,wpAny_newObj_type→cv,NameKind→cz,wpAny_mono→cA,wpAny_updateSeq→cE,wpAny_call_entry→cF,sysModules→cQ,starEach→cU,wpAny_truthy_bool→c7,binaryOp→c_,wpAny_seqItems→df,bootBuiltins→dm,wpAny_typeNameOfWhole_itemiter→dq,tupleKind_room_in1→du,codeAny_call_builtin→dz,assignEach→dD,call_meets→dE,rawInt→dJ,typeLookup→dR,call_meetsIn→dW,wpAny_attempt→dX,codeAny→d4,wpAny_typeNameOf_itemiter→d5,wpAny_passesOwn→ej,Within→ez,wpAny_standAt→eC,wpAny_call→eF,wpAny_setField→eG,wpAny_isOneOf_itemiter→eJ,builtinLookup_eq_fast→eX,codeAny_mono→eY,wpAny_richCompare_same_room→eZ,foldedSetIterable→e_,wpAny_pyIter_dict→fb,pyNext→fc,updateSeq→fq,wpAny_fieldsOf→fu,wpAny_isInstance→fv,excClassObj→fB,wpAny_ite_false→fQ,wpAny_specialOf→fR,atKey_none_of_get→f9,sliceBounds→f_,wpAny_dictEntries→gc,wpAny_letGo→gd,wpAny_pyIter_enum→ge,wpAny_pyIter_list→gf,wpAny_newTuple→gh,Paired→gn,checkBuiltinCall→gx,wpAny_typeNameOfWhole_keyiter→gy,wpAny_rule→gJ,PassesOwn→gT,letOwnedTupleGo→gY,tupleKind→gZ,typeLookup_type→g6,wpAny_execs_nil→g7,wpAny_letOwnedTupleGo_enum→hV,backTo→ib,wpAny_typeOf→ic,codeAny_call_builtin_code→iq,firstArgMember→ir,relabel→iu,wpAny_binaryOp_repeat_ref→iy,wpAny_check_type_call_sub→iz,wpAny_loadPart→iA,isInstance→iK,swapsWith→iL,typeIs_int→iM,wpAny_typeNameOf_keyiter→iN,attributeBase→i4,behindInMarks→i5,bindSpecial→i7,codeAny_call_builtin_at→i8,setField→i9,valueAt→i_,wpAny_Call_method0_late→ja,IsPair→jd,noFill_tuple_add→jj,pastItsLine_dict→jk,wpAny_lookBehind→jl,wpAny_madeBy_exc→jm,wpAny_pyIter_zip→jn,codeAny_handlers_suite→jt,wpAny_nextOf_list_item→jv,wpAny_pyIter_rangeiter→jw,wpAny_pyNext_dict_item→jz,wpAny_pyNext_range_end→jA,IsEnum→jC,Result→jO,codeAny_handlers_test→jR,codeAny_of_tree→jS,setFlight→jT,wpAny_dictEpoch→jU,wpAny_nextOf_list_end→jV,GenState→jW,typeIs_str→jX,wpAny_updateSeq_pair→j6,callType_codes→j9,dictSetDefault→j_,isSubtype_stop→ke,IsRangeIter→kj,evalArgs_none→ku,keywordEach→kC,richCompare→kD,wpAny_handleBy_cons→kE,wpAny_throw→kF,ZipApart→kR,code_list_new→kU,noteFrame→kW,seq_tuple_add→kX,swapsWithSole→k4,wpAny_handled→k8,wpAny_onRaise→k9,wpAny_pyIter_range→k_,wpAny_pyIter_tuple→lb,BindsTo→lf,IsZip→lg,MeetsIn→lj,callerA→ll,getAttr→lm,notedBy→lq,standAt→ls,assign→lE,concat_meets→lF,seqIndex_neg→lH,wpAny_nsSet1→lI,atKey→lK,IsPart→lM,Keyword→lP,getItem→lV,holding→lW,onTheHeap→lX,raiseStmt→lY,seqIndex_of→lZ,setAttr→l4,storedH_new→l5,wpAny_of_eq→l6,Walks→l7,field→l8,pyIter→l9,CmpOp→l_,Operator→md,backToKw→mf,bindArgs→mh,compEnvC→mj,frameOf→mk,raiseNew→ml,spliced→mo,unaryOp→mq,Model→mw,revObj→mz
open PySem.Around renaming under_plainId→bG,under→lv
open PySem.AutoSeq1 renaming sub_list_list→fU
open PySem.Builtin.Dict_items renaming ownsTuple→eK,pairFromOwner→fS
open PySem.Builtin.Int renaming intBits→kg
open PySem.Builtin.List renaming listExtendWith→bB,listLengthHint→bU,listSameRef→cI,listFitsIndex→cT,listItems→cV,listTooLong→d7,listUpdate→fG
open PySem.Builtin.Range renaming rangeSize→cn,small→fw
open PySem.Builtin.Slice renaming slicePlaces→dY,sliceAdjust→fk,sliceApplied→g8
open PySem.Builtin.SmallTypes renaming nextOf→aN,ownedTupleIsFree→bi,ownedTupleHandOut→cB
open PySem.Builtin.Str renaming occurrences→cq,partsBetween→iC,strKind→kh
open PySem.Builtin.Tuple renaming tupleExact→d8
open PySem.Calls renaming spliced_cons→cy,spliced_nil→cJ,callWith_builtin→fV,Name_function_global→g9
open PySem.Code renaming quiet_builtin→eL,isFrame→lw
open PySem.EntryCells renaming newEntry→gK
open PySem.F renaming plainAttrs_list→cr,plain_extend_loop→cD,slot_dict_itemiterator_next→dv,excBase_ValueError→dL,slot_dict_get→dS,plainAttrs_dict→eB,entry_dict_get→eI,called_set→eO,slot_enumerate_next→eP,entry_extend_loop→fz,args_list_init_2→fD,args_tuple_add_2→fE,entry_list_init→fL,entry_tuple_add→fM,typeCall_list_1→fN,plainAttrs_str→fX,slot_tuple_add→fY,args_dict_itemiterator_next_1→fZ,entry_dict_itemiterator_next→gj,slot_dict_keyiterator_next→gC,slot_dict_setdefault→gF,slot_int_rmul→gM,slot_zip_next→gN,called_list→gU,slot_tuple_iterator_next→g_,args_str_split_2→hX,entry_str_split→iD,slot_list_insert→iH,args_enumerate_next_1→iP,args_dict_get_2→iT,args_dict_get_3→iU,slot_dict_clear→iV,slot_dict_items→iW,slot_list_count→iX,slot_list_index→iY,slot_str_split→jb,slot_tuple_mul→jc,entry_enumerate_next→jp
open PySem.Heap renaming get?_push_of_some→ae,get?_push_size→aq,lt_size→au,get?_update_other→aG,get?_update_self→aL,SameBut→aV,size_push→bE,get?_none_of_le→gz,ExtBut→lL
open PySem.Heap.IsRevIter renaming typeIs→jB
open PySem.Heap.SameBut renaming update→cb
open PySem.IsRange renaming new→lN
open PySem.MeetsSeq3 renaming plain_eq_loop→cP,entry_eq_loop→fP
open PySem.NameKind renaming free→eA
open PySem.Obj renaming mapSeq→bu,mapFields→bS,isFreed_of_fields→dj,data_mapDictKeys→j0,data_mapFields→kI
open PySem.Paired renaming length→gE
open PySem.Sem renaming wp_loadIfAlive→kK,wp_bind'→lD
open PySem.SeqAt renaming EqAt→bp,RcNeAt→eW,RcAt→gI
open PySem.SeqAt.EqAt renaming same→jP,int_int→kL,int_str→kM,str_int→kO
open PySem.SeqAt.RcNeAt renaming lists_lengths→hU
open PySem.Shared renaming TypeIs→iZ,heap→lR
open PySem.Str renaming ofString→ba,join→i3,empty→kP
open PySem.StrLaws renaming glued_eq_join→jQ
open PySem.Txt renaming replace→kA,split→lS,join→me
open PySem.Value renaming ref→aH,none→be,type→b_,builtin→dA,bool→eE,notImplemented→fj,isStrOf→gH,str→gX,isStrOf_shape→kB,int→kQ,isInt→lT
open PySem.W renaming Frag→aa,findIn→aw,keepIn→aU,nsIn→aW,emptyDict→bD,instObj→bQ,kia_one→bW,makesIn→bX,mroIn→b8,mg_of→cu,fnOf→cR,looks_findIn→dy,kitOne→dB,plainGet→dQ,isFn→dU,hasDictIn→eg,codeIn→eD,plainOver→e9,InstAt→fm,callWith_K0→fA,callWith_K→fO,kitx_list→f8,handedIn→gw,Looks→gG,plainGet_of→gW,kitx_tuple→ia,lookIn→ip,methodObj→iI,specialIn→iJ,makes_of→ji,cellsFrom_some→js,KatTups→jL,takerIn→jM,takesIn→jN,handedOut_of→j5,keq_eq→j7,typeIn→j8,findObj_own→kq,looks_mroIn→kr,looks_find→kJ,WData→mx
open PySem.W.WData renaming int→lU
open Sum renaming inl→ky,inr→kz
open True renaming intro→aY
namespace L2
open PySem PySem.Spec PyProof.Rows
noncomputable abbrev Key:=Sum Int Str
noncomputable def Ld:Key->Value->Bool
 | .inl k,v=>lT k v
 | .inr x,v=>gH x v
noncomputable def bz2 (w:bM):Key->Int
 | .inl k=>hashInt k
 | .inr x=>hashStr w x
theorem A9:∀ {k:Key} {v:Value},Ld k v=true->(∃ i t,k=ky i/\v=kQ i t)\/(∃ x t,k=kz x/\v=gX x t)
 | .inl i,v,h=>by
  obtain⟨t,e⟩:=Value.isInt_shape (k:=i) (v:=v) h
  exact .inl ⟨i,t,rfl,e⟩
 | .inr x,v,h=>by
  obtain⟨t,e⟩:=kB (x:=x) (v:=v) h
  exact .inr ⟨x,t,rfl,e⟩
theorem Vm (i:Int) (t:Tok):Ld (.inl i) (.int i t)=true:=by simp [Ld,lT]
theorem Vn (x:Str) (t:Tok):Ld (.inr x) (.str x t)=true:=by simp [Ld,gH]
theorem a24 (a b:Int):decide ((ky a:Key)=ky b)=(a==b):=by
 by_cases e:a=b
 ·subst e;simp
 ·have h:¬ (ky a:Key)=ky b:=fun q=>e (Sum.inl.inj q)
  rw [decide_eq_false h]
  exact (beq_eq_false_iff_ne.mpr e).symm
theorem a27 (a b:Str):decide ((kz a:Key)=kz b)=decide (a=b):=by
 by_cases e:a=b
 ·subst e;simp
 ·have h:¬ (kz a:Key)=kz b:=fun q=>e (Sum.inr.inj q)
  rw [decide_eq_false h,decide_eq_false e]
theorem a25 (a:Int) (b:Str):decide ((ky a:Key)=kz b)=false:=decide_eq_false (fun q=>nomatch q)
theorem a26 (a:Str) (b:Int):decide ((kz a:Key)=ky b)=false:=decide_eq_false (fun q=>nomatch q)
noncomputable def Ao (prog:aO) (w:bM):PySem.KeyKind prog w Key where
 is:=Ld
 hash:=bz2 w
 inj:=fun v a b ha hb=>by
  rcases A9 ha with ⟨i,t,rfl,rfl⟩|⟨x,t,rfl,rfl⟩
  ·rcases A9 hb with ⟨j,u,rfl,e⟩|⟨y,u,rfl,e⟩
   ·injection e with e1 _;rw [e1]
   ·exact nomatch e
  ·rcases A9 hb with ⟨j,u,rfl,e⟩|⟨y,u,rfl,e⟩
   ·exact nomatch e
   ·injection e with e1 _;rw [e1]
 byValue:=fun k v h=>by
  rcases A9 h with ⟨i,t,rfl,rfl⟩|⟨x,t,rfl,rfl⟩ <;> rfl
 pyHash:=fun hv h=>by
  rcases A9 hv with ⟨i,t,rfl,rfl⟩|⟨x,t,rfl,rfl⟩
  ·exact wpAny_pyHash_int h
  ·exact wpAny_pyHash_str h
 eqBool:=fun hu hv h=>by
  rcases A9 hu with ⟨i,t,rfl,rfl⟩|⟨x,t,rfl,rfl⟩
  ·rcases A9 hv with ⟨j,u,rfl,rfl⟩|⟨y,u,rfl,rfl⟩
   ·rw [a24] at h;exact wpAny_eqBool_int h
   ·rw [a25] at h;exact kM i t y u _ _ _ _ h
  ·rcases A9 hv with ⟨j,u,rfl,rfl⟩|⟨y,u,rfl,rfl⟩
   ·rw [a26] at h;exact kO x t j u _ _ _ _ h
   ·rw [a27] at h;exact wpAny_eqBool_str h
 «strs»:=fun k x t v h=>by
  rcases A9 h with ⟨i,u,rfl,e⟩|⟨y,u,rfl,e⟩
  ·exact nomatch e
  ·injection e with e1 _
   subst e1
   cases v <;> rfl
theorem Oo (prog:aO) (w:bM) (i:Int) (t:Tok):(Ao prog w).is (.inl i) (.int i t)=true:=Vm i t
theorem Op (prog:aO) (w:bM) (x:Str) (t:Tok):(Ao prog w).is (.inr x) (.str x t)=true:=Vn x t
inductive V where
 | non|bl (b:Bool)|int (i:Int)|str (x:Str)|byt (b:Array UInt8)|stk (x:Str) (n:Nat) (ex:Bool)|ref (a:Addr)|ty (n:String)
 deriving DecidableEq
noncomputable def RelV:V->Value->Prop
 | .non,u=>u=be
 | .bl b,u=>u=eE b
 | .int i,u=>∃ t,u=kQ i t
 | .str x,u=>∃ t,u=gX x t
 | .byt b,u=>∃ t,u=Value.bytes b t
 | .stk x n ex,u=>∃ t,u=gX x t/\(if ex=true then t=n else n<=t)
 | .ref a,u=>u=aH a
 | .ty n,u=>u=b_ n
noncomputable def V.pl:V->Bool
 | .stk _ _ _=>false
 | _=>true
noncomputable abbrev Vals:List V->List Value->Prop:=gn RelV
theorem Vals.length {xs:List V} {us:List Value} (r:Vals xs us):xs.length=us.length:=gE r
theorem Vals.get:∀ {xs:List V} {us:List Value} {i:Nat} {x:V},Vals xs us->xs[i]? = some x -> ∃ u,us[i]? = some u/\RelV x u
 | _,_,_,_,.nil,e=>by simp at e
 | _,_,0,_,.cons r _,e=>by simp at e;subst e;exact⟨_,rfl,r⟩
 | _,_,i+1,x,.cons _ t,e=>by
  obtain⟨u,h1,h2⟩:=Vals.get (i:=i) (x:=x) t (by simpa using e)
  exact⟨u,by simpa using h1,h2⟩
theorem Vals.set {x:V} {u:Value} (r:RelV x u):∀ {xs:List V} {us:List Value} (i:Nat),Vals xs us->Vals (xs.set i x) (us.set i u)
 | _,_,_,.nil=>.nil
 | _,_,0,.cons _ t=>.cons r t
 | _,_,i+1,.cons q t=>.cons q (Vals.set r i t)
theorem Vals.append:∀ {xs ys:List V} {us ws:List Value},Vals xs us->Vals ys ws->Vals (xs++ys) (us++ws)
 | _,_,_,_,.nil,s=>s
 | _,_,_,_,.cons r t,s=>.cons r (Vals.append t s)
theorem Vals.take:∀ {xs:List V} {us:List Value} (n:Nat),Vals xs us->Vals (xs.take n) (us.take n)
 | _,_,0,_=>.nil
 | _,_,_+1,.nil=>.nil
 | _,_,n+1,.cons r t=>.cons r (Vals.take n t)
theorem Vals.drop:∀ {xs:List V} {us:List Value} (n:Nat),Vals xs us->Vals (xs.drop n) (us.drop n)
 | _,_,0,r=>r
 | _,_,_+1,.nil=>.nil
 | _,_,n+1,.cons _ t=>Vals.drop n t
noncomputable def RelO:Option V->Option Value->Prop
 | some v,some u=>RelV v u
 | none,none=>True
 | _,_=>False
noncomputable def KV {κ:Type}:List (κ×V)->List (κ×Value)->Prop:=gn fun (p:κ×V) (q:κ×Value)=>p.1=q.1/\RelV p.2 q.2
noncomputable def kV:Key->V
 | .inl i=>.int i
 | .inr x=>.str x
inductive HO where
 | lst (xs:List V)
 | tup (xs:List V)
 | dK (kvs:List (Key×V))|dT (kvs:List (List Key×V))
 | set (S:Int->Bool) (n:Nat)
 | ins (C dx:Addr) (fs:List (Str×V))
 | own (x:Addr)
 | xd (fs:List (Str×V))
 | met (f x:Addr)
 | rng (lo hi:Int)
 | frz (o:Obj) (u:HO)
 | tbl (ps:Array Value)
 | ext (φ:Heap->Prop)
noncomputable abbrev Hp:=Addr->Option HO
noncomputable def upd (H:Hp) (a:Addr) (o:HO):Hp:=fun b=>if b=a then some o else H b
theorem Ad {H:Hp} {a:Addr} {o:HO}:upd H a o a=some o:=by unfold upd;rw [if_pos rfl]
theorem Ae {H:Hp} {a b:Addr} {o:HO} (h:b≠a):upd H a o b=H b:=by unfold upd;rw [if_neg h]
theorem Ug {H:Hp} {a:Addr} {o u:HO}:upd (upd H a o) a u=upd H a u:=by
 funext b;unfold upd;split <;> rfl
theorem at9 {H:Hp} {a b:Addr} {o u:HO} (h:H a=some o) (h':H b=some u) (d:o≠u):a≠b:=by
 intro e;subst e;rw [h] at h';exact d (aK h')
theorem Ak {H:Hp} {a b:Addr} {o:HO} (h:H a=some o) (h':H b=none):a≠b:=by
 intro e;subst e;rw [h] at h';cases h'
section
variable (P:aO) (w:bM)
noncomputable def ObjOk (H:Hp) (h:Heap) (a:Addr):HO->Prop
 | .lst xs=>xs.length<=sizeLine /\ ∃ (its:List Value) (n:Nat),Vals xs its/\h.get? a=some { cls:=.type "list", data:=.seq its.toArray n }
 | .tup xs=>xs.length<=sizeLine /\ ∃ its:List Value,Vals xs its/\lJ h a its.toArray
 | .dK kvs=>kvs.length<=sizeLine/\(a==cQ)=false /\ ∃ vs,KV kvs vs/\h.DictOf (Ao P w) a vs
 | .dT kvs=>kvs.length<=sizeLine/\(a==cQ)=false /\ ∃ xs:List (List Key×Addr×Value),
   gn (fun (p:List Key×V) (q:List Key×Addr×Value)=>p.1=q.1/\H q.2.1=some (.tup (p.1.map kV))/\RelV p.2 q.2.2) kvs xs /\
   ∃ o es ep,h.get? a=some o/\o.ExactDict/\o.data=.dict es ep/\es.toList=xs.map (entryOfKey (gZ (Ao P w)))/\(xs.map (·.1)).Nodup
 | .set S n=>h.SetOf (intKind P w) a S n
 | .ins C dx fs=>H dx=some (.own a)/\fs.length<=1000/\dx≠a/\h.get? a=some (bQ C dx) /\
   ∃ mA,h.Ns1 dx mA/\(∀ f,RelO (fs.lookup f) (mA f))/\ez mA (fs.map (·.1))
 | .own _=>∃ o,h.get? a=some o
 | .xd fs=>∃ mA,h.Ns1 a mA /\ ∀ f,RelO (fs.lookup f) (mA f)
 | .rng lo hi=>∃ t u v,h.get? a=some { cls:=.type "range", data:=.fields #[.int lo t,.int hi u,.int 1 v] }
 | .frz o u=>h.get? a=some o/\ObjOk H h a u
 | .tbl ps=>h.get? a=some { cls:=.none,data:=.fields ps }
 | .met f x=>h.get? a=some (iI (.ref f) (.ref x))
 | .ext φ=>φ h/\(∃ o,h.get? a=some o) /\ ∀ h1 h2:Heap,φ h1->(∀ o,h1.get? a=some o->h2.get? a=some o)->φ h2
noncomputable def HOk (H:Hp) (h:Heap):Prop:=∀ a o,H a=some o->ObjOk P w H h a o
end
section
variable {P:aO} {w:bM} {H H':Hp} {h h':Heap} {a:Addr} {o:HO}
theorem ObjOk.lt (x:ObjOk P w H h a o):a<h.objs.size:=by
 cases o with
 | lst xs=>obtain⟨_,_,_,_,e⟩:=x;exact au e
 | tup xs=>obtain⟨_,_,_,p⟩:=x;exact p.lt
 | dK kvs=>obtain⟨_,_,_,_,o,_,_,e,_⟩:=x;exact au e
 | dT kvs=>obtain⟨_,_,_,_,o,_,_,e,_⟩:=x;exact au e
 | set S n=>obtain⟨o,_,_,_,e,_⟩:=x;exact au e
 | ins C dx fs=>obtain⟨_,_,_,e,_⟩:=x;exact au e
 | own y=>obtain⟨_,e⟩:=x;exact au e
 | xd fs=>obtain⟨_,⟨_,_,_,e,_⟩,_⟩:=x;exact au e
 | rng lo hi=>obtain⟨_,_,_,e⟩:=x;exact au e
 | frz ob u=>obtain⟨e,_⟩:=x;exact au e
 | tbl ps=>exact au (show h.get? a=some _ from x)
 | met f y=>exact au (show h.get? a=some _ from x)
 | ext φ=>obtain⟨_,⟨_,e⟩,_⟩:=x;exact au e
theorem Paired.mapP {α β:Type} {F G:α->β->Prop}:∀ {l₁:List α} {l₂:List β},gn F l₁ l₂->(∀ a b,F a b->G a b)->gn G l₁ l₂
 | _,_,.nil,_=>.nil
 | _,_,.cons r t,f=>.cons (f _ _ r) (Paired.mapP t f)
theorem ObjOk.stay (x:ObjOk P w H h a o) (k:∀ b u,(b=a\/H b=some (.own a))->h.get? b=some u->h'.get? b=some u)
  (ho:∀ b,H b=some (.own a)->H' b=some (.own a)) (ht:∀ b xs,H b=some (.tup xs)->H' b=some (.tup xs)):ObjOk P w H' h' a o:=by
 induction o with
 | lst xs=>obtain⟨z,its,n,r,e⟩:=x;exact⟨z,its,n,r,k _ _ (.inl rfl) e⟩
 | tup xs=>obtain⟨z,its,r,ob,e,c⟩:=x;exact⟨z,its,r,ob,k _ _ (.inl rfl) e,c⟩
 | dK kvs=>obtain⟨z,y,vs,r,ob,es,ep,e,c⟩:=x;exact⟨z,y,vs,r,ob,es,ep,k _ _ (.inl rfl) e,c⟩
 | dT kvs=>
  obtain⟨z,y,xs,r,ob,es,ep,e,c⟩:=x
  exact⟨z,y,xs,Paired.mapP r fun p q z=>⟨z.1,ht _ _ z.2.1,z.2.2⟩,ob,es,ep,k _ _ (.inl rfl) e,c⟩
 | set S n=>obtain⟨ob,es,ep,t,e,c⟩:=x;exact⟨ob,es,ep,t,k _ _ (.inl rfl) e,c⟩
 | ins C dx fs=>
  obtain⟨d,z,ne,e,mA,⟨od,es,ep,e2,c⟩,r⟩:=x
  exact⟨ho _ d,z,ne,k _ _ (.inl rfl) e,mA,⟨od,es,ep,k _ _ (.inr d) e2,c⟩,r⟩
 | own y=>obtain⟨ob,e⟩:=x;exact⟨ob,k _ _ (.inl rfl) e⟩
 | xd fs=>obtain⟨mA,⟨od,es,ep,e,c⟩,r⟩:=x;exact⟨mA,⟨od,es,ep,k _ _ (.inl rfl) e,c⟩,r⟩
 | rng lo hi=>obtain⟨t,u,v,e⟩:=x;exact⟨t,u,v,k _ _ (.inl rfl) e⟩
 | frz ob u ih=>obtain⟨e,q⟩:=x;exact⟨k _ _ (.inl rfl) e,ih q⟩
 | tbl ps=>
  have e:h.get? a=some { cls:=.none,data:=.fields ps }:=x
  show h'.get? a=some { cls:=.none,data:=.fields ps }
  exact k a _ (.inl rfl) e
 | met f y=>
  have e:h.get? a=some (iI (.ref f) (.ref y)):=x
  show h'.get? a=some (iI (.ref f) (.ref y))
  exact k a _ (.inl rfl) e
 | ext φ=>obtain⟨p,⟨o,e⟩,st⟩:=x;exact⟨st _ _ p fun o q=>k _ _ (.inl rfl) q,⟨o,k _ _ (.inl rfl) e⟩,st⟩
theorem HOk.lt (x:HOk P w H h) (e:H a=some o):a<h.objs.size:=(x a o e).lt
theorem HOk.fresh (x:HOk P w H h) (e:h.objs.size<=a):H a=none:=by
 cases q:H a with
 | none=>rfl
 | some u=>exact absurd (av (x.lt q) e) (e8 _)
theorem HOk.kept (x:HOk P w H h) (k:∀ b u,h.get? b=some u->h'.get? b=some u):HOk P w H h':=fun a o e=>
 (x a o e).stay (fun b u _ q=>k b u q) (fun _ q=>q) fun _ _ q=>q
theorem HOk.laid (x:HOk P w H h) (k:∀ b u,h.get? b=some u->h'.get? b=some u) (hp:h.objs.size<=a) (new:ObjOk P w (upd H a o) h' a o):HOk P w (upd H a o) h':=fun b u e=>by
 have hn:=x.fresh hp
 by_cases hb:b=a
 ·subst hb;rw [Ad] at e;cases e;exact new
 ·rw [Ae hb] at e
  exact (x b u e).stay (fun c v _ q=>k c v q) (fun c q=>by rw [Ae (Ak q hn)];exact q) fun c xs q=>by rw [Ae (Ak q hn)];exact q
end
noncomputable def Rd (H:Hp) (a:Addr) (u:HO):Prop:=H a=some u \/ ∃ o,H a=some (.frz o u)
theorem Rd.ok {P:aO} {w:bM} {H:Hp} {h:Heap} {a:Addr} {u:HO} (r:Rd H a u) (x:HOk P w H h):ObjOk P w H h a u:=by
 rcases r with r|⟨o,r⟩
 ·exact x a u r
 ·obtain⟨_,q⟩:=x a _ r
  exact q
noncomputable def Mut:Option HO->Prop
 | some (.lst _)=>True
 | some (.dK _)=>True
 | some (.dT _)=>True
 | some (.set _ _)=>True
 | some (.ins _ _ _)=>True
 | some (.ext _)=>True
 | _=>False
section
variable {P:aO} {w:bM} {H:Hp} {h h':Heap} {x e:Addr} {o':HO}
theorem HOk.write (ok:HOk P w H h) (mu:Mut (H x)) (he:e=x\/H e=some (.own x)) (k:∀ b u,b≠e->h.get? b=some u->h'.get? b=some u) (heo:∃ u,h'.get? e=some u)
  (new:ObjOk P w (upd H x o') h' x o'):HOk P w (upd H x o') h':=fun b u q=>by
 have nown:∀ c y,H c=some (.own y)->c≠x:=fun c y r z=>by subst z;rw [r] at mu;exact mu
 have ntup:∀ c xs,H c=some (.tup xs)->c≠x:=fun c xs r z=>by subst z;rw [r] at mu;exact mu
 by_cases hb:b=x
 ·subst hb;rw [Ad] at q;cases q;exact new
 ·rw [Ae hb] at q
  by_cases hbe:b=e
  ·have q':H b=some (.own x):=by
    rcases he with z|z
    ·exact absurd (hbe.trans z) hb
    ·rw [hbe];exact z
   rw [q] at q';cases q'
   obtain⟨v,hv⟩:=heo
   exact⟨v,by rw [hbe];exact hv⟩
  ·refine (ok b u q).stay (fun c v hc r=>k c v ?_ r) (fun c r=>by rw [Ae (nown c b r)];exact r) fun c xs r=>by rw [Ae (ntup c xs r)];exact r
   rcases hc with rfl|hc
   ·exact hbe
   ·rintro rfl
    rcases he with z|z
    ·exact nown c b hc z
    ·rw [hc] at z;cases z;exact hb rfl
end
structure Un (fs ex:List Addr) (H H':Hp) (h h':Heap):Prop where
 keep:∀ b o,h.get? b=some o->H b=none->b∉fs->b∉ex->h'.get? b=some o
 slot:∀ b o,h.get? b=some o->H b=none->b∈fs->b∉ex -> ∃ sl,h'.get? b=some { o with slots:=sl }
 free:∀ b o,h.get? b=some o->H b=none->b∉ex->H' b=none
 there:∀ b o,h.get? b=some o->b∉ex -> ∃ o',h'.get? b=some o'
 tups:∀ b xs,H b=some (.tup xs)->H' b=some (.tup xs)
 frzs:∀ b o u,H b=some (.frz o u)->H' b=some (.frz o u)
 tbls:∀ b ps,H b=some (.tbl ps) -> ∃ more,H' b=some (.tbl (ps++more))
section
variable {fs fs' ex ex':List Addr} {H H1 H2:Hp} {h h1 h2 h':Heap} {a x e:Addr} {o:HO}
theorem Un.any (u:Un fs ex H H1 h h1) {b:Addr} {ob:Obj} (q:h.get? b=some ob) (n:H b=none) (hx:b∉ex):∃ sl,h1.get? b=some { ob with slots:=sl }:=by
 by_cases hb:b∈fs
 ·exact u.slot b ob q n hb hx
 ·exact⟨ob.slots,u.keep b ob q n hb hx⟩
theorem Un.kept (k:∀ b u,h.get? b=some u->h'.get? b=some u):Un fs ex H H h h':=
 ⟨fun b ob q _ _ _=>k b ob q,fun b ob q _ _ _=>⟨ob.slots,k b ob q⟩,fun _ _ _ n _=>n,fun b ob q _=>⟨ob,k b ob q⟩,fun _ _ q=>q,fun _ _ _ q=>q,fun _ ps q=>⟨#[],by rw [q];simp⟩⟩
theorem Un.refl:Un fs ex H H h h:=Un.kept fun _ _ q=>q
theorem Un.laid (k:∀ b u,h.get? b=some u->h'.get? b=some u) (hp:h.objs.size<=a) (hn:H a=none):Un fs ex H (upd H a o) h h' where
 keep:=fun b u q _ _ _=>k b u q
 slot:=fun b u q _ _ _=>⟨u.slots,k b u q⟩
 free:=fun b u q n _=>by rw [Ae (aA (av (au q) hp))];exact n
 there:=fun b u q _=>⟨u,k b u q⟩
 tups:=fun b xs q=>by rw [Ae (Ak q hn)];exact q
 frzs:=fun b u xs q=>by rw [Ae (Ak q hn)];exact q
 tbls:=fun b ps q=>⟨#[],by rw [Ae (Ak q hn),q];simp⟩
theorem Un.write (mu:Mut (H x)) (he:e=x\/H e=some (.own x)) (k:∀ b u,b≠e->h.get? b=some u->h'.get? b=some u) (heo:∃ u,h'.get? e=some u):Un fs ex H (upd H x o) h h':=by
 have hx:∀ b,H b=none->b≠x:=fun b n z=>by subst z;rw [n] at mu;exact mu
 have hb:∀ b,H b=none->b≠e:=fun b n z=>by
  subst z
  rcases he with r|r
  ·exact hx b n r
  ·rw [n] at r;cases r
 have hm:∀ b u,H b=some u -> ¬ Mut (some u)->b≠x:=fun b u q nm z=>by subst z;rw [q] at mu;exact nm mu
 refine⟨fun b u q n _ _=>k b u (hb b n) q,fun b u q n _ _=>⟨u.slots,k b u (hb b n) q⟩,fun b u q n _=>by rw [Ae (hx b n)];exact n,fun b u q _=>?_,
  fun b xs q=>by rw [Ae (hm b _ q fun z=>z)];exact q,fun b u xs q=>by rw [Ae (hm b _ q fun z=>z)];exact q,fun b ps q=>⟨#[],by rw [Ae (hm b _ q fun z=>z),q];simp⟩⟩
 by_cases hbe:b=e
 ·subst hbe;exact heo
 ·exact⟨u,k b u hbe q⟩
end
noncomputable def trk (h:Heap) (H:Hp):List Addr:=(bO h.objs.size).filter fun a=>(H a).isSome
noncomputable def Mf (h:Heap) (H:Hp):Heap:=PySem.W.hideAll h (trk h H)
theorem Vg (h:Heap) (H:Hp):(Mf h H).objs.size=h.objs.size:=PySem.W.hideAll_size _ _
theorem Y5 {h:Heap} {H:Hp} {b:Addr} {o:Obj} (e:h.get? b=some o) (n:H b=none):(Mf h H).get? b=some o:=
 PySem.W.hideAll_get _ e fun hm=>by
  have q:(H b).isSome=true:=(List.mem_filter.mp hm).2
  rw [n] at q;simp at q
theorem al3 {h:Heap} {H:Hp} {b:Addr} {o:Obj} (e:(Mf h H).get? b=some o):h.get? b=some o/\H b=none:=by
 have e':h.get? b=some o:=PySem.W.of_hideAll (trk h H) e
 refine⟨e',?_⟩
 cases q:H b with
 | none=>rfl
 | some x=>
  have hm:b∈trk h H:=List.mem_filter.mpr ⟨List.mem_range.mpr (au e'),by simp [q]⟩
  have z:(Mf h H).get? b=none:=PySem.W.hideAll_none (trk h H) hm
  rw [z] at e;cases e
structure Mod (K:aa) (mg:Str->Option Value) (base:Heap):Prop where
 kin:K.In base
 glob:base.Ns aM mg
 blt:∃ mb,base.Ns builtinsNs mb /\ ∀ x:Str,x ≠ "__name__" -> mb x=dm x
 nolimit:base.NoLimit
structure Cx where
 prog:aO
 w:bM
 K:aa
 mg:Str->Option Value
 base:Heap
 A:aX
 N:List Str
 s₀:ag
 H₀:Hp
 env:Env
 outer:List Env
 stack:List Env
 ex:List Addr
 fn:Str->Bool
 calm:Bool
 pn:List (Addr×Obj)
 xe:Value->ag->Prop
noncomputable def frs (l:List Env):List Addr:=l.filterMap (·.frame)
noncomputable abbrev Cx.fs (X:Cx):List Addr:=frs X.outer
noncomputable def Vis (sc:Scope) (x:Str):Prop:=sc.names.lookup x=some .local\/sc.names.lookup x=some .cell\/sc.names.lookup x=some .free
noncomputable def Loc (sc:Scope) (x:Str):Prop:=sc.names.lookup x=some .local\/sc.names.lookup x=some .cell
noncomputable def by3 (env:Env) (h:Heap) (m:Str->Option Value) (x:Str) (u:Value):Prop:=
 (env.kindOf x=some .local/\m x=some u)\/((env.kindOf x=some .cell\/env.kindOf x=some .free) /\ ∃ c,env.cells.lookup x=some c/\h.IsCell c (some u))
noncomputable def Ko (K:aa) (n:Nat):Prop:=∀ x y t,aW K aM x=some (some (.str y t))->t<n
structure Cx.Ok (X:Cx):Prop where
 mod:Mod X.K X.mg X.base
 kind:X.env.scope.kind=.function
 glob:X.env.globals=aM
 blt:X.env.builtins=builtinsNs
 above:X.s₀.heap.objs.size<=X.env.locals
 inj:∀ x y c,X.env.cells.lookup x=some c->X.env.cells.lookup y=some c->x=y
 has:∀ x,(X.env.kindOf x=some .cell\/X.env.kindOf x=some .free) -> ∃ c,X.env.cells.lookup x=some c
 cab:∀ x c,X.fn x=true->X.env.cells.lookup x=some c->X.s₀.heap.objs.size<=c
 hd:X.calm=true->X.A.handled=none
 frames:X.A.frames=some X.stack
 stk:X.stack=X.outer\/(X.stack=X.env::X.outer/\X.env.frame=some X.env.locals)
 exf:∀ b∈X.ex,b≠X.env.locals /\ ∀ x c,X.env.cells.lookup x=some c->c≠b
 bs:∀ b o,X.base.get? b=some o->X.s₀.heap.get? b=some o/\X.H₀ b=none
 bsz:X.base.objs.size<=X.s₀.heap.objs.size
 noex:∀ b o,X.base.get? b=some o->b∉X.ex
 exfs:∀ b∈X.ex,b∉X.fs
 funs:X.s₀.heap.FunFrames X.base X.outer
 frf:∀ b∈X.fs,X.H₀ b=none
 tk:Ko X.K X.s₀.toks
structure Inv (X:Cx) (pins:List (Addr×Obj)) (σ:List (Option V)) (H:Hp) (s:ag):Prop where
 ok:X.Ok
 os:s.os=X.s₀.os/\X.s₀.toks<=s.toks
 bare:kf s.gens
 base:Un X.fs X.ex X.H₀ H X.s₀.heap s.heap
 loc:∃ m,s.heap.Ns X.env.locals m /\ ∀ (i:Nat) (x:Str) (v:V),X.N[i]? = some x->σ[i]? = some (some v)->Vis X.env.scope x -> ∃ u,RelV v u/\by3 X.env s.heap m x u
 cell:∀ x c,X.env.cells.lookup x=some c -> ∃ v,s.heap.IsCell c v
 free:H X.env.locals=none
 freeC:∀ x c,X.env.cells.lookup x=some c->H c=none
 pin:∀ p∈X.pn++pins,s.heap.get? p.1=some p.2/\H p.1=none/\p.1≠X.env.locals/\p.1∉X.fs /\ ∀ v,p.2.data≠.cell v
 hok:HOk X.prog X.w H s.heap
 len:σ.length=X.N.length
section
variable {X:Cx} {pins:List (Addr×Obj)} {σ:List (Option V)} {H H':Hp} {s:ag} {h':Heap}
theorem Cx.Ok.nofr (ok:X.Ok) {b:Addr} {o:Obj} (e:X.base.get? b=some o):b∉X.fs:=fun hb=>by
 have:=(ok.funs.mem hb).1
 rw [e] at this;cases this
theorem Inv.bs (I:Inv X pins σ H s):∀ b o,X.base.get? b=some o->s.heap.get? b=some o/\H b=none:=fun b o e=>
 ⟨I.base.keep b o (I.ok.bs b o e).1 (I.ok.bs b o e).2 (I.ok.nofr e) (I.ok.noex b o e),I.base.free b o (I.ok.bs b o e).1 (I.ok.bs b o e).2 (I.ok.noex b o e)⟩
theorem Inv.bk (I:Inv X pins σ H s):∀ b o,X.base.get? b=some o->s.heap.get? b=some o:=fun b o e=>(I.bs b o e).1
theorem Inv.mod (I:Inv X pins σ H s):Mod X.K X.mg X.base:=I.ok.mod
theorem Inv.kIn (I:Inv X pins σ H s):X.K.In s.heap:=I.ok.mod.kin.keeps I.bk
theorem Inv.lt (I:Inv X pins σ H s):X.env.locals<s.heap.objs.size:=let ⟨_,hn,_⟩:=I.loc;hn.lt
theorem Inv.sz (I:Inv X pins σ H s):X.s₀.heap.objs.size<=s.heap.objs.size:=aR I.ok.above (lA I.lt)
theorem Inv.nofs (I:Inv X pins σ H s) {a:Addr} (h:s.heap.objs.size<=a):a∉X.fs:=fun hb=>by
 obtain⟨_,o,ho,_⟩:=I.ok.funs.mem hb
 exact absurd (av (au ho) (aR I.sz h)) (e8 _)
theorem Inv.cne (I:Inv X pins σ H s):∀ x c,X.env.cells.lookup x=some c->c≠X.env.locals:=fun x c e z=>by
 obtain⟨v,o,ho,hd⟩:=I.cell x c e
 obtain⟨m,⟨o',es,ep,ho',hd',_⟩,_⟩:=I.loc
 rw [z,ho'] at ho;cases ho;rw [hd'] at hd;cases hd
theorem Inv.funs (I:Inv X pins σ H s):s.heap.FunFrames X.base X.outer:=by
 have all:∀ (l:List Env),(∀ b∈frs l,b∈X.fs)->X.s₀.heap.FunFrames X.base l->s.heap.FunFrames X.base l:=by
  intro l
  induction l with
  | nil=>intro _ _;trivial
  | cons env r ih=>
   intro hs hl
   obtain⟨hk,⟨L,o,hf,hn,ho,hd⟩,hr⟩:=hl
   have hL:L∈X.fs:=hs L (by unfold frs;rw [gQ,hf];exact bC)
   obtain⟨sl,e⟩:=I.base.slot L o ho (I.ok.frf L hL) hL fun z=>I.ok.exfs L z hL
   exact⟨hk,⟨L,_,hf,hn,e,hd⟩,ih (fun b hb=>hs b (by unfold frs;rw [gQ,hf];exact aJ _ hb)) hr⟩
 exact all X.outer (fun _ hb=>hb) I.ok.funs
theorem Inv.stack (I:Inv X pins σ H s):s.heap.FunFrames X.base X.stack:=by
 rcases I.ok.stk with e|⟨e,hf⟩
 ·rw [e];exact I.funs
 ·rw [e]
  obtain⟨m,hn,_⟩:=I.loc
  refine .cons (by rw [I.ok.kind];decide) hf hn ?_ I.funs
  exact gz (aR I.ok.bsz I.ok.above)
theorem Inv.stkSub (I:Inv X pins σ H s):∀ b∈frs X.stack,b∈X.env.locals::X.fs:=fun b hb=>by
 rcases I.ok.stk with e|⟨e,hf⟩
 ·rw [e] at hb;exact aJ _ hb
 ·rw [e] at hb
  unfold frs at hb
  rw [gQ,hf] at hb
  exact hb
theorem Inv.stkFree (I:Inv X pins σ H s):∀ b∈frs X.stack,H b=none:=fun b hb=>by
 rcases List.mem_cons.mp (I.stkSub b hb) with e|hb
 ·rw [e];exact I.free
 ·obtain⟨_,o,ho,_⟩:=I.ok.funs.mem hb
  exact I.base.free b o ho (I.ok.frf b hb) fun z=>I.ok.exfs b z hb
theorem Inv.step {g':Array jW} {t':Nat} {d':Drawn} {ch:List Addr} (I:Inv X pins σ H s)
  (hch:∀ b∈ch,(b∈X.ex\/X.s₀.heap.objs.size<=b)/\b≠X.env.locals/\(∀ x c,X.env.cells.lookup x=some c->c≠b) /\ ∀ p∈X.pn++pins,p.1≠b)
  (keep:∀ b o,b≠X.env.locals->b∉X.fs->b∉ch->s.heap.get? b=some o->H b=none->h'.get? b=some o)
  (slot:∀ b o,b≠X.env.locals->b∈X.fs->b∉ch->s.heap.get? b=some o->H b=none -> ∃ sl,h'.get? b=some { o with slots:=sl }) (free:∀ b o,b∉ch->s.heap.get? b=some o->H b=none->H' b=none)
  (there:∀ b o,b∉ch->s.heap.get? b=some o -> ∃ o',h'.get? b=some o')
  (tups:∀ b xs,H b=some (.tup xs)->H' b=some (.tup xs)) (frzs:∀ b o u,H b=some (.frz o u)->H' b=some (.frz o u)) (tbls:∀ b ps,H b=some (.tbl ps) -> ∃ more,H' b=some (.tbl (ps++more)))
  (ns:∀ m,s.heap.Ns X.env.locals m->h'.Ns X.env.locals m) (hok:HOk X.prog X.w H' h') (hg:kf g') (ht:s.toks<=t':=by first|exact af _|exact aB _ _|assumption|omega|(dsimp only;omega)) :
  Inv X pins σ H' { s with heap:=h',gens:=g',drawn:=d',toks:=t' }:=by
 have neL:∀ b o,X.s₀.heap.get? b=some o->b≠X.env.locals:=fun b o e=>aA (av (au e) I.ok.above)
 have neC:∀ b o,X.s₀.heap.get? b=some o->b∉X.ex->b∉ch:=fun b o e hx hb=>by
  rcases (hch b hb).1 with z|z
  ·exact hx z
  ·exact absurd (av (au e) z) (e8 _)
 have cellK:∀ x c,X.env.cells.lookup x=some c -> ∀ v,s.heap.IsCell c v->h'.IsCell c v:=fun x c e v ⟨o,ho,hd⟩=>by
  have nch:c∉ch:=fun z=>(hch c z).2.2.1 x c e rfl
  by_cases hc:c∈X.fs
  ·obtain⟨sl,q⟩:=slot c o (I.cne x c e) hc nch ho (I.freeC x c e)
   exact⟨_,q,hd⟩
  ·exact⟨o,keep c o (I.cne x c e) hc nch ho (I.freeC x c e),hd⟩
 refine⟨I.ok,⟨I.os.1,aR I.os.2 ht⟩,hg,⟨fun b o e n hb hx=>?_,fun b o e n hb hx=>?_,fun b o e n hx=>?_,fun b o e hx=>?_,fun b xs e=>tups b xs (I.base.tups b xs e),fun b o xs e=>frzs b o xs (I.base.frzs b o xs e),fun b ps e=>?_⟩,?_,fun x c e=>?_,?_,fun x c e=>?_,fun p hp=>?_,hok,I.len⟩
 ·exact keep b o (neL b o e) hb (neC b o e hx) (I.base.keep b o e n hb hx) (I.base.free b o e n hx)
 ·obtain⟨sl,e1⟩:=I.base.slot b o e n hb hx
  obtain⟨sl',e2⟩:=slot b _ (neL b o e) hb (neC b o e hx) e1 (I.base.free b o e n hx)
  exact⟨sl',e2⟩
 ·obtain⟨o',e1⟩:=I.base.there b o e hx
  exact free b o' (neC b o e hx) e1 (I.base.free b o e n hx)
 ·obtain⟨o',e1⟩:=I.base.there b o e hx
  exact there b o' (neC b o e hx) e1
 ·obtain⟨m1,e1⟩:=I.base.tbls b ps e
  obtain⟨m2,e2⟩:=tbls b _ e1
  exact⟨m1++m2,by rw [e2,Array.append_assoc]⟩
 ·obtain⟨m,hn,hl⟩:=I.loc
  refine⟨m,ns m hn,fun i x v e1 e2 e3=>?_⟩
  obtain⟨u,r,l⟩:=hl i x v e1 e2 e3
  refine⟨u,r,?_⟩
  rcases l with l|⟨k,c,e,z⟩
  ·exact .inl l
  ·exact .inr ⟨k,c,e,cellK x c e _ z⟩
 ·obtain⟨v,z⟩:=I.cell x c e
  exact⟨v,cellK x c e v z⟩
 ·obtain⟨m,⟨o,_,_,ho,_⟩,_⟩:=I.loc
  exact free _ o (fun z=>(hch _ z).2.1 rfl) ho I.free
 ·obtain⟨v,o,ho,hd⟩:=I.cell x c e
  exact free c o (fun z=>(hch c z).2.2.1 x c e rfl) ho (I.freeC x c e)
 ·obtain⟨e,n,ne,nf,d⟩:=I.pin p hp
  have nch:p.1∉ch:=fun z=>(hch p.1 z).2.2.2 p hp rfl
  exact⟨keep p.1 p.2 ne nf nch e n,free p.1 p.2 nch e n,ne,nf,d⟩
theorem Inv.un {t':Nat} (I:Inv X pins σ H s) (u:Un X.fs [] H H' s.heap h') (hok:HOk X.prog X.w H' h') (ht:s.toks<=t':=by first|exact af _|exact aB _ _|assumption|omega|(dsimp only;omega)):Inv X pins σ H' { s with heap:=h',toks:=t' }:=by
 obtain⟨m,⟨o,es,ep,ho,r⟩,_⟩:=id I.loc
 obtain⟨sl,hL⟩:=u.any ho I.free (by simp)
 exact I.step (g':=s.gens) (d':=s.drawn) (ch:=[]) (fun _ z=>nomatch z) (fun b o _ hb _ e n=>u.keep b o e n hb (by simp)) (fun b o _ hb _ e n=>u.slot b o e n hb (by simp)) (fun b o _ e n=>u.free b o e n (by simp)) (fun b o _ e=>u.there b o e (by simp)) u.tups u.frzs u.tbls (fun m' hm=>by
  obtain⟨o',es',ep',ho',r'⟩:=hm
  rw [ho] at ho';cases ho'
  exact⟨_,es',ep',hL,r'⟩) hok I.bare
theorem Inv.call {g':Array jW} {t':Nat} {d':Drawn} {ch:List Addr} (I:Inv X pins σ H s) (u:Un (frs X.stack) ch H H' s.heap h') (hok:HOk X.prog X.w H' h') (hg:kf g')
  (hch:∀ b∈ch,(b∈X.ex\/X.s₀.heap.objs.size<=b)/\b≠X.env.locals/\(∀ x c,X.env.cells.lookup x=some c->c≠b) /\ ∀ p∈X.pn++pins,p.1≠b) (ht:s.toks<=t':=by first|exact af _|exact aB _ _|assumption|omega|(dsimp only;omega)) :
  Inv X pins σ H' { s with heap:=h',gens:=g',drawn:=d',toks:=t' }:=by
 obtain⟨m,⟨o,es,ep,ho,r⟩,_⟩:=id I.loc
 obtain⟨sl,hL⟩:=u.any ho I.free fun z=>(hch _ z).2.1 rfl
 exact I.step (ch:=ch) hch (fun b o hL hb hc e n=>u.keep b o e n (fun z=>(List.mem_cons.mp (I.stkSub b z)).elim hL hb) hc) (fun b o _ _ hc e n=>u.any e n hc) (fun b o hc e n=>u.free b o e n hc) (fun b o hc e=>u.there b o e hc) u.tups u.frzs u.tbls (fun m' hm=>by
  obtain⟨o',es',ep',ho',r'⟩:=hm
  rw [ho] at ho';cases ho'
  exact⟨_,es',ep',hL,r'⟩) hok hg
theorem Inv.turned {t':Nat} {it:Addr} (I:Inv X pins σ H s) (k:∀ b o,b≠it->s.heap.get? b=some o->h'.get? b=some o) (hn:H it=none) (hL:it≠X.env.locals)
  (h1:it∈X.ex\/X.s₀.heap.objs.size<=it) (h2:∀ x c,X.env.cells.lookup x=some c->c≠it) (h3:∀ p∈X.pn++pins,p.1≠it) (ht:s.toks<=t':=by first|exact af _|exact aB _ _|assumption|omega|(dsimp only;omega)):Inv X pins σ H { s with heap:=h',toks:=t' }:=by
 have nit:∀ b u,H b=some u->b≠it:=fun b u e z=>by rw [z,hn] at e;cases e
 refine I.step (g':=s.gens) (d':=s.drawn) (ch:=[it]) (fun b hb=>?_) (fun b o _ _ hc e _=>k b o (fun z=>hc (by simp [z])) e) (fun b o _ _ hc e _=>⟨o.slots,k b o (fun z=>hc (by simp [z])) e⟩) (fun _ _ _ _ n=>n)
  (fun b o hc e=>⟨o,k b o (fun z=>hc (by simp [z])) e⟩) (fun _ _ e=>e) (fun _ _ _ e=>e) (fun b ps e=>⟨#[],by rw [e];simp⟩) (fun m hm=>?_) (fun b u e=>?_) I.bare
 ·have e:b=it:=by simpa using hb
  subst e
  exact⟨h1,hL,h2,h3⟩
 ·obtain⟨o,es,ep,ho,r⟩:=hm
  exact⟨o,es,ep,k _ o (cx hL) ho,r⟩
 ·refine (I.hok b u e).stay (fun c v hc q=>k c v ?_ q) (fun _ q=>q) fun _ _ q=>q
  rcases hc with z|z
  ·rw [z];exact nit b u e
  ·exact nit c _ z
theorem Inv.tok (I:Inv X pins σ H s) (t:Nat) (ht:s.toks<=t:=by first|exact af _|exact aB _ _|assumption|omega|(dsimp only;omega)):Inv X pins σ H { s with toks:=t }:=I.un (h':=s.heap) (t':=t) Un.refl I.hok ht
theorem Inv.kept {t':Nat} (I:Inv X pins σ H s) (k:∀ b u,s.heap.get? b=some u->h'.get? b=some u) (ht:s.toks<=t':=by first|exact af _|exact aB _ _|assumption|omega|(dsimp only;omega)):Inv X pins σ H { s with heap:=h',toks:=t' }:=I.un (Un.kept k) (I.hok.kept k) ht
theorem Inv.laid {a:Addr} {o:HO} {t':Nat} (I:Inv X pins σ H s) (k:∀ b u,s.heap.get? b=some u->h'.get? b=some u) (hp:s.heap.objs.size<=a) (new:ObjOk X.prog X.w (upd H a o) h' a o) (ht:s.toks<=t':=by first|exact af _|exact aB _ _|assumption|omega|(dsimp only;omega)) :
  Inv X pins σ (upd H a o) { s with heap:=h',toks:=t' }:=I.un (Un.laid k hp (I.hok.fresh hp)) (I.hok.laid k hp new) ht
theorem Inv.write {x e:Addr} {o:HO} {t':Nat} (I:Inv X pins σ H s) (mu:Mut (H x)) (he:e=x\/H e=some (.own x)) (k:∀ b u,b≠e->s.heap.get? b=some u->h'.get? b=some u) (heo:∃ u,h'.get? e=some u)
  (new:ObjOk X.prog X.w (upd H x o) h' x o) (ht:s.toks<=t':=by first|exact af _|exact aB _ _|assumption|omega|(dsimp only;omega)):Inv X pins σ (upd H x o) { s with heap:=h',toks:=t' }:=I.un (Un.write mu he k heo) (I.hok.write mu he k heo new) ht
theorem Inv.pins_of {pins':List (Addr×Obj)} (I:Inv X pins σ H s) (h:∀ p∈pins',s.heap.get? p.1=some p.2/\H p.1=none/\p.1≠X.env.locals/\p.1∉X.fs /\ ∀ v,p.2.data≠.cell v):Inv X pins' σ H s:=
 ⟨I.ok,I.os,I.bare,I.base,I.loc,I.cell,I.free,I.freeC,fun p hp=>(List.mem_append.mp hp).elim (fun z=>I.pin p (fg _ z)) (h p),I.hok,I.len⟩
theorem Jb {N:List Str} (hN:N.Nodup) {i j:Nat} {x:Str} (a:N[i]? = some x) (b:N[j]? = some x):i=j:=by
 obtain⟨h1,e1⟩:=List.getElem?_eq_some_iff.mp a
 obtain⟨h2,e2⟩:=List.getElem?_eq_some_iff.mp b
 exact (List.getElem_inj hN).mp (e1.trans e2.symm)
theorem Wk {M:mw} {A:aX} {E:Value->ag->Prop} {i:Nat} {x:Str} {v:V} {u:Value} {Q:Unit->ag->Prop} (I:Inv X pins σ H s) (hN:X.N.Nodup) (hi:X.N[i]? = some x) (hx:Loc X.env.scope x) (r:RelV v u)
  (h:∀ s',Inv X pins (σ.set i (some v)) H s'->(∃ a,aV a s.heap s'.heap/\(a=X.env.locals\/X.env.cells.lookup x=some a))->Q () s') (hf:X.fn x=true\/X.env.scope.names.lookup x=some .local:=by first|exact .inl rfl|exact .inr rfl|assumption):ay M A (storeName X.env x u) Q E s:=by
 obtain⟨m,hn,hl⟩:=id I.loc
 have hcls:(X.env.scope.kind==.class||(X.env.scope.kind==.module&&X.env.locals != X.env.globals))=false:=by rw [I.ok.kind];rfl
 have hiσ:i<σ.length:=by rw [I.len];exact (List.getElem?_eq_some_iff.mp hi).1
 have cne:=I.cne
 have tracked:∀ {a:Addr} {h':Heap},(∃ o,s.heap.get? a=some o/\H a=none)->aV a s.heap h'->HOk X.prog X.w H h':=fun {a h'} ha hs b ob e=>by
  obtain⟨_,_,hfree⟩:=ha
  refine (I.hok b ob e).stay (fun c w' hc q=>(hs.2 c ?_).trans q) (fun _ q=>q) fun _ _ q=>q
  rintro rfl
  rcases hc with rfl|hc
  ·rw [hfree] at e;cases e
  ·rw [hfree] at hc;cases hc
 rcases hx with hk|hk
 ·refine wpAny_storeName_local hk hn (fun h' hn' hs=>?_) hcls
  obtain⟨oL,_,_,hoL,_⟩:=id hn
  refine h _ ⟨I.ok,⟨I.os.1,aR I.os.2 (by first|exact af _|exact aB _ _)⟩,I.bare,⟨fun b o e n hb hx=>?_,fun b o e n hb hx=>?_,I.base.free,fun b o e hx=>?_,I.base.tups,I.base.frzs,I.base.tbls⟩,⟨_,hn',fun j y v' e1 e2 e3=>?_⟩,fun y c e=>?_,I.free,I.freeC,fun p hp=>?_,tracked ⟨oL,hoL,I.free⟩ hs,by simpa using I.len⟩ ⟨_,hs,.inl rfl⟩
  ·exact (hs.2 b (aA (av (au e) I.ok.above))).trans (I.base.keep b o e n hb hx)
  ·obtain⟨sl,e1⟩:=I.base.slot b o e n hb hx
   exact⟨sl,(hs.2 b (aA (av (au e) I.ok.above))).trans e1⟩
  ·obtain⟨o',e1⟩:=I.base.there b o e hx
   exact⟨o',(hs.2 b (aA (av (au e) I.ok.above))).trans e1⟩
  ·by_cases hj:j=i
   ·subst hj
    rw [hi] at e1;cases e1
    rw [fW hiσ] at e2
    cases e2
    exact⟨u,r,.inl ⟨hk,by simp⟩⟩
   ·rw [gA (cx hj)] at e2
    obtain⟨u',r',q⟩:=hl j y v' e1 e2 e3
    refine⟨u',r',?_⟩
    rcases q with ⟨k,e⟩|⟨k,c,e,z⟩
    ·refine .inl ⟨k,?_⟩
     have:y≠x:=fun e=>hj (Jb hN e1 (e▸hi))
     simp [this,e]
    ·exact .inr ⟨k,c,e,z.sameBut hs (cne y c e)⟩
  ·obtain⟨w',z⟩:=I.cell y c e
   exact⟨w',z.sameBut hs (cne y c e)⟩
  ·obtain⟨e,n,ne,nf,d⟩:=I.pin p hp
   exact⟨(hs.2 p.1 ne).trans e,n,ne,nf,d⟩
 ·have hfn:X.fn x=true:=by
   rcases hf with z|z
   ·exact z
   ·rw [z] at hk;cases hk
  obtain⟨c,hc⟩:=I.ok.has x (.inl hk)
  obtain⟨w',z⟩:=I.cell x c hc
  refine wpAny_storeName_cell I.ok.kind hk hc z (fun h' hc' hs=>?_)
  obtain⟨oc,hoc,hocd⟩:=id z
  refine h { s with heap:=h' } ⟨I.ok,I.os,I.bare,⟨fun b o e n hb hx=>?_,fun b o e n hb hx=>?_,I.base.free,fun b o e hx=>?_,I.base.tups,I.base.frzs,I.base.tbls⟩,⟨m,hn.sameBut hs (cx (cne x c hc)),fun j y v' e1 e2 e3=>?_⟩,fun y c' e=>?_,I.free,I.freeC,fun p hp=>?_,tracked ⟨oc,hoc,I.freeC x c hc⟩ hs,by simpa using I.len⟩ ⟨c,hs,.inr hc⟩
  ·exact (hs.2 b (aA (av (au e) (I.ok.cab x c hfn hc)))).trans (I.base.keep b o e n hb hx)
  ·obtain⟨sl,e1⟩:=I.base.slot b o e n hb hx
   exact⟨sl,(hs.2 b (aA (av (au e) (I.ok.cab x c hfn hc)))).trans e1⟩
  ·obtain⟨o',e1⟩:=I.base.there b o e hx
   exact⟨o',(hs.2 b (aA (av (au e) (I.ok.cab x c hfn hc)))).trans e1⟩
  ·by_cases hj:j=i
   ·subst hj
    rw [hi] at e1;cases e1
    rw [fW hiσ] at e2
    cases e2
    exact⟨u,r,.inr ⟨.inl hk,c,hc,hc'⟩⟩
   ·rw [gA (cx hj)] at e2
    obtain⟨u',r',q⟩:=hl j y v' e1 e2 e3
    refine⟨u',r',?_⟩
    rcases q with q|⟨k,c',e,z'⟩
    ·exact .inl q
    ·refine .inr ⟨k,c',e,z'.sameBut hs ?_⟩
     rintro rfl
     exact hj (Jb hN e1 (I.ok.inj _ _ _ e hc▸hi))
  ·by_cases hcc:c'=c
   ·subst hcc;exact⟨_,hc'⟩
   ·obtain⟨w2,z2⟩:=I.cell y c' e
    exact⟨w2,z2.sameBut hs hcc⟩
  ·obtain⟨e,n,ne,nf,d⟩:=I.pin p hp
   refine⟨(hs.2 p.1 ?_).trans e,n,ne,nf,d⟩
   intro q
   rw [q,hoc] at e
   have q':oc=p.2:=aK e
   exact d w' (by rw [<- q'];exact hocd)
theorem Ft {M:mw} {A:aX} {E:Value->ag->Prop} {i:Nat} {x:Str} {v:V} {u:Value} {Q:Unit->ag->Prop} (I:Inv X pins σ H s) (hN:X.N.Nodup) (hi:X.N[i]? = some x) (hx:Loc X.env.scope x) (r:RelV v u)
  (h:∀ s',Inv X pins (σ.set i (some v)) H s'->Q () s') (hf:X.fn x=true\/X.env.scope.names.lookup x=some .local:=by first|exact .inl rfl|exact .inr rfl|assumption):ay M A (storeName X.env x u) Q E s:=
 Wk I hN hi hx r (fun s' I' _=>h s' I') hf
theorem Inv.call' {s':ag} {ch:List Addr} (I:Inv X pins σ H s) (ho:s'.os=s.os/\s.toks<=s'.toks) (u:Un (frs X.stack) ch H H' s.heap s'.heap) (hok:HOk X.prog X.w H' s'.heap) (hg:kf s'.gens)
  (hch:∀ b∈ch,(b∈X.ex\/X.s₀.heap.objs.size<=b)/\b≠X.env.locals/\(∀ x c,X.env.cells.lookup x=some c->c≠b) /\ ∀ p∈X.pn++pins,p.1≠b):Inv X pins σ H' s':=by
 obtain⟨h',g',d',t',o'⟩:=s'
 have e:o'=s.os:=ho.1
 subst e
 exact I.call (g':=g') (t':=t') (d':=d') u hok hg hch ho.2
end
noncomputable abbrev XK:=Value->Option Addr->Hp->Prop
noncomputable abbrev St:=List (Option V)
noncomputable abbrev VK:=V->Hp->Prop
noncomputable abbrev TE:=St->Hp->VK->Prop
noncomputable abbrev TT:=St->Hp->(Bool->Hp->Prop)->Prop
noncomputable abbrev TA:=St->Hp->(List V->Hp->Prop)->Prop
structure J5 where
 nx:St->Hp->Prop
 rt:VK
 bk:St->Hp->Prop:=fun _ _=>False
 ct:St->Hp->Prop:=fun _ _=>False
noncomputable abbrev TS:=J5->St->Hp->Prop
noncomputable def EP (X:Cx) (pins:List (Addr×Obj)) (σ:St) (Q:VK) (u:Value) (s':ag):Prop:=∃ v H',Inv X pins σ H' s'/\RelV v u/\Q v H'
noncomputable def TP (X:Cx) (pins:List (Addr×Obj)) (σ:St) (Q:Bool->Hp->Prop) (b:Bool) (s':ag):Prop:=∃ H',Inv X pins σ H' s'/\Q b H'
noncomputable def AP (X:Cx) (pins:List (Addr×Obj)) (σ:St) (Q:List V->Hp->Prop) (us:List Value) (s':ag):Prop:=∃ vs H',Inv X pins σ H' s'/\Vals vs us/\Q vs H'
noncomputable def SP (X:Cx) (pins:List (Addr×Obj)) (D:J5) (f:Flow) (s':ag):Prop:=
 match f with
 | .next=>∃ σ' H',Inv X pins σ' H' s'/\D.nx σ' H'
 | .brk=>∃ σ' H',Inv X pins σ' H' s'/\D.bk σ' H'
 | .cont=>∃ σ' H',Inv X pins σ' H' s'/\D.ct σ' H'
 | .ret u=>∃ v σ' H',Inv X pins σ' H' s'/\RelV v u/\D.rt v H'
noncomputable def PE (X:Cx) (e:Expr) (t:TE):Prop:=
 ∀ (pins:List (Addr×Obj)) (s:ag) (σ:St) (H:Hp) (Q:VK),Inv X pins σ H s->t σ H Q->ay (model X.prog X.w) X.A (eval e X.env) (EP X pins σ Q) X.xe s
noncomputable def PT (X:Cx) (e:Expr) (t:TT):Prop:=
 ∀ (pins:List (Addr×Obj)) (s:ag) (σ:St) (H:Hp) (Q:Bool->Hp->Prop),Inv X pins σ H s->t σ H Q->ay (model X.prog X.w) X.A (isTrue e X.env (eval e X.env)) (TP X pins σ Q) X.xe s
noncomputable def PW (X:Cx) (e:Expr) (t:TT):Prop:=
 ∀ (whole:Sem Value) (pins:List (Addr×Obj)) (s:ag) (σ:St) (H:Hp) (Q:Bool->Hp->Prop),Inv X pins σ H s->t σ H Q->ay (model X.prog X.w) X.A (isTrue e X.env whole) (TP X pins σ Q) X.xe s
theorem PW.pt {X:Cx} {e:Expr} {t:TT} (h:PW X e t):PT X e t:=h _
noncomputable def PA (X:Cx) (es:List Expr) (t:TA):Prop:=
 ∀ (pos:Pos) (pins:List (Addr×Obj)) (s:ag) (σ:St) (H:Hp) (Q:List V->Hp->Prop),Inv X pins σ H s->t σ H Q->ay (model X.prog X.w) X.A (mo (ib pos (cU es X.env))) (AP X pins σ Q) X.xe s
noncomputable def PS (X:Cx) (st:Stmt) (t:TS):Prop:=
 ∀ (pins:List (Addr×Obj)) (s:ag) (σ:St) (H:Hp) (D:J5),Inv X pins σ H s->t D σ H->ay (model X.prog X.w) X.A (exec st X.env) (SP X pins D) X.xe s
noncomputable def PSs (X:Cx) (st:List Stmt) (t:TS):Prop:=
 ∀ (pins:List (Addr×Obj)) (s:ag) (σ:St) (H:Hp) (D:J5),Inv X pins σ H s->t D σ H->ay (model X.prog X.w) X.A (execs st X.env) (SP X pins D) X.xe s
theorem thn {α:Type} {t:Sem α} {Q Q':α->ag->Prop} {M:mw} {A:aX} {E:Value->ag->Prop} {s:ag} (h:ay M A t Q E s) (hQ:∀ a s,Q a s->Q' a s):ay M A t Q' E s:=cA h hQ fun _ _ x=>x
section
variable {X:Cx}
noncomputable def b13 (i:Nat):TE:=fun σ H Q=>∃ v,σ[i]? = some (some v)/\Q v H
noncomputable def tC (v:V):TE:=fun _ H Q=>Q v H
theorem a62 {i:Nat} {x:Str} {pos:Pos} (hN:X.N[i]? = some x) (hv:Vis X.env.scope x) (hd:(x==("__debug__" : Str))=false:=by decide) (hcd:(x==("__classdict__" : Str))=false:=by decide):PE X (.Name x pos) (b13 i):=by
 intro pins s σ H Q I h
 obtain⟨v,e,h⟩:=h
 obtain⟨m,hn,hl⟩:=I.loc
 obtain⟨u,r,l⟩:=hl i x v hN e hv
 have fin:EP X pins σ Q u s:=⟨v,H,I,r,h⟩
 rcases l with ⟨hk,hm⟩|⟨hk,c,hc,hcell⟩
 ·exact wpAny_Name (wpAny_loadName_local I.ok.kind hk hn hm fin) hd
 ·rcases hk with hk|hk
  ·exact wpAny_Name (wpAny_loadName_cell I.ok.kind hk hc hcell fin) hd
  ·exact wpAny_Name (wpAny_loadName_free I.ok.kind hk hc hcell fin hcd) hd
theorem a56 {i j pos}:PE X (.Constant (.int i) j pos) (tC (.int i)):=fun _ _ _ H _ I h=>wpAny_Constant_int ⟨.int i,H,I.tok _,⟨_,rfl⟩,h⟩
theorem bm2 {b j pos}:PE X (.Constant (.bool b) j pos) (tC (.bl b)):=fun _ _ _ H _ I h=>Constant_bool ⟨.bl b,H,I,rfl,h⟩
theorem a58 {j pos}:PE X (.Constant .none j pos) (tC .non):=fun _ _ _ H _ I h=>Constant_none ⟨.non,H,I,rfl,h⟩
theorem a60 {x j pos}:PE X (.Constant (.str x) j pos) (tC (.str x)):=fun _ _ _ H _ I h=>Calls.Constant_str ⟨.str x,H,I.tok _,⟨_,rfl⟩,h⟩
noncomputable def Gl (X:Cx) (x:Str):Prop:=X.env.kindOf x=some .globalImplicit
theorem Cw {E:Value->ag->Prop} {pins:List (Addr×Obj)} {s:ag} {σ:St} {H:Hp} {x:Str} {u:Value} {pos:Pos} {Q:Value->ag->Prop} (I:Inv X pins σ H s) (hg:Gl X x) (hm:X.mg x=some u) (h:Q u s)
  (hd:(x==("__debug__" : Str))=false:=by decide):ay (model X.prog X.w) X.A (eval (.Name x pos) X.env) Q E s:=
 g9 I.ok.kind hg (Calls.loadGlobal_global (by rw [I.ok.glob];exact I.mod.glob.keeps I.bk) hm h) hd
theorem B2 {E:Value->ag->Prop} {pins:List (Addr×Obj)} {s:ag} {σ:St} {H:Hp} {x:Str} {u:Value} {pos:Pos} {Q:Value->ag->Prop} (I:Inv X pins σ H s) (hg:Gl X x) (hm:X.mg x=none) (hv:dm x=some u) (h:Q u s)
  (hn:x ≠ "__name__" := by decide) (hd:(x==("__debug__" : Str))=false:=by decide):ay (model X.prog X.w) X.A (eval (.Name x pos) X.env) Q E s:=by
 obtain⟨mb,h1,h2⟩:=I.mod.blt
 exact g9 I.ok.kind hg (Calls.loadGlobal_builtin (by rw [I.ok.glob];exact I.mod.glob.keeps I.bk) hm (by rw [I.ok.blt];exact h1.keeps I.bk) ((h2 x hn).trans hv) h) hd
theorem Mo {x:Str} {v:V} {u:Value} {pos:Pos} (hg:Gl X x) (hm:X.mg x=some u) (r:RelV v u) (hd:(x==("__debug__" : Str))=false:=by decide):PE X (.Name x pos) (tC v):=
 fun _ _ _ H _ I h=>Cw I hg hm ⟨v,H,I,r,h⟩ hd
theorem am4 {x:Str} {v:V} {u:Value} {pos:Pos} (hg:Gl X x) (hm:X.mg x=none) (hv:dm x=some u) (r:RelV v u) (hn:x ≠ "__name__" := by decide) (hd:(x==("__debug__" : Str))=false:=by decide):PE X (.Name x pos) (tC v):=
 fun _ _ _ H _ I h=>B2 I hg hm hv ⟨v,H,I,r,h⟩ hn hd
variable {a b:Expr} {ta tb:TE} {pos:Pos}
variable {tA tB':TT} {rest:List Expr}
noncomputable def b04 (t u:TT):TT:=fun σ H Q=>t σ H fun c H1=>if c=true then u σ H1 Q else Q false H1
noncomputable def tOr (t u:TT):TT:=fun σ H Q=>t σ H fun c H1=>if c=true then Q true H1 else u σ H1 Q
noncomputable def b09 (t:TT):TT:=fun σ H Q=>t σ H fun c H1=>Q (!c) H1
theorem an5 (ha:PT X a tA):PW X (.BoolOp .And [a] pos) tA:=by
 intro wh pins s σ H Q I h
 refine isTrue_and (thn (ha pins s σ H Q I h) fun c s1 e=>?_)
 cases c with
 | true=>exact isTrue_and_nil e
 | false=>exact e
theorem a70 (ha:PT X a tA):PW X (.BoolOp .Or [a] pos) tA:=by
 intro wh pins s σ H Q I h
 refine isTrue_or (thn (ha pins s σ H Q I h) fun c s1 e=>?_)
 cases c with
 | false=>exact isTrue_or_nil e
 | true=>exact e
theorem a69 (ha:PT X a tA) (hb:PW X (.BoolOp .And (b::rest) pos) tB'):PW X (.BoolOp .And (a::b::rest) pos) (b04 tA tB'):=by
 intro wh pins s σ H Q I h
 refine isTrue_and (thn (ha pins s σ H _ I h) fun c s1 ⟨H1,I1,q1⟩=>?_)
 cases c with
 | true=>exact hb wh pins s1 σ H1 Q I1 q1
 | false=>exact⟨H1,I1,q1⟩
theorem bm8 (ha:PT X a tA) (hb:PW X (.BoolOp .Or (b::rest) pos) tB'):PW X (.BoolOp .Or (a::b::rest) pos) (tOr tA tB'):=by
 intro wh pins s σ H Q I h
 refine isTrue_or (thn (ha pins s σ H _ I h) fun c s1 ⟨H1,I1,q1⟩=>?_)
 cases c with
 | true=>exact⟨H1,I1,q1⟩
 | false=>exact hb wh pins s1 σ H1 Q I1 q1
theorem a68 (ha:PT X a tA):PT X (.UnaryOp .Not a pos) (b09 tA):=by
 intro pins s σ H Q I h
 exact isTrue_not (ha pins s σ H (fun c H1=>Q (!c) H1) I h)
theorem a59 {op} {t:TE} (h:PE X a t):PE X (.BoolOp op [a] pos) t:=fun pins s σ H Q I hw=>BoolOp_one (h pins s σ H Q I hw)
noncomputable def tIf (t:TT) (ta tb:TE):TE:=fun σ H Q=>t σ H fun c H1=>if c=true then ta σ H1 Q else tb σ H1 Q
theorem Z3 {c:Expr} (hc:PT X c tA) (ha:PE X a ta) (hb:PE X b tb):PE X (.IfExp c a b pos) (tIf tA ta tb):=by
 intro pins s σ H Q I h
 refine wpAny_IfExp (thn (hc pins s σ H _ I h) fun d s1 ⟨H1,I1,q1⟩=>?_)
 cases d with
 | true=>exact ha pins s1 σ H1 Q I1 q1
 | false=>exact hb pins s1 σ H1 Q I1 q1
end
noncomputable def SqL (K:aa) (H:Hp) (a:Addr) (xs:List V):Prop:=
 Rd H a (.lst xs) \/
  ∃ (o:Obj) (its:Array Value) (n:Nat),K.lookup a=some o/\o.cls=.type "list" /\ o.dict=none/\o.data=.seq its n/\its.size<=sizeLine/\xs.all V.pl=true/\Vals xs its.toList
noncomputable def SqT (K:aa) (H:Hp) (a:Addr) (xs:List V):Prop:=
 Rd H a (.tup xs) \/
  ∃ (o:Obj) (its:Array Value) (n:Nat),K.lookup a=some o/\o.cls=.type "tuple" /\ o.data=.seq its n/\its.size<=sizeLine/\xs.all V.pl=true/\Vals xs its.toList
noncomputable def a02:Value->Option V
 | .none=>some .non
 | .bool b=>some (.bl b)
 | .int i _=>some (.int i)
 | .str x _=>some (.str x)
 | .bytes b _=>some (.byt b)
 | .ref a=>some (.ref a)
 | .type n=>some (.ty n)
 | _=>none
theorem RelV.abs {x:V} {u:Value} (r:RelV x u) (p:x.pl=true):a02 u=some x:=by
 cases x with
 | non=>cases r;rfl
 | bl _=>cases r;rfl
 | int _=>obtain⟨t,rfl⟩:=r;rfl
 | str _=>obtain⟨t,rfl⟩:=r;rfl
 | byt _=>obtain⟨t,rfl⟩:=r;rfl
 | stk _ _ _=>cases p
 | ref _=>cases r;rfl
 | ty _=>cases r;rfl
theorem RelV.inj {x y:V} {u:Value} (r:RelV x u) (q:RelV y u) (p:x.pl=true) (p':y.pl=true):x=y:=aK ((r.abs p).symm.trans (q.abs p'))
theorem Vals.inj:∀ {xs ys:List V} {us:List Value},Vals xs us->Vals ys us->xs.all V.pl=true->ys.all V.pl=true->xs=ys
 | _,_,_,.nil,.nil,_,_=>rfl
 | _,_,_,.cons r t,.cons r' t',p,q=>by
  simp only [bw,ak] at p q
  rw [r.inj r' p.1 q.1,Vals.inj t t' p.2 q.2]
section
variable {X:Cx} {pins:List (Addr×Obj)} {σ:St} {H:Hp} {s:ag} {a:Addr} {xs ys:List V}
theorem SqL.of {K:aa} (h:H a=some (.lst xs)):SqL K H a xs:=.inl (.inl h)
theorem SqT.of {K:aa} (h:H a=some (.tup xs)):SqT K H a xs:=.inl (.inl h)
theorem Inv.list (I:Inv X pins σ H s) (h:SqL X.K H a xs):∃ its:List Value,Vals xs its/\PlainL s.heap a its.toArray/\xs.length<=sizeLine:=by
 rcases h with h|⟨o,its,n,hk,hc,hd,hs,hz,_,r⟩
 ·obtain⟨z,its,n,r,e⟩:=h.ok I.hok
  exact⟨its,r,⟨_,n,e,rfl,rfl,rfl⟩,z⟩
 ·refine⟨its.toList,r,⟨o,n,I.kIn a o hk,hc,hd,by simpa using hs⟩,?_⟩
  have e:=r.length
  simp only [cY] at e
  omega
theorem Inv.tuple (I:Inv X pins σ H s) (h:SqT X.K H a xs):∃ its:List Value,Vals xs its/\lJ s.heap a its.toArray/\xs.length<=sizeLine:=by
 rcases h with h|⟨o,its,n,hk,hc,hs,hz,_,r⟩
 ·obtain⟨z,its,r,p⟩:=h.ok I.hok
  exact⟨its,r,p,z⟩
 ·refine⟨its.toList,r,⟨o,I.kIn a o hk,hc,n,by simpa using hs⟩,?_⟩
  have e:=r.length
  simp only [cY] at e
  omega
theorem Inv.notK (I:Inv X pins σ H s) {o:HO} {ob:Obj} (h:Rd H a o) (e:X.K.lookup a=some ob):False:=by
 have n:=(I.bs a ob (I.mod.kin a ob e)).2
 rcases h with h|⟨u,h⟩
 ·rw [n] at h;cases h
 ·rw [n] at h;cases h
theorem Inv.list_inj (I:Inv X pins σ H s) (h:SqL X.K H a xs) (h':SqL X.K H a ys):xs=ys:=by
 rcases h with h|⟨o,its,n,hk,hc,hd,hs,hz,p,r⟩
 ·rcases h' with h'|⟨o',its',n',hk',hc',hd',hs',hz',p',r'⟩
  ·rcases h with h|⟨u,h⟩ <;> rcases h' with h'|⟨u',h'⟩ <;> (rw [h] at h';first|(cases h';rfl)|cases h')
  ·exact (I.notK h hk').elim
 ·rcases h' with h'|⟨o',its',n',hk',hc',hd',hs',hz',p',r'⟩
  ·exact (I.notK h' hk).elim
  ·rw [hk] at hk';cases hk'
   rw [hs] at hs';cases hs'
   exact r.inj r' p p'
theorem Inv.tuple_inj (I:Inv X pins σ H s) (h:SqT X.K H a xs) (h':SqT X.K H a ys):xs=ys:=by
 rcases h with h|⟨o,its,n,hk,hc,hs,hz,p,r⟩
 ·rcases h' with h'|⟨o',its',n',hk',hc',hs',hz',p',r'⟩
  ·rcases h with h|⟨u,h⟩ <;> rcases h' with h'|⟨u',h'⟩ <;> (rw [h] at h';first|(cases h';rfl)|cases h')
  ·exact (I.notK h hk').elim
 ·rcases h' with h'|⟨o',its',n',hk',hc',hs',hz',p',r'⟩
  ·exact (I.notK h' hk).elim
  ·rw [hk] at hk';cases hk'
   rw [hs] at hs';cases hs'
   exact r.inj r' p p'
end
noncomputable abbrev Cx.wish (X:Cx) (E:Value->ag->Prop):Cx:={ X with xe:=E }
noncomputable abbrev Cx.nox (X:Cx):Cx:=X.wish fun _ _=>False
theorem Cx.Ok.wish {X:Cx} (ok:X.Ok) (E:Value->ag->Prop):(X.wish E).Ok:=
 ⟨ok.mod,ok.kind,ok.glob,ok.blt,ok.above,ok.inj,ok.has,ok.cab,ok.hd,ok.frames,ok.stk,ok.exf,ok.bs,ok.bsz,ok.noex,ok.exfs,ok.funs,ok.frf,ok.tk⟩
theorem Cx.Ok.unwish {X:Cx} {E:Value->ag->Prop} (ok:(X.wish E).Ok):X.Ok:=
 ⟨ok.mod,ok.kind,ok.glob,ok.blt,ok.above,ok.inj,ok.has,ok.cab,ok.hd,ok.frames,ok.stk,ok.exf,ok.bs,ok.bsz,ok.noex,ok.exfs,ok.funs,ok.frf,ok.tk⟩
section
variable {X:Cx} {pins:List (Addr×Obj)} {σ:St} {H:Hp} {s:ag} {E:Value->ag->Prop}
theorem Inv.wish (I:Inv X pins σ H s) (E:Value->ag->Prop):Inv (X.wish E) pins σ H s:=⟨I.ok.wish E,I.os,I.bare,I.base,I.loc,I.cell,I.free,I.freeC,I.pin,I.hok,I.len⟩
theorem Inv.unwish (I:Inv (X.wish E) pins σ H s):Inv X pins σ H s:=⟨I.ok.unwish,I.os,I.bare,I.base,I.loc,I.cell,I.free,I.freeC,I.pin,I.hok,I.len⟩
theorem SP.unwish {D:J5} {f:Flow} {s':ag} (h:SP (X.wish E) pins D f s'):SP X pins D f s':=by
 cases f with
 | next=>obtain⟨σ',H',I,q⟩:=h;exact⟨σ',H',I.unwish,q⟩
 | brk=>obtain⟨σ',H',I,q⟩:=h;exact⟨σ',H',I.unwish,q⟩
 | cont=>obtain⟨σ',H',I,q⟩:=h;exact⟨σ',H',I.unwish,q⟩
 | ret u=>obtain⟨v,σ',H',I,r,q⟩:=h;exact⟨v,σ',H',I.unwish,r,q⟩
theorem PSs.nox {st:List Stmt} {t:TS} (h:PSs X.nox st t):PSs X st t:=fun pins s σ H D I hw=>
 cA (h pins s σ H D (I.wish _) hw) (fun _ _ q=>q.unwish) fun _ _ z=>cZ z
end
section
variable {X:Cx} {st:Stmt} {rest:List Stmt} {t u:TS} {e:Expr} {te:TE} {pos:Pos}
noncomputable def aw7:TS:=fun D σ H=>D.nx σ H
noncomputable def b11 (t u:TS):TS:=fun D σ H=>t { D with nx:=u D } σ H
theorem an4:PSs X [] aw7:=fun _ _ σ H _ I h=>g7 ⟨σ,H,I,h⟩
theorem aa5 (h1:PS X st t) (h2:PSs X rest u):PSs X (st::rest) (b11 t u):=by
 intro pins s σ H D I h
 refine wpAny_execs_cons (thn (h1 pins s σ H { D with nx:=u D } I h) fun f s1 q=>?_)
 cases f with
 | next=>
  obtain⟨σ',H',I',q⟩:=q
  exact h2 pins s1 σ' H' D I' q
 | ret v=>exact q
 | brk=>exact q
 | cont=>exact q
noncomputable def bd7:TS:=fun D σ H=>D.bk σ H
noncomputable def bu0:TS:=fun D σ H=>D.ct σ H
theorem an2:PS X (.Pass pos) aw7:=fun _ _ σ H _ I h=>wpAny_Pass ⟨σ,H,I,h⟩
theorem aa2:PS X (.Break pos) bd7:=fun _ _ σ H _ I h=>wpAny_Break ⟨σ,H,I,h⟩
theorem Ox:PS X (.Continue pos) bu0:=fun _ _ σ H _ I h=>wpAny_Continue ⟨σ,H,I,h⟩
theorem Inv.quiet {pins:List (Addr×Obj)} {σ:St} {H:Hp} {s:ag} (I:Inv X pins σ H s):interactive X.env=false:=by simp [interactive,I.ok.kind]
noncomputable def bu2 (te:TE):TS:=fun D σ H=>te σ H fun _ H1=>D.nx σ H1
theorem an1 (he:PE X e te) (hs:iL e none pos.line X.env=pure false:=by rfl):PS X (.Expr e pos) (bu2 te):=by
 intro pins s σ H D I h
 exact wpAny_Expr_any (thn (he pins s σ H _ I h) fun v s1 ⟨x,H1,I1,r1,q1⟩=>⟨σ,H1,I1,q1⟩) I.quiet hs
noncomputable def b10 (te:TE):TS:=fun D σ H=>te σ H D.rt
theorem a66 (he:PE X e te):PS X (.Return (some e) pos) (b10 te):=by
 intro pins s σ H D I h
 exact wpAny_Return_some (thn (he pins s σ H _ I h) fun v s1 ⟨x,H1,I1,r1,q1⟩=>⟨x,σ,H1,I1,r1,q1⟩)
noncomputable def bu3:TS:=fun D _ H=>D.rt .non H
theorem an3:PS X (.Return none pos) bu3:=fun _ _ σ H _ I h=>wpAny_Return_none ⟨.non,σ,H,I,rfl,h⟩
noncomputable def b06 (c:TT) (t u:TS):TS:=fun D σ H=>c σ H fun b H1=>if b=true then t D σ H1 else u D σ H1
theorem bm7 {c:Expr} {a b:List Stmt} {tc:TT} (hc:PT X c tc) (ha:PSs X a t) (hb:PSs X b u):PS X (.If c a b pos) (b06 tc t u):=by
 intro pins s σ H D I h
 refine wpAny_If (thn (hc pins s σ H _ I h) fun d s1 ⟨H1,I1,q1⟩=>?_)
 cases d with
 | true=>exact ha pins s1 σ H1 D I1 q1
 | false=>exact hb pins s1 σ H1 D I1 q1
end
noncomputable abbrev TG:=V->St->Hp->(St->Hp->Prop)->Prop
noncomputable abbrev TGs:=List V->St->Hp->(St->Hp->Prop)->Prop
noncomputable def PG (X:Cx) (target:Expr) (t:TG):Prop:=
 ∀ (pins:List (Addr×Obj)) (s:ag) (σ:St) (H:Hp) (v:V) (u:Value) (Q:St->Hp->Prop),Inv X pins σ H s->RelV v u->t v σ H Q ->
  ay (model X.prog X.w) X.A (lE target X.env u) (fun _ s'=>∃ σ' H',Inv X pins σ' H' s'/\Q σ' H') X.xe s
noncomputable def PGs (X:Cx) (ts:List Expr) (t:TGs):Prop:=
 ∀ (pins:List (Addr×Obj)) (s:ag) (σ:St) (H:Hp) (vs:List V) (us:List Value) (Q:St->Hp->Prop),Inv X pins σ H s->Vals vs us->t vs σ H Q ->
  ay (model X.prog X.w) X.A (assignInOrder ((dD ts X.env).map (·.2)) us) (fun _ s'=>∃ σ' H',Inv X pins σ' H' s'/\Q σ' H') X.xe s
noncomputable abbrev a01:=V->V->V->Hp->(Hp->Prop)->Prop
noncomputable def a00 (X:Cx) (t:a01):Prop:=
 ∀ (pins:List (Addr×Obj)) (s:ag) (σ:St) (H:Hp) (o i v:V) (ov iv u:Value) (Q:Hp->Prop),Inv X pins σ H s->RelV o ov->RelV i iv->RelV v u->t o i v H Q ->
  ay (model X.prog X.w) X.A (setItem ov iv u) (fun _ s'=>∃ H',Inv X pins σ H' s'/\Q H') X.xe s
section
variable {X:Cx} {pos:Pos}
noncomputable def Yx (i:Nat):TG:=fun v σ H Q=>Q (σ.set i (some v)) H
theorem am7 {i:Nat} {x:Str} (hN:X.N.Nodup) (hi:X.N[i]? = some x) (hx:Loc X.env.scope x) (hf:X.fn x=true\/X.env.scope.names.lookup x=some .local:=by first|exact .inl rfl|exact .inr rfl|assumption):PG X (.Name x pos) (Yx i):=by
 intro pins s σ H v u Q I r h
 exact wpAny_assign_Name (Ft I hN hi hx r (fun s' I'=>⟨_,H,I',h⟩) hf)
noncomputable def by7:TGs:=fun vs σ H Q=>vs=[]/\Q σ H
noncomputable def bh2 (t:TG) (u:TGs):TGs:=fun vs σ H Q=>∃ v r,vs=v::r/\t v σ H fun σ' H'=>u r σ' H' Q
theorem am8:PGs X [] by7:=by
 intro pins s σ H vs us Q I r h
 obtain⟨e,h⟩:=h
 subst e
 cases r
 exact assignInOrder_nil ⟨σ,H,I,h⟩
theorem Z4 {e:Expr} {es:List Expr} {t:TG} {u:TGs} (h1:PG X e t) (h2:PGs X es u)
  (hs:(dD (e::es) X.env).map (·.2)=lE e X.env::(dD es X.env).map (·.2):=by rfl):PGs X (e::es) (bh2 t u):=by
 intro pins s σ H vs us Q I r h
 obtain⟨v,vr,e1,h⟩:=h
 subst e1
 cases r with
 | cons r rr=>
  rw [hs]
  refine assignInOrder_cons (thn (h1 pins s σ H _ _ _ I r h) fun _ s1 ⟨σ1,H1,I1,q1⟩=>?_)
  exact h2 pins s1 σ1 H1 _ _ Q I1 rr q1
noncomputable def by9 (K:aa) (n:Nat) (t:TGs):TG:=fun v σ H Q=>∃ a xs,v=.ref a/\SqT K H a xs/\xs.length=n/\t xs σ H Q
theorem a64 {es:List Expr} {k:Nat} {t:TGs} {n:Nat} (hc:X.calm=true) (h:PGs X es t)
  (hn:(dD es X.env).length=n:=by rfl) (hst:(dD es X.env).findIdx? (·.1)=none:=by rfl):PG X (.Tuple es k pos) (by9 X.K n t):=by
 intro pins s σ H v u Q I r hw
 obtain⟨a,xs,e1,hq,hl,hw⟩:=hw
 subst e1
 cases r
 obtain⟨its,rv,ht,hz⟩:=I.tuple hq
 refine assign_Tuple_tuple (I.ok.hd hc) ht (by simp [hn,<- hl,rv.length]) hst fun h' hx=>?_
 have I1:Inv X pins σ H { s with heap:=h' }:=I.kept (t':=s.toks) fun b o e=>hx b o (aA (au e)) e
 exact h pins _ σ H xs _ Q I1 (by simpa using rv) hw
noncomputable def by8 (to ti:TE) (t:a01):TG:=fun v σ H Q=>to σ H fun o H1=>ti σ H1 fun i H2=>t o i v H2 fun H3=>Q σ H3
theorem a63 {o i:Expr} {to ti:TE} {t:a01} (ho:PE X o to) (hi:PE X i ti) (hs:a00 X t)
  (ha:∀ v,lE (.Subscript o i pos) X.env v=(do
   let ov <- lW [v] (eval o X.env)
   let iv <- lW [v,ov] (eval i X.env)
   ls pos
   lW [v,ov,iv] (setItem ov iv v)
   release [v,ov,iv] []):=by intro _;rfl):PG X (.Subscript o i pos) (by8 to ti t):=by
 intro pins s σ H v u Q I r h
 rw [ha]
 refine ac (bb (thn (ho pins s σ H _ I h) fun ov s1 ⟨x,H1,I1,r1,q1⟩=>?_))
 refine ac (bb (thn (hi pins s1 σ H1 _ I1 q1) fun iv s2 ⟨y,H2,I2,r2,q2⟩=>?_))
 refine ac (eC (ac (bb (thn (hs pins s2 σ H2 x y v ov iv u _ I2 r1 r2 r q2) fun _ s3 ⟨H3,I3,q3⟩=>?_))))
 exact wpAny_release ⟨σ,H3,I3,q3⟩
noncomputable def bd6 (te:TE) (g:TG):TS:=fun D σ H=>te σ H fun x H1=>g x σ H1 D.nx
theorem aa1 {tg e:Expr} {te:TE} {g:TG} (he:PE X e te) (hg:PG X tg g) (hs:k4 [tg] e pos.line X.env=pure false:=by rfl) (hw:swappedStores [tg] e X.env=pure none:=by rfl)
  (h1:(dD [tg] X.env).map (·.2)=[lE tg X.env]:=by rfl):PS X (.Assign [tg] e pos) (bd6 te g):=by
 intro pins s σ H D I h
 refine wpAny_Assign_stores (thn (he pins s σ H _ I h) fun v s1 ⟨x,H1,I1,r1,q1⟩=>?_) hs hw
 rw [h1]
 exact thn (hg pins s1 σ H1 x v _ I1 r1 q1) fun _ s2 q=>q
theorem a67 {i:Nat} {x:Str} {e:Expr} {te:TE} {pos':Pos} (hN:X.N.Nodup) (hi:X.N[i]? = some x) (hx:Loc X.env.scope x) (he:PE X e te) (hs:iL e (some (.Name x pos')) pos.line X.env=pure false:=by rfl) (hf:X.fn x=true\/X.env.scope.names.lookup x=some .local:=by first|exact .inl rfl|exact .inr rfl|assumption) :
  PS X (.Assign [.Name x pos'] e pos) (bd6 te (Yx i)):=by
 intro pins s σ H D I h
 refine wpAny_Assign_Name (thn (he pins s σ H _ I h) fun v s1 ⟨y,H1,I1,r1,q1⟩=>?_) hs
 exact Ft I1 hN hi hx r1 (fun s2 I2=>⟨_,H1,I2,q1⟩) hf
noncomputable def bd8 (c:TT) (tb:TS):TS:=fun D σ H=>∃ W:Nat->St->Hp->Prop,(∃ m,W m σ H) /\ ∀ m σ H,W m σ H ->
 c σ H fun b H1=>if b=true then ∃ N:St->Hp->Prop,(∀ σ' H',N σ' H' -> ∃ m',m'<m/\W m' σ' H')/\tb { D with nx:=N,ct:=N,bk:=D.nx } σ H1 else D.nx σ H1
theorem aa4 {c:Expr} {body:List Stmt} {tc:TT} {tb:TS} (hp:gT (model X.prog X.w) X.A X.env X.xe) (hc:PT X c tc) (hb:PSs X body tb):PS X (.While c body [] pos) (bd8 tc tb):=by
 intro pins s σ H D I h
 obtain⟨W,⟨m0,w0⟩,turn⟩:=h
 refine wpAny_While (codeAny_whileLoop (fun n s'=>∃ σ' H',Inv X pins σ' H' s'/\W n σ' H') ?_ m0 ⟨σ,H,I,w0⟩)
 rintro n s1 ⟨σ1,H1,I1,w1⟩
 refine ej hp (thn (hc pins s1 σ1 H1 _ I1 (turn n σ1 H1 w1)) fun b s2 ⟨H2,I2,q2⟩=>?_)
 cases b with
 | true=>
  obtain⟨N,hN,q2⟩:=q2
  rw [if_pos rfl]
  refine ej hp (thn (hb pins s2 σ1 H2 _ I2 q2) fun f s3 q3=>?_)
  cases f with
  | next=>
   obtain⟨σ3,H3,I3,n3⟩:=q3
   obtain⟨m',hm,w3⟩:=hN σ3 H3 n3
   exact⟨m',hm,σ3,H3,I3,w3⟩
  | cont=>
   obtain⟨σ3,H3,I3,n3⟩:=q3
   obtain⟨m',hm,w3⟩:=hN σ3 H3 n3
   exact⟨m',hm,σ3,H3,I3,w3⟩
  | brk=>exact q3
  | ret v=>exact q3
 | false=>
  rw [if_neg aj]
  exact g7 ⟨σ1,H2,I2,q2⟩
end
structure It where
 go:Nat->Hp->Prop
 yld:Nat->Hp->V->Hp->Prop
 stop:Nat->Hp->Prop
noncomputable def Cy (X:Cx) (pins:List (Addr×Obj)) (H:Hp) (b:Addr):Prop:=
 H b=none/\b≠X.env.locals/\b∉X.fs/\(b∈X.ex\/X.s₀.heap.objs.size<=b)/\(∀ x c,X.env.cells.lookup x=some c->c≠b) /\ ∀ p∈X.pn++pins,p.1≠b
theorem Inv.fpOk {X:Cx} {pins:List (Addr×Obj)} {σ:St} {H H':Hp} {s:ag} {b:Addr} (I:Inv X pins σ H s) (hb:s.heap.objs.size<=b) (hn:H' b=none):Cy X pins H' b:=by
 refine⟨hn,b5 (av I.lt hb),I.nofs hb,.inr (aR I.sz hb),fun x c e z=>?_,fun p hp z=>?_⟩
 ·obtain⟨v,q⟩:=I.cell x c e
  exact absurd (av q.lt (by rw [z];exact hb)) (e8 _)
 ·exact absurd (av (au (I.pin p hp).1) (by rw [z];exact hb)) (e8 _)
structure J6 (P:aO) (w:bM) (K:aa) (tg:Expr) (J:It) (fp:List Addr) (it:Addr) (tn:Nat->Heap->Prop):Prop where
 mem:it∈fp
 obj:∀ i h,tn i h -> ∀ b∈fp,∃ o,h.get? b=some o /\ ∀ v,o.data≠.cell v
 keep:∀ i h h',tn i h->(∀ b∈fp,∀ o,h.get? b=some o->h'.get? b=some o)->tn i h'
 item:∀ (X:Cx),X.prog=P->X.w=w->X.K=K->X.calm=true -> ∀ (i:Nat) (pins:List (Addr×Obj)) (s:ag) (σ:St) (H:Hp) (E:Value->ag->Prop),Inv X pins σ H s->(∀ b∈fp,Cy X pins H b)->tn i s.heap->J.go i H ->
  ay (model P w) X.A (fc (.ref it)) (fun r s1=>∃ u,r=some u /\
   ay (model P w) X.A (gY tg (.ref it) u) (fun _ s2=>∃ x H',Inv X pins σ H' s2/\RelV x u/\J.yld i H x H'/\tn (i+1) s2.heap /\ ∀ b∈fp,H' b=none) E s1) E s
 done:∀ (X:Cx),X.prog=P->X.w=w->X.K=K->X.calm=true -> ∀ (i:Nat) (pins:List (Addr×Obj)) (s:ag) (σ:St) (H:Hp) (E:Value->ag->Prop),Inv X pins σ H s->(∀ b∈fp,Cy X pins H b)->tn i s.heap->J.stop i H ->
  ay (model P w) X.A (fc (.ref it)) (fun r s1=>r=none/\Inv X pins σ H s1) E s
 self:∀ (A:aX) (i:Nat) (s:ag) (Q:Value->ag->Prop) (E:Value->ag->Prop),tn i s.heap->Q (.ref it) s->ay (model P w) A (l9 (.ref it)) Q E s
noncomputable abbrev TI:=St->Hp->(It->Hp->Prop)->Prop
noncomputable def PIE (X:Cx) (pins:List (Addr×Obj)) (σ:St) (tg:Expr) (R:It->Hp->Prop) (itv:Value) (s2:ag):Prop:=
 ∃ (it:Addr) (fp:List Addr) (tn:Nat->Heap->Prop) (J:It) (H':Hp),itv=.ref it/\Inv X pins σ H' s2/\J6 X.prog X.w X.K tg J fp it tn/\tn 0 s2.heap/\(∀ b∈fp,Cy X pins H' b)/\R J H'
noncomputable def PI (X:Cx) (tg iter:Expr) (wi:TI):Prop:=
 ∀ (pins:List (Addr×Obj)) (s:ag) (σ:St) (H:Hp) (R:It->Hp->Prop),Inv X pins σ H s->wi σ H R ->
  ay (model X.prog X.w) X.A (eval iter X.env) (fun v s1=>ay (model X.prog X.w) X.A (l9 v) (PIE X pins σ tg R) X.xe s1) X.xe s
theorem K5 {M:mw} {A:aX} {E:Value->ag->Prop} {s:ag} {tg:Expr} {it:Addr} {u:Value} {o:Obj} {n:String} {vs:Array Value} {Q:Unit->ag->Prop} (ho:s.heap.get? it=some o) (hc:o.cls=.type n) (hd:o.data=.fields vs)
    (hn:["enumerate", "zip", "dict_itemiterator", "dict_reverseitemiterator", "odict_iterator", "itertools.zip_longest", "itertools.pairwise"].contains n=false) (hQ:Q () s):ay M A (gY tg (.ref it) u) Q E s:=by
  unfold gY
  cases tg <;> first
    | exact ai hQ
    | (cases u <;> first
        | exact ai hQ
        | (refine ac (wpAny_load ho ?_)
           rw [hc,hd]
           show ay M A (if (["enumerate", "zip", "dict_itemiterator", "dict_reverseitemiterator", "odict_iterator", "itertools.zip_longest", "itertools.pairwise"].contains n&&vs[0]? == some (dJ _))=true then _ else _) Q E s
           rw [if_neg (by intro h;rw [hn,ck] at h;cases h)]
           exact ai hQ))
noncomputable def Itl (K:aa) (a:Addr):It:=
 ⟨fun i H=>∃ xs x,SqL K H a xs/\xs[i]? = some x,fun i H x H'=>H'=H /\ ∀ xs,SqL K H a xs->xs[i]? = some x,fun i H=>∃ xs,SqL K H a xs/\xs.length<=i⟩
noncomputable def Itt (K:aa) (a:Addr):It:=
 ⟨fun i H=>∃ xs x,SqT K H a xs/\xs[i]? = some x,fun i H x H'=>H'=H /\ ∀ xs,SqT K H a xs->xs[i]? = some x,fun i H=>∃ xs,SqT K H a xs/\xs.length<=i⟩
noncomputable def Itr (lo:Int) (n:Nat):It:=⟨fun i _=>i<n,fun i H x H'=>H'=H/\x=.int (lo+i),fun i _=>n<=i⟩
theorem Wp {P:aO} {w:bM} {K:aa} {tg:Expr} (a it:Addr):J6 P w K tg (Itl K a) [it] it (fun i h=>h.IsListIter it a i) where
 mem:=by simp
 obj:=fun i h st b hb=>by
  have e:b=it:=by simpa using hb
  subst e
  obtain⟨o,e,c,d⟩:=st
  exact⟨o,e,fun v z=>by rw [d] at z;cases z⟩
 keep:=fun i h h' st k=>st.at fun o e=>k it (by simp) o e
 item:=by
  intro X hP hw hK hc i pins s σ H E I hf st hg
  subst hP hw hK
  obtain⟨xs,x,hq,hx⟩:=hg
  obtain⟨its,rv,p,hz⟩:=I.list hq
  obtain⟨u,hu,ru⟩:=rv.get hx
  obtain⟨f0,f1,f2,f3,f4,f5⟩:=hf it (by simp)
  refine wpAny_pyNext_list_item st p.isList (x:=u) (by simpa using hu) fun h' st' sb=>?_
  have I1:Inv X pins σ H { s with heap:=h' }:=I.turned (t':=s.toks) (fun b o hb e=>(sb.2 b hb).trans e) f0 f1 f3 f4 f5
  obtain⟨o,e,c,d⟩:=id st'
  exact⟨u,rfl,K5 (s:={ s with heap:=h' }) e c d (by decide) ⟨x,H,I1,ru,⟨rfl,fun ys hy=>by rw [I.list_inj hy hq];exact hx⟩,st',fun b hb=>(hf b hb).1⟩⟩
 done:=by
  intro X hP hw hK hc i pins s σ H E I hf st hg
  subst hP hw hK
  obtain⟨xs,hq,hx⟩:=hg
  obtain⟨its,rv,p,hz⟩:=I.list hq
  obtain⟨f0,f1,f2,f3,f4,f5⟩:=hf it (by simp)
  have hl:=rv.length
  exact wpAny_pyNext_list_end (I.ok.hd hc) st p.isList (by simp;omega) fun h' eb=>⟨rfl,I.turned (t':=s.toks) (fun b o hb e=>eb b o hb e) f0 f1 f3 f4 f5⟩
 self:=fun _ _ _ _ _ st h=>wpAny_pyIter_listiter st h
theorem Sh {P:aO} {w:bM} {K:aa} {tg:Expr} (a it:Addr):J6 P w K tg (Itt K a) [it] it (fun i h=>h.IsTupleIter it a i) where
 mem:=by simp
 obj:=fun i h st b hb=>by
  have e:b=it:=by simpa using hb
  subst e
  obtain⟨o,e,c,d⟩:=st
  exact⟨o,e,fun v z=>by rw [d] at z;cases z⟩
 keep:=fun i h h' st k=>st.at fun o e=>k it (by simp) o e
 item:=by
  intro X hP hw hK hc i pins s σ H E I hf st hg
  subst hP hw hK
  obtain⟨xs,x,hq,hx⟩:=hg
  obtain⟨its,rv,p,hz⟩:=I.tuple hq
  obtain⟨u,hu,ru⟩:=rv.get hx
  obtain⟨f0,f1,f2,f3,f4,f5⟩:=hf it (by simp)
  refine wpAny_pyNext_tuple_item st (show s.heap.IsTuple a its.toArray from p) (x:=u) (by simpa using hu) fun h' st' sb=>?_
  have I1:Inv X pins σ H { s with heap:=h' }:=I.turned (t':=s.toks) (fun b o hb e=>(sb.2 b hb).trans e) f0 f1 f3 f4 f5
  obtain⟨o,e,c,d⟩:=id st'
  exact⟨u,rfl,K5 (s:={ s with heap:=h' }) e c d (by decide) ⟨x,H,I1,ru,⟨rfl,fun ys hy=>by rw [I.tuple_inj hy hq];exact hx⟩,st',fun b hb=>(hf b hb).1⟩⟩
 done:=by
  intro X hP hw hK hc i pins s σ H E I hf st hg
  subst hP hw hK
  obtain⟨xs,hq,hx⟩:=hg
  obtain⟨its,rv,p,hz⟩:=I.tuple hq
  obtain⟨f0,f1,f2,f3,f4,f5⟩:=hf it (by simp)
  have hl:=rv.length
  exact wpAny_pyNext_tuple_end (I.ok.hd hc) st (show s.heap.IsTuple a its.toArray from p) (by simp;omega) fun h' eb=>⟨rfl,I.turned (t':=s.toks) (fun b o hb e=>eb b o hb e) f0 f1 f3 f4 f5⟩
 self:=fun _ _ _ _ _ st h=>wpAny_pyIter_tupleiter st h
theorem Sf {P:aO} {w:bM} {K:aa} {tg:Expr} (it:Addr) (lo:Int) (n:Nat):J6 P w K tg (Itr lo n) [it] it (fun i h=>kj h it (lo+(i:Nat) * 1) ((n:Int) - (i:Nat)) 1) where
 mem:=by simp
 obj:=fun i h st b hb=>by
  have e:b=it:=by simpa using hb
  subst e
  exact⟨_,st,fun v z=>by
   have z':Data.fields _=Data.cell v:=z
   cases z'⟩
 keep:=fun i h h' st k=>k it (by simp) _ st
 item:=by
  intro X hP hw hK hc i pins s σ H E I hf st hg
  subst hP hw hK
  obtain⟨f0,f1,f2,f3,f4,f5⟩:=hf it (by simp)
  have W:=Walks.range (prog:=X.prog) (w:=X.w) (I.ok.hd hc) it lo 1 n
  refine bh (af _) (W.item i s _ _ hg st fun v h' tk hv st' kk htk=>?_)
  obtain⟨t,rfl⟩:=hv
  have I1:Inv X pins σ H { s with heap:=h',toks:=tk }:=I.turned (fun b o hb e=>kk b o (by simpa using hb) e) f0 f1 f3 f4 f5
  refine⟨_,rfl,K5 (s:={ s with heap:=h',toks:=tk }) (n := "range_iterator") st' rfl rfl (by decide) ⟨.int (lo+i),H,I1,⟨t,?_⟩,⟨rfl,rfl⟩,st',fun b hb=>(hf b hb).1⟩⟩
  rw [Int.mul_one]
 done:=by
  intro X hP hw hK hc i pins s σ H E I hf st hg
  subst hP hw hK
  obtain⟨f0,f1,f2,f3,f4,f5⟩:=hf it (by simp)
  exact jA (I.ok.hd hc) st (by have:n<=i:=hg;omega) fun h' eb=>⟨rfl,I.turned (t':=s.toks) (fun b o hb e=>eb b o hb e) f0 f1 f3 f4 f5⟩
 self:=fun _ _ _ _ _ st h=>jw st h
section
variable {X:Cx} {tg:Expr}
theorem O4 {pins:List (Addr×Obj)} {σ:St} {H:Hp} {s:ag} {R:It->Hp->Prop} {E:Value->ag->Prop} {lo hi:Int} {t u v:Tok} {tk:Nat} (I:Inv X pins σ H s) (htk:s.toks<=tk) (h1:-(2 ^ 62)<=lo) (h2:lo<2 ^ 62) (h3:-(2 ^ 62)<=hi) (h4:hi<2 ^ 62)
  (q:R (Itr lo (hi - lo).toNat) H):ay (model X.prog X.w) X.A (l9 (.ref s.heap.objs.size)) (PIE X pins σ tg R) E { s with heap:=s.heap.push { cls:=.type "range", data:=.fields #[.int lo t,.int hi u,.int 1 v] },toks:=tk }:=by
 refine k_ (lN ..) (small_one h1 h2 h3 h4) ?_
 have I1:Inv X pins σ H { s with heap:=s.heap.push { cls:=.type "range", data:=.fields #[.int lo t,.int hi u,.int 1 v] },toks:=tk }:=I.kept fun b o e=>ae _ e
 refine⟨(s.heap.push { cls:=.type "range", data:=.fields #[.int lo t,.int hi u,.int 1 v] }).objs.size,[(s.heap.push { cls:=.type "range", data:=.fields #[.int lo t,.int hi u,.int 1 v] }).objs.size],_,_,H,rfl,
  I1.kept (t':=tk) fun b o e=>ae _ e,Sf _ lo (hi - lo).toNat,?_,fun b hb=>?_,q⟩
 ·have e1:lo+((0:Nat):Int) * 1=lo:=by simp
  have e2:(((hi - lo).toNat:Nat):Int) - ((0:Nat):Int)=cn lo hi 1:=by rw [rangeSize_one];split <;> omega
  show kj _ _ (lo+((0:Nat):Int) * 1) ((((hi - lo).toNat:Nat):Int) - ((0:Nat):Int)) 1
  rw [e1,e2]
  exact aq _ rfl
 ·have e:b=(s.heap.push { cls:=.type "range", data:=.fields #[.int lo t,.int hi u,.int 1 v] }).objs.size:=by simpa using hb
  subst e
  exact I1.fpOk (af _) (I1.hok.fresh (af _))
noncomputable def b05 (wi:TI) (g:TG) (tb:TS):TS:=fun D σ H=>wi σ H fun J H1=>∃ W:Nat->Nat->St->Hp->Prop,(∃ m,W 0 m σ H1) /\ ∀ i m σ H,W i m σ H ->
 (J.stop i H/\D.nx σ H)\/(J.go i H /\ ∃ N:St->Hp->Prop,(∀ σ' H',N σ' H' -> ∃ m',m'<m/\W (i+1) m' σ' H') /\ ∀ x H',J.yld i H x H'->g x σ H' fun σ2 H2=>tb { D with nx:=N,ct:=N,bk:=D.nx } σ2 H2)
noncomputable def Go (fp:List Addr) (h:Heap):List (Addr×Obj):=fp.filterMap fun b=>(h.get? b).map fun o=>(b,o)
theorem D0 {fp:List Addr} {h:Heap} {b:Addr} {o:Obj} (hb:b∈fp) (e:h.get? b=some o):(b,o)∈Go fp h:=List.mem_filterMap.mpr ⟨b,hb,by rw [e];rfl⟩
theorem V1 {fp:List Addr} {h:Heap} {p:Addr×Obj} (hp:p∈Go fp h):p.1∈fp/\h.get? p.1=some p.2:=by
 obtain⟨b,hb,e⟩:=List.mem_filterMap.mp hp
 cases q:h.get? b with
 | none=>rw [q] at e;cases e
 | some o=>
  rw [q] at e
  have e':(b,o)=p:=aK e
  subst e'
  exact⟨hb,q⟩
theorem Inv.pinned {pins:List (Addr×Obj)} {σ:St} {H:Hp} {s:ag} {fp:List Addr} (I:Inv X pins σ H s) (hf:∀ b∈fp,Cy X pins H b) (ho:∀ b∈fp,∃ o,s.heap.get? b=some o /\ ∀ v,o.data≠.cell v):Inv X (pins++Go fp s.heap) σ H s:=
 I.pins_of fun p hp=>(List.mem_append.mp hp).elim (fun z=>I.pin p (bv _ z)) fun z=>by
  obtain⟨hb,e⟩:=V1 z
  obtain⟨f0,f1,f2,_⟩:=hf p.1 hb
  obtain⟨o,e',d⟩:=ho p.1 hb
  rw [e] at e';cases e'
  exact⟨e,f0,f1,f2,d⟩
theorem Inv.unpinned {pins pl:List (Addr×Obj)} {σ:St} {H:Hp} {s:ag} (I:Inv X (pins++pl) σ H s):Inv X pins σ H s:=I.pins_of fun p hp=>I.pin p (bv _ (fg _ hp))
theorem a65 {iter:Expr} {body:List Stmt} {wi:TI} {g:TG} {tb:TS} {pos:Pos} (hp:gT (model X.prog X.w) X.A X.env X.xe) (hc:X.calm=true) (hi:PI X tg iter wi) (hg:PG X tg g) (hb:PSs X body tb)
  (hs:∀ x,e_ iter X.env x=pure x:=by intro _;rfl):PS X (.For tg iter body [] pos) (b05 wi g tb):=by
 intro pins s σ H D I h
 refine wpAny_For (thn (hi pins s σ H _ I h) fun v s1 h1=>thn h1 fun itv s2 h2=>?_) hs
 obtain⟨it,fp,tn,J,H2,e,I2,T,st2,f2,W,⟨m0,w0⟩,turn⟩:=h2
 subst e
 have stat:∀ {H':Hp},(∀ b∈fp,H' b=none) -> ∀ b∈fp,Cy X pins H' b:=fun hn b hb=>⟨hn b hb,(f2 b hb).2⟩
 refine codeAny_forLoop_any (fun n s'=>∃ i σ' H',Inv X pins σ' H' s'/\tn i s'.heap/\(∀ b∈fp,H' b=none)/\W i n σ' H') ?_ m0 ⟨0,σ,H2,I2,st2,fun b hb=>(f2 b hb).1,w0⟩
 rintro n s3 ⟨i,σ3,H3,I3,st3,fr3,w3⟩
 rcases turn i n σ3 H3 w3 with ⟨stop,qn⟩|⟨go,N,hN,step⟩
 ·refine ej hp (thn (T.done X rfl rfl rfl hc i pins s3 σ3 H3 X.xe I3 (stat fr3) st3 stop) fun r s4 ⟨hr,I4⟩=>?_)
  subst hr
  exact g7 ⟨σ3,H3,I4,qn⟩
 ·refine ej hp (thn (T.item X rfl rfl rfl hc i pins s3 σ3 H3 X.xe I3 (stat fr3) st3 go) fun r s4 ⟨u,hr,h4⟩=>?_)
  subst hr
  refine ej hp (thn h4 fun _ s5 ⟨x,H5,I5,r5,y5,st5,fr5⟩=>?_)
  have I5':=I5.pinned (stat fr5) (T.obj _ _ st5)
  refine ej hp (thn (hg _ s5 σ3 H5 x u _ I5' r5 (step x H5 y5)) fun _ s6 ⟨σ6,H6,I6,q6⟩=>?_)
  refine ej hp (thn (hb _ s6 σ6 H6 _ I6 q6) fun f s7 q7=>?_)
  have again:∀ {σ7:St} {H7:Hp},Inv X (pins++Go fp s5.heap) σ7 H7 s7->N σ7 H7 -> ∃ m,m<n /\ ∃ i σ' H',Inv X pins σ' H' s7/\tn i s7.heap/\(∀ b∈fp,H' b=none)/\W i m σ' H':=fun {σ7 H7} I7 n7=>by
   obtain⟨m',hm,w7⟩:=hN σ7 H7 n7
   refine⟨m',hm,i+1,σ7,H7,I7.unpinned,T.keep _ _ _ st5 fun b hb o e=>(I7.pin (b,o) (bv _ (bv _ (D0 hb e)))).1,fun b hb=>?_,w7⟩
   obtain⟨o,e,d⟩:=T.obj _ _ st5 b hb
   exact (I7.pin (b,o) (bv _ (bv _ (D0 hb e)))).2.1
  cases f with
  | next=>obtain⟨σ7,H7,I7,n7⟩:=q7;exact again I7 n7
  | cont=>obtain⟨σ7,H7,I7,n7⟩:=q7;exact again I7 n7
  | brk=>obtain⟨σ7,H7,I7,q7⟩:=q7;exact⟨σ7,H7,I7.unpinned,q7⟩
  | ret v=>obtain⟨x7,σ7,H7,I7,r7,q7⟩:=q7;exact⟨x7,σ7,H7,I7.unpinned,r7,q7⟩
end
noncomputable abbrev R2:=V->V->Hp->VK->Prop
noncomputable def OpR (X:Cx) (f:Value->Value->Sem Value) (r:R2):Prop:=
 ∀ (pins:List (Addr×Obj)) (s:ag) (σ:St) (H:Hp) (x y:V) (v u:Value) (Q:VK),Inv X pins σ H s->RelV x v->RelV y u->r x y H Q ->
  ay (model X.prog X.w) X.A (f v u) (EP X pins σ Q) X.xe s
noncomputable def UnR (X:Cx) (f:Value->Sem Value) (r:V->Hp->VK->Prop):Prop:=
 ∀ (pins:List (Addr×Obj)) (s:ag) (σ:St) (H:Hp) (x:V) (v:Value) (Q:VK),Inv X pins σ H s->RelV x v->r x H Q ->
  ay (model X.prog X.w) X.A (f v) (EP X pins σ Q) X.xe s
noncomputable def Bl (X:Cx) (f:Value) (r:List V->Hp->VK->Prop):Prop:=
 ∀ (pins:List (Addr×Obj)) (s:ag) (σ:St) (H:Hp) (xs:List V) (us:List Value) (Q:VK),Inv X pins σ H s->Vals xs us->r xs H Q ->
  ay (model X.prog X.w) X.A (call f us) (EP X pins σ Q) X.xe s
noncomputable def bg2 (X:Cx) (r:V->Hp->(Bool->Hp->Prop)->Prop):Prop:=
 ∀ (pins:List (Addr×Obj)) (s:ag) (σ:St) (H:Hp) (x:V) (v:Value) (Q:Bool->Hp->Prop),Inv X pins σ H s->RelV x v->r x H Q ->
  ay (model X.prog X.w) X.A (truthy v) (TP X pins σ Q) X.xe s
noncomputable def tOp (r:R2) (ta tb:TE):TE:=fun σ H Q=>ta σ H fun x H1=>tb σ H1 fun y H2=>r x y H2 Q
noncomputable def tUn (r:V->Hp->VK->Prop) (ta:TE):TE:=fun σ H Q=>ta σ H fun x H1=>r x H1 Q
noncomputable def rI (C:Int->Int->Prop) (g:Int->Int->V):R2:=fun x y H Q=>∃ i j,x=.int i/\y=.int j/\C i j/\Q (g i j) H
noncomputable def rI0 (g:Int->Int->V):R2:=fun x y H Q=>∃ i j,x=.int i/\y=.int j/\Q (g i j) H
noncomputable def rU (g:Int->V):V->Hp->VK->Prop:=fun x H Q=>∃ i,x=.int i/\Q (g i) H
section
variable {X:Cx} {a b c:Expr} {ta tb tc:TE} {pos:Pos}
theorem a04 (ha:PE X a ta) (hb:PE X b tb) {pins:List (Addr×Obj)} {s:ag} {σ:St} {H:Hp} {R:V->V->Hp->Prop} (I:Inv X pins σ H s)
  (h:ta σ H fun x H1=>tb σ H1 fun y H2=>R x y H2) {Q:Value->ag->Prop} {f:Value->Value->Sem Value}
  (hf:∀ v u s2 x y H2,Inv X pins σ H2 s2->RelV x v->RelV y u->R x y H2->ay (model X.prog X.w) X.A (f v u) Q X.xe s2) :
  ay (model X.prog X.w) X.A (eval a X.env) (fun v s₁=>ay (model X.prog X.w) X.A (eval b X.env) (fun u s₂=>ay (model X.prog X.w) X.A (f v u) Q X.xe s₂) X.xe s₁) X.xe s:=by
 refine thn (ha pins s σ H _ I h) fun v s1 ⟨x,H1,I1,r1,q1⟩=>?_
 refine thn (hb pins s1 σ H1 _ I1 q1) fun u s2 ⟨y,H2,I2,r2,q2⟩=>?_
 exact hf v u s2 x y H2 I2 r1 r2 q2
theorem bm4 {op:md} {r:R2} (ho:OpR X (c_ op) r) (ha:PE X a ta) (hb:PE X b tb):PE X (.BinOp a op b pos) (tOp r ta tb):=by
 intro pins s σ H Q I h
 exact wpAny_BinOp (a04 ha hb I h fun v u s2 x y H2 I2 rx ry q=>ho pins s2 σ H2 x y v u Q I2 rx ry q)
theorem au4 {op:UnaryOp} {r:V->Hp->VK->Prop} (ho:UnR X (mq op) r) (ha:PE X a ta):PE X (.UnaryOp op a pos) (tUn r ta):=by
 intro pins s σ H Q I h
 exact UnaryOp_ (thn (ha pins s σ H _ I h) fun v s1 ⟨x,H1,I1,r1,q1⟩=>ho pins s1 σ H1 x v Q I1 r1 q1)
theorem opI {f:Value->Value->Sem Value} {C:Int->Int->Prop} {g:Int->Int->Int}
  (rule:∀ (i j:Int) (t u:Tok) (s:ag) (Q:Value->ag->Prop) (E:Value->ag->Prop),C i j->Q (.int (g i j) s.toks) { s with toks:=s.toks+1 }->ay (model X.prog X.w) X.A (f (.int i t) (.int j u)) Q E s) :
  OpR X f (rI C fun i j=>.int (g i j)):=by
 intro pins s σ H x y v u Q I rx ry h
 obtain⟨i,j,rfl,rfl,hc,q⟩:=h
 obtain⟨t,rfl⟩:=rx
 obtain⟨t',rfl⟩:=ry
 exact rule i j t t' s _ _ hc ⟨.int (g i j),H,I.tok _,⟨_,rfl⟩,q⟩
theorem Z1 {f:Value->Value->Sem Value} {g:Int->Int->Int}
  (rule:∀ (i j:Int) (t u:Tok) (s:ag) (Q:Value->ag->Prop) (E:Value->ag->Prop),Q (.int (g i j) s.toks) { s with toks:=s.toks+1 }->ay (model X.prog X.w) X.A (f (.int i t) (.int j u)) Q E s) :
  OpR X f (rI0 fun i j=>.int (g i j)):=by
 intro pins s σ H x y v u Q I rx ry h
 obtain⟨i,j,rfl,rfl,q⟩:=h
 obtain⟨t,rfl⟩:=rx
 obtain⟨t',rfl⟩:=ry
 exact rule i j t t' s _ _ ⟨.int (g i j),H,I.tok _,⟨_,rfl⟩,q⟩
theorem al5 {f:Value->Value->Sem Value} {g:Int->Int->Bool}
  (rule:∀ (i j:Int) (t u:Tok) (s:ag) (Q:Value->ag->Prop) (E:Value->ag->Prop),Q (.bool (g i j)) s->ay (model X.prog X.w) X.A (f (.int i t) (.int j u)) Q E s) :
  OpR X f (rI0 fun i j=>.bl (g i j)):=by
 intro pins s σ H x y v u Q I rx ry h
 obtain⟨i,j,rfl,rfl,q⟩:=h
 obtain⟨t,rfl⟩:=rx
 obtain⟨t',rfl⟩:=ry
 exact rule i j t t' s _ _ ⟨.bl (g i j),H,I,rfl,q⟩
noncomputable def bf8 (i j:Int):Prop:=0<j/\j<1073741824
noncomputable def ag8 (i j:Int):Prop:=0<=j/\j<=1000000/\i.natAbs<2 ^ 64
noncomputable def CMul (i j:Int):Prop:=(-(2 ^ 64)<i/\i<2 ^ 64)\/(-(2 ^ 64)<j/\j<2 ^ 64)
theorem CMul.ok {i j:Int} (h:CMul i j):IntMulOk i j:=by
 rcases h with ⟨h1,h2⟩|⟨h1,h2⟩
 ·exact .of_left (intBits_le_64 h1 h2)
 ·exact .of_right (intBits_le_64 h1 h2)
theorem Si (k:Nat):(0:Int)<=2 ^ k:=by
 rw [two_pow_cast]
 exact kG _
theorem a41:OpR X (c_ .Add) (rI0 fun i j=>.int (i+j)):=Z1 fun _ _ _ _ _ _ _ q=>add_int q
theorem a53:OpR X (c_ .Sub) (rI0 fun i j=>.int (i - j)):=Z1 fun _ _ _ _ _ _ _ q=>sub_int q
theorem a47:OpR X (c_ .Mult) (rI CMul fun i j=>.int (i * j)):=opI fun _ _ _ _ _ _ _ hc q=>mul_int q hc.ok
theorem al8:OpR X (c_ .FloorDiv) (rI bf8 fun i j=>.int (i / j)):=opI fun i j _ _ _ _ _ hc q=>by
 have h1:(0:Int)<j:=hc.1
 have h2:j<1073741824:=hc.2
 exact floordiv_int (by omega) (by rw [hG i (by omega)];exact q) (.inl (jr (by omega)))
theorem a46:OpR X (c_ .Mod) (rI (fun _ j=>0<j) fun i j=>.int (i % j)):=opI fun i j _ _ _ _ _ hc q=>by
 have h1:(0:Int)<j:=hc
 exact mod_int' (by omega) (by rw [Int.fmod_eq_emod_of_nonneg i (by omega)];exact q)
theorem a50:OpR X (c_ .Pow) (rI ag8 fun i j=>.int (i ^ j.toNat)):=opI fun _ _ _ _ _ _ _ hc q=>pow_int_small hc.1 hc.2.1 hc.2.2 q
theorem a51:OpR X (c_ .LShift) (rI ag8 fun i j=>.int (i * 2 ^ j.toNat)):=opI fun _ _ _ _ _ _ _ hc q=>lshift_int_small hc.1 hc.2.1 hc.2.2 q
theorem a52:OpR X (c_ .RShift) (rI (fun _ j=>0<=j) fun i j=>.int (i / 2 ^ j.toNat)):=opI fun i j _ _ _ _ _ hc q=>
 rshift_int hc (by rw [hG i (Si _)];exact q)
theorem a42:OpR X (c_ .BitAnd) (rI0 fun i j=>.int (Builtin.bitAnd i j)):=Z1 fun _ _ _ _ _ _ _ q=>and_int q
theorem bm1:OpR X (c_ .BitOr) (rI0 fun i j=>.int (Builtin.bitOr i j)):=Z1 fun _ _ _ _ _ _ _ q=>or_int q
theorem a54:OpR X (c_ .BitXor) (rI0 fun i j=>.int (Builtin.bitXor i j)):=Z1 fun _ _ _ _ _ _ _ q=>xor_int q
theorem unI {f:Value->Sem Value} {g:Int->Int}
  (rule:∀ (i:Int) (t:Tok) (s:ag) (Q:Value->ag->Prop) (E:Value->ag->Prop),Q (.int (g i) s.toks) { s with toks:=s.toks+1 }->ay (model X.prog X.w) X.A (f (.int i t)) Q E s) :
  UnR X f (rU fun i=>.int (g i)):=by
 intro pins s σ H x v Q I rx h
 obtain⟨i,rfl,q⟩:=h
 obtain⟨t,rfl⟩:=rx
 exact rule i t s _ _ ⟨.int (g i),H,I.tok _,⟨_,rfl⟩,q⟩
theorem be3:UnR X (mq .USub) (rU fun i=>.int (-i)):=unI fun _ _ _ _ _ q=>neg_int q
theorem be2:UnR X (mq .Invert) (rU fun i=>.int (Builtin.bitNot i)):=unI fun _ _ _ _ _ q=>invert_int q
end
noncomputable def bd2:V->V->Bool
 | .non,.non=>true | .non,.int _=>true | .int _,.non=>true | .non,.bl _=>true | .bl _,.non=>true | .non,.str _=>true | .str _,.non=>true
 | .int _,.int _=>true | .bl _,.bl _=>true | .str _,.str _=>true | .byt _,.byt _=>true
 | .int _,.str _=>true | .str _,.int _=>true | .bl _,.str _=>true | .str _,.bl _=>true
 | _,_=>false
noncomputable def rEq:R2:=fun x y H Q=>bd2 x y=true/\Q (.bl (decide (x=y))) H
noncomputable def rNe:R2:=fun x y H Q=>bd2 x y=true/\Q (.bl (!decide (x=y))) H
theorem Hc {i j:Int}:decide (V.int i=V.int j)=(i==j):=by
 rw [cK]
 simp
theorem L9 {i j:Bool}:decide (V.bl i=V.bl j)=(i==j):=by
 rw [cK]
 simp
theorem Hd {i j:Str}:decide (V.str i=V.str j)=(i==j):=by
 rw [cK]
 simp
theorem Sy {i j:Array UInt8}:decide (V.byt i=V.byt j)=(i.toList==j.toList):=by
 rw [cK]
 cases i
 cases j
 simp
section
variable {X:Cx} {a b c:Expr} {ta tb tc:TE} {pos:Pos}
theorem Aq {pins:List (Addr×Obj)} {σ:St} {H:Hp} {s:ag} {Q:VK} {k k':Bool} (I:Inv X pins σ H s) (q:Q (.bl k) H) (e:k=k'):EP X pins σ Q (.bool k') s:=by
 subst e
 exact⟨.bl k,H,I,rfl,q⟩
theorem Tk:OpR X (bZ .Eq) rEq:=by
 intro pins s σ H x y v u Q I rx ry h
 obtain⟨hs,q⟩:=h
 cases x with
 | non=>
  cases rx
  cases y with
  | non=>cases ry;exact PySem.EqNone.eq_none_none (Aq I q (by simp))
  | bl j=>cases ry;exact PySem.EqNone.eq_none_bool (Aq I q (by simp))
  | int j=>obtain⟨t',rfl⟩:=ry;exact PySem.EqNone.eq_none_int (Aq I q (by simp))
  | str j=>obtain⟨t',rfl⟩:=ry;exact PySem.EqNone.eq_none_str (Aq I q (by simp))
  | _=>exact absurd (show false=true from hs) aj
 | bl i=>
  cases rx
  cases y with
  | non=>cases ry;exact PySem.EqNone.eq_bool_none (Aq I q (by simp))
  | bl j=>cases ry;exact eq_bool (Aq I q L9)
  | str j=>obtain⟨t',rfl⟩:=ry;exact PySem.EqMixed.eq_bool_str (Aq I q (by simp))
  | _=>exact absurd (show false=true from hs) aj
 | int i=>
  obtain⟨t,rfl⟩:=rx
  cases y with
  | non=>cases ry;exact PySem.EqNone.eq_int_none (Aq I q (by simp))
  | int j=>obtain⟨t',rfl⟩:=ry;exact eq_int (Aq I q Hc)
  | str j=>obtain⟨t',rfl⟩:=ry;exact PySem.EqMixed.eq_int_str (Aq I q (by simp))
  | _=>exact absurd (show false=true from hs) aj
 | str i=>
  obtain⟨t,rfl⟩:=rx
  cases y with
  | non=>cases ry;exact PySem.EqNone.eq_str_none (Aq I q (by simp))
  | bl j=>cases ry;exact PySem.EqMixed.eq_str_bool (Aq I q (by simp))
  | int j=>obtain⟨t',rfl⟩:=ry;exact PySem.EqMixed.eq_str_int (Aq I q (by simp))
  | str j=>obtain⟨t',rfl⟩:=ry;exact eq_str (Aq I q Hd)
  | _=>exact absurd (show false=true from hs) aj
 | byt i=>
  obtain⟨t,rfl⟩:=rx
  cases y with
  | byt j=>obtain⟨t',rfl⟩:=ry;exact PySem.W.eq_bytes (Aq I q Sy)
  | _=>exact absurd (show false=true from hs) aj
 | _=>cases y <;> exact absurd (show false=true from hs) aj
theorem Tl:OpR X (bZ .NotEq) rNe:=by
 intro pins s σ H x y v u Q I rx ry h
 obtain⟨hs,q⟩:=h
 cases x with
 | non=>
  cases rx
  cases y with
  | non=>cases ry;exact PySem.EqNone.ne_none_none (Aq I q (by simp))
  | bl j=>cases ry;exact PySem.EqNone.ne_none_bool (Aq I q (by simp))
  | int j=>obtain⟨t',rfl⟩:=ry;exact PySem.EqNone.ne_none_int (Aq I q (by simp))
  | str j=>obtain⟨t',rfl⟩:=ry;exact PySem.EqNone.ne_none_str (Aq I q (by simp))
  | _=>exact absurd (show false=true from hs) aj
 | bl i=>
  cases rx
  cases y with
  | non=>cases ry;exact PySem.EqNone.ne_bool_none (Aq I q (by simp))
  | bl j=>cases ry;exact ne_bool (Aq I q (congrArg not L9))
  | str j=>obtain⟨t',rfl⟩:=ry;exact PySem.EqMixed.ne_bool_str (Aq I q (by simp))
  | _=>exact absurd (show false=true from hs) aj
 | int i=>
  obtain⟨t,rfl⟩:=rx
  cases y with
  | non=>cases ry;exact PySem.EqNone.ne_int_none (Aq I q (by simp))
  | int j=>obtain⟨t',rfl⟩:=ry;exact ne_int (Aq I q (congrArg not Hc))
  | str j=>obtain⟨t',rfl⟩:=ry;exact PySem.EqMixed.ne_int_str (Aq I q (by simp))
  | _=>exact absurd (show false=true from hs) aj
 | str i=>
  obtain⟨t,rfl⟩:=rx
  cases y with
  | non=>cases ry;exact PySem.EqNone.ne_str_none (Aq I q (by simp))
  | bl j=>cases ry;exact PySem.EqMixed.ne_str_bool (Aq I q (by simp))
  | int j=>obtain⟨t',rfl⟩:=ry;exact PySem.EqMixed.ne_str_int (Aq I q (by simp))
  | str j=>obtain⟨t',rfl⟩:=ry;exact ne_str (Aq I q (congrArg not Hd))
  | _=>exact absurd (show false=true from hs) aj
 | byt i=>
  obtain⟨t,rfl⟩:=rx
  cases y with
  | byt j=>obtain⟨t',rfl⟩:=ry;exact PySem.W.ne_bytes (Aq I q (congrArg not Sy))
  | _=>exact absurd (show false=true from hs) aj
 | _=>cases y <;> exact absurd (show false=true from hs) aj
theorem bm0:OpR X (bZ .Lt) (rI0 fun i j=>.bl (decide (i<j))):=al5 fun _ _ _ _ _ _ _ q=>lt_int q
theorem bl9:OpR X (bZ .LtE) (rI0 fun i j=>.bl (decide (i<=j))):=al5 fun _ _ _ _ _ _ _ q=>le_int q
theorem bl8:OpR X (bZ .Gt) (rI0 fun i j=>.bl (decide (j<i))):=al5 fun _ _ _ _ _ _ _ q=>gt_int q
theorem bl7:OpR X (bZ .GtE) (rI0 fun i j=>.bl (decide (j<=i))):=al5 fun _ _ _ _ _ _ _ q=>ge_int q
theorem V5:OpR X (bZ .Lt) (fun x y H Q=>∃ i j,x=.str i/\y=.str j/\Q (.bl (decide (i.cps.toList<j.cps.toList))) H):=by
 intro pins s σ H x y v u Q I rx ry h
 obtain⟨i,j,rfl,rfl,q⟩:=h
 obtain⟨t,rfl⟩:=rx
 obtain⟨t',rfl⟩:=ry
 exact lt_str (Aq I q rfl)
theorem V3:OpR X (bZ .In) (fun x y H Q=>∃ i j,x=.str i/\y=.str j/\Q (.bl (!(cq j i 0 j.length 1).isEmpty)) H):=by
 intro pins s σ H x y v u Q I rx ry h
 obtain⟨i,j,rfl,rfl,q⟩:=h
 obtain⟨t,rfl⟩:=rx
 obtain⟨t',rfl⟩:=ry
 exact in_str (Aq I q rfl)
theorem a45:OpR X (bZ .Is) (fun x y H Q=>y=.non/\Q (.bl (decide (x=.non))) H):=by
 intro pins s σ H x y v u Q I rx ry h
 obtain⟨rfl,q⟩:=h
 cases ry
 refine is_none_gen (Aq I q ?_)
 cases x <;> first
  | (cases rx;rfl)
  | (obtain⟨t,rfl⟩:=rx;rfl)
  | (obtain⟨t,rfl,_⟩:=rx;rfl)
theorem am0:OpR X (bZ .IsNot) (fun x y H Q=>y=.non/\Q (.bl (!decide (x=.non))) H):=by
 intro pins s σ H x y v u Q I rx ry h
 obtain⟨rfl,q⟩:=h
 cases ry
 refine isnot_none_gen (Aq I q ?_)
 cases x <;> first
  | (cases rx;rfl)
  | (obtain⟨t,rfl⟩:=rx;rfl)
  | (obtain⟨t,rfl,_⟩:=rx;rfl)
theorem Mn:OpR X (bZ .NotIn) (fun x y H Q=>∃ i j,x=.str i/\y=.str j/\Q (.bl (!(!(cq j i 0 j.length 1).isEmpty))) H):=by
 intro pins s σ H x y v u Q I rx ry h
 obtain⟨i,j,rfl,rfl,q⟩:=h
 obtain⟨t,rfl⟩:=rx
 obtain⟨t',rfl⟩:=ry
 exact notIn_str (Aq I q rfl)
theorem OpR.or {f:Value->Value->Sem Value} {r r':R2} (h:OpR X f r) (h':OpR X f r'):OpR X f (fun x y H Q=>r x y H Q\/r' x y H Q):=by
 intro pins s σ H x y v u Q I rx ry q
 rcases q with q|q
 ·exact h pins s σ H x y v u Q I rx ry q
 ·exact h' pins s σ H x y v u Q I rx ry q
theorem am5 {op:l_} {r:R2} (ho:OpR X (bZ op) r) (ha:PE X a ta) (hb:PE X b tb) (hm:i5 op b=false):PE X (.Compare a [op] [b] pos) (tOp r ta tb):=by
 intro pins s σ H Q I h
 exact wpAny_Compare1 (a04 ha hb I h fun v u s2 x y H2 I2 rx ry q=>ho pins s2 σ H2 x y v u Q I2 rx ry q) hm
noncomputable def bg3 (K:aa) (x:V) (H:Hp) (k:Bool):Prop:=
 match x with
 | .non=>k=false
 | .bl b=>k=b
 | .int i=>k=(i != 0)
 | .str y=>y.length<=sizeLine/\k=((y.length:Int) != 0)
 | .byt y=>y.size<=sizeLine/\k=((y.size:Int) != 0)
 | .ref p=>(∃ xs,SqL K H p xs/\k = !xs.isEmpty)\/(∃ xs,SqT K H p xs/\k = !xs.isEmpty) \/ ∃ kvs,H p=some (.dK kvs)/\k = !kvs.isEmpty
 | _=>False
theorem Qa {κ:Type} {kvs:List (κ×V)} {vs:List (κ×Value)} (r:KV kvs vs):(!vs.isEmpty) = !kvs.isEmpty:=by
 cases r <;> rfl
theorem Im {xs:List V} {its:List Value} (r:Vals xs its):(!its.toArray.isEmpty) = !xs.isEmpty:=by
 cases r <;> simp
theorem Fa:(sizeLine:Nat)<2 ^ 63:=by rw [bL];decide
theorem J1:bg2 X (fun x H Q=>∃ k,bg3 X.K x H k/\Q k H):=by
 intro pins s σ H x v Q I rx h
 obtain⟨k,e,q⟩:=h
 have hl:=Fa
 have hs:sizeLine=16777216:=bL
 cases x with
 | non=>
  cases rx
  have e':k=false:=e
  subst e'
  exact truthy_none ⟨H,I,q⟩
 | bl b=>
  cases rx
  have e':k=b:=e
  subst e'
  exact c7 ⟨H,I,q⟩
 | int i=>
  obtain⟨t,rfl⟩:=rx
  have e':k=(i != 0):=e
  subst e'
  exact PySem.P.truthy_int ⟨H,I,q⟩
 | str y=>
  obtain⟨t,rfl⟩:=rx
  obtain⟨hy,e'⟩:y.length<=sizeLine/\k=((y.length:Int) != 0):=e
  subst e'
  exact PySem.P.truthy_str (by omega) ⟨H,I.tok _,q⟩
 | byt y=>
  obtain⟨t,rfl⟩:=rx
  obtain⟨hy,e'⟩:y.size<=sizeLine/\k=((y.size:Int) != 0):=e
  subst e'
  exact PySem.W.truthy_bytes (by omega) ⟨H,I.tok _,q⟩
 | ref p=>
  cases rx
  have e':(∃ xs,SqL X.K H p xs/\k = !xs.isEmpty)\/(∃ xs,SqT X.K H p xs/\k = !xs.isEmpty) \/ ∃ kvs,H p=some (.dK kvs)/\k = !kvs.isEmpty:=e
  rcases e' with ⟨xs,hx,e'⟩|⟨xs,hx,e'⟩|⟨kvs,hx,e'⟩
  ·subst e'
   obtain⟨its,r,pl,hz⟩:=I.list hx
   have hlen:=r.length
   exact wpAny_truthy_list pl.isList (by simp only [am];omega) ⟨H,I.tok _,by rw [Im r];exact q⟩
  ·subst e'
   obtain⟨its,r,pl,hz⟩:=I.tuple hx
   have hlen:=r.length
   exact truthy_tuple pl (by simp only [am];omega) ⟨H,I.tok _,by rw [Im r];exact q⟩
  ·subst e'
   obtain⟨hz,hS,vs,r,m⟩:kvs.length<=sizeLine/\(p==cQ)=false /\ ∃ vs,KV kvs vs/\s.heap.DictOf (Ao X.prog X.w) p vs:=I.hok p _ hx
   have hlen:kvs.length=vs.length:=gE r
   exact wpAny_truthy_dict hS m (by omega) ⟨H,I.tok _,by rw [Qa r];exact q⟩
 | _=>exact (show False from e).elim
theorem Qo:OpR X (c_ .Add) (fun x y H Q=>∃ i j,x=.str i/\y=.str j/\i.length+j.length<=sizeLine/\Q (.str (i++j)) H):=by
 intro pins s σ H x y v u Q I rx ry h
 obtain⟨i,j,rfl,rfl,hz,q⟩:=h
 obtain⟨t,rfl⟩:=rx
 obtain⟨t',rfl⟩:=ry
 exact bh (af _) (add_str (fun t' tk htk=>⟨.str (i++j),H,I.tok _ htk,⟨_,rfl⟩,q⟩) hz)
theorem En {x:V} {us:List Value} (r:Vals [x] us):∃ u,us=[u]/\RelV x u:=by
 cases r with
 | cons r1 r2=>cases r2;exact⟨_,rfl,r1⟩
theorem af7 {x y:V} {us:List Value} (r:Vals [x,y] us):∃ u w',us=[u,w']/\RelV x u/\RelV y w':=by
 cases r with
 | cons r1 r2=>
  cases r2 with
  | cons r3 r4=>cases r4;exact⟨_,_,rfl,r1,r3⟩
theorem Uv (hc:X.calm=true):Bl X (.builtin "max") (fun xs H Q=>∃ i j,xs=[.int i,.int j]/\Q (.int (if j > i then j else i)) H):=by
 intro pins s σ H xs us Q I r h
 obtain⟨i,j,rfl,q⟩:=h
 obtain⟨u,w',rfl,⟨t,rfl⟩,⟨t',rfl⟩⟩:=af7 r
 refine bh (af _) (max_two_ints (I.ok.hd hc) fun h' tk k htk=>⟨_,H,I.kept k htk,?_,q⟩)
 by_cases hj:j > i
 ·rw [if_pos hj,if_pos hj];exact⟨_,rfl⟩
 ·rw [if_neg hj,if_neg hj];exact⟨_,rfl⟩
theorem Ux (hc:X.calm=true):Bl X (.builtin "min") (fun xs H Q=>∃ i j,xs=[.int i,.int j]/\Q (.int (if j<i then j else i)) H):=by
 intro pins s σ H xs us Q I r h
 obtain⟨i,j,rfl,q⟩:=h
 obtain⟨u,w',rfl,⟨t,rfl⟩,⟨t',rfl⟩⟩:=af7 r
 refine bh (af _) (min_two_ints (I.ok.hd hc) fun h' tk k htk=>⟨_,H,I.kept k htk,?_,q⟩)
 by_cases hj:j<i
 ·rw [if_pos hj,if_pos hj];exact⟨_,rfl⟩
 ·rw [if_neg hj,if_neg hj];exact⟨_,rfl⟩
theorem Kt:Bl X (.type "int") (fun xs H Q=>(∃ i,xs=[.int i]/\Q (.int i) H) \/ ∃ k,xs=[.bl k]/\Q (.int (if k then 1 else 0)) H):=by
 intro pins s σ H xs us Q I r h
 rcases h with ⟨i,rfl,q⟩|⟨k,rfl,q⟩
 ·obtain⟨u,rfl,t,rfl⟩:=En r
  exact call_int_int ⟨.int i,H,I,⟨_,rfl⟩,q⟩
 ·obtain⟨u,rfl,r1⟩:=En r
  cases r1
  exact call_int_bool ⟨.int (if k then 1 else 0),H,I.tok _,⟨_,rfl⟩,q⟩
theorem X3:Bl X (.builtin "ord") (fun xs H Q=>∃ x,xs=[.str x]/\x.length=1/\Q (.int (x.cps.getD 0 0:Nat)) H):=by
 intro pins s σ H xs us Q I r h
 obtain⟨x,rfl,hz,q⟩:=h
 obtain⟨u,rfl,t,rfl⟩:=En r
 exact ord_of_one hz ⟨.int _,H,I.tok _,⟨_,rfl⟩,q⟩
end
structure ObjM (h:Heap) (x dx C:Addr) (mA:Str->Option Value):Prop where
 obj:h.get? x=some (bQ C dx)
 ns:h.Ns1 dx mA
 ne:dx≠x
theorem Gh {h:Heap} {dx:Addr} {mA:Str->Option Value} (n:h.Ns1 dx mA):∃ od,h.get? dx=some od /\ ∀ name,ip name od=some (mA name):=by
 obtain⟨o,es,ep,ho,hd,hk,_,hm⟩:=n
 refine⟨o,ho,fun name=>?_⟩
 have e:=hm name
 unfold nsFind findBy at e
 rw [<- Array.find?_toList] at e
 unfold ip
 rw [hd]
 dsimp only
 split
 ·rename_i y q
  rw [q] at e
  exact congrArg some e
 ·rename_i q
  rw [q] at e
  have a:es.toList.any (·.refKey)=false:=by
   rw [List.any_eq_false]
   intro y hy
   obtain⟨z,t,hkey⟩:=hk y (Array.mem_toList_iff.mp hy)
   simp [DictEntry.refKey,hkey]
  have a':¬ es.toList.any (·.refKey)=true:=by rw [a];exact aj
  rw [if_neg a']
  exact congrArg some e
theorem ObjM.look {h:Heap} {x dx C:Addr} {mA:Str->Option Value} (I:ObjM h x dx C mA):∃ od,fm h x (bQ C dx) C (some od) /\ ∀ name,ip name od=some (mA name):=
 let ⟨od,ho,hl⟩:=Gh I.ns
 ⟨od,⟨I.obj,rfl,rfl,ho⟩,hl⟩
section
variable {prog:aO} {w:bM} {A:aX} {E:Value->ag->Prop} {s:ag} {K:aa} {x dx C f:Addr} {mA:Str->Option Value} {name:Str} {v:Value}
theorem aj3 {expr:Bool} {Q:Value->ag->Prop} (X:K.In s.heap) (I:ObjM s.heap x dx C mA) (hg:dQ K C name=true) (hh:eg K C=true)
  (ha:aw K (.ref C) name=some none) (hv:mA name=some v) (hv':gw v=true) (h:Q v { s with toks:=s.toks+1 }) :
  ay (model prog w) A (lm (.ref x) name expr) Q E s:=by
 obtain⟨od,J,hl⟩:=I.look
 exact PySem.W.get_value X J (gW hg).1 (kq hh ha rfl (by rw [hl,hv])) hv' h
theorem Y1 {pl:Sem Bool} {Q:Value×List Value->ag->Prop} (X:K.In s.heap) (I:ObjM s.heap x dx C mA) (hg:dQ K C name=true)
  (hf:aw K (.ref C) name=some (some (.ref f))) (ht:dU K (.ref f)=true) (hv:mA name=none) (h:Q (.ref f,[.ref x]) s) :
  ay (model prog w) A (getMethod (.ref x) name pl) Q E s:=by
 obtain⟨od,J,hl⟩:=I.look
 exact PySem.W.method_fn X J (gW hg).1 (gW hg).2 hf (beq_iff_eq.mp ht) (by show (ip name od).map (·.isSome)=some false;rw [hl,hv];rfl) h
theorem aq2 {ns:List Str} {Q:Unit->ag->Prop} (X:K.In s.heap) (I:ObjM s.heap x dx C mA)
  (hs:aw K (.ref C) "__setattr__" = some (some (.builtin "object.__setattr__"))) (hp:e9 K C=true) (ht:jM K C name=some none) (hh:eg K C=true)
  (hw:ez mA ns) (hsz:ns.length<=sizeLine)
  (h:∀ h',ObjM h' x dx C (fun y=>if y=name then some v else mA y)->aV dx s.heap h'->Q () { s with heap:=h',toks:=s.toks+2 }) :
  ay (model prog w) A (l4 (.ref x) name v) Q E s:=by
 obtain⟨od,J,hl⟩:=I.look
 refine PySem.W.set_plain X J hs (PySem.W.osa_open (s:={ s with toks:=s.toks+1 }) (r:=none) X J hp ht fun b=>?_)
 obtain⟨cd,hc,hd'⟩:=PySem.W.any_some hh
 have hx:s.heap.get? x=some ⟨.ref C,some dx,.plain,#[]⟩:=I.obj
 refine ac (ai (ac (ac (iA hx (ac (PySem.W.Looks.here (s:={ s with toks:=s.toks+1 }) (PySem.W.looks_clsIn X hc) ?_))))))
 rw [hd']
 refine ai (a:=some dx) (ac (ai (ac ?_)))
 refine lI (s:={ s with toks:=s.toks+1 }) I.ns fun h' hn2 hs2=>?_
 obtain⟨oD,esD,epD,hoD,hdD,hcD⟩:=hn2.count (PySem.Within.cons name v hw)
 refine ac (jl hoD (by rw [hdD];exact jk (aR hcD (by rw [aQ];omega))) ?_)
 exact ai (h _ ⟨(hs2.2 _ (cx I.ne)).trans I.obj,hn2,I.ne⟩ hs2)
theorem Zk {R:jO->ag->Prop} {vs:List Value} {kw:List (Str×Value)} (X:K.In s.heap) (hm:bX K C=true)
  (hi:aw K (.ref C) "__init__" = some (some (.ref f))) (hf:j8 K (.ref f)=some (.type "function"))
  (h:d4 (model prog w) (A.under (.builtin "type.__call__" ⟨.ref C::vs,kw⟩)) (.call (.ref f) ⟨.ref (s.heap.objs.size+1)::vs,kw⟩) (PySem.W.InitBack (s.heap.objs.size+1) R)
   {s with heap:=(s.heap.push bD).push (bQ C s.heap.objs.size) }) :
  d4 (model prog w) A (.call (.ref C) ⟨vs,kw⟩) R s:=by
 obtain⟨hh,g,d,t,os⟩:=s
 exact PySem.W.make_core (ji X hm) (dy X hi) (fun self=>PySem.W.bind_fn X self hf) (.inl rfl) h
theorem Vt {R:jO->ag->Prop} (X:K.In s.heap) (hm:bX K C=true)
  (hi:aw K (.ref C) "__init__" = some (some (.builtin "object.__init__")))
  (hb:∀ self,gG (model prog w) s.heap (i7 (.builtin "object.__init__") self) (.builtin "object.__init__", [self]))
  (h:d4 (model prog w) (A.under (.builtin "type.__call__" ⟨[.ref C],[]⟩)) (.call (.builtin "object.__init__") ⟨[.ref (s.heap.objs.size+1)],[]⟩) (PySem.W.InitBack (s.heap.objs.size+1) R)
   {s with heap:=(s.heap.push bD).push (bQ C s.heap.objs.size) }) :
  d4 (model prog w) A (.call (.ref C) ⟨[],[]⟩) R s:=by
 obtain⟨hh,g,d,t,os⟩:=s
 exact PySem.W.make_core (ji X hm) (dy X hi) hb (.inr ⟨rfl,rfl⟩) h
end
noncomputable def D7 (f:Str) (v:V):List (Str×V)->List (Str×V)
 | []=>[(f,v)]
 | (g,x)::r=>if g=f then (g,v)::r else (g,x)::D7 f v r
theorem Ej (f g:Str) (v:V):∀ fs:List (Str×V),(D7 f v fs).lookup g=if g=f then some v else fs.lookup g
 | []=>by
  show dZ g [(f,v)]=_
  by_cases h:g=f
  ·have hb:(g==f)=true:=beq_iff_eq.mpr h
   simp only [dZ,hb,if_pos h]
  ·have hb:(g==f)=false:=beq_eq_false_iff_ne.mpr h
   simp only [dZ,hb,if_neg h]
 | (k,x)::r=>by
  have ih:=Ej f g v r
  rw [show D7 f v ((k,x)::r)=(if k=f then (k,v)::r else (k,x)::D7 f v r) from rfl]
  by_cases hk:k=f
  ·rw [if_pos hk]
   by_cases h:g=k
   ·have hb:(g==k)=true:=beq_iff_eq.mpr h
    simp only [dZ,hb,if_pos (h.trans hk)]
   ·have hb:(g==k)=false:=beq_eq_false_iff_ne.mpr h
    simp only [dZ,hb,if_neg (fun e:g=f=>h (e.trans hk.symm))]
  ·rw [if_neg hk]
   by_cases h:g=k
   ·have hb:(g==k)=true:=beq_iff_eq.mpr h
    simp only [dZ,hb,if_neg (fun e:g=f=>hk (h.symm.trans e))]
   ·have hb:(g==k)=false:=beq_eq_false_iff_ne.mpr h
    simp only [dZ,hb]
    exact ih
theorem Dl (f:Str) (v:V):∀ fs:List (Str×V),f∈(D7 f v fs).map (·.1) /\ ∀ g,g∈fs.map (·.1)->g∈(D7 f v fs).map (·.1)
 | []=>⟨by simp [D7],fun g h=>by simp at h⟩
 | (k,x)::r=>by
  obtain⟨i1,i2⟩:=Dl f v r
  rw [show D7 f v ((k,x)::r)=(if k=f then (k,v)::r else (k,x)::D7 f v r) from rfl]
  by_cases hk:k=f
  ·rw [if_pos hk]
   subst hk
   exact⟨by simp,fun g h=>by simpa using h⟩
  ·rw [if_neg hk]
   refine⟨?_,fun g h=>?_⟩
   ·rw [aS]
    exact aJ _ i1
   ·rw [aS] at h ⊢
    rcases List.mem_cons.mp h with e|e
    ·exact List.mem_cons.mpr (.inl e)
    ·exact aJ _ (i2 g e)
theorem Ei (f:Str) (v:V):∀ fs:List (Str×V),(D7 f v fs).length<=fs.length+1
 | []=>by simp [D7]
 | (k,x)::r=>by
  have ih:=Ei f v r
  rw [show D7 f v ((k,x)::r)=(if k=f then (k,v)::r else (k,x)::D7 f v r) from rfl]
  by_cases hk:k=f
  ·rw [if_pos hk,aQ,aQ];omega
  ·rw [if_neg hk,aQ,aQ];omega
theorem RelO.some_of {v:V} {o:Option Value} (r:RelO (some v) o):∃ u,o=some u/\RelV v u:=by
 cases o with
 | none=>exact (show False from r).elim
 | some u=>exact⟨u,rfl,r⟩
theorem RelO.none_of {o:Option Value} (r:RelO none o):o=none:=by
 cases o with
 | none=>rfl
 | some u=>exact (show False from r).elim
theorem K6 {v:V} {u:Value} (r:RelV v u):gw u=true:=by
 cases v with
 | non=>cases (show u=be from r);rfl
 | bl b=>cases (show u=eE b from r);rfl
 | int i=>obtain⟨t,e⟩:=(show ∃ t,u=kQ i t from r);cases e;rfl
 | str x=>obtain⟨t,e⟩:=(show ∃ t,u=gX x t from r);cases e;rfl
 | byt b=>obtain⟨t,e⟩:=(show ∃ t,u=Value.bytes b t from r);cases e;rfl
 | stk y n ex=>obtain⟨t,e,_⟩:=(show ∃ t,u=gX y t/\(if ex=true then t=n else n<=t) from r);cases e;rfl
 | ref a=>cases (show u=aH a from r);rfl
 | ty n=>cases (show u=b_ n from r);rfl
section
variable {P:aO} {w:bM} {H H':Hp} {h h':Heap} {a C dx:Addr} {fs fs':List (Str×V)}
theorem Hf (hok:HOk P w H h) (e:H a=some (.ins C dx fs)):∃ mA,ObjM h a dx C mA/\(∀ f,RelO (fs.lookup f) (mA f))/\ez mA (fs.map (·.1))/\fs.length<=1000/\H dx=some (.own a):=by
 obtain⟨d,z,ne,ob,mA,n,r,q⟩:=(show ObjOk P w H h a (.ins C dx fs) from hok a _ e)
 exact⟨mA,⟨ob,n,ne⟩,r,q,z,d⟩
end
structure Cls (K:aa) (C:Addr):Prop where
 pg:dQ K C kP=true
 hd:eg K C=true
 po:e9 K C=true
 sa:aw K (.ref C) "__setattr__" = some (some (.builtin "object.__setattr__"))
theorem Cls.get {K:aa} {C:Addr} (c:Cls K C) (f:Str):dQ K C f=true:=c.pg
noncomputable def NoAttr (K:aa) (C:Addr) (f:Str):Prop:=aw K (.ref C) f=some none
theorem NoAttr.taker {K:aa} {C:Addr} {f:Str} (n:NoAttr K C f):jM K C f=some none:=by
 unfold jM
 rw [show aw K (.ref C) f=some none from n]
 rfl
structure Dh (K:aa) (C:Addr) (m:Str) (f:Addr):Prop where
 at_:aw K (.ref C) m=some (some (.ref f))
 fn:dU K (.ref f)=true
 kp:aU K (.ref f)=true
section
variable {X:Cx} {pins:List (Addr×Obj)} {σ:St} {H:Hp} {s:ag} {a C dx:Addr} {fs:List (Str×V)} {f:Str} {v:V} {A:aX} {E:Value->ag->Prop}
theorem P8 {b:Bool} {Q:Value->ag->Prop} (I:Inv X pins σ H s) (e:H a=some (.ins C dx fs)) (c:Cls X.K C) (n:NoAttr X.K C f) (l:fs.lookup f=some v)
  (h:∀ u s',Inv X pins σ H s'->RelV v u->Q u s'):ay (model X.prog X.w) A (lm (.ref a) f b) Q E s:=by
 obtain⟨mA,O,r,_,_,_⟩:=Hf I.hok e
 obtain⟨u,hu,ru⟩:=RelO.some_of (v:=v) (o:=mA f) (by rw [<- l];exact r f)
 exact aj3 I.kIn O (c.get f) c.hd n hu (K6 ru) (h u _ (I.tok _) ru)
theorem Ik {m:Str} {g:Addr} {pl:Sem Bool} {Q:Value×List Value->ag->Prop} (I:Inv X pins σ H s) (e:H a=some (.ins C dx fs)) (c:Cls X.K C) (k:Dh X.K C m g) (l:fs.lookup m=none)
  (h:Q (.ref g,[.ref a]) s):ay (model X.prog X.w) A (getMethod (.ref a) m pl) Q E s:=by
 obtain⟨mA,O,r,_,_,_⟩:=Hf I.hok e
 have hn:mA m=none:=RelO.none_of (by rw [<- l];exact r m)
 exact Y1 I.kIn O (c.get m) k.at_ k.fn hn h
theorem R7 {y:V} {u:Value} {Q:Unit->ag->Prop} (I:Inv X pins σ H s) (e:H a=some (.ins C dx fs)) (c:Cls X.K C) (n:NoAttr X.K C f) (hl:fs.length<1000) (ry:RelV y u)
  (h:∀ s',Inv X pins σ (upd H a (.ins C dx (D7 f y fs))) s'->Q () s'):ay (model X.prog X.w) A (l4 (.ref a) f u) Q E s:=by
 obtain⟨mA,O,r,wi,_,ho⟩:=Hf I.hok e
 have hz:(fs.map (·.1)).length<=sizeLine:=by rw [al,bL];omega
 refine aq2 I.kIn O c.sa c.po n.taker c.hd wi hz fun h' O' sb=>h _ ?_
 have hd:∃ o,h'.get? dx=some o:=let ⟨o,_,_,e',_⟩:=O'.ns;⟨o,e'⟩
 refine I.write (x:=a) (e:=dx) (by rw [e];exact aY) (.inr ho) (fun b q hb z=>(sb.2 b hb).trans z) hd ?_
 refine⟨by rw [Ae O.ne];exact ho,?_,O.ne,O'.obj,_,O'.ns,fun g=>?_,fun g hg=>?_⟩
 ·have:=Ei f y fs;omega
 ·show RelO ((D7 f y fs).lookup g) (if g=f then some u else mA g)
  rw [Ej]
  by_cases q:g=f
  ·rw [if_pos q,if_pos q];exact ry
  ·rw [if_neg q,if_neg q];exact r g
 ·by_cases q:g=f
  ·rw [q];exact (Dl f y fs).1
  ·refine (Dl f y fs).2 g (wi g fun z=>hg ?_)
   show (if g=f then some u else mA g)=none
   rw [if_neg q];exact z
theorem Inv.made (I:Inv X pins σ H s):Inv X pins σ (upd (upd H s.heap.objs.size (.own (s.heap.objs.size+1))) (s.heap.objs.size+1) (.ins C s.heap.objs.size []))
  {s with heap:=(s.heap.push bD).push (bQ C s.heap.objs.size) }:=by
 have e1:(s.heap.push bD).get? s.heap.objs.size=some bD:=aq s.heap rfl
 have e2:((s.heap.push bD).push (bQ C s.heap.objs.size)).get? (s.heap.objs.size+1)=some (bQ C s.heap.objs.size):=by
  have:=aq (s.heap.push bD) (o:=bQ C s.heap.objs.size) rfl
  rwa [bE] at this
 have e3:(s.heap.push bD).Ns s.heap.objs.size (fun _=>none):=⟨bD,#[],_,e1,rfl,(fun e he=>absurd he (by simp)),fun _=>rfl⟩
 have I1:=I.laid (a:=s.heap.objs.size) (o:=.own (s.heap.objs.size+1)) (h':=s.heap.push bD) (t':=s.toks) (fun b u q=>ae _ q) (af _) ⟨_,e1⟩
 refine I1.laid (a:=s.heap.objs.size+1) (o:=.ins C s.heap.objs.size []) (t':=s.toks) (fun b u q=>ae _ q) (lx (bE _ _)) ?_
 have ne:s.heap.objs.size≠s.heap.objs.size+1:=aA (cm _)
 refine⟨by rw [Ae ne,Ad],bJ _,ne,e2,fun _=>none,(Heap.Ns1.of_empty e3).at fun o q=>ae _ q,fun _=>aY,fun y hy=>absurd rfl hy⟩
theorem ah6 {prog:aO} {w:bM} {env:Env} {e:Expr} {f:Str} {pos:Pos} {s:ag} {Q:Value->ag->Prop} (hb:i4 e f env (eval e env)=eval e env)
  (h:ay (model prog w) A (eval e env) (fun o s₁=>ay (model prog w) A (lm o f true) Q E s₁) E s):ay (model prog w) A (eval (.Attribute e f pos) env) Q E s:=
 Attribute_any_ h (by rw [arm_eval_Attribute,hb])
end
section
variable {X:Cx} {o e value:Expr} {f:Str} {pos pos' tpos:Pos} {ta tv:TE}
end
section
variable {X:Cx} {pins:List (Addr×Obj)} {σ:St} {H:Hp} {s:ag} {A:aX} {E:Value->ag->Prop} {Q:Value->ag->Prop} {c:Value} {b:Bool}
inductive TyOf (K:aa) (H:Hp):V->Value->Prop where
 | non:TyOf K H .non (.type "NoneType")
 | bl (x:Bool):TyOf K H (.bl x) (.type "bool")
 | int (i:Int):TyOf K H (.int i) (.type "int")
 | str (x:Str):TyOf K H (.str x) (.type "str")
 | stk (x:Str) (n:Nat) (ex:Bool):TyOf K H (.stk x n ex) (.type "str")
 | lst {a:Addr} {xs:List V} (e:H a=some (.lst xs)):TyOf K H (.ref a) (.type "list")
 | frz {a:Addr} {o:Obj} {xs:List V} (e:H a=some (.frz o (.lst xs))):TyOf K H (.ref a) (.type "list")
 | tup {a:Addr} {xs:List V} (e:H a=some (.tup xs)):TyOf K H (.ref a) (.type "tuple")
 | dK {a:Addr} {kvs:List (Key×V)} (e:H a=some (.dK kvs)):TyOf K H (.ref a) (.type "dict")
 | dT {a:Addr} {kvs:List (List Key×V)} (e:H a=some (.dT kvs)):TyOf K H (.ref a) (.type "dict")
 | ins {a C dx:Addr} {fs:List (Str×V)} (e:H a=some (.ins C dx fs)) (cl:Cls K C) (ha:aw K (.ref C) "__class__" = some (some (.builtin "object.__class__")))
   (hn:iJ K (.builtin "object.__class__") "__get__" = some (some (.builtin "getset_descriptor.__get__"))) (htk:jN K (.builtin "object.__class__")=some true)
   (hm:b8 K C (.type "object")=some true):TyOf K H (.ref a) (.ref C)
theorem K9 {x:V} {u t:Value} (I:Inv X pins σ H s) (rx:RelV x u) (ty:TyOf X.K H x t) (e:dB X.K t c=some b) (h:∀ tk,Q (.bool b) { s with toks:=tk }) :
  ay (model X.prog X.w) A (call (.builtin "isinstance") [u,c]) Q E s:=by
 cases ty with
 | non=>cases (show u=be from rx);exact bW PySem.W.kitx_none I.kIn aY e (fun z=>nomatch z) h
 | bl y=>cases (show u=eE y from rx);exact bW PySem.W.kitx_bool I.kIn aY e (fun z=>nomatch z) h
 | int i=>obtain⟨t,q⟩:=(show ∃ t,u=kQ i t from rx);cases q;exact bW PySem.W.kitx_int I.kIn aY e (fun z=>nomatch z) h
 | str y=>obtain⟨t,q⟩:=(show ∃ t,u=gX y t from rx);cases q;exact bW PySem.W.kitx_str I.kIn aY e (fun z=>nomatch z) h
 | stk y n ex=>obtain⟨t,q,_⟩:=(show ∃ t,u=gX y t/\(if ex=true then t=n else n<=t) from rx);cases q;exact bW PySem.W.kitx_str I.kIn aY e (fun z=>nomatch z) h
 | @lst a xs ea=>
  cases (show u=aH a from rx)
  obtain⟨_,_,n,_,h1⟩:=(show ObjOk X.prog X.w H s.heap a (.lst xs) from I.hok a _ ea)
  exact bW f8 I.kIn ⟨_,h1,rfl⟩ e (fun z=>nomatch z) h
 | @frz a ob xs ea=>
  cases (show u=aH a from rx)
  obtain⟨_,_,_,n,_,h1⟩:=(show ObjOk X.prog X.w H s.heap a (.frz ob (.lst xs)) from I.hok a _ ea)
  exact bW f8 I.kIn ⟨_,h1,rfl⟩ e (fun z=>nomatch z) h
 | @tup a xs ea=>
  cases (show u=aH a from rx)
  obtain⟨_,_,_,p⟩:=(show ObjOk X.prog X.w H s.heap a (.tup xs) from I.hok a _ ea)
  obtain⟨o,h1,h2,_⟩:=p
  exact bW ia I.kIn ⟨o,h1,h2⟩ e (fun z=>nomatch z) h
 | @dK a kvs ea=>
  cases (show u=aH a from rx)
  obtain⟨_,_,vs,_,p⟩:=(show ObjOk X.prog X.w H s.heap a (.dK kvs) from I.hok a _ ea)
  obtain⟨o,es,ep,h1,h2,_⟩:=p
  exact bW PySem.W.kitx_dict I.kIn ⟨o,h1,h2.1⟩ e (fun z=>nomatch z) h
 | @dT a kvs ea=>
  cases (show u=aH a from rx)
  obtain⟨_,_,xs,_,o,es,ep,h1,h2,_⟩:=(show ObjOk X.prog X.w H s.heap a (.dT kvs) from I.hok a _ ea)
  exact bW PySem.W.kitx_dict I.kIn ⟨o,h1,h2.1⟩ e (fun z=>nomatch z) h
 | @ins a C dx fs ea cl ha hn htk hm=>
  cases (show u=aH a from rx)
  obtain⟨mA,O,_⟩:=Hf I.hok ea
  obtain⟨od,J,_⟩:=O.look
  exact bW (PySem.W.kitx_own (cl.get _) cl.hd ha hn htk hm) I.kIn J e (fun z=>nomatch z) h
end
structure Room (k:Nat) (A:aX):Prop where
 hd:A.handled=none
 dp:A.depth+3 * k+5<recursionLimit
 un:A.units+16 * k+200<cLine
theorem Room.mono {j k:Nat} {A:aX} (r:Room k A) (h:j<=k):Room j A:=⟨r.hd,by have:=r.dp;omega,by have:=r.un;omega⟩
theorem Room.deeper {k:Nat} {A:aX} (r:Room (k+1) A) (env:Env):Room k (A.deeper env):=
 ⟨r.hd,by have:=r.dp;show A.depth+1+3 * k+5<_;omega,by have:=r.un;show A.units+3+16 * k+200<_;omega⟩
theorem Qh {A:aX} {C:Addr} {us:List Value} {kw:List (Str×Value)}:(A.under (.builtin "type.__call__" ⟨.ref C::us,kw⟩)).depth=A.depth+1:=by
 first|rfl|simp [lv,Code.weight,Code.isCreation,Code.isGuard,Code.isCaller,Code.frames,lw,guardIds]
theorem Qi {A:aX} {C:Addr} {us:List Value} {kw:List (Str×Value)}:(A.under (.builtin "type.__call__" ⟨.ref C::us,kw⟩)).units=A.units+1:=by
 first|rfl|simp [lv,Code.cUnits,Code.frames,lw]
theorem Room.make {k:Nat} {A:aX} (r:Room (k+1) A) (C:Addr) (us:List Value) (kw:List (Str×Value)):Room k (A.under (.builtin "type.__call__" ⟨.ref C::us,kw⟩)):=
 ⟨r.hd,by have:=r.dp;rw [Qh];omega,by have:=r.un;rw [Qi];omega⟩
theorem Room.depth {k:Nat} {A:aX} (r:Room k A):A.depth<recursionLimit:=by have:=r.dp;omega
theorem Room.units {k:Nat} {A:aX} (r:Room k A):A.units+64<cLine:=by have:=r.un;omega
noncomputable def b08:TA:=fun _ H Q=>Q [] H
noncomputable def bt9 (ta:TE) (tr:TA):TA:=fun σ H Q=>ta σ H fun x H1=>tr σ H1 fun xs H2=>Q (x::xs) H2
section
variable {X:Cx} {e:Expr} {es:List Expr} {te:TE} {t:TA} {pos:Pos}
theorem a55:PA X [] b08:=fun _ _ _ _ H Q I h=>cJ ⟨[],H,I,.nil,h⟩
theorem am3 (ha:PE X e te) (hr:PA X es t) (hs:cU (e::es) X.env=(false,eval e X.env)::cU es X.env:=by rfl):PA X (e::es) (bt9 te t):=by
 intro pos pins s σ H Q I h
 rw [hs]
 show ay _ _ (mo ((false,eval e X.env)::ib pos (cU es X.env))) _ _ s
 refine cy (thn (ha pins s σ H _ I h) fun u s1 ⟨x,H1,I1,r1,q1⟩=>?_)
 exact thn (hr pos pins s1 σ H1 _ I1 q1) fun us s2 ⟨xs,H2,I2,r2,q2⟩=>⟨x::xs,H2,I2,.cons r1 r2,q2⟩
noncomputable def b12 (t:TA):TE:=fun σ H Q=>t σ H fun xs H1=>xs.length<=sizeLine /\ ∀ p,H1 p=none->Q (.ref p) (upd H1 p (.tup xs))
noncomputable def b07 (t:TA):TE:=fun σ H Q=>t σ H fun xs H1=>xs.length<=sizeLine /\ ∀ p,H1 p=none->Q (.ref p) (upd H1 p (.lst xs))
theorem a61 {x1} (h:PA X es t):PE X (.Tuple es x1 pos) (b12 t):=by
 intro pins s σ H Q I hq
 refine wpAny_Tuple_spliced (thn (h pos pins s σ H _ I hq) fun us s1 ⟨xs,H1,I1,r,z,q⟩=>⟨by rw [<- r.length];exact z,?_⟩)
 have hf:H1 s1.heap.objs.size=none:=I1.hok.fresh (af _)
 refine⟨.ref s1.heap.objs.size,upd H1 s1.heap.objs.size (.tup xs),I1.laid (t':=s1.toks) (fun b u e=>ae _ e) (af _) ?_,rfl,q _ hf⟩
 exact⟨z,us,r,⟨_,aq _ rfl,rfl,_,rfl⟩⟩
theorem a57 (h:PA X es t):PE X (.List es pos) (b07 t):=by
 intro pins s σ H Q I hq
 refine wpAny_List_spliced (thn (h pos pins s σ H _ I hq) fun us s1 ⟨xs,H1,I1,r,z,q⟩=>⟨by rw [<- r.length];exact z,?_⟩)
 have hf:H1 s1.heap.objs.size=none:=I1.hok.fresh (af _)
 refine⟨.ref s1.heap.objs.size,upd H1 s1.heap.objs.size (.lst xs),I1.laid (t':=s1.toks) (fun b u e=>ae _ e) (af _) ?_,rfl,q _ hf⟩
 exact⟨z,us,0,r,aq _ rfl⟩
end
noncomputable abbrev Sp:=List V->Hp->VK->XK->Prop
noncomputable abbrev CXT:=List Env->Hp->ag->XK->Value->ag->Prop
structure Env0 (P:aO) (w:bM) (K:aa) (mg:Str->Option Value) (base:Heap) (A:aX) (outer:List Env) (s:ag) (H:Hp):Prop where
 frames:A.frames=some outer
 mod:Mod K mg base
 bs:∀ b o,base.get? b=some o->s.heap.get? b=some o/\H b=none
 bsz:base.objs.size<=s.heap.objs.size
 funs:s.heap.FunFrames base outer
 frf:∀ b∈frs outer,H b=none
 hok:HOk P w H s.heap
 bare:kf s.gens
 tk:Ko K s.toks
noncomputable def CE (outer:List Env) (P:aO) (w:bM) (H:Hp) (s:ag) (Q:VK) (u:Value) (s':ag):Prop:=
 ∃ v H',(s'.os=s.os/\s.toks<=s'.toks)/\kf s'.gens/\Un (frs outer) [] H H' s.heap s'.heap/\HOk P w H' s'.heap/\RelV v u/\Q v H'
noncomputable def CR (CX:CXT) (outer:List Env) (P:aO) (w:bM) (H:Hp) (s:ag) (Q:VK) (E:XK) (r:jO) (s':ag):Prop:=
 match r with
 | .ok (.ret u)=>CE outer P w H s Q u s'
 | .ok _=>False
 | .error e=>CX outer H s E e s'
structure FnOk (P:aO) (w:bM) (K:aa) (mg:Str->Option Value) (base:Heap) (CX:CXT) (k:Nat) (f:Addr) (fd:aE) (ps:List Str) (sp:Sp):Prop where
 len:∀ vs H Q E,sp vs H Q E->vs.length=ps.length
 run:∀ (A:aX) (outer:List Env) (s:ag) (H:Hp) (args:Args) (us:List Value) (vs:List V) (Q:VK) (E:XK),Room k A->Env0 P w K mg base A outer s H->lf s fd args (ps.zip us)->Vals vs us->sp vs H Q E ->
  d4 (model P w) A (.call (.ref f) args) (CR CX outer P w H s Q E) s
theorem FnOk.imp {P:aO} {w:bM} {K:aa} {mg:Str->Option Value} {base:Heap} {CX:CXT} {k:Nat} {f:Addr} {fd:aE} {ps:List Str} {sp sp':Sp} (F:FnOk P w K mg base CX k f fd ps sp)
  (h:∀ vs H Q E,sp' vs H Q E->sp vs H Q E):FnOk P w K mg base CX k f fd ps sp':=
 ⟨fun vs H Q E q=>F.len vs H Q E (h _ _ _ _ q),fun A outer s H args us vs Q E hr he hb hv hs=>F.run A outer s H args us vs Q E hr he hb hv (h _ _ _ _ hs)⟩
theorem Env0.make {P:aO} {w:bM} {K:aa} {mg:Str->Option Value} {base:Heap} {A:aX} {outer:List Env} {s:ag} {H:Hp} (e:Env0 P w K mg base A outer s H) (C:Addr) (us:List Value) (kw:List (Str×Value)) :
  Env0 P w K mg base (A.under (.builtin "type.__call__" ⟨.ref C::us,kw⟩)) outer s H:=⟨by first|exact e.frames|(simpa [lv,Code.envs,lw,pushEnvs] using e.frames),e.mod,e.bs,e.bsz,e.funs,e.frf,e.hok,e.bare,e.tk⟩
section
variable {X:Cx} {pins:List (Addr×Obj)} {σ:St} {H:Hp} {s s':ag}
theorem Inv.env0 (I:Inv X pins σ H s):Env0 X.prog X.w X.K X.mg X.base X.A X.stack s H:=
 ⟨I.ok.frames,I.ok.mod,I.bs,aR I.ok.bsz I.sz,I.stack,I.stkFree,I.hok,I.bare,fun x y t e=>av (I.ok.tk x y t e) I.os.2⟩
theorem Inv.after {Q:VK} {u:Value} (I:Inv X pins σ H s) (h:CE X.stack X.prog X.w H s Q u s'):EP X pins σ Q u s':=by
 obtain⟨v,H',os,bare,un,hok,r,q⟩:=h
 obtain⟨hh,g,d,t,os'⟩:=s'
 obtain rfl:os'=s.os:=os.1
 exact⟨v,H',I.call (h':=hh) (g':=g) (d':=d) (t':=t) (ch:=[]) un hok bare (fun b z=>absurd z (by simp)) os.2,r,q⟩
end
noncomputable def Binds (K:aa) (fd:aE) (ps:List Str) (ds:List Value):Prop:=
 ∀ (s:ag) (us:List Value),K.In s.heap->(us++ds).length=ps.length->lf s fd ⟨us,[]⟩ (ps.zip (us++ds))
theorem Binds.all {K:aa} {fd:aE} {ps:List Str} (h:∀ us:List Value,us.length=ps.length->mh fd ⟨us,[]⟩=pure (ps.zip us)):Binds K fd ps []:=fun s us _ hl=>by
 rw [dG] at hl ⊢
 exact .of_eq (h us hl)
section
variable {X:Cx} {CX:CXT} {k:Nat} {f C:Addr} {fd:aE} {ps:List Str} {sp:Sp} {dvs:List V} {ds:List Value} {E:XK} {x m:Str} {p pos apos:Pos} {e o:Expr} {es:List Expr} {ta:TE} {t:TA}
structure Mk (K:aa) (C f:Addr):Prop where
 makes:bX K C=true
 init:aw K (.ref C) "__init__" = some (some (.ref f))
 fn:dU K (.ref f)=true
 kp:aU K (.ref C)=true
end
section
variable {X:Cx} {CX:CXT} {k:Nat} {f C:Addr} {fd:aE} {ps ks:List Str} {sp:Sp} {E:XK} {x m:Str} {p pos apos kpos:Pos} {e o:Expr} {es:List Expr} {kws:List lP} {te ta:TE} {t tk:TA} {nm:Option Str}
variable {g:List Value->List Value->List Value} {gV:List V->List V->List V}
end
structure Al (N P:List Str) (sc:Scope):Prop where
 kind:sc.kind=.function
 co:sc.isCoroutine=false
 gen:sc.isGenerator=false
 nd:N.Nodup
 pre:N.take P.length=P
 par:∀ x∈P,sc.names.lookup x=some .local\/sc.names.lookup x=some .cell
 nofree:∀ y∈sc.names,y.2≠.free
theorem Ks {kindOf:Str->Option cz} {x:Str}:∀ {binds:List (Str×Value)} {m:Str->Option Value},(∀ v,(x,v)∉binds)->bindL kindOf binds m x=m x
 | [],_,_=>rfl
 | (n,v)::r,m,h=>by
  unfold bindL
  rw [Ks fun w hw=>h w (aJ _ hw)]
  split
  ·have:x≠n:=by rintro rfl;exact h v bC
   simp [this]
  ·rfl
theorem Kq {kindOf:Str->Option cz} {x:Str}:∀ {binds:List (Str×Value)} {m:Str->Option Value},(∀ v,(x,v)∉binds)->bindC kindOf binds m x=m x
 | [],_,_=>rfl
 | (n,v)::r,m,h=>by
  unfold bindC
  rw [Kq fun w hw=>h w (aJ _ hw)]
  split
  ·rfl
  ·have:x≠n:=by rintro rfl;exact h v bC
   simp [this]
theorem Kr {kindOf:Str->Option cz} {x:Str} {v:Value}:∀ {P:List Str} {vs:List Value} {i:Nat} {m:Str->Option Value},P.Nodup->P[i]? = some x->vs[i]? = some v->kindOf x=some .local ->
  bindL kindOf (P.zip vs) m x=some v
 | [],_,_,_,_,h,_,_=>by simp at h
 | _::_,[],_,_,_,_,h,_=>by simp at h
 | p::P,w::vs,0,m,nd,h1,h2,hk=>by
  simp at h1 h2;subst h1;subst h2
  show bindL kindOf ((p,w)::P.zip vs) m p=_
  unfold bindL
  rw [Ks fun v hv=>(List.nodup_cons.mp nd).1 (jF hv).1,if_pos hk]
  simp
 | p::P,w::vs,i+1,m,nd,h1,h2,hk=>by
  show bindL kindOf ((p,w)::P.zip vs) m x=_
  unfold bindL
  exact Kr (i:=i) (List.nodup_cons.mp nd).2 (by simpa using h1) (by simpa using h2) hk
theorem Kp {kindOf:Str->Option cz} {x:Str} {v:Value}:∀ {P:List Str} {vs:List Value} {i:Nat} {m:Str->Option Value},P.Nodup->P[i]? = some x->vs[i]? = some v->kindOf x≠some .local ->
  bindC kindOf (P.zip vs) m x=some v
 | [],_,_,_,_,h,_,_=>by simp at h
 | _::_,[],_,_,_,_,h,_=>by simp at h
 | p::P,w::vs,0,m,nd,h1,h2,hk=>by
  simp at h1 h2;subst h1;subst h2
  show bindC kindOf ((p,w)::P.zip vs) m p=_
  unfold bindC
  rw [Kq fun v hv=>(List.nodup_cons.mp nd).1 (jF hv).1,if_neg hk]
  simp
 | p::P,w::vs,i+1,m,nd,h1,h2,hk=>by
  show bindC kindOf ((p,w)::P.zip vs) m x=_
  unfold bindC
  exact Kp (i:=i) (List.nodup_cons.mp nd).2 (by simpa using h1) (by simpa using h2) hk
noncomputable def start (N:List Str) (vs:List V):St:=vs.map some++a0 (N.length - vs.length) none
noncomputable def Px (CX:CXT) (P:aO) (w:bM) (K:aa) (mg:Str->Option Value) (base:Heap) (N:List Str) (qual:Str) (scope:Scope) (f:Addr) (cd:Value) (A:aX) (outer:List Env) (s:ag) (H:Hp) (E:XK):Cx where
 prog:=P
 w:=w
 K:=K
 mg:=mg
 base:=base
 A:=A.deeper (lG qual scope s.heap.objs.size f cd)
 N:=N
 s₀:=s
 H₀:=H
 env:=lG qual scope s.heap.objs.size f cd
 outer:=outer
 stack:=lG qual scope s.heap.objs.size f cd::outer
 ex:=[]
 calm:=true
 fn:=fun _=>true
 pn:=[]
 xe:=fun e s'=>ay (model P w) (A.deeper (lG qual scope s.heap.objs.size f cd)) (leaving (lG qual scope s.heap.objs.size f cd) e) (fun _ s''=>CX outer H s E e s'') (fun e' s''=>CX outer H s E e' s'') s'
theorem Ht {sc:Scope} {n:Nat} {x:Str} (h:sc.names.lookup x=some .cell):∃ c,(cellsFrom n sc.names []).lookup x=some c:=by
 have q:=js sc.names n [] (.inl h)
 exact Option.isSome_iff_exists.mp q
theorem Vk {CX:CXT} {P:aO} {w:bM} {K:aa} {mg:Str->Option Value} {base:Heap} {N ps:List Str} {qual:Str} {scope:Scope} {f:Addr} {cd:Value} {A:aX} {outer:List Env} {s s1:ag} {H:Hp} {E:XK} {us:List Value} {vs:List V}
  (S:Al N ps scope) (hd:A.handled=none) (e0:Env0 P w K mg base A outer s H) (htk:s.toks<=s1.toks) (hl:vs.length=ps.length) (r:Vals vs us)
  (x:InCallC s s.heap.objs.size (bindL (lG qual scope s.heap.objs.size f cd).kindOf (ps.zip us) fun _=>none) (cellsFrom (s.heap.objs.size+1) scope.names []) (bindC (lG qual scope s.heap.objs.size f cd).kindOf (ps.zip us) fun _=>none) s1) :
  Inv (Px CX P w K mg base N qual scope f cd A outer s H E) [] (start N vs) H s1:=by
 have hpl:ps.length<=N.length:=by have:=congrArg List.length S.pre;rw [dN] at this;omega
 obtain⟨h1,tk,rfl,hk⟩:=x.done
 have noA:∀ b:Addr,b∉(Px CX P w K mg base N qual scope f cd A outer s H E).ex:=fun b z=>absurd (show b∈([]:List Addr) from z) (by simp)
 refine⟨⟨e0.mod,S.kind,rfl,rfl,af _,fun y z c h1 h2=>?_,fun y hy=>?_,fun y c _ h=>?_,fun _=>hd,Around.frames_deeper e0.frames,.inr ⟨rfl,rfl⟩,fun b z=>absurd z (noA b),e0.bs,e0.bsz,fun b _ _=>noA b,fun b z=>absurd z (noA b),e0.funs,e0.frf,e0.tk⟩,
  ⟨rfl,htk⟩,e0.bare,Un.kept hk,⟨_,x.toInCall.ns,fun i y v h1 h2 h3=>?_⟩,fun y c h=>⟨_,x.cell y c h⟩,e0.hok.fresh (af _),fun y c h=>?_,fun p hp=>absurd (show p∈([]:List (Addr×Obj)) from hp) (by simp),e0.hok.kept hk,?_⟩
 ·exact name_of_addr x.apart (bK h1) (bK h2)
 ·have hy:scope.names.lookup y=some .cell\/scope.names.lookup y=some .free:=hy
  rcases hy with hy|hy
  ·exact Ht hy
  ·exact absurd rfl (S.nofree _ (bK hy))
 ·exact lA (x.above y c (bK h))
 ·have hi:i<vs.length:=by
   unfold start at h2
   by_cases hi:i<vs.length
   ·exact hi
   ·rw [cw (by simpa using hi)] at h2
    rw [List.getElem?_replicate] at h2
    split at h2 <;> cases h2
  have ha:vs[i]? = some v:=by
   unfold start at h2
   rw [c9 (by simpa using hi),aI] at h2
   cases e:vs[i]? with
   | none=>rw [e] at h2;cases h2
   | some a=>rw [e] at h2;cases h2;rfl
  obtain⟨u,hu,rv⟩:=r.get ha
  have hp:ps[i]? = some y:=by
   rw [<- S.pre,List.getElem?_take_of_lt (by omega)];exact h1
  have ndP:ps.Nodup:=by rw [<- S.pre];exact S.nd.sublist (List.take_sublist _ _)
  refine⟨u,rv,?_⟩
  rcases S.par y (bd hp) with k|k
  ·exact .inl ⟨k,Kr ndP hp hu k⟩
  ·obtain⟨c,e⟩:=Ht (n:=s.heap.objs.size+1) k
   refine .inr ⟨.inl k,c,e,?_⟩
   have q:=x.cell y c e
   rw [Kp ndP hp hu (by show scope.names.lookup y≠_;rw [k];decide)] at q
   exact q
 ·exact e0.hok.fresh (lA (x.above y c (bK h)))
 ·unfold start
  show _=N.length
  rw [ax,al,List.length_replicate]
  omega
theorem bh0 {CX:CXT} {P:aO} {w:bM} {K:aa} {mg:Str->Option Value} {base:Heap} {k:Nat} {f:Addr} {name qual:Str} {params:Arguments} {body:List Stmt} {scope:Scope} {dV kV doc pm cdv ct oc:Value} {an od:Option Addr}
  {osl:Array (Option Value)} {N ps:List Str} {sp:Sp} (lk:K.lookup f=some ⟨oc,od,.func (cR name qual params body scope dV kV doc pm an cdv ct),osl⟩) (hcd:eD K cdv qual=true) (S:Al N ps scope)
  (len:∀ vs H Q E,sp vs H Q E->vs.length=ps.length)
  (hbody:∀ (A:aX) (outer:List Env) (s:ag) (H:Hp) (vs:List V) (Q:VK) (E:XK),Room k (A.deeper (lG qual scope s.heap.objs.size f cdv))->sp vs H Q E ->
   ∃ t,PSs (Px CX P w K mg base N qual scope f cdv A outer s H E) body t/\t { nx:=fun _ H'=>Q .non H',rt:=Q } (start N vs) H) :
  FnOk P w K mg base CX (k+1) f (cR name qual params body scope dV kV doc pm an cdv ct) ps sp:=by
 refine⟨len,fun A outer s H args us vs Q E hr e0 hb r hsp=>?_⟩
 have hl:=len _ _ _ _ hsp
 have KX:K.In s.heap:=e0.mod.kin.keeps fun b o e=>(e0.bs b o e).1
 have lim:s.heap.NoLimit:=e0.mod.nolimit.keeps fun b o e=>(e0.bs b o e).1
 have hkind:∀ y∈ps.zip us,scope.names.lookup y.1=some .local\/(scope.names.lookup y.1=some .cell/\((cellsFrom (s.heap.objs.size+1) scope.names []).lookup y.1).isSome=true):=fun⟨n,v⟩ hy=>by
  rcases S.par n (jF hy).1 with q|q
  ·exact .inl q
  ·exact .inr ⟨q,js _ _ _ (.inl q)⟩
 refine codeAny_call_function hr.depth (KX _ _ lk) rfl S.co S.gen rfl (PySem.W.codeRec_of KX hcd) (hb _ _ _ _ ?_)
 refine bh (af _) (wpAny_newFunctionEnv_cells S.kind hkind fun env he s1 x htk=>?_)
 subst he
 refine⟨lim.keeps x.toInCall.keep,codeAny_func ?_⟩
 obtain⟨t,ht,hq⟩:=hbody A outer s H vs Q E (hr.deeper _) hsp
 have I:Inv (Px CX P w K mg base N qual scope f cdv A outer s H E) [] (start N vs) H s1:=Vk S hr.hd e0 htk hl r x
 refine cA (ht [] s1 (start N vs) H _ I hq) (fun fl s' hs=>?_) fun e s' hs=>hs
 have fin:∀ {σ':St} {H':Hp} {v:V} {u:Value},Inv (Px CX P w K mg base N qual scope f cdv A outer s H E) [] σ' H' s'->RelV v u->Q v H'->CE outer P w H s Q u s':=
  fun {σ' H' v u} J rv q=>⟨v,H',J.os,J.bare,J.base,J.hok,rv,q⟩
 cases fl with
 | ret u=>
  obtain⟨v,σ',H',J,rv,q⟩:=hs
  exact fin J rv q
 | next=>
  obtain⟨σ',H',J,q⟩:=hs
  exact fin (v:=V.non) (u:=be) J rfl q
 | brk=>
  obtain⟨_,_,_,q⟩:=hs
  exact cZ q
 | cont=>
  obtain⟨_,_,_,q⟩:=hs
  exact cZ q
section
variable {X:Cx} {x:Str} {p pos:Pos} {e:Expr} {es:List Expr} {t:TA} {id T:String} {r:List V->Hp->VK->Prop}
noncomputable def tCB (r:List V->Hp->VK->Prop) (t:TA):TE:=fun σ H Q=>t σ H fun vs H1=>r vs H1 Q
theorem Z2 (hc:Bl X (.builtin id) r) (hg:Gl X x) (hm:X.mg x=none) (hv:dm x=some (.builtin id)) (ha:PA X (e::es) t) (hn:x ≠ "__name__" := by decide) (hdb:(x==("__debug__" : Str))=false:=by decide)
  (he:cU (e::es) X.env=(false,eval e X.env)::cU es X.env:=by rfl) (hpl:(ib pos (cU es X.env)).any (·.1)=false:=by rfl):PE X (.Call (.Name x p) (e::es) [] pos) (tCB r t):=by
 intro pins s σ H Q I h
 refine bj (B2 I hg hm hv ?_ hn hdb)
 exact gp (thn (ha pos pins s σ H _ I h) fun us s1 ⟨vs,H1,I1,r1,q1⟩=>hc pins s1 σ H1 vs us Q I1 r1 q1) he hpl
theorem V6 (hc:Bl X (.type T) r) (hg:Gl X x) (hm:X.mg x=none) (hv:dm x=some (.type T)) (ha:PA X (e::es) t) (hn:x ≠ "__name__" := by decide) (hdb:(x==("__debug__" : Str))=false:=by decide)
  (he:cU (e::es) X.env=(false,eval e X.env)::cU es X.env:=by rfl) (hpl:(ib pos (cU es X.env)).any (·.1)=false:=by rfl):PE X (.Call (.Name x p) (e::es) [] pos) (tCB r t):=by
 intro pins s σ H Q I h
 refine bj (B2 I hg hm hv ?_ hn hdb)
 exact a_ (thn (ha pos pins s σ H _ I h) fun us s1 ⟨vs,H1,I1,r1,q1⟩=>hc pins s1 σ H1 vs us Q I1 r1 q1) he hpl
end
end L2
namespace HT
open PySem PyProof.Rows
section
open PySem.SeqAt
open PySem.AutoSeq1 (wpAny_loadPart')
open PySem.MeetsSeq PySem.MeetsSeq2 PySem.MeetsSeq3
end
section
variable {prog:aO} {w:bM} {A:aX} {E:Value->ag->Prop} {s:ag}
theorem cat_tup {t b:Addr} {vs ws:List Value} {Q:Value->ag->Prop} (ht:lJ s.heap t vs.toArray) (hb:lJ s.heap b ws.toArray) (hv:vs≠[])
  (h1:ws=[]->Q (.ref t) s) (h2:ws≠[]->Q (.ref s.heap.objs.size) { s with heap:=s.heap.push { cls:=.type "tuple", data:=.seq (vs++ws).toArray } })
  (hsz:vs.length+ws.length<=sizeLine):ay (model prog w) A (c_ .Add (.ref t) (.ref b)) Q E s:=by
 obtain⟨⟨cls,dd,data,sl⟩,ho,hc,n,hd⟩:=id ht
 obtain⟨⟨cls2,dd2,data2,sl2⟩,ho2,hc2,n2,hd2⟩:=id hb
 simp only at hc hd hc2 hd2
 subst hc hd hc2 hd2
 have e:vs.toArray++ws.toArray=(vs++ws).toArray:=by simp
 by_cases hw:ws=[]
 ·exact lF ⟨_,ho,rfl⟩ ⟨_,ho2,rfl⟩ jj kX fY fM (fE _ _)
   (tuple_addW1 t b vs.toArray ws.toArray n n2 dd dd2 sl sl2 (by simpa using hv) (by simp [hw])) ⟨ho,ho2,h1 hw⟩
 ·refine lF ⟨_,ho,rfl⟩ ⟨_,ho2,rfl⟩ jj kX fY fM (fE _ _)
   (tuple_addW2 t b vs.toArray ws.toArray n n2 dd dd2 sl sl2 (by simpa using hv) (by simpa using hw) (by rw [am,am];exact hsz)) ⟨ho,ho2,?_⟩
  rw [e]
  exact h2 hw
noncomputable def sIx (n d:Nat):Option Int->Nat
 | none=>d
 | some v=>if v<0 then (v+(n:Int)).toNat else min v.toNat n
theorem sIx_nat (n d k:Nat):sIx n d (some (k:Int))=min k n:=by
 show (if (k:Int)<0 then ((k:Int)+(n:Int)).toNat else min (k:Int).toNat n)=min k n
 rw [if_neg (by omega),bt]
theorem bc0 (n d:Nat) (hd:d<=n) (o:Option Int):sIx n d o<=n:=by
 cases o with
 | none=>exact hd
 | some v=>
  show (if v<0 then (v+(n:Int)).toNat else min v.toNat n)<=n
  by_cases hv:v<0
  ·rw [if_pos hv];omega
  ·rw [if_neg hv];exact Nat.min_le_right _ _
theorem Sv (v:Int) (n d:Nat):(if v<0 then max (v+(n:Int)) 0 else min v (n:Int))=((sIx n d (some v):Nat):Int):=by
 show (if v<0 then max (v+(n:Int)) 0 else min v (n:Int))=(((if v<0 then (v+(n:Int)).toNat else min v.toNat n):Nat):Int)
 by_cases hv:v<0
 ·simp only [if_pos hv];omega
 ·simp only [if_neg hv];omega
theorem Po (lo hi:Option Int) (n:Nat):fk lo hi 1 (n:Int)=(((sIx n 0 lo:Nat):Int),((sIx n n hi:Nat):Int)):=by
 have h1:¬ ((1:Int)<0):=by omega
 unfold fk
 simp only [h1,if_false]
 refine Prod.ext ?_ ?_
 ·cases lo with
  | none=>rfl
  | some v=>exact Sv v n 0
 ·cases hi with
  | none=>rfl
  | some v=>exact Sv v n n
theorem Qr (i j:Nat):dY (i:Int) (j:Int) 1=j - i:=by
 unfold dY
 have h1:(1:Int) > 0:=by omega
 simp only [h1,if_true,Int.ediv_one]
 split <;> omega
theorem Jy {v:Value} {o:Option Int} {Q:Option Int->ag->Prop} (p:lM v o) (h:Q o s):ay (model prog w) A (Builtin.Slice.slicePartIndex v) Q E s:=by
 cases p with
 | none=>exact slicePart_none h
 | int i t=>exact slicePart_int h
theorem Gw {sl:Addr} {vl vu:Value} {lo hi:Option Int} {n:Nat} {Q:Int×Int×Nat->ag->Prop} (hs:s.heap.IsSliceOf sl vl vu .none) (pl:lM vl lo) (pu:lM vu hi)
  (h:Q (((sIx n 0 lo:Nat):Int),1,sIx n n hi - sIx n 0 lo) s):ay (model prog w) A (g8 (.ref sl) (pure (n:Int))) Q E s:=by
 obtain⟨os,hos,hcs,hds⟩:=id hs
 unfold g8 Builtin.Slice.sliceFields
 refine ac (ac (aZ hos hds (x:=vl) rfl (ac (aZ hos hds (x:=vu) rfl (ac (aZ hos hds (x:=.none) rfl (ai ?_)))))))
 refine ac (slicePart_none ?_)
 show ay _ _ (if ((1:Int)==0)=true then _ else _) _ _ s
 rw [if_neg (by decide)]
 refine ac (Jy pl (ac (Jy pu (ac (ai ?_)))))
 show ay _ _ (match fk lo hi 1 (n:Int) with|(lo,hi)=>pure (lo,(1:Int),dY lo hi 1)) _ _ s
 rw [Po lo hi n]
 show ay _ _ (pure (((sIx n 0 lo:Nat):Int),(1:Int),dY ((sIx n 0 lo:Nat):Int) ((sIx n n hi:Nat):Int) 1)) _ _ s
 rw [Qr]
 exact ai h
theorem Z5 (xs:Array Value) (i k:Nat):((bO k).filterMap fun (m:Nat)=>xs[((i:Int)+(m:Int) * 1).toNat]?).toArray=((xs.toList.drop i).take k).toArray:=by
 have e:(fun (m:Nat)=>xs[((i:Int)+(m:Int) * 1).toNat]?)=fun m=>xs[i+m]?:=by
  funext m
  have:((i:Int)+(m:Int) * 1).toNat=i+m:=by omega
  rw [this]
 rw [e]
 have:=pick_run xs i k
 rw [List.filterMap_map] at this
 have e2:((fun x=>xs[x]?)∘fun x=>i+x)=fun m=>xs[i+m]?:=rfl
 rw [e2] at this
 rw [this]
theorem getItem_tuple_cut {t sl:Addr} {items:Array Value} {vl vu:Value} {lo hi:Option Int} {Q:Value->ag->Prop} (ht:lJ s.heap t items) (hs:s.heap.IsSliceOf sl vl vu .none) (pl:lM vl lo) (pu:lM vu hi)
  (hw:¬ (sIx items.size 0 lo=0/\sIx items.size items.size hi=items.size))
  (h:Q (.ref s.heap.objs.size) { s with heap:=s.heap.push { cls:=.type "tuple", data:=.seq ((items.toList.drop (sIx items.size 0 lo)).take (sIx items.size items.size hi - sIx items.size 0 lo)).toArray } })
  (hsz:items.size<=sizeLine):ay (model prog w) A (lV (.ref t) (.ref sl)) Q E s:=by
 have htake:sizeOk (.seq ((items.toList.drop (sIx items.size 0 lo)).take (sIx items.size items.size hi - sIx items.size 0 lo)).toArray):=by
  show ((items.toList.drop (sIx items.size 0 lo)).take (sIx items.size items.size hi - sIx items.size 0 lo)).toArray.size<=sizeLine
  rw [am,dN,gu,cY]
  omega
 have hj:sIx items.size items.size hi<=items.size:=bc0 _ _ (af _) hi
 obtain⟨os,hos,hcs,hds⟩:=id hs
 have hTs:s.TypeIs (.ref sl) "slice" := ⟨os,hos,hcs⟩
 unfold lV
 try with_reducible refine bb ?_
 first|refine ac (ai ?_)|skip
 refine ac (wpAny_sequenceKey ht.typeIs (by decide) ?_)
 refine ac (bR (name:=ba "__getitem__") ht.typeIs ef
  (cF ef ht.typeIs entry_tuple_getitem ?_ (args_tuple_getitem _ _)))
 show ay _ _ (Builtin.Tuple.tupleItemsOf (.ref t) >>= _) _ _ s
 refine ac (tupleItemsOf_ ht ?_)
 refine ac (ic hTs ?_)
 rw [if_pos (by decide)]
 refine ac (Gw hs pl pu ?_)
 have hno:¬ ((((sIx items.size 0 lo:Nat):Int)==0&&(1:Int)==1&&(sIx items.size items.size hi - sIx items.size 0 lo)==items.size)=true):=by
  intro q
  rw [ak,ak] at q
  have q1:((sIx items.size 0 lo:Nat):Int)=0:=cO q.1.1
  have q2:sIx items.size items.size hi - sIx items.size 0 lo=items.size:=cO q.2
  exact hw ⟨by omega,by omega⟩
 show ay _ _ (if (((sIx items.size 0 lo:Nat):Int)==0&&(1:Int)==1&&(sIx items.size items.size hi - sIx items.size 0 lo)==items.size)=true then _ else _) _ _ s
 rw [if_neg hno,Z5]
 first
  | exact ac (m:=d8 _) (cv (ai ⟨_,rfl,ai h⟩) htake)
  | exact ac (m:=d8 _) (cv (ac (ai (ai ⟨_,rfl,ai h⟩))) htake)
  | exact ac (ac (m:=d8 _) (cv (ai (ai ⟨_,rfl,ai h⟩)) htake))
  | exact ac (ac (m:=d8 _) (cv (ai ⟨_,rfl,ai h⟩) htake))
end
end HT
namespace L2
open PySem PySem.Spec PyProof.Rows
noncomputable abbrev TO:=St->Hp->(Option Int->Hp->Prop)->Prop
noncomputable def PO (X:Cx) (e:Option Expr) (t:TO):Prop:=
 ∀ (pins:List (Addr×Obj)) (s:ag) (σ:St) (H:Hp) (Q:Option Int->Hp->Prop),Inv X pins σ H s->t σ H Q ->
  ay (model X.prog X.w) X.A (evalPart e X.env) (fun u s'=>∃ o H',Inv X pins σ H' s'/\lM u o/\Q o H') X.xe s
noncomputable def aq8:TO:=fun _ H Q=>Q none H
section
variable {X:Cx} {e:Expr} {te:TE} {lo hi:Option Expr} {tl th:TO} {pos p2:Pos}
theorem am9:PO X none aq8:=by
 intro pins s σ H Q I h
 rw [evalPart_none]
 exact ai ⟨none,H,I,.none,h⟩
noncomputable def SlR (X:Cx) (r:V->Option Int->Option Int->Hp->VK->Prop):Prop:=
 ∀ (pins:List (Addr×Obj)) (s:ag) (σ:St) (H:Hp) (x:V) (v vl vu:Value) (lo hi:Option Int) (sl:Addr) (Q:VK),Inv X pins σ H s->RelV x v->s.heap.IsSliceOf sl vl vu .none->lM vl lo->lM vu hi->r x lo hi H Q ->
  ∃ T id,dR (.type T) "__getitem__" = pure (some (.builtin id))/\s.TypeIs v T/\ay (model X.prog X.w) X.A (lV v (.ref sl)) (EP X pins σ Q) X.xe s
noncomputable def Ka (xs:List V) (lo hi:Option Int):List V:=(xs.drop (HT.sIx xs.length 0 lo)).take (HT.sIx xs.length xs.length hi - HT.sIx xs.length 0 lo)
theorem Gy (xs:List V) (lo hi:Option Int):(Ka xs lo hi).length<=xs.length:=by
 unfold Ka
 rw [dN,gu]
 omega
noncomputable def b02 (K:aa):V->Option Int->Option Int->Hp->VK->Prop:=fun x lo hi H Q=>∃ a xs,x=.ref a/\SqT K H a xs /\
 ¬ (HT.sIx xs.length 0 lo=0/\HT.sIx xs.length xs.length hi=xs.length) /\ ∀ p,H p=none->Q (.ref p) (upd H p (.tup (Ka xs lo hi)))
theorem bd4:SlR X (b02 X.K):=by
 intro pins s σ H x v vl vu lo hi sl Q I rx hs pl pu h
 obtain⟨a,xs,rfl,hx,hw,q⟩:=h
 cases rx
 obtain⟨its,r,ht,hz⟩:=I.tuple hx
 have hlen:its.toArray.size=xs.length:=by rw [am];exact r.length.symm
 refine⟨"tuple", _,PyProof.Rows.slot_tuple_getitem.lookup,ht.typeIs,?_⟩
 refine HT.getItem_tuple_cut ht hs pl pu (by rw [hlen];exact hw) ?_ (by rw [hlen];exact hz)
 rw [hlen]
 refine⟨.ref s.heap.objs.size,_,I.laid (t':=s.toks) (o:=.tup (Ka xs lo hi)) (fun b ob q=>ae _ q) (af _) ?_,rfl,q _ (I.hok.fresh (af _))⟩
 exact⟨aR (Gy xs lo hi) hz,_,(r.drop (HT.sIx xs.length 0 lo)).take (HT.sIx xs.length xs.length hi - HT.sIx xs.length 0 lo),lO _ _⟩
noncomputable def au8 (K:aa):R2:=fun x y H Q=>∃ a b xs ys,x=.ref a/\y=.ref b/\SqT K H a xs/\SqT K H b ys/\xs≠[]/\xs.length+ys.length<=sizeLine /\
 (ys=[]->Q (.ref a) H)/\(ys≠[] -> ∀ p,H p=none->Q (.ref p) (upd H p (.tup (xs++ys))))
theorem Vals.nil_iff {xs:List V} {us:List Value} (r:Vals xs us):us=[] ↔ xs=[]:=by
 cases r with
 | nil=>simp
 | cons _ _=>simp
theorem op_catT:OpR X (c_ .Add) (au8 X.K):=by
 intro pins s σ H x y v u Q I rx ry h
 obtain⟨a,b,xs,ys,rfl,rfl,ha,hb,hx,hz,q1,q2⟩:=h
 cases rx
 cases ry
 obtain⟨its,r1,p1,_⟩:=I.tuple ha
 obtain⟨its2,r2,p2,_⟩:=I.tuple hb
 refine HT.cat_tup p1 p2 (fun z=>hx (r1.nil_iff.mp z)) (fun z=>⟨.ref a,H,I,rfl,q1 (r2.nil_iff.mp z)⟩) (fun z=>?_) (by rw [<- r1.length,<- r2.length];exact hz)
 refine⟨.ref s.heap.objs.size,_,I.laid (t':=s.toks) (o:=.tup (xs++ys)) (fun b ob q=>ae _ q) (af _) ?_,rfl,q2 (fun w=>z (r2.nil_iff.mpr w)) _ (I.hok.fresh (af _))⟩
 exact⟨by rw [ax];exact hz,_,r1.append r2,lO _ _⟩
end
noncomputable def ixN (n:Nat) (i:Int):Option Nat:=if 0<=i then (if i<n then some i.toNat else none) else if -(n:Int)<=i then some (i+n).toNat else none
noncomputable def atI {α:Type} (xs:List α) (i:Int):Option α:=(ixN xs.length i).bind fun j=>xs[j]?
theorem Tf {n:Nat} {i:Int} {j:Nat} (h:ixN n i=some j):seqIndex? i n=some j/\j<n /\ -(n:Int)<=i/\i<n:=by
 unfold ixN at h
 by_cases h0:0<=i
 ·rw [if_pos h0] at h
  by_cases h1:i<n
  ·rw [if_pos h1] at h
   have e:i.toNat=j:=aK h
   exact⟨by rw [lZ h0 h1,e],by omega,by omega,h1⟩
  ·rw [if_neg h1] at h;cases h
 ·rw [if_neg h0] at h
  by_cases h1:-(n:Int)<=i
  ·rw [if_pos h1] at h
   have e:(i+n).toNat=j:=aK h
   exact⟨by rw [lH (by omega) h1,e],by omega,h1,by omega⟩
  ·rw [if_neg h1] at h;cases h
theorem Lq {α:Type} {xs:List α} {i:Int} {v:α} (h:atI xs i=some v):∃ j,seqIndex? i xs.length=some j/\xs[j]? = some v/\j<xs.length /\ -(xs.length:Int)<=i/\i<xs.length:=by
 unfold atI at h
 cases e:ixN xs.length i with
 | none=>rw [e] at h;cases h
 | some j=>
  rw [e] at h
  obtain⟨h1,h2,h3,h4⟩:=Tf e
  exact⟨j,h1,h,h2,h3,h4⟩
noncomputable def Sn (b:Expr):Prop:=∀ o i,subscripted b false o i=operate [o,i] (lV o i)
noncomputable def IxR (X:Cx) (r:R2):Prop:=
 ∀ (value slice:Expr) (pins:List (Addr×Obj)) (s:ag) (σ:St) (H:Hp) (x y:V) (v u:Value) (Q:VK),Inv X pins σ H s->RelV x v->RelV y u->r x y H Q ->
  subscripted slice false v u=operate [v,u] (lV v u)->ay (model X.prog X.w) X.A (kZ value slice v u) (EP X pins σ Q) X.xe s
noncomputable def MtR (X:Cx) (id:String) (r:V->List V->Hp->VK->Prop):Prop:=
 ∀ (pins:List (Addr×Obj)) (s:ag) (σ:St) (H:Hp) (x:V) (xs:List V) (v:Value) (us:List Value) (Q:VK),Inv X pins σ H s->RelV x v->Vals xs us->r x xs H Q ->
  ay (model X.prog X.w) X.A (call (.builtin id) (v::us)) (EP X pins σ Q) X.xe s
section
variable {X:Cx} {a b:Expr} {ta tb:TE} {pos:Pos}
theorem bm3 {r:R2} (hr:IxR X r) (ha:PE X a ta) (hb:PE X b tb) (hs:Sn b):PE X (.Subscript a b pos) (tOp r ta tb):=by
 intro pins s σ H Q I h
 exact Subscript_ (a04 ha hb I h fun v u s2 x y H2 I2 rx ry q=>hr a b pins s2 σ H2 x y v u Q I2 rx ry q (hs _ _))
noncomputable def bz6 (K:aa):R2:=fun x y H Q=>∃ p xs i v,x=.ref p/\y=.int i/\SqL K H p xs/\atI xs i=some v/\Q v H
noncomputable def bz8 (K:aa):R2:=fun x y H Q=>∃ p xs i v,x=.ref p/\y=.int i/\SqT K H p xs/\atI xs i=some v/\Q v H
noncomputable def bz7:R2:=fun x y H Q=>∃ z i c,x=.str z/\y=.int i/\z.length<=sizeLine/\atI z.cps.toList i=some c/\Q (.str ⟨#[c]⟩) H
theorem aj9:IxR X (bz6 X.K):=by
 intro value slice pins s σ H x y v u Q I rx ry h hs
 obtain⟨p,xs,i,z,rfl,rfl,hq,he,q⟩:=h
 cases rx
 obtain⟨t,rfl⟩:=ry
 obtain⟨its,r,pl,hz⟩:=I.list hq
 obtain⟨j,h1,h2,h3,h4,h5⟩:=Lq he
 obtain⟨w,ew,rw'⟩:=r.get h2
 have hl:=r.length
 have hn:=Fa
 have fin:EP X pins σ Q w s:=⟨z,H,I,rw',q⟩
 by_cases h0:0<=i
 ·have hj:i.toNat=j:=by
   rw [lZ h0 h5] at h1
   exact aK h1
  exact item_listR pl.isList h0 (by omega) (by rw [hj];simpa using ew) fin hs
 ·have hj:(i+(its.toArray.size:Int)).toNat=j:=by
   rw [lH (by omega) h4] at h1
   rw [am,<- hl]
   exact aK h1
  exact ju (x:=w) pl.isList.typeIs slot_list_getitem.lookup
   (wpAny_getItem_list_neg (Q:=fun r s'=>r=w/\EP X pins σ Q r s') pl.isList (by omega) (by rw [am] <;> omega) (by omega) (by rw [hj];simpa using ew) ⟨rfl,fin⟩) hs
theorem a23:IxR X (bz8 X.K):=by
 intro value slice pins s σ H x y v u Q I rx ry h hs
 obtain⟨p,xs,i,z,rfl,rfl,hq,he,q⟩:=h
 cases rx
 obtain⟨t,rfl⟩:=ry
 obtain⟨its,r,pl,hz⟩:=I.tuple hq
 obtain⟨j,h1,h2,h3,h4,h5⟩:=Lq he
 obtain⟨w,ew,rw'⟩:=r.get h2
 have hl:=r.length
 have hn:=Fa
 have fin:EP X pins σ Q w s:=⟨z,H,I,rw',q⟩
 exact ju (x:=w) pl.typeIs slot_tuple_getitem.lookup
  (getItem_tuple (j:=j) (Q:=fun r s'=>r=w/\EP X pins σ Q r s') pl (by omega) (by omega) (by rw [am,<- hl];exact h1) (by simpa using ew) ⟨rfl,fin⟩) hs
theorem a22:IxR X bz7:=by
 intro value slice pins s σ H x y v u Q I rx ry h hs
 obtain⟨z,i,c,rfl,rfl,hz,he,q⟩:=h
 obtain⟨t,rfl⟩:=rx
 obtain⟨t',rfl⟩:=ry
 obtain⟨j,h1,h2,h3,h4,h5⟩:=Lq he
 have hl:z.cps.toList.length=z.length:=by simp [Str.length]
 rw [hl] at h1 h4 h5
 have hn:=Fa
 exact tail_any (jX s z t) slot_str_getitem.lookup (getItem_str (c:=c) (by
  have e1:decide (i < -(2 ^ 63:Int))=false:=decide_eq_false (by omega)
  have e2:decide (i ≥ 2 ^ 63)=false:=decide_eq_false (by omega)
  rw [e1,e2,gB]) (by rw [h1];simpa using h2) ⟨.str ⟨#[c]⟩,H,I.tok _,⟨_,rfl⟩,q⟩) hs
theorem Qj (its:List Value) (n j:Nat) (u:Value):bu (·.setIfInBounds j u) { cls:=.type "list", data:=.seq its.toArray n }={ cls:=.type "list", data:=.seq (its.set j u).toArray n }:=by
 simp [bu]
theorem Inv.lst {pins:List (Addr×Obj)} {σ:St} {H:Hp} {s:ag} {p:Addr} {xs:List V} (I:Inv X pins σ H s) (h:H p=some (.lst xs)) :
  ∃ (its:List Value) (n:Nat),Vals xs its/\s.heap.get? p=some { cls:=.type "list", data:=.seq its.toArray n }/\xs.length<=sizeLine:=by
 obtain⟨z,its,n,r,e⟩:=I.hok p _ h
 exact⟨its,n,r,e,z⟩
theorem Inv.lstUpd {pins:List (Addr×Obj)} {σ:St} {H:Hp} {s:ag} {p:Addr} {xs ys:List V} {its its':List Value} {n n':Nat} {f:Obj->Obj} (I:Inv X pins σ H s) (h:H p=some (.lst xs))
  (ho:s.heap.get? p=some { cls:=.type "list", data:=.seq its.toArray n }) (hf:f { cls:=.type "list", data:=.seq its.toArray n }={ cls:=.type "list", data:=.seq its'.toArray n' }) (r:Vals ys its') (hz:ys.length<=sizeLine) (t:Nat) (ht:s.toks<=t:=by first|exact af _|exact aB _ _|assumption|omega|(dsimp only;omega)) :
  Inv X pins σ (upd H p (.lst ys)) { s with heap:=s.heap.update p f,toks:=t }:=by
 have e:(s.heap.update p f).get? p=some { cls:=.type "list", data:=.seq its'.toArray n' }:=by
  rw [aL f ho (by rw [hf] <;> rfl),hf]
 refine I.write (x:=p) (e:=p) (by rw [h];trivial) (.inl rfl) (fun b u hb q=>(aG _ _ (cx hb)).trans q) ⟨_,e⟩ ?_
 exact⟨hz,its',n',r,e⟩
noncomputable def bo0:V->V->V->Hp->(Hp->Prop)->Prop:=fun o i v H Q=>∃ p xs k j,o=.ref p/\i=.int k/\H p=some (.lst xs)/\ixN xs.length k=some j/\Q (upd H p (.lst (xs.set j v)))
theorem ad8:a00 X bo0:=by
 intro pins s σ H o i v ov iv u Q I ro ri rv h
 obtain⟨p,xs,k,j,rfl,rfl,hp,hj,q⟩:=h
 cases ro
 obtain⟨t,rfl⟩:=ri
 obtain⟨its,n,r,ho,hz⟩:=I.lst hp
 obtain⟨h1,h2,h3,h4⟩:=Tf hj
 have hl:=r.length
 have hn:=Fa
 have I':Inv X pins σ (upd H p (.lst (xs.set j v))) { s with heap:=s.heap.update p (bu (·.setIfInBounds j u)) }:=
  I.lstUpd hp ho (Qj its n j u) (r.set rv j) (by rw [b6];exact hz) s.toks
 by_cases h0:0<=k
 ·have hk:k.toNat=j:=by
   rw [lZ h0 h4] at h1
   exact aK h1
  exact PySem.W.ki_setAt ho h0 (by omega) (by rw [am,<- hl];exact h4) (by rw [hk];exact⟨_,I',q⟩)
 ·have hk:(k+(its.toArray.size:Int)).toNat=j:=by
   rw [lH (by omega) h3] at h1
   rw [am,<- hl]
   exact aK h1
  exact PySem.W.ki_setBack ho (by omega) (by rw [am,<- hl];exact h3) (by omega) (by rw [hk];exact⟨_,I',q⟩)
theorem M6 (lo hi:Option Int) (n:Nat):(f_ lo hi none n).1=((HT.sIx n 0 lo:Nat):Int)/\(f_ lo hi none n).2.1=((HT.sIx n n hi:Nat):Int)/\(f_ lo hi none n).2.2=1:=by
 refine⟨?_,?_,rfl⟩
 ·cases lo with
  | none=>simp [f_,HT.sIx]
  | some i=>
   simp only [f_,HT.sIx,Option.getD_none,show (1:Int) > 0 by decide,if_true]
   by_cases h:i<0
   ·simp only [h,if_true] <;> omega
   ·simp only [h,if_false] <;> omega
 ·cases hi with
  | none=>simp [f_,HT.sIx]
  | some i=>
   simp only [f_,HT.sIx,Option.getD_none,show (1:Int) > 0 by decide,if_true]
   by_cases h:i<0
   ·simp only [h,if_true] <;> omega
   ·simp only [h,if_false] <;> omega
theorem Kl (its:List Value) (lo hi:Option Int):slicePick its.toArray lo hi none=((its.drop (HT.sIx its.length 0 lo)).take (HT.sIx its.length its.length hi - HT.sIx its.length 0 lo)).toArray:=by
 obtain⟨h1,h2,h3⟩:=M6 lo hi its.toArray.size
 unfold slicePick
 rw [h1,h2,h3]
 simp only [sliceRange_one,pick_run,am] <;> rfl
noncomputable def b01 (K:aa):V->Option Int->Option Int->Hp->VK->Prop:=fun x lo hi H Q=>∃ a xs,x=.ref a/\SqL K H a xs /\ ∀ p,H p=none->Q (.ref p) (upd H p (.lst (Ka xs lo hi)))
theorem aq5:SlR X (b01 X.K):=by
 intro pins s σ H x v vl vu lo hi sl Q I rx hs pl pu h
 obtain⟨a,xs,rfl,hx,q⟩:=h
 cases rx
 obtain⟨its,r,ht,hz⟩:=I.list hx
 have hlen:=r.length
 refine⟨"list", _,slot_list_getitem.lookup,ht.isList.typeIs,?_⟩
 refine wpAny_getItem_list_slice ht.isList hs pl pu .none (by simp) ?_ (by rw [am] <;> omega)
 rw [Kl,<- hlen]
 refine⟨.ref s.heap.objs.size,_,I.laid (t':=s.toks) (o:=.lst (Ka xs lo hi)) (fun b ob q=>ae _ q) (af _) ?_,rfl,q _ (I.hok.fresh (af _))⟩
 exact⟨aR (Gy xs lo hi) hz,_,0,(r.drop (HT.sIx xs.length 0 lo)).take (HT.sIx xs.length xs.length hi - HT.sIx xs.length 0 lo),aq _ rfl⟩
noncomputable def A8:V->Bool
 | .non=>true
 | .bl _=>true
 | .int _=>true
 | .str _=>true
 | _=>false
noncomputable def eqV:V->V->Bool
 | .non,.non=>true
 | .bl a,.bl b=>a==b
 | .bl a,.int b=>(if a then 1 else 0)==b
 | .int a,.bl b=>a==(if b then 1 else 0)
 | .int a,.int b=>a==b
 | .str a,.str b=>a==b
 | _,_=>false
theorem Ma {A:aX} {s:ag} {y x:V} {u v:Value} (ry:RelV y u) (rx:RelV x v) (fy:A8 y=true) (fx:A8 x=true):bp A s u v (eqV y x):=by
 cases y with
 | non=>
  cases ry
  cases x with
  | non=>cases rx;exact jP _
  | bl b=>cases rx;exact SeqAt.EqAt.none_bool b
  | int b=>obtain⟨t,rfl⟩:=rx;exact SeqAt.EqAt.none_int b t
  | str b=>obtain⟨t,rfl⟩:=rx;exact SeqAt.EqAt.none_str b t
  | _=>exact absurd (show false=true from fx) aj
 | bl a=>
  cases ry
  cases x with
  | non=>cases rx;exact SeqAt.EqAt.bool_none a
  | bl b=>cases rx;exact SeqAt.EqAt.bool_bool a b
  | int b=>obtain⟨t,rfl⟩:=rx;exact SeqAt.EqAt.bool_int a b t
  | str b=>obtain⟨t,rfl⟩:=rx;exact SeqAt.EqAt.bool_str a b t
  | _=>exact absurd (show false=true from fx) aj
 | int a=>
  obtain⟨t',rfl⟩:=ry
  cases x with
  | non=>cases rx;exact SeqAt.EqAt.int_none a t'
  | bl b=>cases rx;exact SeqAt.EqAt.int_bool a t' b
  | int b=>obtain⟨t,rfl⟩:=rx;exact kL a t' b t
  | str b=>obtain⟨t,rfl⟩:=rx;exact kM a t' b t
  | _=>exact absurd (show false=true from fx) aj
 | str a=>
  obtain⟨t',rfl⟩:=ry
  cases x with
  | non=>cases rx;exact SeqAt.EqAt.str_none a t'
  | bl b=>cases rx;exact SeqAt.EqAt.str_bool a t' b
  | int b=>obtain⟨t,rfl⟩:=rx;exact kO a t' b t
  | str b=>obtain⟨t,rfl⟩:=rx;exact SeqAt.EqAt.str_str a t' b t
  | _=>exact absurd (show false=true from fx) aj
 | _=>exact absurd (show false=true from fy) aj
noncomputable def eqU (x:V) (u:Value):Bool:=match u with
 | .none=>eqV .non x
 | .bool b=>eqV (.bl b) x
 | .int i _=>eqV (.int i) x
 | .str z _=>eqV (.str z) x
 | _=>false
theorem Yn {x y:V} {u:Value} (r:RelV y u) (f:A8 y=true):eqU x u=eqV y x:=by
 cases y with
 | non=>cases r;rfl
 | bl b=>cases r;rfl
 | int i=>obtain⟨t,rfl⟩:=r;rfl
 | str z=>obtain⟨t,rfl⟩:=r;rfl
 | _=>exact absurd (show false=true from f) aj
theorem Fd {x:V}:∀ {xs:List V} {us:List Value},Vals xs us->xs.all A8=true->us.any (eqU x)=xs.any fun y=>eqV y x
 | _,_,.nil,_=>rfl
 | y::xs,u::us,.cons r t,f=>by
  rw [bw,ak] at f
  rw [c8,c8,Yn r f.1,Fd t f.2]
theorem El {A:aX} {s:ag} {x:V} {v:Value} (rx:RelV x v) (fx:A8 x=true):∀ {xs:List V} {us:List Value},Vals xs us->xs.all A8=true -> ∀ u∈us,bp A s u v (eqU x u)
 | _,_,.nil,_=>fun u hu=>by cases hu
 | y::xs,u::us,.cons r t,f=>fun u' hu=>by
  rw [bw,ak] at f
  rcases List.mem_cons.mp hu with rfl|hu
  ·rw [Yn r f.1];exact Ma r rx f.1 fx
  ·exact El rx fx t f.2 u' hu
noncomputable def inV (x:V) (xs:List V):Bool:=xs.any fun y=>eqV y x
noncomputable def rIn (K:aa) (neg:Bool):R2:=fun x y H Q=>∃ p xs,y=.ref p/\(SqL K H p xs\/SqT K H p xs)/\A8 x=true/\xs.all A8=true/\Q (.bl (if neg then !inV x xs else inV x xs)) H
theorem V2:OpR X (bZ .In) (rIn X.K false):=by
 intro pins s σ H x y v u Q I rx ry h
 obtain⟨p,xs,rfl,hq,fx,fs,q⟩:=h
 cases ry
 rcases hq with hq|hq
 ·obtain⟨its,r,pl,hz⟩:=I.list hq
  refine SeqAt.in_listAt (eqU x) pl.isList (fun w hw=>El rx fx r fs w (by simpa using hw)) ⟨.bl _,H,I,rfl,?_⟩
  rw [show its.toArray.any (eqU x)=its.any (eqU x) by simp,Fd r fs]
  exact q
 ·obtain⟨its,r,pl,hz⟩:=I.tuple hq
  refine SeqAt.in_tupleAt (eqU x) pl (fun w hw=>El rx fx r fs w (by simpa using hw)) ⟨.bl _,H,I,rfl,?_⟩
  rw [show its.toArray.any (eqU x)=its.any (eqU x) by simp,Fd r fs]
  exact q
theorem Mm:OpR X (bZ .NotIn) (rIn X.K true):=by
 intro pins s σ H x y v u Q I rx ry h
 obtain⟨p,xs,rfl,hq,fx,fs,q⟩:=h
 cases ry
 rcases hq with hq|hq
 ·obtain⟨its,r,pl,hz⟩:=I.list hq
  refine SeqAt.notIn_listAt (eqU x) pl.isList (fun w hw=>El rx fx r fs w (by simpa using hw)) ⟨.bl _,H,I,rfl,?_⟩
  rw [show its.toArray.any (eqU x)=its.any (eqU x) by simp,Fd r fs]
  exact q
 ·obtain⟨its,r,pl,hz⟩:=I.tuple hq
  refine SeqAt.notIn_tupleAt (eqU x) pl (fun w hw=>El rx fx r fs w (by simpa using hw)) ⟨.bl _,H,I,rfl,?_⟩
  rw [show its.toArray.any (eqU x)=its.any (eqU x) by simp,Fd r fs]
  exact q
theorem Lv:Bl X (.builtin "len") (fun xs H Q=>∃ p ys,xs=[.ref p]/\(SqL X.K H p ys\/SqT X.K H p ys)/\Q (.int ys.length) H):=by
 intro pins s σ H xs us Q I r h
 obtain⟨p,ys,rfl,hq,q⟩:=h
 obtain⟨u,rfl,rx⟩:=En r
 cases rx
 have hn:=Fa
 rcases hq with hq|hq
 ·obtain⟨its,r',pl,hz⟩:=I.list hq
  have hlen:=r'.length
  exact Calls.call_len_list pl.isList (by simp only [am] <;> omega) ⟨.int ys.length,H,I.tok _,⟨s.toks+1,by rw [am,hlen]⟩,q⟩
 ·obtain⟨its,r',pl,hz⟩:=I.tuple hq
  have hlen:=r'.length
  exact len_tuple pl (by simp only [am] <;> omega) ⟨.int ys.length,H,I.tok _,⟨s.toks+1,by rw [am,hlen]⟩,q⟩
theorem Lw:Bl X (.builtin "len") (fun xs H Q=>∃ z,xs=[.str z]/\z.length<=sizeLine/\Q (.int z.length) H):=by
 intro pins s σ H xs us Q I r h
 obtain⟨z,rfl,hz,q⟩:=h
 obtain⟨u,rfl,t,rfl⟩:=En r
 have hn:=Fa
 exact len_str (by omega) ⟨.int z.length,H,I.tok _,⟨_,rfl⟩,q⟩
theorem Lx:Bl X (.type "list") (fun xs H Q=>∃ p ys,xs=[.ref p]/\(SqL X.K H p ys\/SqT X.K H p ys) /\ ∀ l,H l=none->Q (.ref l) (upd H l (.lst ys))):=by
 intro pins s σ H xs us Q I r h
 obtain⟨p,ys,rfl,hq,q⟩:=h
 obtain⟨u,rfl,rx⟩:=En r
 cases rx
 have fin:∀ (its:List Value),Vals ys its->ys.length<=sizeLine -> ∀ (h':Heap) (c':Nat),(∀ b o',s.heap.get? b=some o'->h'.get? b=some o') ->
   h'.get? s.heap.objs.size=some { cls:=.type "list", dict:=none,data:=.seq its.toArray c',slots:=#[] }->EP X pins σ Q (.ref s.heap.objs.size) { s with heap:=h' }:=fun its r' hz h' c' kp e=>
  ⟨.ref s.heap.objs.size,_,I.laid (t':=s.toks) kp (af _) (show ObjOk X.prog X.w _ h' _ (.lst ys) from⟨hz,its,c',r',e⟩),rfl,q _ (I.hok.fresh (af _))⟩
 rcases hq with hq|hq
 ·obtain⟨its,r',pl,hz⟩:=I.list hq
  have hlen:=r'.length
  obtain⟨o,ho,hc,n,hd⟩:=pl.isList
  exact call_list_seq p (.inl rfl) ho hc hd (fun h' c' kp e=>fin its r' hz h' c' kp e) (by simp only [am] <;> omega)
 ·obtain⟨its,r',pl,hz⟩:=I.tuple hq
  have hlen:=r'.length
  obtain⟨o,ho,hc,n,hd⟩:=pl
  exact call_list_seq p (.inr rfl) ho hc hd (fun h' c' kp e=>fin its r' hz h' c' kp e) (by simp only [am] <;> omega)
theorem J8:Bl X (.type "tuple") (fun xs H Q=>∃ p ys,xs=[.ref p]/\((SqL X.K H p ys /\ ∀ l,H l=none->Q (.ref l) (upd H l (.tup ys)))\/(SqT X.K H p ys/\Q (.ref p) H))):=by
 intro pins s σ H xs us Q I r h
 obtain⟨p,ys,rfl,h⟩:=h
 obtain⟨u,rfl,rx⟩:=En r
 cases rx
 rcases h with ⟨hq,q⟩|⟨hq,q⟩
 ·obtain⟨its,r',pl,hz⟩:=I.list hq
  have hlen:=r'.length
  refine call_tuple_list pl.isList (fun h' kp=>?_) (by simp only [am] <;> omega)
  have I1:Inv X pins σ H { s with heap:=h' }:=I.kept (t':=s.toks) kp
  have I2:Inv X pins σ (upd H h'.objs.size (.tup ys)) { s with heap:=h'.push { cls:=.type "tuple", data:=.seq its.toArray } }:=
   I1.laid (t':=s.toks) (fun b o e=>ae _ e) (af _) (show ObjOk X.prog X.w _ _ _ (.tup ys) from⟨hz,its,r',lO _ _⟩)
  exact⟨.ref h'.objs.size,_,I2,rfl,q _ (I1.hok.fresh (af _))⟩
 ·obtain⟨its,r',pl,hz⟩:=I.tuple hq
  exact call_tuple_same pl ⟨.ref p,H,I,rfl,q⟩
noncomputable def tyV (K:aa) (T:String) (x:V) (H:Hp):Prop:=match x with
 | .str _=>T = "str"
 | .int _=>T = "int"
 | .ref p=>(T = "list" /\ ∃ xs,SqL K H p xs)\/(T = "tuple" /\ ∃ o,K.lookup p=some o/\o.cls=.type "tuple" /\ o.dict=none) \/
   (T = "dict" /\ ((∃ kvs,H p=some (.dK kvs)) \/ ∃ kvs,H p=some (.dT kvs)))\/(T = "set" /\ ∃ S n,H p=some (.set S n))
 | _=>False
theorem af5 {pins:List (Addr×Obj)} {σ:St} {H:Hp} {s:ag} {T:String} {x:V} {v:Value} (I:Inv X pins σ H s) (r:RelV x v) (ty:tyV X.K T x H) :
  s.TypeIs v T /\ ∀ a,v=.ref a -> ∃ ob,s.heap.get? a=some ob/\ob.dict=none:=by
 cases x with
 | str z=>
  obtain⟨t,rfl⟩:=r
  cases (show T = "str" from ty)
  exact⟨jX s z t,fun _ e=>nomatch e⟩
 | int i=>
  obtain⟨t,rfl⟩:=r
  cases (show T = "int" from ty)
  exact⟨iM s i t,fun _ e=>nomatch e⟩
 | ref p=>
  cases r
  rcases ty with ⟨rfl,xs,hq⟩|⟨rfl,o,hk,hc,hd⟩|⟨rfl,hk⟩|⟨rfl,S,n,hk⟩
  ·obtain⟨its,_,pl,_⟩:=I.list hq
   refine⟨pl.isList.typeIs,fun a e=>?_⟩
   cases e
   obtain⟨o,n,e,c,hd,_⟩:=pl
   exact⟨o,e,hd⟩
  ·refine⟨⟨o,I.kIn p o hk,hc⟩,fun a e=>?_⟩
   cases e
   exact⟨o,I.kIn _ o hk,hd⟩
  ·have z:∃ o,s.heap.get? p=some o/\o.ExactDict:=by
    rcases hk with ⟨kvs,hk⟩|⟨kvs,hk⟩
    ·obtain⟨_,_,_,_,o,_,_,e,ex,_⟩:=I.hok p _ hk
     exact⟨o,e,ex⟩
    ·obtain⟨_,_,_,_,o,_,_,e,ex,_⟩:=I.hok p _ hk
     exact⟨o,e,ex⟩
   obtain⟨o,e,ex⟩:=z
   refine⟨⟨o,e,ex.1⟩,fun a e2=>?_⟩
   cases e2
   exact⟨o,e,ex.2.1⟩
  ·obtain⟨o,_,_,_,e,ex,_⟩:=I.hok p _ hk
   refine⟨⟨o,e,ex.1⟩,fun a e2=>?_⟩
   cases e2
   exact⟨o,e,ex.2.1⟩
 | _=>exact cZ ty
variable {o e:Expr} {es:List Expr} {to:TE} {t:TA} {name:Str} {apos cpos:Pos} {T id:String} {r:V->List V->Hp->VK->Prop}
end
noncomputable def MtM (X:Cx) (id:String) (r:V->List V->Hp->VK->Prop):Prop:=
 ∀ (pins:List (Addr×Obj)) (s:ag) (σ:St) (H:Hp) (x:V) (xs:List V) (v:Value) (us:List Value) (Q:VK),Inv X pins σ H s->RelV x v->Vals xs us->r x xs H Q ->
  ay (model X.prog X.w) X.A (call (.builtin id) (v::us)) (EP X pins σ Q) X.xe s
theorem Vals.one:∀ {x:V} {us:List Value},Vals [x] us -> ∃ u,us=[u]/\RelV x u
 | _,_,.cons r .nil=>⟨_,rfl,r⟩
theorem Vals.two:∀ {x y:V} {us:List Value},Vals [x,y] us -> ∃ u v,us=[u,v]/\RelV x u/\RelV y v
 | _,_,_,.cons r (.cons q .nil)=>⟨_,_,rfl,r,q⟩
theorem Vals.zero:∀ {us:List Value},Vals [] us->us=[]
 | _,.nil=>rfl
theorem Vals.reverse {xs:List V} {us:List Value} (h:Vals xs us):Vals xs.reverse us.reverse:=by
 induction h with
 | nil=>exact .nil
 | cons r t ih=>rw [List.reverse_cons,List.reverse_cons];exact Vals.append ih (.cons r .nil)
theorem Vals.rep {xs:List V} {us:List Value} (h:Vals xs us):∀ k:Nat,Vals (a0 k xs).flatten (a0 k us).flatten
 | 0=>.nil
 | k+1=>by
  rw [c6,c6,d9,d9]
  exact Vals.append h (Vals.rep h k)
theorem Eu (its:List Value):∀ (k:Nat) (acc:List Value),
  iE (fun x1 x2=>x1++x2) acc.toArray (a0 k its.toArray)=(acc++(a0 k its).flatten).toArray
 | 0,acc=>by simp
 | k+1,acc=>by
  have e:acc.toArray++its.toArray=(acc++its).toArray:=by simp
  have e2:(acc++its)++(a0 k its).flatten=acc++(a0 (k+1) its).flatten:=by
   rw [c6,d9,c5]
  rw [<- e2,<- Eu its k (acc++its),<- e,c6,List.foldl_cons]
section
variable {X:Cx} {pins:List (Addr×Obj)} {σ:St} {H:Hp} {s:ag} {l b:Addr} {xs ys zs:List V}
theorem Inv.lset {its its':List Value} {n:Nat} {f:Array Value->Array Value} {t':Nat} (I:Inv X pins σ H s) (hH:H l=some (.lst xs))
  (e:s.heap.get? l=some { cls:=.type "list", data:=.seq its.toArray n }) (hf:f its.toArray=its'.toArray) (hv:Vals ys its') (hz:ys.length<=sizeLine) (ht:s.toks<=t':=by first|exact af _|exact aB _ _|assumption|omega|(dsimp only;omega)) :
  Inv X pins σ (upd H l (.lst ys)) { s with heap:=s.heap.update l (bu f),toks:=t' }:=by
 have q:=PySem.IsL.update e f
 rw [hf] at q
 refine I.write (x:=l) (e:=l) (by rw [hH];exact trivial) (.inl rfl) (fun b' u hb hu=>(aG s.heap (bu f) (cx hb)).trans hu) ⟨_,q⟩ ?_
 exact⟨hz,its',_,hv,q⟩
theorem Inv.lnew {its:List Value} {t':Nat} (I:Inv X pins σ H s) (hv:Vals ys its) (hz:ys.length<=sizeLine) (ht:s.toks<=t':=by first|exact af _|exact aB _ _|assumption|omega|(dsimp only;omega)) :
  Inv X pins σ (upd H s.heap.objs.size (.lst ys)) { s with heap:=s.heap.push { cls:=.type "list", data:=.seq its.toArray },toks:=t' }:=
 I.laid (fun _ _ q=>ae _ q) (af _) ⟨hz,its,0,hv,aq _ rfl⟩ ht
theorem Inv.fresh (I:Inv X pins σ H s):H s.heap.objs.size=none:=I.hok.fresh (af _)
theorem Inv.lstM (I:Inv X pins σ H s) (hH:H l=some (.lst xs)):xs.length<=sizeLine /\ ∃ (its:List Value) (n:Nat),Vals xs its/\xs.length=its.length/\s.heap.get? l=some { cls:=.type "list", data:=.seq its.toArray n }:=by
 obtain⟨z,its,n,r,e⟩:=I.hok l _ hH
 exact⟨z,its,n,r,r.length,e⟩
theorem Oq {n:Nat} (h:n<=sizeLine):d7 n=false:=by
 unfold d7
 exact decide_eq_false (by omega)
end
section
variable {X:Cx}
noncomputable def Bv:V->List V->Hp->VK->Prop:=fun x vs H Q=>∃ l xs y,x=.ref l/\vs=[y]/\H l=some (.lst xs)/\xs.length<sizeLine/\Q .non (upd H l (.lst (xs++[y])))
theorem Lg:MtM X "list.append" Bv:=by
 intro pins s σ H x vs v us Q I rx rv h
 obtain⟨l,xs,y,rfl,rfl,hH,hz,q⟩:=h
 cases rx
 obtain⟨u,rfl,ru⟩:=rv.one
 obtain⟨z,its,n,r,hl,e⟩:=I.lstM hH
 refine dE F.slot_list_append ⟨_,e,rfl⟩ F.entry_list_append (F.args_list_append_2 _ _) (PySem.list_append l its.toArray n u (by rw [am];omega)) ⟨e,?_⟩
 refine⟨.non,_,I.lset (its':=its++[u]) hH e (by simp) (r.append (.cons ru .nil)) ?_,rfl,q⟩
 rw [ax,bP]
 omega
noncomputable def Mu:V->List V->Hp->VK->Prop:=fun x vs H Q=>∃ l b xs zs,x=.ref l/\vs=[.ref b]/\H l=some (.lst xs)/\H b=some (.lst zs)/\xs.length+zs.length<=sizeLine/\Q .non (upd H l (.lst (xs++zs)))
theorem Vv:MtM X "list.extend" Mu:=by
 intro pins s σ H x vs v us Q I rx rv h
 obtain⟨l,b,xs,zs,rfl,rfl,hH,hB,hz,q⟩:=h
 cases rx
 obtain⟨u,rfl,ru⟩:=rv.one
 cases ru
 obtain⟨z,its,n,r,hl,e⟩:=I.lstM hH
 obtain⟨z2,its2,n2,r2,hl2,e2⟩:=I.lstM hB
 have hsz:its.toArray.size+its2.toArray.size<=sizeLine:=by rw [am,am];omega
 have hlong:¬ (!its.toArray.isEmpty&&d7 (its.toArray.size+its2.toArray.size))=true:=by
  rw [Oq hsz,ig]
  exact aj
 refine dE F.slot_list_extend ⟨_,e,rfl⟩ F.entry_list_extend (F.args_list_extend_2 _ _)
  (AutoSeq1.list_extend_list_list_0 l its.toArray n b its2.toArray n2 hlong (by rw [am];omega) (by omega)) ⟨e,e2,?_⟩
 refine⟨.non,_,I.lset (its':=its++its2) hH e (by simp) (r.append r2) ?_,rfl,q⟩
 rw [ax]
 omega
noncomputable def Jh:V->List V->Hp->VK->Prop:=fun x vs H Q=>∃ l xs,x=.ref l/\vs=[]/\H l=some (.lst xs)/\Q .non (upd H l (.lst xs.reverse))
theorem Qk:MtM X "list.reverse" Jh:=by
 intro pins s σ H x vs v us Q I rx rv h
 obtain⟨l,xs,rfl,rfl,hH,q⟩:=h
 cases rx
 have hus:=rv.zero
 subst hus
 obtain⟨z,its,n,r,hl,e⟩:=I.lstM hH
 refine dE F.slot_list_reverse ⟨_,e,rfl⟩ F.entry_list_reverse (F.args_list_reverse_1 _) (AutoSeq1.list_reverse_list_0 l its.toArray n (by rw [am];omega)) ⟨e,?_⟩
 refine⟨.non,_,I.lset (its':=its.reverse) hH e (by simp) r.reverse ?_,rfl,q⟩
 rw [gR]
 omega
noncomputable def ac0:V->List V->Hp->VK->Prop:=fun x vs H Q=>∃ l xs,x=.ref l/\vs=[]/\H l=some (.lst xs)/\Q .non (upd H l (.lst []))
theorem Zo:MtM X "list.clear" ac0:=by
 intro pins s σ H x vs v us Q I rx rv h
 obtain⟨l,xs,rfl,rfl,hH,q⟩:=h
 cases rx
 have hus:=rv.zero
 subst hus
 obtain⟨z,its,n,r,hl,e⟩:=I.lstM hH
 refine dE F.slot_list_clear ⟨_,e,rfl⟩ F.entry_list_clear (F.args_list_clear_1 _) (AutoSeq1.list_clear_list_0 l its.toArray n (by rw [am];omega)) ⟨e,?_⟩
 exact⟨.non,_,I.lset (its':=[]) (ys:=[]) hH e rfl .nil (bJ _),rfl,q⟩
noncomputable def bn6:R2:=fun x y H Q=>∃ l b xs zs,x=.ref l/\y=.ref b/\H l=some (.lst xs)/\H b=some (.lst zs)/\xs.length+zs.length<=sizeLine /\ ∀ p,H p=none->Q (.ref p) (upd H p (.lst (xs++zs)))
theorem op_cat:OpR X (c_ .Add) bn6:=by
 intro pins s σ H x y v u Q I rx ry h
 obtain⟨l,b,xs,zs,rfl,rfl,hH,hB,hz,q⟩:=h
 cases rx
 cases ry
 obtain⟨z,its,n,r,hl,e⟩:=I.lstM hH
 obtain⟨z2,its2,n2,r2,hl2,e2⟩:=I.lstM hB
 refine PySem.P.add_list e e2 ?_ (by rw [am,am];omega)
 have ea:its.toArray++its2.toArray=(its++its2).toArray:=by simp
 rw [ea]
 exact⟨.ref _,_,I.lnew (t':=s.toks) (r.append r2) (by rw [ax];omega),rfl,q _ I.fresh⟩
noncomputable def bn9:R2:=fun x y H Q=>∃ l k xs,x=.ref l/\y=.int k/\H l=some (.lst xs) /\ -(2 ^ 63)<=k/\k<2 ^ 63/\xs.length * k.toNat<=sizeLine /\
 ∀ p,H p=none->Q (.ref p) (upd H p (.lst (a0 k.toNat xs).flatten))
theorem Mi {α:Type} (xs:List α) (k:Nat):(a0 k xs).flatten.length=k * xs.length:=by
 induction k with
 | zero=>simp
 | succ k ih=>rw [c6,d9,ax,ih,lC,Nat.add_comm]
theorem op_rep:OpR X (c_ .Mult) bn9:=by
 intro pins s σ H x y v u Q I rx ry h
 obtain⟨l,k,xs,rfl,rfl,hH,h1,h2,hz,q⟩:=h
 cases rx
 obtain⟨t,rfl⟩:=ry
 obtain⟨z,its,n,r,hl,e⟩:=I.lstM hH
 have hlen:its.toArray.size * k.toNat<=sizeLine:=by rw [am,<- hl];exact hz
 have hcap:¬ its.toArray.size * k.toNat > (2 ^ 63 - 1) / 8:=by
  have:(sizeLine:Nat)<=(2 ^ 63 - 1) / 8:=by decide
  omega
 have hfit:¬ (!cT k)=true:=by
  rw [fitsIndex_both h1 h2]
  exact aj
 have hlong:¬ d7 (its.toArray.size * k.toNat)=true:=by
  rw [Oq hlen]
  exact aj
 have hnew:iE (fun x1 x2=>x1++x2) #[] (a0 (if its.toArray.isEmpty=true then 0 else k.toNat) its.toArray)=(a0 k.toNat its).flatten.toArray:=by
  have f0:∀ m:Nat,iE (fun x1 x2=>x1++x2) #[] (a0 m its.toArray)=(a0 m its).flatten.toArray:=fun m=>by
   have:=Eu its m []
   rw [dI] at this
   exact this
  rw [f0]
  cases its with
  | nil=>simp
  | cons a r'=>rw [if_neg (by simp)]
 refine iy (T := "list") (U := "int") (by decide) ⟨_,e,rfl⟩ (fun s'=>iM s' k t) noFill_list_mul F.fills_int_mul gM repeat_list F.slot_int_index.lookup
  (dE gM (iM s k t) F.entry_int_rmul (F.args_int_rmul_2 _ _) (int___rmul___int_list k t l its.toArray n)
   ⟨e,rfl,⟨_,e,rfl⟩,dE F.slot_list_mul ⟨_,e,rfl⟩ F.entry_list_mul (F.args_list_mul_2 _ _) (AutoListH.list___mul___list_int_3 l its.toArray n k t hfit hcap hlong) ⟨e,?_⟩⟩)
 rw [hnew]
 exact⟨.ref _,_,I.lnew (t':=s.toks) (r.rep k.toNat) (by rw [Mi,Nat.mul_comm];exact hz),rfl,q _ I.fresh⟩
end
section
variable {prog:aO} {w:bM} {A:aX} {E:Value->ag->Prop} {s:ag}
set_option maxRecDepth 100000 in
end
section
variable {X:Cx}
end
end L2
namespace Att
open PySem PySem.W PySem.Calls PyProof.Rows
theorem G8 {P:Params} {h:Heap}:∀ (ns:List Int) (vs:List Value),WellAll P h vs (ns.map lU)->IntsAre vs ns:=by
 intro ns
 induction ns with
 | nil=>
  intro vs w
  rw [eU] at w
  cases w
  exact .nil
 | cons n ns ih=>
  intro vs w
  rw [aS] at w
  cases w with
  | cons a b=>
   cases a
   exact .cons _ _ (ih _ b)
theorem Wg {l:OpenLaw} {n:Nat} (hn:l.most=some n) {P:Params} {h:Heap} {args:List mx} {vals:List Value}
  (hpre:l.row.toRowW.claim.pre args=true) (hwl:WellAll P h vals args) :
  ∃ a vs ns,vals=[aH a]/\args=[WData.list (ns.map lU)]/\h.get? a=some { cls:=.type "list", data:=.seq vs.toArray }/\IntsAre vs ns/\ns.length<=n:=by
 have hsh:WShape.hasAll [] args [.list .int]=true:=(pre_splitW hpre).1
 have hc:l.pre.holds [] { args:=args }=true:=(pre_splitW hpre).2
 obtain⟨d,r,rfl,h1,h2⟩:=hasAllW_cons hsh
 obtain rfl:=hasAllW_nil h2
 obtain⟨xs,rfl,h3⟩:=hasW_list h1
 obtain⟨ns,rfl⟩:=items_int h3
 have hlen:ns.length<=n:=by
  unfold OpenLaw.pre at hc
  have h4:(WTm.not (.lt (.lit (.int (n:Int))) (.len (.arg 0)))).holds [] { args:=[.list (ns.map .int)] }=true:=by
   have h4:=(holds_andW hc).1
   rw [hn] at h4
   exact h4
  have h5:=condW_of h4 (w_not (w_lt w_lit (w_len_list (w_arg rfl))))
  rw [al] at h5
  refine Nat.le_of_not_lt fun q=>?_
  have q':(n:Int)<((ns.length:Nat):Int):=by omega
  first
   | (rw [decide_eq_true q'] at h5;exact absurd h5 (by decide))
   | (simp at h5;omega)
 cases hwl with
 | cons w1 w2=>
  cases w2
  cases w1 with
  | list ho hall=>exact⟨_,_,ns,rfl,rfl,ho,G8 ns _ hall,hlen⟩
theorem V8 (l:OpenLaw) (args:List mx):l.row.toRowW.claim.post args (.bool true) args=true:=
 postW_of (r:=l.row.toRowW) (X:=(true==true))
  (show WShape.has [] (.bool true) .bool=true by first|rfl|decide|simp [WShape.has,WShape.arms,WShape.armsAll])
  (show (WTm.eq .res (.lit (.bool true))).value [] { args:=args,res:=some (.bool true),after:=args }=some (.bool (true==true)) from w_eq_bool (w_res rfl) w_lit) rfl
section
variable {prog:aO} {w:bM} {A:aX} {E:Value->ag->Prop} {s:ag} {K:Frag}
end
end Att
namespace L2
open PySem PySem.Spec PyProof.Rows
theorem Lm:∀ {vs:List Value} {ns:List Int},IntsAre vs ns->Vals (ns.map V.int) vs
 | _,_,.nil=>.nil
 | _,_,.cons n t h=>.cons ⟨t,rfl⟩ (Lm h)
noncomputable def ah3 (H:Hp):Prop:=∀ b,H b=none \/ ∃ o xs,H b=some (.frz o (.lst xs))
theorem law_call {P:aO} {w:bM} {K:aa} {mg mb:Str->Option Value} {CX:CXT} {k:Nat} {fa a:Addr} {fd:aE} {x:Str} {sp:Sp} {s₁:ag} {vs:List Value} {ns:List Int}
  (KX:K.In s₁.heap) (hns:s₁.heap.Ns aM mg) (hb:s₁.heap.Ns builtinsNs mb) (hbb:∀ x:Str,x ≠ "__name__" -> mb x=dm x) (htk:Ko K s₁.toks) (hlim:s₁.heap.NoLimit) (hg:s₁.gens = #[])
  (ha:s₁.heap.get? a=some { cls:=.type "list", data:=.seq vs.toArray }) (hi:IntsAre vs ns) (hl:ns.length<=sizeLine) (hr:Room k ll)
  (F:∀ base:Heap,K.In base->base.Ns aM mg->FnOk P w K mg base CX k fa fd [x] sp) (hbind:∀ (s:ag) (u:Value),lf s fd ⟨[u],[]⟩ [(x,u)])
  (hsp:∀ H:Hp,ah3 H->SqL K H a (ns.map V.int)->sp [.ref a] H (fun v _=>v=.bl true) fun _ _ _=>False)
  (hCX:∀ H e s',CX [] H s₁ (fun _ _ _=>False) e s'->False) :
  d4 (model P w) ll (.call (.ref fa) ⟨[.ref a],[]⟩) (fun r s'=>r=.ok (.ret (.bool true))/\OldK s₁.heap s'.heap/\s'.os=s₁.os/\kf s'.gens) s₁:=by
 have rv:=Lm hi
 have lenV:=hi.length
 have core:∀ H:Hp,ah3 H->SqL K H a (ns.map V.int)->HOk P w H s₁.heap->(∀ b,H b≠none->b=a)->(H a≠none->K.lookup a=none) ->
   d4 (model P w) ll (.call (.ref fa) ⟨[.ref a],[]⟩) (fun r s'=>r=.ok (.ret (.bool true))/\OldK s₁.heap s'.heap/\s'.os=s₁.os/\kf s'.gens) s₁:=by
  intro H hO hS hok hA hK
  have base_of:∀ {b:Addr} {o:Obj},s₁.heap.get? b=some o->H b=none->(Mf s₁.heap H).get? b=some o:=fun e n=>Y5 e n
  have noA:∀ {b:Addr} {o:Obj} {es:Array DictEntry} {ep:Nat},s₁.heap.get? b=some o->o.data=.dict es ep->H b=none:=fun {b o es ep} e d=>by
   cases q:H b with
   | none=>rfl
   | some u=>
    have e':b=a:=hA b (by rw [q];simp)
    subst e'
    rw [ha] at e;cases e
    have d':Data.seq vs.toArray _=Data.dict es ep:=d
    cases d'
  have nsK:∀ {b:Addr} {m:Str->Option Value},s₁.heap.Ns b m->(Mf s₁.heap H).Ns b m:=fun {b m} ⟨o,es,ep,e,d,r⟩=>⟨o,es,ep,base_of e (noA e d),d,r⟩
  have hKb:K.In (Mf s₁.heap H):=fun b o e=>base_of (KX b o e) (by
   cases q:H b with
   | none=>rfl
   | some u=>
    have e':b=a:=hA b (by rw [q];simp)
    subst e'
    rw [hK (by rw [q];simp)] at e;cases e)
  have hM:Mod K mg (Mf s₁.heap H):=⟨hKb,nsK hns,⟨mb,nsK hb,hbb⟩,let ⟨mc,h1,h2⟩:=hlim;⟨mc,nsK h1,h2⟩⟩
  have e0:Env0 P w K mg (Mf s₁.heap H) ll [] s₁ H:=⟨rfl,hM,fun b o e=>al3 e,lx (Vg _ _),trivial,fun b hb=>absurd (show b∈([]:List Addr) from hb) (by simp),hok,.of_eq hg,htk⟩
  refine eY ((F _ hKb (nsK hns)).run ll [] s₁ H ⟨[.ref a],[]⟩ [.ref a] [.ref a] _ _ hr e0 (hbind s₁ (.ref a)) (.cons rfl .nil) (hsp H hO hS)) fun r s' h=>?_
  cases r with
  | error e=>exact (hCX H e s' h).elim
  | ok fl=>
   cases fl with
   | next=>exact cZ h
   | brk=>exact cZ h
   | cont=>exact cZ h
   | ret u=>
    obtain⟨v,H',os,bare,un,hok',r',q⟩:=h
    have q':v=.bl true:=q
    subst q'
    obtain rfl:u=eE true:=r'
    refine⟨rfl,OldK.of_keep fun b o e=>?_,os.1,bare⟩
    cases q:H b with
    | none=>exact un.keep b o e q (by intro z;exact absurd (show b∈([]:List Addr) from z) (by simp)) (by simp)
    | some u=>
     rcases hO b with z|⟨ob,xs,z⟩
     ·rw [q] at z;cases z
     ·have z2:=un.frzs b ob _ z
      obtain⟨e1,_⟩:=hok b _ z
      obtain⟨e2,_⟩:=hok' b _ z2
      rw [e] at e1;cases e1
      exact e2
 cases hk:K.lookup a with
 | some o=>
  have e:=KX a o hk
  rw [ha] at e
  cases e
  refine core (fun _=>none) (fun _=>.inl rfl) (.inr ⟨_,vs.toArray,_,hk,rfl,rfl,rfl,by rw [am,lenV];exact hl,by rw [aP];intro v hv;obtain⟨i,_,rfl⟩:=List.mem_map.mp hv;rfl,by simpa using rv⟩) (fun b u z=>by have z':(none:Option HO)=some u:=z;cases z') (fun b z=>absurd rfl z) fun z=>absurd rfl z
 | none=>
  refine core (fun b=>if b=a then some (.frz { cls:=.type "list", data:=.seq vs.toArray } (.lst (ns.map V.int))) else none) (fun b=>?_) (.inl (.inr ⟨{ cls:=.type "list", data:=.seq vs.toArray },if_pos rfl⟩)) (fun b u z=>?_) (fun b z=>?_) fun _=>hk
  ·by_cases hb:b=a
   ·exact .inr ⟨_,_,if_pos hb⟩
   ·exact .inl (if_neg hb)
  ·by_cases hb:b=a
   ·have z':=(if_pos hb).symm.trans z
    cases z'
    subst hb
    exact⟨ha,by rw [al];exact hl,vs,_,rv,ha⟩
   ·have z':=(if_neg hb).symm.trans z
    cases z'
  ·by_cases hb:b=a
   ·exact hb
   ·exact absurd (if_neg hb) z
end L2
namespace L2
open PySem PySem.Spec PyProof.Rows
noncomputable def Ca (s:Stmt) (j:Nat):Stmt:=match s with
 | .ClassDef _ _ _ body _ _ _ _ _ _ _=>body.getD j (.Pass ⟨0,0,0,0⟩)
 | _=>.Pass ⟨0,0,0,0⟩
noncomputable def B8 (s:Stmt):Arguments:=match s with
 | .FunctionDef _ a _ _ _ _ _ _ _ _=>a
 | _=>{ posonlyargs:=[],args:=[],vararg:=none,kwonlyargs:=[],kw_defaults:=[],kwarg:=none,defaults:=[] }
noncomputable def Aj (s:Stmt):List Stmt:=match s with
 | .FunctionDef _ _ b _ _ _ _ _ _ _=>b
 | _=>[]
noncomputable def Ab (s:Stmt):Scope:=match s with
 | .FunctionDef _ _ _ _ _ _ sc _ _ _=>sc
 | _=>{ kind:=.function,names:=[],isGenerator:=false,isCoroutine:=false }
noncomputable abbrev CX0:CXT:=fun _ _ _ _ _ _=>False
structure Fun (K:aa) (x qual:Str) (st:Stmt) (f:Addr) (fd:aE):Prop where
 ex:∃ (oc:Value) (od:Option Addr) (kV doc pm:Value) (an:Option Addr) (cdv ct:Value) (osl:Array (Option Value)),
  fd=cR x qual (B8 st) (Aj st) (Ab st) .none kV doc pm an cdv ct/\K.lookup f=some ⟨oc,od,.func fd,osl⟩/\eD K cdv qual=true
 kp:aU K (.ref f)=true
section
variable {P:aO} {w:bM} {K:aa} {mg:Str->Option Value} {base:Heap}
theorem Fun.binds {x qual:Str} {st:Stmt} {f:Addr} {fd:aE} {ps:List Str} (F:Fun K x qual st f fd)
  (h:∀ (kV doc pm:Value) (an:Option Addr) (cdv ct:Value) (us:List Value),us.length=ps.length->mh (cR x qual (B8 st) (Aj st) (Ab st) .none kV doc pm an cdv ct) ⟨us,[]⟩=pure (ps.zip us)):Binds K fd ps []:=by
 obtain⟨oc,od,kV,doc,pm,an,cdv,ct,osl,rfl,lk,hcd⟩:=F.ex
 exact .all (h kV doc pm an cdv ct)
theorem P5 {x qual:Str} {st:Stmt} {f:Addr} {oc:Value} {od an:Option Addr} {osl:Array (Option Value)} {kV doc pm cdv ct:Value} (l:K.lookup f=some ⟨oc,od,.func (cR x qual (B8 st) (Aj st) (Ab st) .none kV doc pm an cdv ct),osl⟩)
  (c:eD K cdv qual=true) (k:aU K (.ref f)=true):Fun K x qual st f (cR x qual (B8 st) (Aj st) (Ab st) .none kV doc pm an cdv ct):=⟨⟨oc,od,kV,doc,pm,an,cdv,ct,osl,rfl,l,c⟩,k⟩
end
section
variable {X:Cx}
end
theorem Kf {A B:Prop} (h:B):if false=true then A else B:=by
 rw [if_neg aj]
 exact h
theorem Kg {A B:Prop} (h:A):if true=true then A else B:=by
 rw [if_pos rfl]
 exact h
theorem A5 {c A B:Prop} [Decidable c] (h1:c->A) (h2:¬ c->B):if c then A else B:=by
 by_cases h:c
 ·rw [if_pos h]
  exact h1 h
 ·rw [if_neg h]
  exact h2 h
noncomputable def Same (H H':Hp):Prop:=∀ b o,H b=some o->H' b=some o
theorem Same.refl (H:Hp):Same H H:=fun _ _ h=>h
theorem Same.trans {H H1 H2:Hp} (a:Same H H1) (b:Same H1 H2):Same H H2:=fun c o h=>b c o (a c o h)
theorem Same.free {H H':Hp} (e:Same H H') {l:Addr} (h:H' l=Option.none):H l=Option.none:=by
 cases q:H l with
 | none=>rfl
 | some o=>
  rw [e l o q] at h
  cases h
noncomputable def Cx.comp (X:Cx) (N':List Str) (scope:Scope) (cl:List (Str×Addr)) (fp:List Addr) (C:Addr) (s:ag) (H:Hp) (xe:Value->ag->Prop):Cx:=
 {prog:=X.prog,w:=X.w,K:=X.K,mg:=X.mg,base:=X.base,A:=X.A,N:=N',s₀:=s,H₀:=H,env:=mj scope cl C X.env,outer:=X.stack,stack:=X.stack,
  ex:=fp,fn:=fun x=>(cl.lookup x).isNone,calm:=X.calm,pn:=[],xe:=xe }
noncomputable def U3 (srcs:List (Option Nat)) (σ:St):St:=srcs.map fun o=>o.bind fun j=>(σ[j]?).join
structure Hk (X:Cx) (N':List Str) (srcs:List (Option Nat)) (scope:Scope) (cl:List (Str×Addr)):Prop where
 clos:closureFor scope X.env=pure cl
 nocell:∀ y∈scope.names,y.2≠.cell
 kind:scope.kind=.function
 names:∀ y∈scope.names,y.2=.local->scope.names.lookup y.1=some .local
 sub:∀ x c,cl.lookup x=some c->X.env.cells.lookup x=some c
 has:∀ x,((iu scope X.env).names.lookup x=some .cell\/(iu scope X.env).names.lookup x=some .free) -> ∃ c,cl.lookup x=some c
 len:srcs.length=N'.length
 src:∀ (k j:Nat) (x:Str),N'[k]? = some x->srcs[k]? = some (some j)->X.N[j]? = some x/\(X.env.scope.names.lookup x=some .cell\/X.env.scope.names.lookup x=some .free) /\
  ((iu scope X.env).names.lookup x=some .cell\/(iu scope X.env).names.lookup x=some .free)
noncomputable def Uq (X:Cx) (ifs:List Expr) (t:TT):Prop:=
 ∀ (pins:List (Addr×Obj)) (s:ag) (σ:St) (H:Hp) (Q:Bool->Hp->Prop),Inv X pins σ H s->t σ H Q ->
  ay (model X.prog X.w) X.A (forIn ifs true fun c r=>if r=true then do let ok <- isTrue c X.env (eval c X.env);pure (eQ ok) else pure (eQ r)) (TP X pins σ Q) X.xe s
noncomputable def b14:TT:=fun _ H Q=>Q true H
theorem Z6 {X:Cx}:Uq X [] b14:=fun _ _ _ H _ I h=>wpAny_tests_nil ⟨H,I,h⟩
theorem Z7 {X:Cx} {c:Expr} {t:TT} (h:PT X c t):Uq X [c] t:=fun pins s σ H Q I q=>wpAny_tests_one (h pins s σ H Q I q)
noncomputable def af0 (srcs:List (Option Nat)) (wi:TI) (g:TG) (tc:TT) (te:TE):TE:=fun σ H Q=>wi σ H fun J H1=>∀ D,H1 D=none ->
 ∃ W:Nat->Nat->St->Hp->Prop,(∃ m,W 0 m (U3 srcs σ) (upd H1 D (.lst []))) /\ ∀ i m σ' H',W i m σ' H' ->
  (J.stop i H'/\Q (.ref D) H')\/(J.go i H' /\ ∃ N:St->Hp->Prop,(∀ σ2 H2,N σ2 H2 -> ∃ m',m'<m/\W (i+1) m' σ2 H2) /\ ∀ x H2,J.yld i H' x H2->g x σ' H2 fun σ3 H3=>tc σ3 H3 fun b H4=>if b=true then
    te σ3 H4 fun v H5=>∃ ys,H5 D=some (.lst ys)/\ys.length<sizeLine/\N σ3 (upd H5 D (.lst (ys++[v])))
   else N σ3 H4)
section
variable {g:TG} {tc:TT} {te:TE} {D:Addr} {R:Hp->Prop} {σ:St} {H:Hp}
end
section
variable {prog:aO} {w:bM} {A:aX} {E:Value->ag->Prop} {R:jO->ag->Prop} {s:ag}
theorem L5 {elt target iter:Expr} {ifs:List Expr} {scope:Scope} {pos:Pos} {it acc:Value} {env:Env} (I:Nat->ag->Prop)
  (turn:∀ n s,I n s->ay (model prog w) A (fc it) (fun r s₁=>match r with
   | none=>R (.ok .next) s₁
   | some v=>ay (model prog w) A (gY target it v) (fun _ s₀=>ay (model prog w) A (lE target env v) (fun _ s₂=>
     ay (model prog w) A (forIn ifs true fun c r=>if r=true then do let ok <- isTrue c env (eval c env);pure (eQ ok) else pure (eQ r)) (fun ok s₃=>
      if ok=true then ay (model prog w) A (eval elt env) (fun x s₄=>
       ay (model prog w) A (call (.builtin "list.append") [acc,x]) (fun _ s₅=>∃ m,m<n/\I m s₅) (lq (model prog w) A env fun e s'=>R (.error e) s') s₄) (lq (model prog w) A env fun e s'=>R (.error e) s') s₃
      else ∃ m,m<n/\I m s₃) (lq (model prog w) A env fun e s'=>R (.error e) s') s₂) (lq (model prog w) A env fun e s'=>R (.error e) s') s₀) (lq (model prog w) A env fun e s'=>R (.error e) s') s₁) (lq (model prog w) A env fun e s'=>R (.error e) s') s)
  (n:Nat) (h:I n s) :
  d4 (model prog w) A (.compLoop (.ListComp elt [⟨target,iter,ifs,0⟩] scope pos) 0 it acc env) R s:=by
 refine codeAny_loop rfl I (fun n s hI=>?_) n h
 show ay _ A ((compTurn (.ListComp elt [⟨target,iter,ifs,0⟩] scope pos) 0 it acc env).onRaise (fun x=>do kW x env;theTreesLotGoes x)) _ _ s
 refine wpAny_noted ?_
 rw [compTurn_list]
 refine ac (eC (ac (cA (turn n s hI) (fun r s₁ h₁=>?_) fun _ _ h'=>h')))
 cases r with
 | none=>exact ai h₁
 | some v=>
  refine ac (cA h₁ (fun _ s₀ h₀=>?_) fun _ _ h'=>h')
  refine ac (cA h₀ (fun _ s₂ h₂=>ac (cA h₂ (fun ok s₃ h₃=>?_) fun _ _ h'=>h')) fun _ _ h'=>h')
  cases ok with
  | false=>exact ai ⟨rfl,h₃⟩
  | true=>
   exact ac (ac (cA h₃ (fun x s₄ h₄=>ac (cA h₄ (fun _ s₅ h₅=>ai (ai ⟨rfl,h₅⟩)) fun _ _ h'=>h')) fun _ _ h'=>h'))
end
section
variable {X:Cx} {elt tg iter:Expr} {ifs:List Expr} {scope:Scope} {pos:Pos} {N':List Str} {srcs:List (Option Nat)} {cl:List (Str×Addr)} {wi:TI} {g:TG} {tc:TT} {te:TE}
theorem Pw {xe:Value->ag->Prop} {pins:List (Addr×Obj)} {σ:St} {H:Hp} {s:ag} {fp:List Addr} {C D:Addr} {h₁:Heap} {tk:Nat} (S:Hk X N' srcs scope cl) (I:Inv X pins σ H s) (f:∀ b∈fp,Cy X pins H b) (fo:∀ b∈fp,b<s.heap.objs.size)
  (hD:s.heap.objs.size<=D) (hC:s.heap.objs.size<=C) (hDC:C≠D) (hns:∃ m,h₁.Ns C m) (old:∀ b o,s.heap.get? b=some o->h₁.get? b=some o) (hacc:∃ n,h₁.get? D=some { cls:=.type "list", data:=.seq ([]:List Value).toArray n }) (ht:s.toks<=tk:=by first|exact af _|exact aB _ _|assumption|omega|(dsimp only;omega)) :
  Inv (X.comp N' scope cl fp C s H xe) [] (U3 srcs σ) (upd H D (.lst [])) { s with heap:=h₁,toks:=tk }:=by
 have hfD:=I.hok.fresh hD
 have ok:(X.comp N' scope cl fp C s H xe).Ok:=by
  refine⟨I.ok.mod,S.kind,I.ok.glob,I.ok.blt,hC,fun x y c a b=>I.ok.inj x y c (S.sub x c a) (S.sub y c b),S.has,fun x c hf hl=>?_,I.ok.hd,I.ok.frames,.inl rfl,fun b hb=>⟨?_,fun x c hl=>?_⟩,I.bs,aR I.ok.bsz I.sz,fun b o e hb=>?_,fun b hb hfs=>?_,I.stack,I.stkFree,fun x y t e=>av (I.ok.tk x y t e) I.os.2⟩
  ·have hl':cl.lookup x=some c:=hl
   have hf':(cl.lookup x).isNone=true:=hf
   rw [hl'] at hf'
   cases hf'
  ·exact aA (av (fo b hb) hC)
  ·exact (f b hb).2.2.2.2.1 x c (S.sub x c hl)
  ·rcases (f b hb).2.2.2.1 with z|z
   ·exact I.ok.noex b o e z
   ·exact absurd (av (au e) (aR I.ok.bsz z)) (e8 _)
  ·rcases List.mem_cons.mp (I.stkSub b hfs) with z|z
   ·exact (f b hb).2.1 z
   ·exact (f b hb).2.2.1 z
 obtain⟨m0,hns⟩:=hns
 obtain⟨nn,hacc⟩:=hacc
 refine⟨ok,⟨rfl,ht⟩,I.bare,Un.laid old hD hfD,⟨m0,hns,fun k x v e1 e2 e3=>?_⟩,fun x c hl=>?_,?_,fun x c hl=>?_,fun p hp=>absurd (show p∈([]:List (Addr×Obj)) from hp) (by simp),I.hok.laid old hD ⟨bJ _,[],nn,.nil,hacc⟩,?_⟩
 ·-- the captured names
  have e1:N'[k]? = some x:=e1
  have e2:(srcs.map fun o=>o.bind fun j=>(σ[j]?).join)[k]? = some (some v):=e2
  rw [aI] at e2
  cases hk:srcs[k]? with
  | none=>rw [hk] at e2;cases e2
  | some o=>
   rw [hk] at e2
   cases o with
   | none=>cases e2
   | some j=>
    have e2':(σ[j]?).join=some v:=aK e2
    have e3':σ[j]? = some (some v):=by
     cases hj:σ[j]? with
     | none=>rw [hj] at e2';cases e2'
     | some y=>rw [hj] at e2';exact congrArg some e2'
    obtain⟨a1,a2,a3⟩:=S.src k j x e1 hk
    obtain⟨m,hn,hl⟩:=I.loc
    obtain⟨u,r,l⟩:=hl j x v a1 e3' (a2.elim (fun z=>.inr (.inl z)) fun z=>.inr (.inr z))
    refine⟨u,r,.inr ⟨a3,?_⟩⟩
    obtain⟨c,hc⟩:=S.has x a3
    refine⟨c,hc,?_⟩
    rcases l with ⟨z,_⟩|⟨_,c',hc',o,ho,hd⟩
    ·have z':X.env.scope.names.lookup x=some .local:=z
     rcases a2 with q|q <;> rw [q] at z' <;> cases z'
    ·have e:=S.sub x c hc
     rw [hc'] at e
     cases e
     exact⟨o,old _ o ho,hd⟩
 ·obtain⟨v,o,ho,hd⟩:=I.cell x c (S.sub x c hl)
  exact⟨v,o,old _ o ho,hd⟩
 ·show upd H D (.lst []) C=none
  rw [Ae hDC]
  exact I.hok.fresh hC
 ·have hx:=S.sub x c hl
  obtain⟨v,o,ho,hd⟩:=I.cell x c hx
  rw [Ae (aA (av (au ho) hD))]
  exact I.freeC x c hx
 ·show (U3 srcs σ).length=N'.length
  unfold U3
  rw [al,S.len]
noncomputable def Bb (X:Cx) (scope:Scope) (cl:List (Str×Addr)) (use:Option (Value->Sem Unit)) (Q2:Value->ag->Prop) (D C:Addr):Value->ag->Prop:=
 lq (model X.prog X.w) X.A (mj scope cl C X.env) fun e s'=>compPost (model X.prog X.w) X.A X.xe use Q2 (.ref D) C (.error e) s'
theorem Kx {pins:List (Addr×Obj)} {s:ag} {σ:St} {H:Hp} {Q:VK} {use:Option (Value->Sem Unit)} {Q2:Value->ag->Prop} (hc:X.calm=true) (S:Hk X N' srcs scope cl) (hi:PI X tg iter wi)
  (hb:∀ fp C D s2 H2,Inv X pins σ H2 s2->(∀ b∈fp,Cy X pins H2 b)->s2.heap.objs.size<=C->PG (X.comp N' scope cl fp C s2 H2 (Bb X scope cl use Q2 D C)) tg g/\Uq (X.comp N' scope cl fp C s2 H2 (Bb X scope cl use Q2 D C)) ifs tc/\PE (X.comp N' scope cl fp C s2 H2 (Bb X scope cl use Q2 D C)) elt te)
  (I:Inv X pins σ H s) (h:af0 srcs wi g tc te σ H Q)
  (fin:∀ (D C:Addr) (H':Hp) (s':ag),Inv X pins σ H' s'->(∃ m,s'.heap.Ns C m)->Cy X pins H' C->Q (.ref D) H'->compPost (model X.prog X.w) X.A X.xe use Q2 (.ref D) C (.ok .next) s')
  (hs:∀ x,e_ iter X.env x=pure x) :
  ay (model X.prog X.w) X.A (comprehension (.ListComp elt [⟨tg,iter,ifs,0⟩] scope pos) scope X.env (firstIterPos [⟨tg,iter,ifs,0⟩] pos) (newList []) false (eval iter X.env) use) Q2 X.xe s:=by
 refine wpAny_comprehension_free rfl hs S.clos S.kind S.names (thn (hi pins s σ H _ I h) fun v s1 h1=>thn h1 fun itv s2 h2=>?_)
 obtain⟨it,fp,tn,J,H2,e,I2,T,st2,f2,q2⟩:=h2
 subst e
 refine cv (wpAny_newFunctionEnv S.nocell (by intro y hy;simp at hy) (fun h₁ hns₁ hsb₁=>?_) S.kind)
 dsimp only at hns₁ hsb₁ ⊢
 generalize hH2:s2.heap.push { cls:=.type "list", dict:=none,data:=.seq ([]:List Value).toArray }=G2 at hns₁ hsb₁ ⊢
 have hCe:G2.objs.size=s2.heap.objs.size+1:=by rw [<- hH2,bE]
 have hDC:G2.objs.size≠s2.heap.objs.size:=by rw [hCe];exact b5 (cm _)
 have hCle:s2.heap.objs.size<=G2.objs.size:=by rw [hCe];exact cG _
 have old:∀ b o,s2.heap.get? b=some o->h₁.get? b=some o:=fun b o e=>
  hsb₁.extBut b o (aA (av (au e) hCle)) (ae _ (hH2▸ae _ e))
 have hacc:∃ n,h₁.get? s2.heap.objs.size=some { cls:=.type "list", data:=.seq ([]:List Value).toArray n }:=⟨_,hsb₁.extBut _ _ (cx hDC) (ae _ (hH2▸aq _ rfl))⟩
 have fo:∀ b∈fp,b<s2.heap.objs.size:=fun b hb=>by
  obtain⟨o,ho,_⟩:=T.obj _ _ st2 b hb
  exact au ho
 have st3:tn 0 h₁:=T.keep _ _ _ st2 fun b _ o e=>old b o e
 obtain⟨hg,ht,he⟩:=hb fp G2.objs.size s2.heap.objs.size s2 H2 I2 f2 hCle
 obtain⟨W,⟨m0,w0⟩,turn⟩:=q2 s2.heap.objs.size (I2.hok.fresh (af _))
 have loop:∀ s3:ag,s3={ s2 with heap:=h₁,toks:=s2.toks+([]:List (Str×Value)).length } ->
   d4 (model X.prog X.w) X.A (.compLoop (.ListComp elt [⟨tg,iter,ifs,0⟩] scope pos) 0 (.ref it) (.ref s2.heap.objs.size) (mj scope cl G2.objs.size X.env))
    (compPost (model X.prog X.w) X.A X.xe use Q2 (.ref s2.heap.objs.size) G2.objs.size) s3:=by
  rintro s3 rfl
  have I3:Inv (X.comp N' scope cl fp G2.objs.size s2 H2 (Bb X scope cl use Q2 s2.heap.objs.size G2.objs.size)) [] (U3 srcs σ) (upd H2 s2.heap.objs.size (.lst [])) { s2 with heap:=h₁,toks:=s2.toks+([]:List (Str×Value)).length }:=
   Pw S I2 f2 fo (af _) hCle hDC ⟨_,hns₁⟩ old hacc
  have stat:∀ {H':Hp},(∀ b∈fp,H' b=none) -> ∀ b∈fp,Cy (X.comp N' scope cl fp G2.objs.size s2 H2 (Bb X scope cl use Q2 s2.heap.objs.size G2.objs.size)) [] H' b:=fun hn b hb=>
   ⟨hn b hb,aA (av (fo b hb) hCle),(fun z=>(List.mem_cons.mp (I2.stkSub b z)).elim (f2 b hb).2.1 (f2 b hb).2.2.1),.inl hb,fun x c hl=>(f2 b hb).2.2.2.2.1 x c (S.sub x c hl),fun p hp=>absurd (show p∈([]:List (Addr×Obj)) from hp) (by simp)⟩
  refine L5 (fun n s'=>∃ i σ' H',Inv (X.comp N' scope cl fp G2.objs.size s2 H2 (Bb X scope cl use Q2 s2.heap.objs.size G2.objs.size)) [] σ' H' s'/\tn i s'.heap/\(∀ b∈fp,H' b=none)/\W i n σ' H') ?_ m0
   ⟨0,_,_,I3,st3,fun b hb=>by rw [Ae (aA (fo b hb))];exact (f2 b hb).1,w0⟩
  rintro n s4 ⟨i,σ4,H4,I4,st4,fr4,w4⟩
  rcases turn i n σ4 H4 w4 with ⟨stop,qn⟩|⟨go,NN,hNN,step⟩
  ·refine thn (T.done (X.comp N' scope cl fp G2.objs.size s2 H2 (Bb X scope cl use Q2 s2.heap.objs.size G2.objs.size)) rfl rfl rfl hc i [] s4 σ4 H4 _ I4 (stat fr4) st4 stop) fun r s5 ⟨hr,I5⟩=>?_
   subst hr
   obtain⟨m5,hn5,_⟩:=id I5.loc
   have I6:Inv X pins σ H4 s5:=I2.call' (ch:=fp) I5.os I5.base I5.hok I5.bare fun b hb=>⟨(f2 b hb).2.2.2.1,(f2 b hb).2.1,(f2 b hb).2.2.2.2.1,(f2 b hb).2.2.2.2.2⟩
   exact fin _ _ H4 s5 I6 ⟨m5,hn5⟩ (I2.fpOk hCle I5.free) qn
  ·refine thn (T.item (X.comp N' scope cl fp G2.objs.size s2 H2 (Bb X scope cl use Q2 s2.heap.objs.size G2.objs.size)) rfl rfl rfl hc i [] s4 σ4 H4 _ I4 (stat fr4) st4 go) fun r s5 ⟨u,hr,h5⟩=>?_
   subst hr
   refine thn h5 fun _ s6 ⟨x,H6,I6,r6,y6,st6,fr6⟩=>?_
   have I6':=I6.pinned (stat fr6) (T.obj _ _ st6)
   refine thn (hg _ s6 σ4 H6 x u _ I6' r6 (step x H6 y6)) fun _ s7 ⟨σ7,H7,I7,q7⟩=>?_
   have again:∀ {s9:ag} {H9:Hp},Inv (X.comp N' scope cl fp G2.objs.size s2 H2 (Bb X scope cl use Q2 s2.heap.objs.size G2.objs.size)) ([]++Go fp s6.heap) σ7 H9 s9->NN σ7 H9 ->
     ∃ m,m<n /\ ∃ i σ' H',Inv (X.comp N' scope cl fp G2.objs.size s2 H2 (Bb X scope cl use Q2 s2.heap.objs.size G2.objs.size)) [] σ' H' s9/\tn i s9.heap/\(∀ b∈fp,H' b=none)/\W i m σ' H':=fun {s9 H9} I9 n9=>by
    obtain⟨m',hm,w9⟩:=hNN σ7 H9 n9
    refine⟨m',hm,i+1,σ7,H9,I9.unpinned,T.keep _ _ _ st6 fun b hb o e=>(I9.pin (b,o) (bv _ (bv _ (D0 hb e)))).1,fun b hb=>?_,w9⟩
    obtain⟨o,e,d⟩:=T.obj _ _ st6 b hb
    exact (I9.pin (b,o) (bv _ (bv _ (D0 hb e)))).2.1
   refine thn (ht _ s7 σ7 H7 _ I7 q7) fun b s8 ⟨H8,I8,q8⟩=>?_
   cases b with
   | false=>
    rw [if_neg aj] at q8
    exact again I8 q8
   | true=>
    rw [if_pos rfl] at q8
    refine thn (he _ s8 σ7 H8 _ I8 q8) fun y s9 ⟨v9,H9,I9,r9,ys,hD,hlen,w9⟩=>?_
    refine thn (Lg (X:=X.comp N' scope cl fp G2.objs.size s2 H2 (Bb X scope cl use Q2 s2.heap.objs.size G2.objs.size)) ([]++Go fp s6.heap) s9 σ7 H9 (.ref s2.heap.objs.size) [v9] (.ref s2.heap.objs.size) [y] (fun _ H'=>H'=upd H9 s2.heap.objs.size (.lst (ys++[v9]))) I9 rfl (.cons r9 .nil)
     ⟨_,ys,v9,rfl,rfl,hD,hlen,rfl⟩) fun _ s10 ⟨_,H10,I10,_,e10⟩=>?_
    subst e10
    exact again I10 w9
 exact codeAny_compStart_list (loop _ rfl) (T.self X.A 0 _ _ _ st3 (loop _ rfl))
theorem X7 {pins:List (Addr×Obj)} {s:ag} {σ:St} {H:Hp} {Q:VK} (hc:X.calm=true) (S:Hk X N' srcs scope cl) (hi:PI X tg iter wi)
  (hb:∀ Q2 fp C D s2 H2,Inv X pins σ H2 s2->(∀ b∈fp,Cy X pins H2 b)->s2.heap.objs.size<=C->PG (X.comp N' scope cl fp C s2 H2 (Bb X scope cl none Q2 D C)) tg g/\Uq (X.comp N' scope cl fp C s2 H2 (Bb X scope cl none Q2 D C)) ifs tc/\PE (X.comp N' scope cl fp C s2 H2 (Bb X scope cl none Q2 D C)) elt te)
  (I:Inv X pins σ H s) (h:af0 srcs wi g tc te σ H Q) (hs:∀ x,e_ iter X.env x=pure x) :
  ay (model X.prog X.w) X.A (eval (.ListComp elt [⟨tg,iter,ifs,0⟩] scope pos) X.env) (EP X pins σ Q) X.xe s:=by
 rw [eval_ListComp]
 refine Kx (use:=none) hc S hi (fun fp C D s2 H2=>hb _ fp C D s2 H2) I h (fun D C H' s' I' ns fo q=>?_) hs
 obtain⟨m,hn⟩:=ns
 obtain⟨f0,f1,f2,f3,f4,f5⟩:=fo
 exact⟨m,hn,fun h' sb=>⟨.ref D,H',I'.turned (t':=s'.toks) (fun b o hb e=>(sb.2 b hb).trans e) f0 f1 f3 f4 f5,rfl,q⟩⟩
theorem X6 {i:Nat} {x:Str} {pos' spos:Pos} {pins:List (Addr×Obj)} {s:ag} {σ:St} {H:Hp} {D:J5} (hc:X.calm=true) (hN:X.N.Nodup) (hx:X.N[i]? = some x) (hl:X.env.scope.names.lookup x=some .local) (S:Hk X N' srcs scope cl) (hi:PI X tg iter wi)
  (hb:∀ us Q2 fp C D s2 H2,Inv X pins σ H2 s2->(∀ b∈fp,Cy X pins H2 b)->s2.heap.objs.size<=C->PG (X.comp N' scope cl fp C s2 H2 (Bb X scope cl us Q2 D C)) tg g/\Uq (X.comp N' scope cl fp C s2 H2 (Bb X scope cl us Q2 D C)) ifs tc/\PE (X.comp N' scope cl fp C s2 H2 (Bb X scope cl us Q2 D C)) elt te)
  (I:Inv X pins σ H s) (h:bd6 (af0 srcs wi g tc te) (Yx i) D σ H)
  (hsw:iL (.ListComp elt [⟨tg,iter,ifs,0⟩] scope pos) (some (.Name x pos')) spos.line X.env=pure true) (hs:∀ x,e_ iter X.env x=pure x) :
  ay (model X.prog X.w) X.A (exec (.Assign [.Name x pos'] (.ListComp elt [⟨tg,iter,ifs,0⟩] scope pos) spos) X.env) (SP X pins D) X.xe s:=by
 rw [exec_Assign_Name_used _ _ _ _ hsw]
 refine ac (eC (ac ?_))
 show ay _ X.A (do let _ <- comprehension (.ListComp elt [⟨tg,iter,ifs,0⟩] scope pos) scope X.env _ (newList []) false (eval iter X.env) (some (lE (.Name x pos') X.env))) _ _ s
 refine ac (thn (Kx (use:=some (lE (.Name x pos') X.env)) (Q:=fun v H'=>D.nx (σ.set i (some v)) H') (Q2:=fun _ s'=>SP X pins D .next s') hc S hi (fun fp C D s2 H2=>hb _ _ fp C D s2 H2) I h (fun L C H' s' I' ns fo q=>?_) hs) fun _ s' hq=>ai (ai hq))
 obtain⟨m,hn⟩:=ns
 obtain⟨f0,f1,f2,f3,f4,f5⟩:=fo
 obtain⟨oC,es,ep,hoC,hd,hr⟩:=id hn
 have I2:Inv X (pins++[(C,oC)]) σ H' s':=I'.pins_of fun p hp=>(List.mem_append.mp hp).elim (fun z=>I'.pin p (bv _ z)) fun z=>by
  have z':p=(C,oC):=by simpa using z
  subst z'
  exact⟨hoC,f0,f1,f2,fun v e=>by rw [hd] at e;cases e⟩
 refine wpAny_assign_Name (Ft (i:=i) (v:=.ref L) I2 hN hx (.inl hl) rfl (fun s2 I3=>?_) (.inr hl))
 have hoC':=(I3.pin (C,oC) (bv _ (bv _ (by simp)))).1
 refine⟨m,⟨oC,es,ep,hoC',hd,hr⟩,fun h' sb=>?_⟩
 exact⟨_,H',(I3.unpinned).turned (t':=s2.toks) (fun b o hb e=>(sb.2 b hb).trans e) f0 f1 f3 f4 f5,q⟩
end
noncomputable def Its (x:Str):It:=⟨fun i _=>i<x.cps.size,fun i H v H'=>H'=H /\ ∃ c,x.cps[i]? = some c/\v=.str ⟨#[c]⟩,fun i _=>i=x.cps.size⟩
theorem af3 {P:aO} {w:bM} {K:aa} {tg:Expr} (it:Addr) (x:Str) (t:Tok) (ty:String) (hty:ty = "str_ascii_iterator" \/ ty = "str_iterator") :
  J6 P w K tg (Its x) [it] it (fun i h=>h.IsStrIter it ty x t i) where
 mem:=by simp
 obj:=fun i h st b hb=>by
  have e:b=it:=by simpa using hb
  subst e
  obtain⟨o,e,c,d⟩:=st
  exact⟨o,e,fun v z=>by rw [d] at z;cases z⟩
 keep:=fun i h h' st k=>by
  obtain⟨o,e,r⟩:=st
  exact⟨o,k it (by simp) o e,r⟩
 item:=by
  intro X hP hw hK hc i pins s σ H E I hf st hg
  subst hP hw hK
  obtain⟨f0,f1,f2,f3,f4,f5⟩:=hf it (by simp)
  have W:l7 X.prog X.w X.A it [it] [it] x.cps.size (SignAt x) (fun i h=>h.IsStrIter it ty x t i):=by
   rcases hty with rfl|rfl
   ·exact Walks.strAscii (I.ok.hd hc) it x t
   ·exact Walks.strWide (I.ok.hd hc) it x t
  refine bh (af _) (W.item i s _ _ hg st fun v h' tk hv st' kk htk=>?_)
  obtain⟨c,u,hcp,rfl⟩:=hv
  have I1:Inv X pins σ H { s with heap:=h',toks:=tk }:=I.turned (fun b o hb e=>kk b o (by simpa using hb) e) f0 f1 f3 f4 f5
  obtain⟨o,e,cc,d⟩:=id st'
  exact⟨_,rfl,K5 (s:={ s with heap:=h',toks:=tk }) e cc d (by rcases hty with rfl|rfl <;> decide) ⟨.str ⟨#[c]⟩,H,I1,⟨_,rfl⟩,⟨rfl,c,hcp,rfl⟩,st',fun b hb=>(hf b hb).1⟩⟩
 done:=by
  intro X hP hw hK hc i pins s σ H E I hf st hg
  subst hP hw hK
  obtain⟨f0,f1,f2,f3,f4,f5⟩:=hf it (by simp)
  have hg:i=x.cps.size:=hg
  subst hg
  have W:l7 X.prog X.w X.A it [it] [it] x.cps.size (SignAt x) (fun i h=>h.IsStrIter it ty x t i):=by
   rcases hty with rfl|rfl
   ·exact Walks.strAscii (I.ok.hd hc) it x t
   ·exact Walks.strWide (I.ok.hd hc) it x t
  exact bh (af _) (W.done s _ _ st fun h' tk kk htk=>⟨rfl,I.turned (fun b o hb e=>kk b o (by simpa using hb) e) f0 f1 f3 f4 f5⟩)
 self:=by
  intro A i s Q E st h
  rcases hty with rfl|rfl
  ·exact wpAny_pyIter_striter_ascii st h
  ·exact wpAny_pyIter_striter_wide st h
section
variable {X:Cx} {tg:Expr}
end
section
variable {X:Cx} {pins:List (Addr×Obj)} {σ:St} {H:Hp} {s:ag} {h':Heap} {ch:List Addr} {t':Nat}
theorem Inv.turnedL (I:Inv X pins σ H s) (hf:∀ b∈ch,Cy X pins H b) (k:∀ b o,b∉ch->s.heap.get? b=some o->h'.get? b=some o) (ht:s.toks<=t':=by first|exact af _|exact aB _ _|assumption|omega|(dsimp only;omega)):Inv X pins σ H { s with heap:=h',toks:=t' }:=by
 have tr:∀ b ob,H b=some ob->b∉ch:=fun b ob e hb=>by rw [(hf b hb).1] at e;cases e
 refine I.step (g':=s.gens) (d':=s.drawn) (ch:=ch) (fun b hb=>⟨(hf b hb).2.2.2.1,(hf b hb).2.1,(hf b hb).2.2.2.2.1,(hf b hb).2.2.2.2.2⟩) (fun b o _ _ hb e _=>k b o hb e) (fun b o _ _ hb e _=>⟨o.slots,k b o hb e⟩) (fun _ _ _ _ n=>n) (fun b o hb e=>⟨o,k b o hb e⟩)
  (fun _ _ e=>e) (fun _ _ _ e=>e) (fun b ps e=>⟨#[],by rw [e];simp⟩) (fun m hm=>?_) (fun b ob e=>?_) I.bare
 ·obtain⟨o,es,ep,ho,r⟩:=hm
  exact⟨o,es,ep,k _ o (fun z=>(hf _ z).2.1 rfl) ho,r⟩
 ·refine (I.hok b ob e).stay (fun b' w' hc' q=>k b' w' ?_ q) (fun _ q=>q) fun _ _ q=>q
  rcases hc' with rfl|hc'
  ·exact tr _ _ e
  ·exact tr _ _ hc'
theorem Inv.turnedN {T:Addr} {o:HO} (I:Inv X pins σ H s) (hf:∀ b∈ch,Cy X pins H b) (k:∀ b o,b∉ch->s.heap.get? b=some o->h'.get? b=some o) (hT:s.heap.objs.size<=T) (new:ObjOk X.prog X.w (upd H T o) h' T o) (ht:s.toks<=t':=by first|exact af _|exact aB _ _|assumption|omega|(dsimp only;omega)) :
  Inv X pins σ (upd H T o) { s with heap:=h',toks:=t' }:=by
 have tr:∀ b ob,H b=some ob->b∉ch:=fun b ob e hb=>by rw [(hf b hb).1] at e;cases e
 have hn:=I.hok.fresh hT
 have nT:∀ {b o},s.heap.get? b=some o->b≠T:=fun e=>aA (av (au e) hT)
 refine I.step (g':=s.gens) (d':=s.drawn) (ch:=ch) (fun b hb=>⟨(hf b hb).2.2.2.1,(hf b hb).2.1,(hf b hb).2.2.2.2.1,(hf b hb).2.2.2.2.2⟩) (fun b o _ _ hb e _=>k b o hb e) (fun b o _ _ hb e _=>⟨o.slots,k b o hb e⟩) (fun b o _ e n=>by rw [Ae (nT e)];exact n) (fun b o hb e=>⟨o,k b o hb e⟩)
  (fun b zs e=>by rw [Ae (Ak e hn)];exact e) (fun b o zs e=>by rw [Ae (Ak e hn)];exact e) (fun b ps e=>⟨#[],by rw [Ae (Ak e hn),e];simp⟩) (fun m hm=>?_) (fun b ob e=>?_) I.bare
 ·obtain⟨o,es,ep,ho,r⟩:=hm
  exact⟨o,es,ep,k _ o (fun z=>(hf _ z).2.1 rfl) ho,r⟩
 ·by_cases hb:b=T
  ·subst hb
   rw [Ad] at e
   cases e
   exact new
  ·rw [Ae hb] at e
   refine (I.hok b ob e).stay (fun b' w' hc' q=>k b' w' ?_ q) (fun b' q=>by rw [Ae (Ak q hn)];exact q) fun b' zs q=>by rw [Ae (Ak q hn)];exact q
   rcases hc' with rfl|hc'
   ·exact tr _ _ e
   ·exact tr _ _ hc'
end
noncomputable def Itz (K:aa) (l1 l2:Addr):It:=
  ⟨fun i H=>∃ xs ys x y,SqL K H l1 xs/\SqL K H l2 ys/\xs[i]? = some x/\ys[i]? = some y,
   fun i H v H'=>∃ T x y,H T=none/\v=.ref T/\(∀ xs,SqL K H l1 xs->xs[i]? = some x)/\(∀ ys,SqL K H l2 ys->ys[i]? = some y)/\H'=upd H T (.tup [x,y]),
   fun i H=>∃ xs ys,SqL K H l1 xs/\SqL K H l2 ys/\(xs.length<=i\/ys.length<=i)⟩
theorem af4 {P:aO} {w:bM} {K:aa} {elts:List Expr} {kt:Nat} {pt:Pos} {z TI TO i1 i2 l1 l2:Addr} (D:kR z TI TO i1 i2 l1 l2) :
  J6 P w K (.Tuple elts kt pt) (Itz K l1 l2) [z,TI,TO,i1,i2] z
   (fun i h=>lg h z TI TO .none/\jd h TI (.ref i1) (.ref i2)/\(∃ a b,jd h TO a b)/\h.IsListIter i1 l1 i/\h.IsListIter i2 l2 i) where
 mem:=by simp
 obj:=fun i h st b hb=>by
  obtain⟨hz,hTI,⟨a,c,hTO⟩,⟨o1,e1,c1,d1⟩,⟨o2,e2,c2,d2⟩⟩:=st
  have hb:b=z\/b=TI\/b=TO\/b=i1\/b=i2:=by simpa using hb
  rcases hb with rfl|rfl|rfl|rfl|rfl
  ·exact⟨_,hz,fun v q=>nomatch q⟩
  ·exact⟨_,hTI,fun v q=>nomatch q⟩
  ·exact⟨_,hTO,fun v q=>nomatch q⟩
  ·exact⟨o1,e1,fun v q=>by rw [d1] at q;cases q⟩
  ·exact⟨o2,e2,fun v q=>by rw [d2] at q;cases q⟩
 keep:=fun i h h' st k=>by
  obtain⟨hz,hTI,⟨a,c,hTO⟩,h1,h2⟩:=st
  exact⟨k z (by simp) _ hz,k TI (by simp) _ hTI,⟨a,c,k TO (by simp) _ hTO⟩,h1.at fun o e=>k i1 (by simp) o e,h2.at fun o e=>k i2 (by simp) o e⟩
 item:=by
  intro X hP hw hK hc i pins s σ H E I hf st hg
  subst hP hw hK
  obtain⟨xs,ys,x,y,q1,q2,hx,hy⟩:=hg
  obtain⟨its1,r1,p1,z1⟩:=I.list q1
  obtain⟨its2,r2,p2,z2⟩:=I.list q2
  obtain⟨u,hu,ru⟩:=r1.get hx
  obtain⟨v,hv,rv⟩:=r2.get hy
  obtain⟨hz,hTI,⟨a,c,hTO⟩,h1,h2⟩:=st
  refine wpAny_pyNext_zip_item D hz hTI hTO h1 h2 p1.isList p2.isList (x:=u) (y:=v) (by simpa using hu) (by simpa using hv) fun h' a1 a2 a3 a4 a5 a6 hk=>?_
  refine⟨_,rfl,wpAny_letOwnedTupleGo_zip a1 fun h'' hz' hs'=>?_⟩
  have hT:=I.hok.fresh (af s.heap.objs.size)
  have up':∀ b o,b∉[z,TO,i1,i2]->s.heap.get? b=some o->h''.get? b=some o:=fun b o hb e=>by
   have b1:b≠z:=by rintro rfl;exact hb (by simp)
   have b2:b≠TO:=by rintro rfl;exact hb (by simp)
   have b3:b≠i1:=by rintro rfl;exact hb (by simp)
   have b4:b≠i2:=by rintro rfl;exact hb (by simp)
   exact hs'.extBut b o b1 (hk b o b1 b2 b3 b4 e)
  have nT:∀ {b o},s.heap.get? b=some o->b≠s.heap.objs.size:=fun e=>aA (au e)
  have Tnew:h''.get? s.heap.objs.size=some { cls:=.type "tuple", data:=.seq #[u,v] }:=hs'.extBut _ _ (cx (nT hz)) a5
  have I1:Inv X pins σ (upd H s.heap.objs.size (.tup [x,y])) { s with heap:=h'' }:=
   I.turnedN (t':=s.toks) (ch:=[z,TO,i1,i2]) (fun b hb=>hf b (by
    have hb:b=z\/b=TO\/b=i1\/b=i2:=by simpa using hb
    rcases hb with rfl|rfl|rfl|rfl <;> simp)) up' (af _) ⟨by show 2<=sizeLine;decide,[u,v],.cons ru (.cons rv .nil),⟨_,Tnew,rfl,_,rfl⟩⟩
  refine⟨.ref s.heap.objs.size,_,I1,rfl,⟨s.heap.objs.size,x,y,hT,rfl,fun xs' h'=>by rw [I.list_inj h' q1];exact hx,fun ys' h'=>by rw [I.list_inj h' q2];exact hy,rfl⟩,
   ⟨hz',hs'.extBut _ _ D.TIz (hk _ _ D.TIz D.TITO D.TIi1 D.TIi2 hTI),⟨_,_,hs'.extBut _ _ D.TOz a2⟩,a3.at fun o e=>hs'.extBut _ o D.i1z e,a4.at fun o e=>hs'.extBut _ o D.i2z e⟩,fun b hb=>?_⟩
  have q:=(hf b hb).1
  rw [Ae ?_]
  ·exact q
  ·have hb:b=z\/b=TI\/b=TO\/b=i1\/b=i2:=by simpa using hb
   rcases hb with rfl|rfl|rfl|rfl|rfl
   ·exact nT hz
   ·exact nT hTI
   ·exact nT hTO
   ·obtain⟨_,e,_⟩:=h1;exact nT e
   ·obtain⟨_,e,_⟩:=h2;exact nT e
 done:=by
  intro X hP hw hK hc i pins s σ H E I hf st hg
  subst hP hw hK
  obtain⟨xs,ys,q1,q2,hx⟩:=hg
  obtain⟨its1,r1,p1,z1⟩:=I.list q1
  obtain⟨its2,r2,p2,z2⟩:=I.list q2
  have e1:=r1.length
  have e2:=r2.length
  obtain⟨hz,hTI,⟨a,c,hTO⟩,h1,h2⟩:=st
  have hend:its1.toArray[i]? = none\/its2.toArray[i]? = none:=by
   rcases hx with hx|hx
   ·exact .inl (by simp;omega)
   ·exact .inr (by simp;omega)
  refine wpAny_pyNext_zip_end (I.ok.hd hc) D hz hTI hTO h1 h2 p1.isList p2.isList hend fun h' hk=>⟨rfl,?_⟩
  refine I.turnedL (t':=s.toks) (ch:=[z,TO,i1,i2]) (fun b hb=>hf b (by
    have hb:b=z\/b=TO\/b=i1\/b=i2:=by simpa using hb
    rcases hb with rfl|rfl|rfl|rfl <;> simp)) fun b o hb e=>?_
  have b1:b≠z:=by rintro rfl;exact hb (by simp)
  have b2:b≠TO:=by rintro rfl;exact hb (by simp)
  have b3:b≠i1:=by rintro rfl;exact hb (by simp)
  have b4:b≠i2:=by rintro rfl;exact hb (by simp)
  exact hk b o b1 b2 b3 b4 e
 self:=fun A i s Q E st h=>jn st.1 h
section
variable {X:Cx}
end
theorem Wb {bs:List Bool}:(bO bs.length).all (fun i=>bs.getD i true)=bs.all fun b=>b:=by
 rw [cK,aP,aP]
 constructor
 ·intro h b hb
  obtain⟨i,hi,e⟩:=List.mem_iff_getElem.mp hb
  have q:=h i (List.mem_range.mpr hi)
  rw [bc,ah hi,e] at q
  exact q
 ·intro h i hi
  have hi:=List.mem_range.mp hi
  rw [bc,ah hi]
  exact h _ (dM hi)
section
variable {X:Cx}
theorem X0 (hc:X.calm=true):Bl X (.builtin "all") (fun xs H Q=>∃ (p:Addr) (bs:List Bool),xs=[.ref p]/\SqL X.K H p (bs.map V.bl)/\Q (.bl (bs.all fun b=>b)) H):=by
 intro pins s σ H xs us Q I r h
 obtain⟨p,bs,rfl,hq,q⟩:=h
 obtain⟨u,rfl,ru⟩:=r.one
 cases ru
 obtain⟨its,rv,pl,hz⟩:=I.list hq
 have hlen:=rv.length
 rw [al] at hlen
 obtain⟨o,n,e,c,hd,ds⟩:=id pl
 have plt:=au e
 refine bh (af _) (call_all_walk (gf pl.isList ?_))
 refine⟨s.heap.objs.size,_,_,_,_,_,(fun i=>bs.getD i true),rfl,Walks.list (A:=X.A.in1) (show X.A.in1.handled=none from I.ok.hd hc) s.heap.objs.size p (aA plt) its.toArray,⟨⟨_,aq _ rfl,rfl,rfl⟩,pl.isList.push _⟩,?_,fun h' tk kk htk=>?_⟩
 ·intro i v s' Q' E' hv hq'
  have hv:its[i]? = some v:=by simpa using hv
  have hi:i<bs.length:=by rw [hlen];exact (List.getElem?_eq_some_iff.mp hv).1
  have e1:(bs.map V.bl)[i]? = some (.bl bs[i]):=by simp [hi]
  obtain⟨u',hu',ru'⟩:=rv.get e1
  rw [hv] at hu'
  cases hu'
  cases ru'
  have e2:bs.getD i true=bs[i]:=by simp [bc,hi]
  have hq':Q' (bs.getD i true) s':=hq'
  rw [e2] at hq'
  exact c7 hq'
 ·have e3:(bO its.toArray.size).all (fun i=>bs.getD i true)=bs.all fun b=>b:=by
   rw [am,<- hlen]
   exact Wb
  rw [e3]
  refine⟨.bl _,H,I.kept (t':=tk) fun b o' eb=>kk b o' ?_ (ae _ eb),rfl,q⟩
  have hb:b≠s.heap.objs.size:=aA (au eb)
  simpa using hb
theorem X1:Bl X (.builtin "isinstance") (fun xs H Q=>∃ x T t b,xs=[x,.ty T]/\TyOf X.K H x t/\dB X.K t (.type T)=some b/\Q (.bl b) H):=by
 intro pins s σ H xs us Q I r h
 obtain⟨x,T,t,b,rfl,ty,e,q⟩:=h
 obtain⟨u,v,rfl,ru,rv⟩:=r.two
 cases rv
 exact bh (af _) (K9 I ru ty e fun tk htk=>⟨.bl b,H,I.tok tk htk,rfl,q⟩)
theorem V4:OpR X (bZ .LtE) (fun x y H Q=>∃ i j,x=.str i/\y=.str j/\Q (.bl (!decide (j.cps.toList<i.cps.toList))) H):=by
 intro pins s σ H x y v u Q I rx ry h
 obtain⟨i,j,rfl,rfl,q⟩:=h
 obtain⟨t,rfl⟩:=rx
 obtain⟨t',rfl⟩:=ry
 exact PySem.P.le_str ⟨.bl _,H,I,rfl,q⟩
theorem ak6:MtR X "int.bit_length" (fun x xs H Q=>∃ i,x=.int i/\xs=[]/\Q (.int (kg i:Nat)) H):=by
 intro pins s σ H x xs v us Q I rx rs h
 obtain⟨i,rfl,rfl,q⟩:=h
 obtain⟨t,rfl⟩:=rx
 cases rs
 exact call_gives F.slot_int_bit_length (iM s i t) F.entry_int_bit_length (F.args_int_bit_length_1 _) (AutoIntG2.int_bit_length_int_0 i t) ⟨.int _,H,I.tok _,⟨_,rfl⟩,q⟩
end
noncomputable def N9 (xs ys:List V):Bool:=decide (xs.length=ys.length)&&(bO xs.length).all fun j=>eqV (xs.getD j .non) (ys.getD j .non)
theorem Oa {xs ys:List V} (h:xs.length≠ys.length):N9 xs ys=false:=by
 unfold N9
 rw [decide_eq_false h]
 rfl
noncomputable def ba3 (K:aa) (neg:Bool):R2:=fun x y H Q=>∃ a b xs ys,x=.ref a/\y=.ref b/\SqL K H a xs/\SqL K H b ys/\xs.all A8=true/\ys.all A8=true/\Q (.bl (if neg then !N9 xs ys else N9 xs ys)) H
section
variable {X:Cx}
theorem Iq {A:aX} {s:ag} {xs ys:List V} {us ws:List Value} (rx:Vals xs us) (ry:Vals ys ws) (fx:xs.all A8=true) (fy:ys.all A8=true) (j:Nat) (h1:j<us.toArray.size) (h2:j<ws.toArray.size) :
  bp A s us.toArray[j] ws.toArray[j] (eqV (xs.getD j .non) (ys.getD j .non)):=by
 have e1:=rx.length
 have e2:=ry.length
 have h1':j<us.length:=by simpa using h1
 have h2':j<ws.length:=by simpa using h2
 have a1:xs[j]? = some (xs[j]'(by omega)):=by simp
 have a2:ys[j]? = some (ys[j]'(by omega)):=by simp
 obtain⟨u,hu,ru⟩:=rx.get a1
 obtain⟨v,hv,rv⟩:=ry.get a2
 have b1:us.toArray[j]=u:=by
  have:us[j]? = some us[j]:=by simp
  rw [this] at hu
  simpa using aK hu
 have b2:ws.toArray[j]=v:=by
  have:ws[j]? = some ws[j]:=by simp
  rw [this] at hv
  simpa using aK hv
 have c1:xs.getD j .non=xs[j]'(by omega):=by rw [bc,a1];rfl
 have c2:ys.getD j .non=ys[j]'(by omega):=by rw [bc,a2];rfl
 rw [b1,b2,c1,c2]
 exact Ma ru rv (List.all_eq_true.mp fx _ (dM _)) (List.all_eq_true.mp fy _ (dM _))
theorem a44 (hu:X.A.units<cLine):OpR X (bZ .Eq) (ba3 X.K false):=by
 intro pins s σ H x y v u Q I rx ry h
 obtain⟨a,b,xs,ys,rfl,rfl,qa,qb,fx,fy,q⟩:=h
 cases rx
 cases ry
 obtain⟨its,r,pl,hz⟩:=I.list qa
 obtain⟨its2,r2,pl2,hz2⟩:=I.list qb
 have e1:=r.length
 have e2:=r2.length
 by_cases hl:xs.length=ys.length
 ·refine SeqAt.eq_listAt (e:=fun j=>eqV (xs.getD j .non) (ys.getD j .non)) pl.isList pl2.isList (by simp;omega) hu (fun j h1 h2=>Iq r r2 fx fy j h1 h2) ⟨.bl _,H,I,rfl,?_⟩
  have e:N9 xs ys=(bO its.toArray.size).all fun j=>eqV (xs.getD j .non) (ys.getD j .non):=by
   unfold N9
   rw [decide_eq_true hl,am,<- e1]
   rfl
  rw [<- e]
  exact q
 ·refine SeqAt.eq_list_lengthsAt pl.isList pl2.isList (by simp;omega) hu ⟨.bl _,H,I,rfl,?_⟩
  rw [Oa hl] at q
  exact q
theorem a49 (hu:X.A.units<cLine):OpR X (bZ .NotEq) (ba3 X.K true):=by
 intro pins s σ H x y v u Q I rx ry h
 obtain⟨a,b,xs,ys,rfl,rfl,qa,qb,fx,fy,q⟩:=h
 cases rx
 cases ry
 obtain⟨its,r,pl,hz⟩:=I.list qa
 obtain⟨its2,r2,pl2,hz2⟩:=I.list qb
 have e1:=r.length
 have e2:=r2.length
 by_cases hl:xs.length=ys.length
 ·refine SeqAt.RcNeAt.lists (e:=fun j=>eqV (xs.getD j .non) (ys.getD j .non)) pl.isList pl2.isList (by simp;omega) hu (fun j h1 h2=>Iq r r2 fx fy j h1 h2) _ _ _ _ ⟨.bl _,H,I,rfl,?_⟩
  have e:N9 xs ys=(bO its.toArray.size).all fun j=>eqV (xs.getD j .non) (ys.getD j .non):=by
   unfold N9
   rw [decide_eq_true hl,am,<- e1]
   rfl
  rw [<- e]
  exact q
 ·refine hU pl.isList pl2.isList (by simp;omega) hu _ _ _ _ ⟨.bl _,H,I,rfl,?_⟩
  rw [Oa hl] at q
  exact q
end
theorem Zl {cl:List (Str×Addr)} {x:Str} (h:x∈cl.map (·.1)):∃ c,cl.lookup x=some c:=by
 induction cl with
 | nil=>simp at h
 | cons p r ih=>
  obtain⟨n,a⟩:=p
  rw [jf]
  cases e:x==n with
  | true=>exact⟨a,rfl⟩
  | false=>
   refine ih ?_
   rcases List.mem_cons.mp h with q|q
   ·rw [show x=n from q] at e;simp at e
   ·exact q
section
variable {X:Cx} {e:Expr} {te:TE} {lo hi:Option Expr} {tl th:TO} {pos p2:Pos}
theorem Sc {ys:List Str}:∀ {us:List Value},Vals (ys.map V.str) us->StrsAre us ys:=by
 induction ys with
 | nil=>intro us r;rw [eU] at r;cases r;exact .nil
 | cons y ys ih=>
  intro us r
  rw [aS] at r
  cases r with
  | cons r1 r2=>
   obtain⟨t,e⟩:=r1
   subst e
   exact .cons y t (ih r2)
theorem ak8:MtR X "str.join" (fun x xs H Q=>∃ z p ys,x=.str z/\xs=[.ref p]/\SqL X.K H p (ys.map V.str)/\(ys.map (·.length)).sum+ys.length * z.length<=16777216/\Q (.str (me z ys)) H):=by
 intro pins s σ H x xs v us Q I rx rs h
 obtain⟨z,p,ys,rfl,rfl,hq,hz,q⟩:=h
 obtain⟨t,rfl⟩:=rx
 obtain⟨u,rfl,ru⟩:=rs.one
 cases ru
 obtain⟨its,rv,pl,_⟩:=I.list hq
 exact bh (af _) (PyProof.Rows.join_list pl.isList (by simpa using Sc rv) hz fun t' k htk=>⟨.str _,H,I.tok k htk,⟨_,rfl⟩,q⟩)
end
end L2
set_option maxHeartbeats 4000000
namespace L2
open PySem PySem.Spec PyProof.Rows
section
variable {κ:Type} [DecidableEq κ]
noncomputable def Fv (kvs:List (κ×V)) (k:κ):Option V:=(kvs.find? fun kv=>decide (kv.1=k)).map (·.2)
noncomputable def E3 (kvs:List (κ×V)) (k:κ) (v:V):List (κ×V):=
 if (kvs.any fun kv=>decide (kv.1=k))=true then kvs.map (fun kv=>if kv.1=k then (kv.1,v) else kv) else kvs++[(k,v)]
theorem Fx {p:κ×V} {r:List (κ×V)} {k:κ} (e:p.1=k):Fv (p::r) k=some p.2:=by simp [Fv,dH,e]
theorem Fw {p:κ×V} {r:List (κ×V)} {k:κ} (e:¬ p.1=k):Fv (p::r) k=Fv r k:=by simp [Fv,dH,e]
theorem Pi (k:κ):∀ kvs:List (κ×V),(kvs.any fun kv=>decide (kv.1=k))=(Fv kvs k).isSome
 | []=>rfl
 | p::r=>by
  rw [c8]
  by_cases e:p.1=k
  ·simp only [Fx e,decide_eq_true e,Bool.true_or,Option.isSome_some]
  ·rw [Fw e,decide_eq_false e,Bool.false_or];exact Pi k r
theorem Dc (kvs:List (κ×V)) (k:κ) (v:V):(E3 kvs k v).length<=kvs.length+1:=by
 unfold E3
 split
 ·rw [al];omega
 ·rw [ax,aQ,jD];omega
theorem RelO.isSome_eq {o:Option V} {u:Option Value} (r:RelO o u):o.isSome=u.isSome:=by
 cases o with
 | none=>cases u with
  | none=>rfl
  | some _=>exact (show False from r).elim
 | some _=>cases u with
  | none=>exact (show False from r).elim
  | some _=>rfl
theorem RelO.getD {o:Option V} {u:Option Value} {d:V} {d':Value} (r:RelO o u) (rd:RelV d d'):RelV (o.getD d) (u.getD d'):=by
 cases o with
 | none=>cases u with
  | none=>exact rd
  | some _=>exact (show False from r).elim
 | some _=>cases u with
  | none=>exact (show False from r).elim
  | some _=>exact r
theorem KV.val {kvs:List (κ×V)} {vs:List (κ×Value)} (r:KV kvs vs) (k:κ):RelO (Fv kvs k) (i_ vs k):=by
 unfold KV at r
 induction r with
 | nil=>exact aY
 | @cons p q ps qs h t ih=>
  obtain⟨h1,h2⟩:=h
  by_cases e:p.1=k
  ·have e':q.1=k:=h1.symm.trans e
   have b:i_ (q::qs) k=some q.2:=by simp [i_,dH,e']
   rw [Fx e,b];exact h2
  ·have e':¬ q.1=k:=fun z=>e (h1.trans z)
   have b:i_ (q::qs) k=i_ qs k:=by simp [i_,dH,e']
   rw [Fw e,b];exact ih
theorem KV.any {kvs:List (κ×V)} {vs:List (κ×Value)} (r:KV kvs vs) (k:κ):(kvs.any fun kv=>decide (kv.1=k))=vs.any fun kv=>decide (kv.1=k):=by
 unfold KV at r
 induction r with
 | nil=>rfl
 | cons h t ih=>rw [c8,c8,ih,h.1]
theorem KV.repl {kvs:List (κ×V)} {vs:List (κ×Value)} (r:KV kvs vs) (k:κ) {y:V} {u:Value} (ry:RelV y u) :
  KV (kvs.map fun kv=>if kv.1=k then (kv.1,y) else kv) (vs.map fun kv=>if kv.1=k then (kv.1,u) else kv):=by
 unfold KV at r ⊢
 induction r with
 | nil=>exact .nil
 | @cons p q ps qs h t ih=>
  rw [aS,aS]
  refine .cons ?_ ih
  obtain⟨h1,h2⟩:=h
  by_cases e:p.1=k
  ·rw [if_pos e,if_pos (h1.symm.trans e)];exact⟨h1,ry⟩
  ·rw [if_neg e,if_neg (fun z=>e (h1.trans z))];exact⟨h1,h2⟩
theorem KV.put {kvs:List (κ×V)} {vs:List (κ×Value)} (r:KV kvs vs) (k:κ) {y:V} {u:Value} (ry:RelV y u):KV (E3 kvs k y) (stored vs k u):=by
 unfold E3 stored
 rw [r.any k]
 by_cases e:(vs.any fun kv=>decide (kv.1=k))=true
 ·rw [if_pos e,if_pos e];exact r.repl k ry
 ·rw [if_neg e,if_neg e];exact Paired.snoc r ⟨rfl,ry⟩
theorem KV.keys {kvs:List (κ×V)} {vs:List (κ×Value)} (r:KV kvs vs):kvs.map (·.1)=vs.map (·.1):=by
 unfold KV at r
 induction r with
 | nil=>rfl
 | cons h t ih=>rw [aS,aS,ih,h.1]
theorem KV.length {kvs:List (κ×V)} {vs:List (κ×Value)} (r:KV kvs vs):kvs.length=vs.length:=gE r
end
theorem G3 {P:aO} {w:bM} {k:Key} {u:Value} (r:RelV (kV k) u):(Ao P w).is k u=true:=by
 cases k with
 | inl i=>obtain⟨t,e⟩:=(show ∃ t,u=kQ i t from r);subst e;exact Oo P w i t
 | inr x=>obtain⟨t,e⟩:=(show ∃ t,u=gX x t from r);subst e;exact Op P w x t
theorem Lb {P:aO} {w:bM}:∀ {ks:List Key} {us:List Value},Vals (ks.map kV) us->ItemsAre (Ao P w) ks us
 | [],_,r=>by rw [eU] at r;cases r;exact .nil
 | k::ks,_,r=>by
  rw [aS] at r
  cases r with
  | cons h t=>exact .cons (G3 h) (Lb t)
noncomputable abbrev KT (H:Hp):List (List Key×V)->List (List Key×Addr×Value)->Prop:=gn fun p q=>p.1=q.1/\H q.2.1=some (.tup (p.1.map kV))/\RelV p.2 q.2.2
theorem KT.val {H:Hp} {kvs:List (List Key×V)} {xs:List (List Key×Addr×Value)} (r:KT H kvs xs) (k:List Key):RelO (Fv kvs k) ((lK xs k).map (·.2)):=by
 induction r with
 | nil=>exact aY
 | @cons p q ps qs h t ih=>
  obtain⟨h1,_,h2⟩:=h
  by_cases e:p.1=k
  ·have e':q.1=k:=h1.symm.trans e
   have b:lK (q::qs) k=some q.2:=by simp [lK,dH,e']
   rw [Fx e,b];exact h2
  ·have e':¬ q.1=k:=fun z=>e (h1.trans z)
   have b:lK (q::qs) k=lK qs k:=by simp [lK,dH,e']
   rw [Fw e,b];exact ih
theorem KT.repl {H:Hp} {kvs:List (List Key×V)} {xs:List (List Key×Addr×Value)} (r:KT H kvs xs) (k:List Key) {y:V} {u:Value} (ry:RelV y u) :
  KT H (kvs.map fun kv=>if kv.1=k then (kv.1,y) else kv) (xs.map (putAt k u)):=by
 induction r with
 | nil=>exact .nil
 | @cons p q ps qs h t ih=>
  rw [aS,aS]
  refine .cons ?_ ih
  obtain⟨h1,h2,h3⟩:=h
  unfold putAt
  by_cases e:p.1=k
  ·rw [if_pos e,if_pos (h1.symm.trans e)];exact⟨h1,h2,ry⟩
  ·rw [if_neg e,if_neg (fun z=>e (h1.trans z))];exact⟨h1,h2,h3⟩
theorem KT.put {H:Hp} {kvs:List (List Key×V)} {xs:List (List Key×Addr×Value)} (r:KT H kvs xs) (k:List Key) {b:Addr} {y:V} {u:Value} (hb:H b=some (.tup (k.map kV))) (ry:RelV y u) :
  KT H (E3 kvs k y) (storedH xs k b u):=by
 have e:(kvs.any fun kv=>decide (kv.1=k))=(lK xs k).isSome:=by
  rw [Pi,(r.val k).isSome_eq,iG]
 unfold E3 storedH
 rw [e]
 by_cases q:(lK xs k).isSome=true
 ·rw [if_pos q,if_pos q];exact r.repl k ry
 ·rw [if_neg q,if_neg q];exact Paired.snoc r ⟨rfl,hb,ry⟩
theorem KT.keeps {H H':Hp} {kvs:List (List Key×V)} {xs:List (List Key×Addr×Value)} (r:KT H kvs xs) (ht:∀ b ys,H b=some (.tup ys)->H' b=some (.tup ys)):KT H' kvs xs:=
 Paired.mapP r fun _ _ z=>⟨z.1,ht _ _ z.2.1,z.2.2⟩
section
variable {P:aO} {w:bM} {H:Hp} {h:Heap} {a:Addr}
theorem av3 {u:HO} (ok:HOk P w H h) (e:Rd H a u):ObjOk P w H h a u:=e.ok ok
theorem Cs {kvs:List (Key×V)} (ok:HOk P w H h) (e:Rd H a (.dK kvs)):kvs.length<=sizeLine/\(a==cQ)=false /\ ∃ vs,KV kvs vs/\h.DictOf (Ao P w) a vs:=
 show ObjOk P w H h a (.dK kvs) from av3 ok e
theorem Yi {kvs:List (Key×V)} (ok:HOk P w H h) (e:H a=some (.dK kvs)):kvs.length<=sizeLine/\(a==cQ)=false /\ ∃ vs,KV kvs vs/\h.DictOf (Ao P w) a vs:=Cs ok (.inl e)
theorem Eh {ks:List Key} (ok:HOk P w H h) (e:H a=some (.tup (ks.map kV))):(gZ (Ao P w)).is h ks a:=by
 obtain⟨_,its,r,o,h1,h2,n,h3⟩:=(show ObjOk P w H h a (.tup (ks.map kV)) from ok a _ e)
 exact⟨o,its.toArray,n,h1,h2,h3,by simpa using Lb r⟩
theorem Ia {kvs:List (List Key×V)} (ok:HOk P w H h) (e:Rd H a (.dT kvs)):kvs.length<=sizeLine/\(a==cQ)=false /\
  ∃ xs,KT H kvs xs/\h.DictOfH (gZ (Ao P w)) a xs:=by
 obtain⟨z,y,xs,r,o,es,ep,h1,h2,h3,h4,h5⟩:=(show ObjOk P w H h a (.dT kvs) from av3 ok e)
 refine⟨z,y,xs,r,o,es,ep,h1,h2,h3,h4,fun x hx=>?_,h5⟩
 have all:∀ {l:List (List Key×V)} {m:List (List Key×Addr×Value)},KT H l m -> ∀ x∈m,(gZ (Ao P w)).is h x.1 x.2.1:=by
  intro l m q
  induction q with
  | nil=>intro x hx;exact nomatch hx
  | @cons p q ps qs hq t ih=>
   intro x hx
   rcases List.mem_cons.mp hx with e|hx
   ·subst e
    exact Eh ok (by rw [<- hq.1];exact hq.2.1)
   ·exact ih x hx
 exact all r x hx
theorem as1 {kvs:List (List Key×V)} (ok:HOk P w H h) (e:H a=some (.dT kvs)):kvs.length<=sizeLine/\(a==cQ)=false /\
  ∃ xs,KT H kvs xs/\h.DictOfH (gZ (Ao P w)) a xs:=Ia ok (.inl e)
end
noncomputable def F0 (H:Hp) (a:Addr) (y:V) (r:Option V):Prop:=
 (∃ kvs k,Rd H a (.dK kvs)/\y=kV k/\r=Fv kvs k) \/ ∃ kvs k b,Rd H a (.dT kvs)/\y=.ref b/\H b=some (.tup (k.map kV))/\r=Fv kvs k
noncomputable def ag9 (H:Hp) (a:Addr) (y v:V) (H':Hp):Prop:=
 (∃ kvs k,H a=some (.dK kvs)/\y=kV k/\kvs.length<sizeLine/\H'=upd H a (.dK (E3 kvs k v))) \/
 ∃ kvs k b,H a=some (.dT kvs)/\y=.ref b/\H b=some (.tup (k.map kV))/\kvs.length<sizeLine/\H'=upd H a (.dT (E3 kvs k v))
section
variable {X:Cx} {pins:List (Addr×Obj)} {σ:St} {H:Hp} {s:ag} {a:Addr} {y v:V} {u r:Value} {o:Option V} {A:aX} {E:Value->ag->Prop}
theorem Inv.big (I:Inv X pins σ H s):cQ<s.heap.objs.size:=by
 have h:aM<s.heap.objs.size:=(I.mod.glob.keeps I.bk).lt
 exact Nat.lt_trans (by decide) h
theorem U5 {Q:Value->ag->Prop} (hu:A.units+1<cLine) (I:Inv X pins σ H s) (g:F0 H a y (some v)) (ry:RelV y u) (h:∀ w' s',Inv X pins σ H s'->RelV v w'->Q w' s') :
  ay (model X.prog X.w) A (lV (.ref a) u) Q E s:=by
 rcases g with ⟨kvs,k,e,ey,l⟩|⟨kvs,k,b,e,ey,eb,l⟩
 ·subst ey
  obtain⟨z,hd,vs,rel,dd⟩:=Cs I.hok e
  obtain⟨w',hw,rw'⟩:=RelO.some_of (v:=v) (o:=i_ vs k) (by rw [l];exact rel.val k)
  exact wpAny_getItem_of (G3 ry) dd.mapOf hw (h w' _ (I.tok _) rw')
 ·subst ey
  cases (show u=aH b from ry)
  obtain⟨z,hd,xs,rel,dd⟩:=Ia I.hok e
  obtain⟨w',hw,rw'⟩:=RelO.some_of (v:=v) (o:=(lK xs k).map (·.2)) (by rw [l];exact rel.val k)
  obtain⟨p,hp,hp2⟩:=Option.map_eq_some_iff.mp hw
  refine wpAny_getItem_heap (du hu) (Eh I.hok eb) dd hp ?_
  rw [hp2]
  exact h w' _ (I.tok _) rw'
theorem by6 {Q:Value->ag->Prop} (hu:A.units+1<cLine) (I:Inv X pins σ H s) (g:F0 H a y o) (ry:RelV y u) (h:∀ s',Inv X pins σ H s'->Q (.bool o.isSome) s') :
  ay (model X.prog X.w) A (bZ .In u (.ref a)) Q E s:=by
 rcases g with ⟨kvs,k,e,ey,l⟩|⟨kvs,k,b,e,ey,eb,l⟩
 ·subst ey
  obtain⟨z,hd,vs,rel,dd⟩:=Cs I.hok e
  refine wpAny_in_of (G3 ry) hd dd.mapOf ?_
  rw [<- (rel.val k).isSome_eq,<- l]
  exact h _ (I.tok _)
 ·subst ey
  cases (show u=aH b from ry)
  obtain⟨z,hd,xs,rel,dd⟩:=Ia I.hok e
  refine wpAny_in_heap (du hu) (Eh I.hok eb) hd dd ?_
  have q:=(rel.val k).isSome_eq
  rw [iG] at q
  rw [<- q,<- l]
  exact h _ (I.tok _)
theorem ai2 {Q:Value->ag->Prop} (hu:A.units+1<cLine) (I:Inv X pins σ H s) (g:F0 H a y o) (ry:RelV y u) (h:∀ s',Inv X pins σ H s'->Q (.bool (!o.isSome)) s') :
  ay (model X.prog X.w) A (bZ .NotIn u (.ref a)) Q E s:=by
 rcases g with ⟨kvs,k,e,ey,l⟩|⟨kvs,k,b,e,ey,eb,l⟩
 ·subst ey
  obtain⟨z,hd,vs,rel,dd⟩:=Cs I.hok e
  refine wpAny_notIn_of (G3 ry) hd dd.mapOf ?_
  rw [<- (rel.val k).isSome_eq,<- l]
  exact h _ (I.tok _)
 ·subst ey
  cases (show u=aH b from ry)
  obtain⟨z,hd,xs,rel,dd⟩:=Ia I.hok e
  refine wpAny_notIn_heap (du hu) (Eh I.hok eb) hd dd ?_
  have q:=(rel.val k).isSome_eq
  rw [iG] at q
  rw [<- q,<- l]
  exact h _ (I.tok _)
theorem Fi {h':Heap} {t':Nat} {ob:HO} (I:Inv X pins σ H s) (mu:Mut (H a)) (hs:aV a s.heap h') (he:∃ q,h'.get? a=some q) (new:ObjOk X.prog X.w (upd H a ob) h' a ob) (ht:s.toks<=t':=by first|exact af _|exact aB _ _|assumption|omega|(dsimp only;omega)) :
  Inv X pins σ (upd H a ob) { s with heap:=h',toks:=t' }:=
 I.write (x:=a) (e:=a) mu (.inl rfl) (fun b q hb z=>(hs.2 b hb).trans z) he new
theorem P0 {P:aO} {w:bM} {H':Hp} {h':Heap} {kvs:List (Key×V)} {vs:List (Key×Value)} (z:kvs.length<=sizeLine) (hd:(a==cQ)=false) (rel:KV kvs vs) (dd:h'.DictOf (Ao P w) a vs) :
  ObjOk P w H' h' a (.dK kvs):=⟨z,hd,vs,rel,dd⟩
theorem U6 {H':Hp} {Q:Unit->ag->Prop} (hu:A.units+1<cLine) (I:Inv X pins σ H s) (g:ag9 H a y v H') (ry:RelV y u) (rv:RelV v r) (h:∀ s',Inv X pins σ H' s'->Q () s') :
  ay (model X.prog X.w) A (setItem (.ref a) u r) Q E s:=by
 rcases g with ⟨kvs,k,e,ey,l,eH⟩|⟨kvs,k,b,e,ey,eb,l,eH⟩
 ·subst ey eH
  obtain⟨z,hd,vs,rel,dd⟩:=Yi I.hok e
  have hz:vs.length<=sizeLine:=by rw [<- rel.length];exact z
  have hl:(E3 kvs k v).length<=sizeLine:=by have:=Dc kvs k v;omega
  refine wpAny_setItem_pairs (hsz:=hz) (G3 ry) dd fun h' dd' hs=>h _ ?_
  have he:∃ q,h'.get? a=some q:=let ⟨q,_,_,hq,_⟩:=dd';⟨q,hq⟩
  exact Fi I (by rw [e];exact aY) hs he (P0 hl hd (rel.put k rv) dd')
 ·subst ey eH
  cases (show u=aH b from ry)
  obtain⟨z,hd,xs,rel,dd⟩:=as1 I.hok e
  have hz:xs.length<=sizeLine:=by rw [<- gE rel];exact z
  have hl:(E3 kvs k v).length<=sizeLine:=by have:=Dc kvs k v;omega
  refine wpAny_setItem_heap (hsz:=hz) (du hu) (Eh I.hok eb) dd fun h' dd' hs=>h _ ?_
  obtain⟨q,es,ep,hq,h2,h3,h4,_,h5⟩:=dd'
  refine Fi I (by rw [e];exact aY) hs ⟨q,hq⟩ ⟨hl,hd,_,(rel.put k eb rv).keeps fun c ys ec=>?_,q,es,ep,hq,h2,h3,h4,h5⟩
  rw [Ae (at9 ec e (fun z=>nomatch z))]
  exact ec
end
section
variable {X:Cx} {pins:List (Addr×Obj)} {σ:St} {H:Hp} {s:ag} {a:Addr} {kvs:List (Key×V)} {k:Key} {u:Value} {A:aX} {E:Value->ag->Prop}
theorem ai1 {Q:Value->ag->Prop} (I:Inv X pins σ H s) (e:H a=some (.dK kvs)) (h:∀ s',Inv X pins σ (upd H a (.dK [])) s'->Q .none s'):ay (model X.prog X.w) A (call (.builtin "dict.clear") [.ref a]) Q E s:=by
 obtain⟨z,hd,vs,rel,dd⟩:=Yi I.hok e
 refine dW iV dd.typeIs PySem.F.entry_dict_clear (PySem.F.args_dict_clear_1 _) (meets_dict_clear (Ao X.prog X.w) a) ⟨vs,dd,by rw [<- rel.length];exact z,fun h' dd' hs=>h _ ?_⟩
 have he:∃ q,h'.get? a=some q:=let ⟨q,_,_,hq,_⟩:=dd';⟨q,hq⟩
 exact Fi (t':=s.toks) I (by rw [e];exact aY) hs he (P0 (bJ _) hd .nil dd')
theorem bg9 {Q:Value->ag->Prop} (I:Inv X pins σ H s) (e:Rd H a (.dK kvs)) (h:∀ t s',Inv X pins σ H s'->Q (.int kvs.length t) s'):ay (model X.prog X.w) A (call (.builtin "len") [.ref a]) Q E s:=by
 obtain⟨z,hd,vs,rel,dd⟩:=Cs I.hok e
 refine call_len_dict hd dd (by rw [<- rel.length];rw [bL] at z;omega) ?_
 rw [<- rel.length]
 exact h _ _ (I.tok _)
end
theorem N7 {X:Cx} {pins:List (Addr×Obj)} {σ:St} {H:Hp} {s:ag} {a:Addr} {y:V} {o:Option V} (I:Inv X pins σ H s) (g:F0 H a y o):s.TypeIs (.ref a) "dict" := by
 rcases g with ⟨kvs,k,e,_,_⟩|⟨kvs,k,b,e,_,_,_⟩
 ·obtain⟨_,_,vs,_,dd⟩:=Cs I.hok e
  exact dd.typeIs
 ·obtain⟨_,_,xs,_,dd⟩:=Ia I.hok e
  exact dd.typeIs
section
variable {X:Cx} {o i e value:Expr} {pos pos' tpos:Pos} {td ty tv:TE}
end
theorem N8 {P:aO} {w:bM} {H:Hp} (h:Heap) (hb:cQ<h.objs.size):ObjOk P w H (h.push { cls:=.type "dict", data:=.dict #[] }) h.objs.size (.dK []):=
 ⟨bJ _,beq_eq_false_iff_ne.mpr (cx (aA hb)),[],.nil,Heap.DictOf.new h⟩
theorem Yj {P:aO} {w:bM} {H:Hp} (h:Heap) (hb:cQ<h.objs.size):ObjOk P w H (h.push { cls:=.type "dict", data:=.dict #[] }) h.objs.size (.dT []):=
 ⟨bJ _,beq_eq_false_iff_ne.mpr (cx (aA hb)),[],.nil,_,#[],0,aq _ rfl,⟨rfl,rfl,rfl⟩,rfl,rfl,List.nodup_nil⟩
section
variable {X:Cx} {pos:Pos}
end
noncomputable def Ng:List (TE×TE)->St->Hp->(List (V×V)->Hp->Prop)->Prop
 | [],_,H,Q=>Q [] H
 | (tk,tv)::r,σ,H,Q=>tk σ H fun x H1=>tv σ H1 fun y H2=>Ng r σ H2 fun ps H3=>Q ((x,y)::ps) H3
noncomputable abbrev VV:List (V×V)->List (Value×Value)->Prop:=gn fun p q=>RelV p.1 q.1/\RelV p.2 q.2
noncomputable def PPs (X:Cx) (pos:Pos) (keys:List (Option Expr)) (values:List Expr) (trs:List (TE×TE)):Prop:=
 ∀ (pins:List (Addr×Obj)) (s:ag) (σ:St) (H:Hp) (Q:List (V×V)->Hp->Prop),Inv X pins σ H s->Ng trs σ H Q ->
  ay (model X.prog X.w) X.A (evalPairs (pairTrees keys values X.env pos)) (fun vs s'=>∃ ps H',Inv X pins σ H' s'/\VV ps vs/\Q ps H') X.xe s
theorem an0 {X:Cx} {pos:Pos}:PPs X pos [] [] []:=fun pins s σ H Q I h=>pairTrees_nil_walk ⟨[],H,I,.nil,h⟩
theorem Z9 {X:Cx} {pos:Pos} {k v:Expr} {ks:List (Option Expr)} {vs:List Expr} {tk tv:TE} {trs:List (TE×TE)} (hk:PE X k tk) (hv:PE X v tv) (hr:PPs X pos ks vs trs) :
  PPs X pos (some k::ks) (v::vs) ((tk,tv)::trs):=fun pins s σ H Q I h=>
 pairTrees_cons_walk (thn (hk pins s σ H _ I h) fun u s1 ⟨x,H1,I1,rx,q1⟩=>thn (hv pins s1 σ H1 _ I1 q1) fun w2 s2 ⟨y,H2,I2,ry,q2⟩=>
  thn (hr pins s2 σ H2 _ I2 q2) fun ws s3 ⟨ps,H3,I3,rel,q3⟩=>⟨(x,y)::ps,H3,I3,.cons ⟨rx,ry⟩ rel,q3⟩)
noncomputable def Gi (kvs more:List (Key×V)):List (Key×V):=more.foldl (fun acc kv=>E3 acc kv.1 kv.2) kvs
theorem KV.merge:∀ {more:List (Key×V)} {rs:List (Key×Value)} {kvs:List (Key×V)} {vs:List (Key×Value)},KV more rs->KV kvs vs->KV (Gi kvs more) (merged vs rs):=by
 intro more rs kvs vs r
 unfold KV at r
 induction r generalizing kvs vs with
 | nil=>intro q;exact q
 | @cons p q ps qs h t ih=>
  intro r0
  have e:KV (E3 kvs p.1 p.2) (stored vs q.1 q.2):=by
   have:=r0.put p.1 h.2
   rw [<- h.1];exact this
  exact ih e
theorem E6:∀ (more kvs:List (Key×V)),(Gi kvs more).length<=kvs.length+more.length
 | [],kvs=>by show kvs.length<=kvs.length+0;omega
 | p::r,kvs=>by
  have h1:=E6 r (E3 kvs p.1 p.2)
  have h2:=Dc kvs p.1 p.2
  show (Gi (E3 kvs p.1 p.2) r).length<=_
  rw [aQ];omega
theorem Hs {P:aO} {w:bM}:∀ {kvs:List (Key×V)} {ws:List (Value×Value)},VV (kvs.map fun kv=>(kV kv.1,kv.2)) ws -> ∃ rs,Carries (Ao P w) ws rs/\KV kvs rs
 | [],_,r=>by rw [eU] at r;cases r;exact⟨[],aY,.nil⟩
 | p::kvs,_,r=>by
  rw [aS] at r
  cases r with
  | @cons a b as bs h t=>
   obtain⟨rs,c,q⟩:=Hs (P:=P) (w:=w) t
   obtain⟨b1,b2⟩:=b
   exact⟨(p.1,b2)::rs,⟨G3 h.1,rfl,c⟩,.cons ⟨rfl,h.2⟩ q⟩
noncomputable def bu1 (trs:List (TE×TE)):TE:=fun σ H Q=>∀ p,H p=none->Ng trs σ (upd H p (.dK [])) fun ps H2=>H2 p=some (.dK []) /\ ∃ kvs:List (Key×V),ps=kvs.map (fun kv=>(kV kv.1,kv.2))/\kvs.length<=15/\Q (.ref p) (upd H2 p (.dK (Gi [] kvs)))
theorem am6 {X:Cx} {pos:Pos} {keys:List (Option Expr)} {values:List Expr} {trs:List (TE×TE)} (h:PPs X pos keys values trs) (hall:keys.all (·.isSome)=true) (hl:keys.length=values.length) (h0:keys≠[])
  (h15:keys.length<=15):PE X (.Dict keys values pos) (bu1 trs):=by
 intro pins s σ H Q I q
 have hn:=I.hok.fresh (af s.heap.objs.size)
 have I1:=I.laid (a:=s.heap.objs.size) (o:=.dK []) (h':=s.heap.push { cls:=.type "dict", data:=.dict #[] }) (t':=s.toks) (fun _ _ q=>ae _ q) (af _) (N8 s.heap I.big)
 refine wpAny_Dict_walk (knd:=Ao X.prog X.w) hall hl h0 h15 (thn (h pins _ σ _ _ I1 (q _ hn)) fun ws s2 ⟨ps,H2,I2,rel,e,kvs,ep,lk,q2⟩=>?_)
 subst ep
 obtain⟨rs,c,rk⟩:=Hs (P:=X.prog) (w:=X.w) rel
 obtain⟨z,hd,vs0,r0,dd⟩:=Yi I2.hok e
 cases r0
 refine⟨rs,c,dd,fun h' dd' hs=>⟨.ref s.heap.objs.size,_,?_,rfl,q2⟩⟩
 have hz:(Gi [] kvs).length<=sizeLine:=by
  have h1:=E6 kvs []
  rw [jD] at h1
  rw [bL];omega
 have he:∃ q,h'.get? s.heap.objs.size=some q:=let ⟨q,_,_,hq,_⟩:=dd';⟨q,hq⟩
 exact Fi I2 (by rw [e];exact aY) hs he (P0 hz hd (rk.merge .nil) dd')
section
variable {X:Cx} {pins:List (Addr×Obj)} {σ:St} {H:Hp} {s:ag} {a:Addr} {y d:V} {u r:Value} {o:Option V} {A:aX} {E:Value->ag->Prop}
theorem a07 {Q:Value->ag->Prop} (hu:A.units+1<cLine) (I:Inv X pins σ H s) (g:F0 H a y o) (ry:RelV y u) (h:∀ w' s',Inv X pins σ H s'->RelV (o.getD .non) w'->Q w' s') :
  ay (model X.prog X.w) A (call (.builtin "dict.get") [.ref a,u]) Q E s:=by
 rcases g with ⟨kvs,k,e,ey,l⟩|⟨kvs,k,b,e,ey,eb,l⟩
 ·subst ey
  obtain⟨z,hd,vs,rel,dd⟩:=Cs I.hok e
  refine dW dS dd.typeIs eI (iT _ _) (meets_dict_get (Ao X.prog X.w) a (G3 ry) hd) ⟨_,dd.mapOf,h _ _ (I.tok _) ?_⟩
  rw [l]
  exact (rel.val k).getD rfl
 ·subst ey
  cases (show u=aH b from ry)
  obtain⟨z,hd,xs,rel,dd⟩:=Ia I.hok e
  refine dW dS dd.typeIs eI (iT _ _) (meetsH_dict_get (gZ (Ao X.prog X.w)) a b hd) ⟨du hu,k,xs,Eh I.hok eb,dd,h _ _ (I.tok _) ?_⟩
  rw [l]
  exact (rel.val k).getD rfl
theorem a08 {Q:Value->ag->Prop} (hu:A.units+1<cLine) (I:Inv X pins σ H s) (g:F0 H a y o) (ry:RelV y u) (rd:RelV d r) (h:∀ w' s',Inv X pins σ H s'->RelV (o.getD d) w'->Q w' s') :
  ay (model X.prog X.w) A (call (.builtin "dict.get") [.ref a,u,r]) Q E s:=by
 rcases g with ⟨kvs,k,e,ey,l⟩|⟨kvs,k,b,e,ey,eb,l⟩
 ·subst ey
  obtain⟨z,hd,vs,rel,dd⟩:=Cs I.hok e
  refine dW dS dd.typeIs eI (iU _ _ _) (meets_dict_get_default (Ao X.prog X.w) a (G3 ry) hd r) ⟨_,dd.mapOf,h _ _ (I.tok _) ?_⟩
  rw [l]
  exact (rel.val k).getD rd
 ·subst ey
  cases (show u=aH b from ry)
  obtain⟨z,hd,xs,rel,dd⟩:=Ia I.hok e
  refine dW dS dd.typeIs eI (iU _ _ _) (meetsH_dict_get_default (gZ (Ao X.prog X.w)) a b hd r) ⟨du hu,k,xs,Eh I.hok eb,dd,h _ _ (I.tok _) ?_⟩
  rw [l]
  exact (rel.val k).getD rd
end
section
variable {X:Cx} {o e f:Expr} {apos cpos:Pos} {td ty tx:TE}
end
section
variable {X:Cx} {pins:List (Addr×Obj)} {σ:St} {H:Hp} {s:ag} {a:Addr} {kvs:List (Key×V)} {A:aX} {E:Value->ag->Prop}
end
section
variable {X:Cx} {pins:List (Addr×Obj)} {σ:St} {H:Hp} {s:ag} {a:Addr} {y:V} {u:Value} {A:aX} {E:Value->ag->Prop}
end
noncomputable abbrev EK:=Addr->Hp->Prop
noncomputable abbrev DE:=St->Hp->VK->EK->Prop
noncomputable abbrev DT:=St->Hp->(Bool->Hp->Prop)->EK->Prop
noncomputable abbrev DA:=St->Hp->(List V->Hp->Prop)->EK->Prop
structure Pn where
 nx:St->Hp->Prop
 rt:VK
 bk:St->Hp->Prop
 ct:St->Hp->Prop
 ex:St->EK
noncomputable abbrev DS:=Pn->St->Hp->Prop
noncomputable abbrev Am (C:Addr) (dx:Option Addr) (vs:Array Value):Obj:={ cls:=.ref C,dict:=dx,data:=.fields vs }
noncomputable def E1 (a C:Addr) (dx:Option Addr):HO:=.ext fun h=>∃ vs:Array Value,h.get? a=some (Am C dx vs)/\vs.size=6/\vs[1]? = some .none/\vs[2]? = some .none
noncomputable def flO (a C:Addr) (dx:Option Addr):HO:=.ext fun h=>∃ vs:Array Value,h.get? a=some (Am C dx vs)/\vs.size=6/\vs[2]? = some .none
noncomputable def fcO (a C:Addr) (dx:Option Addr):HO:=.ext fun h=>∃ vs:Array Value,h.get? a=some (Am C dx vs)/\vs.size=6
noncomputable def FlO (H:Hp) (a C:Addr) (dx:Option Addr):Prop:=H a=some (flO a C dx)\/H a=some (fcO a C dx)
noncomputable def xdO (dx:Addr) (fs:List (Str×V)):HO:=.ext fun h=>fs.length<=1000 /\ ∃ mA,h.Ns1 dx mA/\(∀ f,RelO (fs.lookup f) (mA f))/\ez mA (fs.map (·.1))
noncomputable def E4 (X:Cx) (pins:List (Addr×Obj)) (H:Hp) (a:Addr) (s:ag):Prop:=
 ∃ (C:Addr) (dx:Option Addr) (vs:Array Value),FlO H a C dx/\s.heap.get? a=some (Am C dx vs)/\vs.size=6 /\
  (vs[1]? = some .none \/ ∃ (T:Addr) (oT:Obj) (ts:Array Value),vs[1]? = some (.ref T)/\T≠a/\s.heap.get? T=some oT/\oT.data=.fields ts/\(∃ z,ts[3]? = some z)/\Cy X pins H T)
noncomputable def Meets (X:Cx) (Ex:St->EK):Prop:=
 ∀ (pins:List (Addr×Obj)) (σ:St) (H:Hp) (s:ag) (a:Addr),Inv X pins σ H s->E4 X pins H a s->Ex σ a H->X.xe (.ref a) s
noncomputable def QE (X:Cx) (e:Expr) (t:DE):Prop:=∀ Ex,Meets X Ex->PE X e (fun σ H Q=>t σ H Q (Ex σ))
noncomputable def QT (X:Cx) (e:Expr) (t:DT):Prop:=∀ Ex,Meets X Ex->PT X e (fun σ H Q=>t σ H Q (Ex σ))
noncomputable def QW (X:Cx) (e:Expr) (t:DT):Prop:=∀ Ex,Meets X Ex->PW X e (fun σ H Q=>t σ H Q (Ex σ))
noncomputable def QA (X:Cx) (es:List Expr) (t:DA):Prop:=∀ Ex,Meets X Ex->PA X es (fun σ H Q=>t σ H Q (Ex σ))
noncomputable def am2 (Ex:St->EK) (D:J5):Pn:=⟨D.nx,D.rt,D.bk,D.ct,Ex⟩
noncomputable def QS (X:Cx) (st:Stmt) (t:DS):Prop:=∀ Ex,Meets X Ex->PS X st (fun D σ H=>t (am2 Ex D) σ H)
noncomputable def QSs (X:Cx) (st:List Stmt) (t:DS):Prop:=∀ Ex,Meets X Ex->PSs X st (fun D σ H=>t (am2 Ex D) σ H)
noncomputable def dNo:DE:=fun _ _ _ _=>False
noncomputable def Ac (i:Nat):DE:=fun σ H Q _=>match σ[i]? with
 | some (some v)=>Q v H
 | _=>False
noncomputable def dC (v:V):DE:=fun _ H Q _=>Q v H
noncomputable def Af (r:R2) (a b:DE):DE:=fun σ H Q E=>a σ H (fun x H1=>b σ H1 (fun y H2=>r x y H2 Q) E) E
noncomputable def dUn (r:V->Hp->VK->Prop) (a:DE):DE:=fun σ H Q E=>a σ H (fun x H1=>r x H1 Q) E
noncomputable def Dw (r r':R2) (a b c:DE):DE:=fun σ H Q E=>a σ H (fun x H1=>b σ H1 (fun y H2=>r x y H2 fun z H3=>match z with
 | .bl k=>if k=true then c σ H3 (fun w H4=>r' y w H4 Q) E else Q (.bl false) H3
 | _=>False) E) E
noncomputable def Hw (a b:DT):DT:=fun σ H Q E=>a σ H (fun k H1=>if k=true then b σ H1 Q E else Q false H1) E
noncomputable def dOr (a b:DT):DT:=fun σ H Q E=>a σ H (fun k H1=>if k=true then Q true H1 else b σ H1 Q E) E
noncomputable def Hx (a:DT):DT:=fun σ H Q E=>a σ H (fun k H1=>Q (!k) H1) E
noncomputable def ai0 (t:DT) (a b:DE):DE:=fun σ H Q E=>t σ H (fun k H1=>if k=true then a σ H1 Q E else b σ H1 Q E) E
noncomputable def af2 (K:aa) (x:V) (H:Hp) (Q:Bool->Hp->Prop):Prop:=match x with
 | .bl k=>Q k H
 | .non=>Q false H
 | .int i=>Q (i != 0) H
 | .str y=>y.length<=sizeLine/\Q ((y.length:Int) != 0) H
 | .ref p=>∃ k,bg3 K (.ref p) H k/\Q k H
 | _=>False
noncomputable def Gz (K:aa) (a b:DE):DE:=fun σ H Q E=>a σ H (fun x H1=>af2 K x H1 fun k H2=>if k=true then b σ H2 Q E else Q x H2) E
noncomputable def bg7 (K:aa) (a b:DE):DE:=fun σ H Q E=>a σ H (fun x H1=>af2 K x H1 fun k H2=>if k=true then Q x H2 else b σ H2 Q E) E
noncomputable def ar9 (K:aa) (a:DE):DE:=fun σ H Q E=>a σ H (fun x H1=>af2 K x H1 fun k H2=>Q (.bl (!k)) H2) E
noncomputable def Fh (K:aa) (a:DE):DT:=fun σ H Q E=>a σ H (fun x H1=>af2 K x H1 Q) E
noncomputable def Ar (a:DE):DT:=fun σ H Q E=>a σ H (fun x H1=>match x with
 | .bl k=>Q k H1
 | _=>False) E
noncomputable def Ag:DA:=fun _ H Q _=>Q [] H
noncomputable def Aa (a:DE) (r:DA):DA:=fun σ H Q E=>a σ H (fun x H1=>r σ H1 (fun xs H2=>Q (x::xs) H2) E) E
noncomputable def Az (t:DA):DE:=fun σ H Q E=>t σ H (fun xs H1=>xs.length<=sizeLine /\ ∀ p,H1 p=none->Q (.ref p) (upd H1 p (.tup xs))) E
noncomputable def Bq (t:DA):DE:=fun σ H Q E=>t σ H (fun xs H1=>xs.length<=sizeLine /\ ∀ p,H1 p=none->Q (.ref p) (upd H1 p (.lst xs))) E
noncomputable def dFn (r:List V->Hp->VK->EK->Prop) (t:DA):DE:=fun σ H Q E=>t σ H (fun vs H1=>r vs H1 Q E) E
noncomputable def dMt (r:V->Hp->(Hp->(List V->Hp->Prop)->Prop)->VK->Prop) (o:DE) (t:DA):DE:=fun σ H Q E=>o σ H (fun x H1=>r x H1 (fun H2 R=>t σ H2 R E) Q) E
noncomputable def Ah:DS:=fun D σ H=>D.nx σ H
noncomputable def B0:DS:=fun _ _ _=>False
noncomputable def Ai (t u:DS):DS:=fun D σ H=>t { D with nx:=u D } σ H
noncomputable def An (e:DE):DS:=fun D σ H=>e σ H D.rt (D.ex σ)
noncomputable def as0:DS:=fun D _ H=>D.rt .non H
noncomputable def D4 (e:DE):DS:=fun D σ H=>e σ H (fun _ H1=>D.nx σ H1) (D.ex σ)
noncomputable def dIf (c:DT) (t u:DS):DS:=fun D σ H=>c σ H (fun b H1=>if b=true then t D σ H1 else u D σ H1) (D.ex σ)
noncomputable def bg4:DS:=fun D σ H=>D.bk σ H
noncomputable def bg5:DS:=fun D σ H=>D.ct σ H
noncomputable def Au (i:Nat) (e:DE):DS:=fun D σ H=>e σ H (fun v H1=>D.nx (σ.set i (some v)) H1) (D.ex σ)
noncomputable abbrev DG:=TG
noncomputable def N3 (e:DE) (g:DG):DS:=fun D σ H=>e σ H (fun v H1=>g v σ H1 D.nx) (D.ex σ)
noncomputable abbrev DI:=St->Hp->(It->Hp->Prop)->EK->Prop
noncomputable def Pz (c:DT) (tb:DS):DS:=fun D σ H=>∃ W:Nat->St->Hp->Prop,(∃ m,W m σ H) /\ ∀ m σ H,W m σ H ->
 c σ H (fun b H1=>if b=true then ∃ N:St->Hp->Prop,(∀ σ' H',N σ' H' -> ∃ m',m'<m/\W m' σ' H')/\tb { D with nx:=N,ct:=N,bk:=D.nx } σ H1 else D.nx σ H1) (D.ex σ)
noncomputable def Wx (J:It) (g:DG) (tb:DS) (D:Pn) (σ:St) (H:Hp):Prop:=∃ W:Nat->Nat->St->Hp->Prop,(∃ m,W 0 m σ H) /\ ∀ i m σ H,W i m σ H ->
 (J.stop i H/\D.nx σ H)\/(J.go i H /\ ∃ N:St->Hp->Prop,(∀ σ' H',N σ' H' -> ∃ m',m'<m/\W (i+1) m' σ' H') /\ ∀ x H',J.yld i H x H'->g x σ H' (fun σ2 H2=>tb { D with nx:=N,ct:=N,bk:=D.nx } σ2 H2))
noncomputable def Thaw (H0 H:Hp) (P:Hp->Prop):Prop:=P H \/ ∃ p o kvs,H0 p=some (.dK kvs)/\H p=some (.frz o (.dK kvs))/\P (upd H p (.dK kvs))
noncomputable def Dx (wi:DI) (g:DG) (tb:DS):DS:=fun D σ H=>wi σ H (fun J H1=>Wx J g tb { D with nx:=fun σ' H'=>Thaw H H' (D.nx σ') } σ H1) (D.ex σ)
noncomputable def Uo (J:It) (g:DG) (tc:DT) (te:DE) (D:Addr) (R:Hp->Prop) (σ:St) (H:Hp) (E:EK):Prop:=
 ∃ W:Nat->Nat->St->Hp->Prop,(∃ m,W 0 m σ H) /\ ∀ i m σ' H',W i m σ' H' ->
  (J.stop i H'/\R H')\/(J.go i H' /\ ∃ N:St->Hp->Prop,(∀ σ2 H2,N σ2 H2 -> ∃ m',m'<m/\W (i+1) m' σ2 H2) /\ ∀ x H2,J.yld i H' x H2->g x σ' H2 (fun σ3 H3=>tc σ3 H3 (fun b H4=>if b=true then
    te σ3 H4 (fun v H5=>∃ ys,H5 D=some (.lst ys)/\ys.length<sizeLine/\N σ3 (upd H5 D (.lst (ys++[v])))) E
   else N σ3 H4) E))
noncomputable def Ch (srcs:List (Option Nat)) (wi:DI) (g:DG) (tc:DT) (te:DE):DE:=fun σ H Q E=>wi σ H (fun J H1=>∀ D,H1 D=none->Uo J g tc te D (fun H'=>Q (.ref D) H') (U3 srcs σ) (upd H1 D (.lst [])) E) E
noncomputable def Df:DT:=fun _ H Q _=>Q true H
noncomputable def gdN (i:Nat):DG:=fun v σ H Q=>Q (σ.set i (some v)) H
end L2
namespace L2
open PySem PySem.Spec PyProof.Rows PySem.W
section
variable {prog:aO} {w:bM} {A:aX} {E:Value->ag->Prop} {s:ag} {K:aa} {x C:Addr} {ox:Obj} {od:Option Obj} {name:Str} {expr:Bool} {Q:Value->ag->Prop}
theorem Nz (self:Value):i7 (.builtin "BaseException.__getattribute__") self=pure (.builtin "BaseException.__getattribute__", [self]):=by
 have hop:withoutEnding? "BaseException.__getattribute__" "#opaque" = none:=by decide +kernel
 have hdat:withoutEnding? "BaseException.__getattribute__" "#data" = none:=by decide +kernel
 have hk:builtinKind "BaseException.__getattribute__" = some .slot:=by decide +kernel
 simp only [i7,typeOf,builtinType,hop,hdat,hk];rfl
theorem aj2 {v:Value} (X:K.In s.heap) (I:fm s.heap x ox C od) (hga:aw K (.ref C) "__getattribute__" = some (some (.builtin "BaseException.__getattribute__"))) (hgt:aw K (.ref C) "__getattr__" = some none)
  (hB:b8 K C (.type "BaseException")=some true) (hf:PySem.W.findObj K C od name=some (.value v)) (hh:gw v=true) (h:Q v { s with toks:=s.toks+1 }) :
  ay (model prog w) A (lm (.ref x) name expr) Q E s:=by
 obtain⟨hp,g,d,t,os⟩:=s
 have L0:=I.type (M:=model prog w)
 have L1:=dy (M:=model prog w) X hga
 have L2:=dy (M:=model prog w) X hgt
 have L3:=kJ (M:=model prog w) X I hf
 have L4:=kr (M:=model prog w) X hB
 unfold lm getAttrBy
 refine ac (wpAny_mkText (bb (ac (L0.at (ac (L1.at ?_))))))
 have hx2:(dA "BaseException.__getattribute__" == dA "object.__getattribute__")=false:=by decide +kernel
 have hx1:(lX (aH C)&&dA "BaseException.__getattribute__" == dA "object.__getattribute__")=false:=by rw [hx2];rfl
 dsimp only
 rw [hx1,if_neg aj]
 unfold getAttrByItsOwn
 refine ac (show ay _ _ (dR (.ref C) "__getattr__") _ _ _ from L2.at ?_)
 refine ac (dX (bb ?_))
 have hx0:(expr&&lX (dA "BaseException.__getattribute__"))=false:=by cases expr <;> rfl
 unfold callGetattribute
 rw [hx0,if_neg aj]
 unfold boundAndCalled
 rw [Nz]
 refine ac (ai ?_)
 refine eF (dz (by decide +kernel) F.entry_bexc_ga (check_slot (i := "BaseException.__getattribute__") (owner := "BaseException") (n := "__getattribute__") (by decide +kernel) (by decide +kernel) (L0.andThen L4) (F.args_bexc_ga _ _) ?_))
 unfold ar.«object.__getattribute__»
 refine ac (ai (ac (ai (ac (L0.at (ac (L3.at ?_)))))))
 refine ai ?_
 show ay _ _ (handedOut v) _ _ _
 rw [j5 hh]
 exact ai h
end
end L2
namespace L2
open PySem PySem.Spec PyProof.Rows PySem.W Builtin Builtin.ObjectAttr
noncomputable def A0:List Value->Bool
 | [.type a,.type b,.type c,.type d]=>a == "ValueError" && b == "Exception" && c == "BaseException" && d == "object"
 | .ref _::r=>A0 r
 | _=>false
noncomputable def valTail:List Value:=[.type "ValueError", .type "Exception", .type "BaseException", .type "object"]
theorem Q8 (self:Value):refuseLoop self "__setattr__" valTail=pure ():=by kernel_rfl
theorem C5:∀ {l:List Value},A0 l=true -> ∃ rs:List Addr,l=rs.map aH++valTail
 | [.type a,.type b,.type c,.type d],e=>by
  have e:(a == "ValueError" && b == "Exception" && c == "BaseException" && d == "object")=true:=e
  simp only [ak,beq_iff_eq] at e
  obtain⟨⟨⟨rfl,rfl⟩,rfl⟩,rfl⟩:=e
  exact⟨[],rfl⟩
 | .ref a::r,e=>by
  have e:A0 r=true:=by cases r <;> first|exact e|cases e
  obtain⟨rs,h⟩:=C5 e
  exact⟨a::rs,by rw [h];rfl⟩
theorem Q7 (self:Value) (rs:List Addr):refuseLoop self "__setattr__" (rs.map aH++valTail)=pure ():=by
 induction rs with
 | nil=>exact Q8 self
 | cons a r ih=>rw [aS,gr,refuseLoop_ref];exact ih
theorem Ph (rs:List Addr) {T:String} (h:valTail.contains (.type T)=true):(rs.map aH++valTail).contains (.type T)=true:=by
 induction rs with
 | nil=>exact h
 | cons a r ih=>rw [aS,gr,b7,ih,fC]
section
variable {prog:aO} {w:bM} {A:aX} {s:ag} {K:aa} {x C:Addr} {R:jO->ag->Prop}
theorem Li {ox:Obj} {od:Option Obj} {name:Str} {tk:Tok} {v:Value} {cd:ClassData} (X:K.In s.heap) (I:fm s.heap x ox C od) (hc:clsIn K C=some cd) (hp:A0 cd.mro=true) (ht:findIn K (.ref C) name=some none)
  (h:ay (model prog w) A.in1 (storeInOwnDict (.ref x) (.ref C) (.str name tk) name v false)
   (fun fin s'=>match fin with | .done f=>R (.ok f) s' | .again c'=>c'.quiet=true/\d4 (model prog w) A c' R s') (fun e s'=>R (.error e) s') s) :
  d4 (model prog w) A (.call (.builtin "object.__setattr__") ⟨[.ref x,.str name tk,v],[]⟩) R s:=by
 have SF:=PySem.F.store_object
 obtain⟨rs,hm⟩:=C5 hp
 have ne:cd.mro.isEmpty=false:=by rw [hm];cases rs <;> rfl
 have sub:Looks (model prog w) s.heap (iK (.ref x) (.type "object")) true:=I.type.andThen (looks_mroIn X (by unfold mroIn;rw [hc,dP,if_neg (by rw [ne];decide),hm,Ph rs (by decide +kernel)]))
 refine dz SF.slot.plain SF.entry (@check_slot (model prog w) _ _ s "object.__setattr__" "object" "__setattr__" (.ref x) [.str name tk,v] [] _ SF.kind SF.split sub (SF.args (.ref x) (.str name tk) v) ?_)
 have hmr:Looks (model prog w) s.heap (mroOf (.ref C)) cd.mro:=(looks_clsIn X hc).andThen .now
 rw [osa_eq,refuse_eq]
 refine ac (ac (I.type.here (ac (hmr.here ?_))))
 rw [hm,Q7]
 refine ai (ac (I.type.here (ac ((looks_findIn X ht).here (ac (ai ?_))))))
 exact h
end
section
variable {prog:aO} {w:bM} {A:aX} {E:Value->ag->Prop} {s:ag} {K:aa} {x dx C f:Addr} {mA:Str->Option Value} {name:Str} {v:Value} {vs:Array Value}
theorem aq1 {ns:List Str} {Q:Unit->ag->Prop} {cd:ClassData} (X:K.In s.heap) (hx:s.heap.get? x=some (Am C (some dx) vs)) (hn:s.heap.Ns1 dx mA) (hne:dx≠x)
  (hs:findIn K (.ref C) "__setattr__" = some (some (.builtin "object.__setattr__"))) (hc:clsIn K C=some cd) (hp:A0 cd.mro=true) (hd':cd.hasDict=true) (ht:findIn K (.ref C) name=some none)
  (hw:ez mA ns) (hsz:ns.length<=sizeLine)
  (h:∀ h',h'.get? x=some (Am C (some dx) vs)->h'.Ns1 dx (fun y=>if y=name then some v else mA y)->aV dx s.heap h'->Q () { s with heap:=h',toks:=s.toks+2 }) :
  ay (model prog w) A (l4 (.ref x) name v) Q E s:=by
 obtain⟨od,ho,hl⟩:=Gh hn
 have J:fm s.heap x (Am C (some dx) vs) C (some od):=⟨hx,rfl,rfl,ho⟩
 refine set_plain X J hs (Li (s:={ s with toks:=s.toks+1 }) X J hc hp ht ?_)
 refine ac (ai (ac (ac (iA hx (ac (Looks.here (s:={ s with toks:=s.toks+1 }) (looks_clsIn X hc) ?_))))))
 rw [hd']
 refine ai (a:=some dx) (ac (ai (ac ?_)))
 refine lI (s:={ s with toks:=s.toks+1 }) hn fun h' hn2 hs2=>?_
 obtain⟨oD,esD,epD,hoD,hdD,hcD⟩:=hn2.count (PySem.Within.cons name v hw)
 refine ac (jl hoD (by rw [hdD];exact jk (aR hcD (by rw [aQ];omega))) ?_)
 exact ai (h _ ((hs2.2 _ (cx hne)).trans hx) hn2 hs2)
theorem ad7 {Q:Unit->ag->Prop} {cd:ClassData} (X:K.In s.heap) (hx:s.heap.get? x=some (Am C none vs))
  (hs:findIn K (.ref C) "__setattr__" = some (some (.builtin "object.__setattr__"))) (hc:clsIn K C=some cd) (hp:A0 cd.mro=true) (hd':cd.hasDict=true) (ht:findIn K (.ref C) name=some none)
  (h:∀ h',h'.get? x=some (Am C (some s.heap.objs.size) vs)->h'.Ns1 s.heap.objs.size (fun y=>if y=name then some v else none)->(∀ b o,b≠x->s.heap.get? b=some o->h'.get? b=some o)->Q () { s with heap:=h',toks:=s.toks+2 }) :
  ay (model prog w) A (l4 (.ref x) name v) Q E s:=by
 have J:fm s.heap x (Am C none vs) C none:=⟨hx,rfl,rfl,aY⟩
 refine set_plain X J hs (Li (s:={ s with toks:=s.toks+1 }) X J hc hp ht ?_)
 refine ac (ai (ac (ac (iA hx (ac (Looks.here (s:={ s with toks:=s.toks+1 }) (looks_clsIn X hc) ?_))))))
 rw [hd']
 rw [if_neg (by decide)]
 refine ac (wpAny_alloc (ac (wpAny_update (ae _ hx) ?_)))
 refine ai (a:=some s.heap.objs.size) (ac (ai (ac ?_)))
 have e1:(s.heap.push emptyDict).get? s.heap.objs.size=some emptyDict:=aq s.heap rfl
 have hne:x≠s.heap.objs.size:=aA (au hx)
 have e2:((s.heap.push emptyDict).update x fun o=>{ o with dict:=some s.heap.objs.size }).get? s.heap.objs.size=some emptyDict:=by rw [aG _ _ hne];exact e1
 have e3:((s.heap.push emptyDict).update x fun o=>{ o with dict:=some s.heap.objs.size }).get? x=some (Am C (some s.heap.objs.size) vs):=aL _ (ae _ hx) rfl
 have n0:((s.heap.push emptyDict).update x fun o=>{ o with dict:=some s.heap.objs.size }).Ns s.heap.objs.size (fun _=>none):=⟨emptyDict,#[],_,e2,rfl,(fun e he=>absurd he (by simp)),fun _=>rfl⟩
 refine lI (s:={ s with heap:=(s.heap.push emptyDict).update x fun o=>{ o with dict:=some s.heap.objs.size },toks:=s.toks+1 }) (Heap.Ns1.of_empty n0) fun h' hn2 hs2=>?_
 obtain⟨oD,esD,epD,hoD,hdD,hcD⟩:=hn2.count (ns:=[name]) (fun y hy=>by
  by_cases e:y=name
  ·rw [e];simp
  ·exact absurd (by rw [if_neg e]) hy)
 refine ac (jl hoD (by rw [hdD];exact jk (aR hcD (by show 1<=sizeLine+1;decide))) ?_)
 refine ai (h _ ((hs2.2 _ hne).trans e3) hn2 fun b o hb e=>?_)
 have hbs:b≠s.heap.objs.size:=aA (au e)
 refine (hs2.2 b hbs).trans ?_
 show ((s.heap.push emptyDict).update x _).get? b=some o
 rw [aG _ _ (cx hb)]
 exact ae _ e
end
end L2
namespace L2
open PySem PySem.Spec PySem.W Builtin Builtin.ObjectAttr
open Sem (wp)
structure ECls (K:aa) (C:Addr):Prop where
 obj:∃ nm q N bs bm hdct sn sub ab col dd k0 k1 k2 k3 k5,K.lookup C=some (fB nm q C N bs bm hdct sn sub ab col dd k0 k1 k2 k3 k5 "ValueError.__new__")/\A0 bm=true/\hdct=true
 sa:findIn K (.ref C) "__setattr__" = some (some (.builtin "object.__setattr__"))
 ga:findIn K (.ref C) "__getattribute__" = some (some (.builtin "BaseException.__getattribute__"))
 gt:findIn K (.ref C) "__getattr__" = some none
 ca:findIn K (.ref C) "__class__" = some (some (.builtin "object.__class__"))
 hn:specialIn K (.builtin "object.__class__") "__get__" = some (some (.builtin "getset_descriptor.__get__"))
 htk:takesIn K (.builtin "object.__class__")=some true
theorem Bg {bm:List Value} (h:A0 bm=true) {T:String} {b:Bool} (hb:valTail.contains (.type T)=b):bm.contains (.type T)=b:=by
 obtain⟨rs,rfl⟩:=C5 h
 induction rs with
 | nil=>exact hb
 | cons a r ih=>
  have h':A0 (r.map aH++valTail)=true:=by
   cases r <;> exact h
  rw [aS,gr,b7,ih h']
  rfl
section
variable {M:mw} {A:aX} {E:Value->ag->Prop} {h:Heap} {g:Array jW} {d:Drawn} {t:Nat} {os:OsState}
variable {nm q:Str} {C N:Addr} {bs bm:List Value} {hdct:Bool} {sn:List Str} {sub:List Value} {ab:Bool} {col:Option Bool} {dd:Option Addr} {k0 k1 k2 k3 k5:Option Value}
theorem Dd (T:A0 bm=true) {rest:List Value} {Q:Unit->ag->Prop} (hC:h.get? C=some (fB nm q C N bs bm hdct sn sub ab col dd k0 k1 k2 k3 k5 "ValueError.__new__"))
  (hq:Q () ⟨h,g,d,t,os⟩):ay M A (gx "ValueError.__new__" ⟨.ref C::rest,[]⟩) Q E ⟨h,g,d,t,os⟩:=by
 have F:=dL
 have hcont:(aH C::bm).contains (.type "ValueError")=true:=by rw [b7,Bg T (show valTail.contains (.type "ValueError")=true by decide +kernel),fC]
 have hstar:=F.noStar
 simp only [gx,F.newKind,F.newSplit,F.newRow]
 repeat (first|refine bo hC ?_|(refine ce hC ?_;rw [hcont])|refine wpAny_staticBase_exc hC ?_|refine jm hC ?_|simp only [bne_self_eq_false,bz,if_false] | wp_step)
 exact hq
end
section
variable {prog:aO} {w:bM} {A:aX} {R:jO->ag->Prop} {h:Heap} {g:Array jW} {d:Drawn} {t:Nat} {os:OsState}
variable {nm q:Str} {C N:Addr} {bs bm:List Value} {hdct:Bool} {sn:List Str} {sub:List Value} {ab:Bool} {col:Option Bool} {dd:Option Addr} {k0 k1 k2 k3 k5:Option Value}
theorem Db (T:A0 bm=true) {rest:List Value} (hC:h.get? C=some (fB nm q C N bs bm hdct sn sub ab col dd k0 k1 k2 k3 k5 "ValueError.__new__"))
  (hq:R (.ok (.ret (.ref (h.objs.size+1)))) ⟨(h.push { cls:=.type "tuple", data:=.seq rest.toArray }).push
   {cls:=.ref C,data:=.fields #[.ref h.objs.size,.none,.none,.none,.bool false,.none] },g,d,t,os⟩) (hrest:rest.length<=sizeLine) :
  d4 (model prog w) A (.builtin "ValueError.__new__" ⟨.ref C::rest,[]⟩) R ⟨h,g,d,t,os⟩:=by
 have F:=dL
 have hends:=F.ends
 have hcB:(aH C::bm).contains (.type "ValueError")=true:=by rw [b7,Bg T (show valTail.contains (.type "ValueError")=true by decide +kernel),fC]
 have hcA:(aH C::bm).contains (.type "AttributeError")=false:=by rw [b7,Bg T (show valTail.contains (.type "AttributeError")=false by decide +kernel)];rfl
 have hcN:(aH C::bm).contains (.type "NameError")=false:=by rw [b7,Bg T (show valTail.contains (.type "NameError")=false by decide +kernel)];rfl
 refine codeAny_builtinAt F.entry ?_
 unfold ar.«BaseException.__new__»
 refine wpAt_bind ?_
 show wpAt _ _ _ (stack >>= _) _ _ _
 refine wpAt_bind (wpAt_stack fun p below=>wpAt_of_wpAny ?_)
 wp_walk
 refine wpAt_of_wpAny ?_
 rw [F.owner]
 repeat (first|with_reducible refine wpAny_madeHere_exc F.canon hC ?_|with_reducible refine bo hC ?_|(with_reducible refine ce hC ?_;first|rw [hcB] | rw [hcA] | rw [hcN])|wp_step)
 show R _ _
 rw [bE]
 exact hq
end
end L2
namespace L2
open PySem PySem.Spec PySem.W Builtin Builtin.ObjectAttr
open Sem (wp)
section
variable {prog:aO} {w:bM} {A:aX} {E:Value->ag->Prop} {h:Heap} {g:Array jW} {d:Drawn} {t:Nat} {os:OsState}
variable {nm q:Str} {C N f:Addr} {bs bm:List Value} {hdct:Bool} {sn:List Str} {sub:List Value} {ab:Bool} {col:Option Bool} {dd:Option Addr} {k0 k1 k2 k3 k5:Option Value}
noncomputable abbrev B9 (h:Heap) (C:Addr) (rest:List Value):Heap:=(h.push { cls:=.type "tuple", data:=.seq rest.toArray }).push { cls:=.ref C,data:=.fields #[.ref h.objs.size,.none,.none,.none,.bool false,.none] }
theorem Fy (T:A0 bm=true) {rest:List Value} {Q:Fin->ag->Prop}
  (hC:h.get? C=some (fB nm q C N bs bm hdct sn sub ab col dd k0 k1 k2 k3 k5 "ValueError.__new__"))
  (hi:Looks (model prog w) h (dR (.ref C) "__init__") (some (.ref f))) (hb:∀ self,Looks (model prog w) h (i7 (.ref f) self) (.ref f,[self]))
  (hq:ay (model prog w) A (call (.ref f) (.ref (h.objs.size+1)::rest)) (fun v s'=>v=.none/\Q (.done (.ret (.ref (h.objs.size+1)))) s') E ⟨B9 h C rest,g,d,t,os⟩) (hrest:rest.length<=sizeLine) :
  ay (model prog w) A (ar.«type.__call__» ⟨.ref C::rest,[]⟩) Q E ⟨h,g,d,t,os⟩:=by
 have F:=dL
 repeat (first|with_reducible refine bo hC ?_|with_reducible refine jm hC ?_|wp_step)
 refine iq (eL _ F.quiet) (Dd T hC ?_)
 refine Db T hC ?_ hrest
 show ay _ _ _ _ _ _
 have kp:∀ b o,h.get? b=some o->(B9 h C rest).get? b=some o:=fun b o e=>ae _ (ae _ e)
 have hC₁:=kp _ _ hC
 have hget:(B9 h C rest).get? (h.objs.size+1)=some { cls:=.ref C,data:=.fields #[.ref h.objs.size,.none,.none,.none,.bool false,.none] }:=by heap_get
 have hcC:(aH C::bm).contains (.ref C)=true:=by simp
 unfold iK
 repeat (first|with_reducible refine bo hget ?_|(with_reducible refine ce hC₁ ?_;rw [hcC])|wp_step)
 show ay _ _ (dR (.ref C) _) _ _ _
 refine (hi.keeps kp).at ?_
 refine bb (ac (((hb _).keeps kp).at ?_))
 refine ac (cA hq (fun v s' z=>?_) fun _ _ z=>z)
 obtain⟨rfl,z⟩:=z
 exact ai (ai z)
theorem Zj (T:A0 bm=true) {rest:List Value} {R:jO->ag->Prop}
  (hC:h.get? C=some (fB nm q C N bs bm hdct sn sub ab col dd k0 k1 k2 k3 k5 "ValueError.__new__"))
  (hi:Looks (model prog w) h (dR (.ref C) "__init__") (some (.ref f))) (hb:∀ self,Looks (model prog w) h (i7 (.ref f) self) (.ref f,[self]))
  (hq:d4 (model prog w) (A.under (.builtin "type.__call__" ⟨.ref C::rest,[]⟩)) (.call (.ref f) ⟨.ref (h.objs.size+1)::rest,[]⟩) (InitBack (h.objs.size+1) R) ⟨B9 h C rest,g,d,t,os⟩) (hrest:rest.length<=sizeLine) :
  d4 (model prog w) A (.call (.ref C) ⟨rest,[]⟩) R ⟨h,g,d,t,os⟩:=by
 have f1:=tc_lookup
 have f2:=tc_bind (.ref C)
 have hT:(⟨h,g,d,t,os⟩:ag).TypeIs (.ref C) "type" := ⟨_,hC,rfl⟩
 refine jS ?_
 show ay _ _ (callAny (.ref C) _) _ _ _
 repeat (any_goals (first|assumption|with_reducible refine bo hC ?_|wp_step))
 refine⟨rfl,?_⟩
 refine i8 (eL _ (by decide +kernel)) entry_typeCall (iz hC (Fy T hC hi hb (eF (eY hq fun r s' z=>?_)) hrest))
 rcases r with e|(v|_|_|_) <;> first|exact z|exact z.elim
theorem Fc (T:A0 bm=true) {rest:List Value} {Q:Fin->ag->Prop}
  (hC:h.get? C=some (fB nm q C N bs bm hdct sn sub ab col dd k0 k1 k2 k3 k5 "ValueError.__new__"))
  (hi:Looks (model prog w) h (dR (.ref C) "__init__") (some (.builtin "ValueError.__init__")))
  (hq:∀ h' e,Heap.MadeExcOf h h' e (.ref C) rest->e=h.objs.size+1->Q (.done (.ret (.ref e))) ⟨h',g,d,t,os⟩) (hrest:rest.length<=sizeLine) :
  ay (model prog w) A (ar.«type.__call__» ⟨.ref C::rest,[]⟩) Q E ⟨h,g,d,t,os⟩:=by
 have F:=dL
 repeat (first|with_reducible refine bo hC ?_|with_reducible refine jm hC ?_|wp_step)
 refine iq (eL _ F.quiet) (Dd T hC ?_)
 refine Db T hC ?_ hrest
 show ay _ _ _ _ _ _
 have kp:∀ b o,h.get? b=some o->(B9 h C rest).get? b=some o:=fun b o e=>ae _ (ae _ e)
 have hC₁:=kp _ _ hC
 have hget:(B9 h C rest).get? (h.objs.size+1)=some { cls:=.ref C,data:=.fields #[.ref h.objs.size,.none,.none,.none,.bool false,.none] }:=by heap_get
 have hcC:(aH C::bm).contains (.ref C)=true:=by simp
 have hcB:(aH C::bm).contains (.type "ValueError")=true:=by rw [b7,Bg T (show valTail.contains (.type "ValueError")=true by decide +kernel),fC]
 unfold iK
 repeat (first|with_reducible refine bo hget ?_|(with_reducible refine ce hC₁ ?_;rw [hcC])|wp_step)
 show ay _ _ (dR (.ref C) _) _ _ _
 refine (hi.keeps kp).at ?_
 refine bb (ac (l6 (F.init.bind _) ?_))
 have chk:∀ {Q':Unit->ag->Prop} {E':Value->ag->Prop} {A':aX},Q' () ⟨B9 h C rest,g,d,t,os⟩->ay (model prog w) A' (gx "ValueError.__init__" ⟨.ref (h.objs.size+1)::rest,[]⟩) Q' E' ⟨B9 h C rest,g,d,t,os⟩:=fun {Q' E' A'} hq'=>by
  have hshort:=F.noStar
  simp only [gx,F.initKind,F.initSplit,F.initRow]
  repeat (first|with_reducible refine bo hget ?_|with_reducible refine bo hC₁ ?_|(with_reducible refine ce hC₁ ?_;rw [hcB])|wp_step)
  refine k9 ?_
  rw [show ∀ (a b:String) (n:Nat),Bind.check ⟨.positional, "*", "ValueError", .self,[⟨"args", .varPos,false⟩]⟩ a b n (hY (fun x=>x.fst) ({ pos:=aH (h.objs.size+1)::rest }:Args).kw)=pure () from
   fun a b n=>check_star_args _ _ _ _ _ _]
  exact ai hq'
 refine ac (eF (dz F.init.plain F.initEntry (chk ?_)))
 wp_walk
 refine hq _ _ ⟨fun b o hb=>?_,gz (cG _),h.objs.size+2,?_,gz (by omega),?_⟩ rfl
 ·rw [aG _ _ (b5 (bV (au hb)))]
  exact ae _ (ae _ (ae _ hb))
 ·rw [aL _ (ae _ hget) rfl]
  simp only [bE]
  rfl
 ·rw [aG _ _ (show h.objs.size+1≠h.objs.size+2 by omega)]
  exact Heap.get?_push_at (by simp only [bE]) rfl
theorem Vs (T:A0 bm=true) {rest:List Value} {R:jO->ag->Prop}
  (hC:h.get? C=some (fB nm q C N bs bm hdct sn sub ab col dd k0 k1 k2 k3 k5 "ValueError.__new__"))
  (hi:Looks (model prog w) h (dR (.ref C) "__init__") (some (.builtin "ValueError.__init__")))
  (hq:∀ h' e,Heap.MadeExcOf h h' e (.ref C) rest->e=h.objs.size+1->R (.ok (.ret (.ref e))) ⟨h',g,d,t,os⟩) (hrest:rest.length<=sizeLine) :
  d4 (model prog w) A (.call (.ref C) ⟨rest,[]⟩) R ⟨h,g,d,t,os⟩:=by
 have f1:=tc_lookup
 have f2:=tc_bind (.ref C)
 have hT:(⟨h,g,d,t,os⟩:ag).TypeIs (.ref C) "type" := ⟨_,hC,rfl⟩
 refine jS ?_
 show ay _ _ (callAny (.ref C) _) _ _ _
 repeat (any_goals (first|assumption|with_reducible refine bo hC ?_|wp_step))
 refine⟨rfl,?_⟩
 exact i8 (eL _ (by decide +kernel)) entry_typeCall (iz hC (Fc T hC hi hq hrest))
end
end L2
namespace L2
open PySem PySem.Spec PySem.W PyProof.Rows
theorem ECls.cls {K:aa} {C:Addr} (c:ECls K C):∃ cd,clsIn K C=some cd/\A0 cd.mro=true/\cd.hasDict=true:=by
 obtain⟨nm,q,N,bs,bm,hdct,sn,sub,ab,col,dd,k0,k1,k2,k3,k5,hl,ht,hd⟩:=c.obj
 refine⟨_,by unfold clsIn;rw [hl],?_,hd⟩
 obtain⟨rs,e⟩:=C5 ht
 show A0 (aH C::bm)=true
 rw [e]
 clear e
 show A0 (hY aH (C::rs)++valTail)=true
 have:∀ l:List Addr,A0 (hY aH l++valTail)=true:=fun l=>by
  induction l with
  | nil=>decide +kernel
  | cons a r ih=>cases r <;> exact ih
 exact this _
theorem ECls.sub {K:aa} {C:Addr} (c:ECls K C) {T:String} (h:valTail.contains (.type T)=true):mroIn K C (.type T)=some true:=by
 obtain⟨cd,h1,h2,_⟩:=c.cls
 obtain⟨rs,e⟩:=C5 h2
 unfold mroIn
 rw [h1,dP,e,Ph rs h,if_neg]
 cases rs <;> exact aj
section
variable {prog:aO} {w:bM} {A:aX} {E:Value->ag->Prop} {s:ag} {K:aa} {x C:Addr} {ox:Obj} {od:Option Obj} {name:Str}
theorem Y0 {g a v:Value} {Q:Option Value->ag->Prop} (X:K.In s.heap) (I:fm s.heap x ox C od) (hga:aw K (.ref C) "__getattribute__" = some (some (.builtin "BaseException.__getattribute__"))) (hgt:aw K (.ref C) "__getattr__" = some none)
  (hB:b8 K C (.type "BaseException")=some true) (hf:PySem.W.findObj K C od name=some (.bind g a)) (hh:gw v=true)
  (h:∀ {A':aX} {R:jO->ag->Prop},R (.ok (.ret v)) { s with toks:=s.toks+1 }->d4 (model prog w) A' (.call g ⟨[a,.ref x,.ref C],[]⟩) R { s with toks:=s.toks+1 }) (hq:Q (some v) { s with toks:=s.toks+1 }) :
  ay (model prog w) A (getAttr? (.ref x) name) Q E s:=by
 obtain⟨hp,gg,d,t,os⟩:=s
 have L0:=I.type (M:=model prog w)
 have L1:=dy (M:=model prog w) X hga
 have L2:=dy (M:=model prog w) X hgt
 have L3:=kJ (M:=model prog w) X I hf
 have L4:=kr (M:=model prog w) X hB
 unfold getAttr? getAttrBy? getAttrBy
 refine ac (wpAny_mkText (ac (dX (bb (ac (L0.at (ac (L1.at ?_))))))))
 have hx2:(dA "BaseException.__getattribute__" == dA "object.__getattribute__")=false:=by decide +kernel
 have hx1:(lX (aH C)&&dA "BaseException.__getattribute__" == dA "object.__getattribute__")=false:=by rw [hx2];rfl
 dsimp only
 rw [hx1,if_neg aj]
 unfold getAttrByItsOwn
 refine ac (show ay _ _ (dR (.ref C) "__getattr__") _ _ _ from L2.at ?_)
 refine ac (dX (bb ?_))
 have hx0:(false&&lX (dA "BaseException.__getattribute__"))=false:=rfl
 unfold callGetattribute
 rw [hx0,if_neg aj]
 unfold boundAndCalled
 rw [Nz]
 refine ac (ai ?_)
 refine eF (dz (by decide +kernel) F.entry_bexc_ga (check_slot (i := "BaseException.__getattribute__") (owner := "BaseException") (n := "__getattribute__") (by decide +kernel) (by decide +kernel) (L0.andThen L4) (F.args_bexc_ga _ _) ?_))
 unfold ar.«object.__getattribute__»
 refine ac (ai (ac (ai (ac (L0.at (ac (L3.at ?_)))))))
 refine ac (bb (eF (h ?_)))
 refine ai ?_
 show ay _ _ (handedOut v) _ _ _
 rw [j5 hh]
 exact ai (ai hq)
theorem Kd {a g:Value} (hc:(clsIn K C).isSome=true) (ha:findIn K (.ref C) name=some (some a)) (hg:specialIn K a "__get__" = some (some g)) (ht:takesIn K a=some true):findObj K C od name=some (.bind g a):=by
 obtain⟨cd,hc⟩:=Option.isSome_iff_exists.mp hc
 unfold findObj
 rw [hc,dP,ha,dP]
 simp [hg,ht]
theorem U9 {Q:Option Value->ag->Prop} (c:ECls K C) (X:K.In s.heap) (I:InstAt s.heap x ox C od) (h:Q (some (.ref C)) { s with toks:=s.toks+1 }):ay (model prog w) A (getAttr? (.ref x) "__class__") Q E s:=by
 have hf:findObj K C od "__class__" = some (.bind (.builtin "getset_descriptor.__get__") (.builtin "object.__class__")):=Kd (by obtain⟨cd,hc,_⟩:=c.cls;rw [hc];rfl) c.ca c.hn c.htk
 exact Y0 (v:=.ref C) X I c.ga c.gt (c.sub (by decide +kernel)) hf rfl (fun q=>class_get (s:={ s with toks:=s.toks+1 }) (ox:=ox) (od:=od) X I (c.sub (by decide +kernel)) q) h
end
theorem Zd {K:aa} {x D:Addr} (c:ECls K D):KitX K (.ref x) (.ref D) (fun h=>∃ ox od,InstAt h x ox D od) where
 ty:=fun _ _ _ ⟨_,_,I⟩=>I.type
 it:=fun _ _ X _=>by
  obtain⟨cdD,hcD,_⟩:=c.cls
  unfold clsIn at hcD
  split at hcD
  ·rename_i c' d' cd' sl' ho
   intro A' Q' E' s' k q
   unfold isType loadHead
   exact ac (iA (k _ _ (X _ _ ho)) (ai q))
  ·cases hcD
 ne:=fun h tp dd its n sl X htp=>by
  obtain⟨cdD,hcD,_⟩:=c.cls
  refine Bool.eq_false_iff.mpr fun q=>?_
  have e:D=tp:=Value.ref.inj (beq_iff_eq.mp q)
  subst e
  unfold clsIn at hcD
  split at hcD
  ·rename_i c' d' cd' sl' ho
   have z:=(X _ _ ho).symm.trans htp
   cases z
  ·cases hcD
 ca:=fun X ⟨_,_,I⟩ k=>U9 c X I k
noncomputable def ExcAt (H:Hp) (a C:Addr) (fs:List (Str×V)):Prop:=(fs=[]/\(H a=some (E1 a C none)\/FlO H a C none)) \/ ∃ dx,dx≠a/\(H a=some (E1 a C (some dx))\/FlO H a C (some dx))/\H dx=some (xdO dx fs)
inductive TyX (K:aa) (H:Hp) (x:V) (t:Value):Prop where
 | of (h:TyOf K H x t)
 | exc {a C:Addr} {fs:List (Str×V)} (ex:x=.ref a) (e:ExcAt H a C fs) (c:ECls K C) (et:t=.ref C)
 | sqT {a:Addr} {xs:List V} (ex:x=.ref a) (e:SqT K H a xs) (et:t=.type "tuple")
 | sqL {a:Addr} {xs:List V} (ex:x=.ref a) (e:SqL K H a xs) (et:t=.type "list")
section
variable {X:Cx} {pins:List (Addr×Obj)} {σ:St} {H:Hp} {s:ag} {A:aX} {E:Value->ag->Prop} {a C:Addr} {fs:List (Str×V)}
theorem Ie {dx:Option Addr} (I:Inv X pins σ H s) (e:H a=some (E1 a C dx)):∃ vs:Array Value,s.heap.get? a=some (Am C dx vs)/\vs.size=6/\vs[1]? = some .none/\vs[2]? = some .none:=(I.hok a _ e).1
theorem Yu {dx:Option Addr} (I:Inv X pins σ H s) (e:H a=some (flO a C dx)):∃ vs:Array Value,s.heap.get? a=some (Am C dx vs)/\vs.size=6/\vs[2]? = some .none:=(I.hok a _ e).1
theorem Tc {dx:Option Addr} (I:Inv X pins σ H s) (e:H a=some (E1 a C dx)\/FlO H a C dx):∃ vs:Array Value,s.heap.get? a=some (Am C dx vs)/\vs.size=6:=by
 rcases e with e|e|e
 ·obtain⟨vs,h1,h2,_⟩:=Ie I e;exact⟨vs,h1,h2⟩
 ·obtain⟨vs,h1,h2,_⟩:=Yu I e;exact⟨vs,h1,h2⟩
 ·exact (I.hok a _ e).1
theorem ax0 {dx:Addr} (I:Inv X pins σ H s) (e:H dx=some (xdO dx fs)):fs.length<=1000 /\ ∃ mA,s.heap.Ns1 dx mA/\(∀ f,RelO (fs.lookup f) (mA f))/\ez mA (fs.map (·.1)):=(I.hok dx _ e).1
theorem ExcAt.inst (I:Inv X pins σ H s) (e:ExcAt H a C fs):∃ vs dx od,InstAt s.heap a (Am C dx vs) C od/\(∀ o,od=some o -> ∀ name,∃ v,lookIn name o=some v/\RelO (fs.lookup name) v)/\(od=none->fs=[]):=by
 rcases e with ⟨rfl,e⟩|⟨dx,ne,e,ed⟩
 ·obtain⟨vs,h1,_⟩:=Tc I e
  exact⟨vs,none,none,⟨h1,rfl,rfl,aY⟩,fun o z=>(nomatch z),fun _=>rfl⟩
 ·obtain⟨vs,h1,_⟩:=Tc I e
  obtain⟨_,mA,hn,hr,_⟩:=ax0 I ed
  obtain⟨od,ho,hl⟩:=Gh hn
  refine⟨vs,some dx,some od,⟨h1,rfl,rfl,ho⟩,fun o z name=>?_,fun z=>nomatch z⟩
  cases z
  exact⟨_,hl name,hr name⟩
theorem Ip {Q:Value->ag->Prop} {c:Value} {b:Bool} {x:V} {u t:Value} (I:Inv X pins σ H s) (rx:RelV x u) (ty:TyX X.K H x t) (e:dB X.K t c=some b) (h:∀ tk,Q (.bool b) { s with toks:=tk }) :
  ay (model X.prog X.w) A (call (.builtin "isinstance") [u,c]) Q E s:=by
 cases ty with
 | of ty=>exact K9 I rx ty e h
 | @exc a C fs ex ea cl et=>
  subst ex et
  cases (show u=aH a from rx)
  obtain⟨vs,dx,od,J,_⟩:=ea.inst I
  exact bW (Zd cl) I.kIn ⟨_,_,J⟩ e (fun z=>nomatch z) h
 | @sqT a xs ex q et=>
  subst ex et
  cases (show u=aH a from rx)
  obtain⟨_,_,⟨o,h1,h2,_⟩,_⟩:=I.tuple q
  exact bW ia I.kIn ⟨o,h1,h2⟩ e (fun z=>nomatch z) h
 | @sqL a xs ex q et=>
  subst ex et
  cases (show u=aH a from rx)
  obtain⟨_,_,⟨o,_,h1,h2,_⟩,_⟩:=I.list q
  exact bW f8 I.kIn ⟨o,h1,h2⟩ e (fun z=>nomatch z) h
theorem Vd {b:Bool} {f:Str} {v:V} {Q:Value->ag->Prop} (I:Inv X pins σ H s) (e:ExcAt H a C fs) (c:ECls X.K C) (n:NoAttr X.K C f) (l:fs.lookup f=some v)
  (h:∀ u s',Inv X pins σ H s'->RelV v u->Q u s'):ay (model X.prog X.w) A (lm (.ref a) f b) Q E s:=by
 obtain⟨vs,dx,od,J,hl,hn⟩:=e.inst I
 obtain⟨cd,hc,_,hd⟩:=c.cls
 cases od with
 | none=>rw [hn rfl] at l;cases l
 | some o=>
  obtain⟨u?,h1,h2⟩:=hl o rfl f
  rw [l] at h2
  obtain⟨u,hu,ru⟩:=RelO.some_of h2
  subst hu
  refine aj2 I.kIn J c.ga c.gt (c.sub (by decide +kernel)) (kq (by unfold hasDictIn;rw [hc];exact hd) n rfl h1) (K6 ru) (h u _ (I.tok _) ru)
noncomputable def bg1 (H:Hp) (a C:Addr) (f:Str) (y:V) (N:Hp->Prop):Prop:=
 (H a=some (E1 a C none) /\ ∀ dx,H dx=none->dx≠a->N (upd (upd H dx (xdO dx [(f,y)])) a (E1 a C (some dx)))) \/
 ∃ dx fs,dx≠a/\H a=some (E1 a C (some dx))/\H dx=some (xdO dx fs)/\fs.length<1000/\N (upd H dx (xdO dx (D7 f y fs)))
theorem Mc {P:aO} {w:bM} {H:Hp} {h:Heap} {dx:Option Addr} {vs:Array Value} (h1:h.get? a=some (Am C dx vs)) (h2:vs.size=6) (h3:vs[1]? = some .none) (h4:vs[2]? = some .none):ObjOk P w H h a (E1 a C dx):=
 ⟨⟨vs,h1,h2,h3,h4⟩,⟨_,h1⟩,fun _ _ ⟨vs',q1,q2⟩ k=>⟨vs',k _ q1,q2⟩⟩
theorem Yt {P:aO} {w:bM} {H:Hp} {h:Heap} {dx:Option Addr} {vs:Array Value} (h1:h.get? a=some (Am C dx vs)) (h2:vs.size=6) (h4:vs[2]? = some .none):ObjOk P w H h a (flO a C dx):=
 ⟨⟨vs,h1,h2,h4⟩,⟨_,h1⟩,fun _ _ ⟨vs',q1,q2⟩ k=>⟨vs',k _ q1,q2⟩⟩
theorem Yq {P:aO} {w:bM} {H:Hp} {h:Heap} {dx:Option Addr} {vs:Array Value} (h1:h.get? a=some (Am C dx vs)) (h2:vs.size=6):ObjOk P w H h a (fcO a C dx):=
 ⟨⟨vs,h1,h2⟩,⟨_,h1⟩,fun _ _ ⟨vs',q1,q2⟩ k=>⟨vs',k _ q1,q2⟩⟩
theorem ag4 {P:aO} {w:bM} {H:Hp} {h:Heap} {dx:Addr} {mA:Str->Option Value} (z:fs.length<=1000) (h1:h.Ns1 dx mA) (h2:∀ f,RelO (fs.lookup f) (mA f)) (h3:ez mA (fs.map (·.1))):ObjOk P w H h dx (xdO dx fs):=
 ⟨⟨z,mA,h1,h2,h3⟩,(let ⟨o,_,_,e,_⟩:=h1;⟨o,e⟩),fun _ _ ⟨z',mB,q1,q2,q3⟩ k=>⟨z',mB,q1.at k,q2,q3⟩⟩
theorem Wh {f:Str} {y:V} {u:Value} {Q:Unit->ag->Prop} {N:Hp->Prop} (I:Inv X pins σ H s) (c:ECls X.K C) (n:NoAttr X.K C f) (ry:RelV y u) (h0:bg1 H a C f y N)
  (h:∀ H' s',Inv X pins σ H' s'->N H'->Q () s'):ay (model X.prog X.w) A (l4 (.ref a) f u) Q E s:=by
 obtain⟨cd,hc,hp,hd⟩:=c.cls
 rcases h0 with ⟨e,hN⟩|⟨dx,fs,ne,e,ed,hz,hN⟩
 ·obtain⟨vs,h1,h2,h3,h4⟩:=Ie I e
  refine ad7 I.kIn h1 c.sa hc hp hd n fun h' q1 q2 q3=>?_
  have fr:H s.heap.objs.size=none:=I.hok.fresh (af _)
  have ane:s.heap.objs.size≠a:=fun z=>by rw [z,e] at fr;cases fr
  refine h _ _ ?_ (hN _ fr ane)
  obtain⟨o,es,ep,eo,hrest⟩:=id q2
  have eo1:(s.heap.push o).get? s.heap.objs.size=some o:=aq s.heap (Heap.get?_some_iff.mp eo).2
  have I1:=I.laid (a:=s.heap.objs.size) (o:=xdO s.heap.objs.size [(f,y)]) (h':=s.heap.push o) (t':=s.toks+2) (fun b u e=>ae _ e) (af _)
   (ag4 (by simp) (q2.at fun o' e'=>by rw [eo] at e';cases e';exact eo1) (fun g=>by
    show RelO (dZ g [(f,y)]) (if g=f then some u else none)
    by_cases q:g=f
    ·rw [if_pos q,q];simp only [dZ,beq_self_eq_true];exact ry
    ·rw [if_neg q];simp only [dZ,beq_eq_false_iff_ne.mpr q];exact aY) (fun g hg=>by
    by_cases q:g=f
    ·rw [q];simp
    ·exact absurd (by show (if g=f then some u else none)=none;rw [if_neg q]) hg))
  exact I1.write (x:=a) (e:=a) (t':=s.toks+2) (by rw [Ae (cx ane),e];exact aY) (.inl rfl) (fun b u hb eb=>by
   by_cases hs:b=s.heap.objs.size
   ·rw [hs] at eb ⊢
    rw [eo1] at eb
    cases eb
    exact eo
   ·refine q3 b u hb ?_
    rcases Heap.get?_push_cases eb with z|z
    ·exact absurd z.1 hs
    ·exact z) ⟨_,q1⟩ (Mc q1 h2 h3 h4)
 ·obtain⟨vs,h1,h2,h3⟩:=Ie I e
  obtain⟨z,mA,hn,hr,wi⟩:=ax0 I ed
  refine aq1 (ns:=fs.map (·.1)) I.kIn h1 hn ne c.sa hc hp hd n wi (by rw [al,bL];omega) fun h' q1 q2 q3=>?_
  refine h _ _ ?_ hN
  refine I.write (x:=dx) (e:=dx) (by rw [ed];exact aY) (.inl rfl) (fun b q hb z=>(q3.2 b hb).trans z) (let ⟨o,_,_,e',_⟩:=q2;⟨o,e'⟩) ?_
  refine ag4 ?_ q2 (fun g=>?_) (fun g hg=>?_)
  ·have:=Ei f y fs;omega
  ·show RelO ((D7 f y fs).lookup g) (if g=f then some u else mA g)
   rw [Ej]
   by_cases q:g=f
   ·rw [if_pos q,if_pos q];exact ry
   ·rw [if_neg q,if_neg q];exact hr g
  ·by_cases q:g=f
   ·rw [q];exact (Dl f y fs).1
   ·refine (Dl f y fs).2 g (wi g fun z=>hg ?_)
    show (if g=f then some u else mA g)=none
    rw [if_neg q];exact z
theorem Inv.madeX (I:Inv X pins σ H s) (C:Addr) (rest:List Value):Inv X pins σ (upd H (s.heap.objs.size+1) (E1 (s.heap.objs.size+1) C none)) { s with heap:=B9 s.heap C rest }:=by
 have hget:(B9 s.heap C rest).get? (s.heap.objs.size+1)=some (Am C none #[.ref s.heap.objs.size,.none,.none,.none,.bool false,.none]):=by heap_get
 exact I.laid (t':=s.toks) (fun b u e=>ae _ (ae _ e)) (cG _) (Mc hget rfl rfl rfl)
variable {CX:CXT} {k:Nat} {f:Addr} {fd:aE} {ps:List Str} {sp:Sp} {dvs:List V} {ds us:List Value} {vs:List V} {Q:VK}
theorem Rb (c:ECls X.K C) (hi:findIn X.K (.ref C) "__init__" = some (some (.builtin "ValueError.__init__"))) (I:Inv X pins σ H s) (r:Vals vs us) (hl:vs.length<=1000) (h:∀ a,H a=none->Q (.ref a) (upd H a (E1 a C none))) :
  ay (model X.prog X.w) X.A (call (.ref C) us) (EP X pins σ Q) X.xe s:=by
 obtain⟨nm,q,N,bs,bm,hdct,sn,sub,ab,col,dd,k0,k1,k2,k3,k5,hC,ht,_⟩:=c.obj
 obtain⟨hh,g,d,t,os⟩:=s
 refine eF (Vs ht (I.kIn _ _ hC) (looks_findIn I.kIn hi) (fun h' e M ee=>?_) (by rw [<- r.length,bL];omega))
 subst ee
 obtain⟨kp,_,t0,q1,_,_⟩:=M
 refine⟨.ref (hh.objs.size+1),upd H (hh.objs.size+1) (E1 (hh.objs.size+1) C none),?_,rfl,h _ (I.hok.fresh (cG _))⟩
 exact I.laid (t':=t) kp (cG _) (Mc q1 rfl rfl rfl)
theorem Wf (c:ECls X.K C) (hi:findIn X.K (.ref C) "__init__" = some (some (.ref f))) (hf:isFn X.K (.ref f)=true) (F:FnOk X.prog X.w X.K X.mg X.base CX k f fd ps sp) (hr:Room (k+1) X.A) (hb:Binds X.K fd ps ds) (hd:Vals dvs ds)
  (I:Inv X pins σ H s) (r:Vals vs us) (hl:vs.length<=1000) {EX:XK} (hx:∀ e s1 s' H1,Inv X pins σ H1 s1->CX X.stack H1 s1 EX e s'->X.xe e s')
  (h:∀ a,H a=none->sp (.ref a::(vs++dvs)) (upd H a (E1 a C none)) (fun v H2=>v=.non/\Q (.ref a) H2) EX) :
  ay (model X.prog X.w) X.A (call (.ref C) us) (EP X pins σ Q) X.xe s:=by
 obtain⟨nm,q,N,bs,bm,hdct,sn,sub,ab,col,dd,k0,k1,k2,k3,k5,hC,ht,_⟩:=c.obj
 have hq:=h (s.heap.objs.size+1) (I.hok.fresh (cG _))
 have I2:=I.madeX C us
 have r2:Vals (V.ref (s.heap.objs.size+1)::(vs++dvs)) (aH (s.heap.objs.size+1)::(us++ds)):=.cons rfl (r.append hd)
 have hlen:(aH (s.heap.objs.size+1)::us++ds).length=ps.length:=by
  have e:=r2.length
  rw [F.len _ _ _ _ hq] at e
  exact e.symm
 refine eF (Zj (f:=f) ht (I.kIn _ _ hC) (looks_findIn I.kIn hi) (fun self=>PySem.W.bind_fn I.kIn self (beq_iff_eq.mp hf)) (eY (F.run _ X.stack { s with heap:=B9 s.heap C us } _ ⟨aH (s.heap.objs.size+1)::us,[]⟩ (aH (s.heap.objs.size+1)::(us++ds)) _ _ EX (hr.make C us [])
  (I2.env0.make C us []) (hb _ (aH (s.heap.objs.size+1)::us) I2.kIn hlen) r2 hq) fun r s' hq'=>?_) (by rw [<- r.length,bL];omega))
 cases r with
 | error e=>exact hx e _ s' _ I2 hq'
 | ok fl=>
  cases fl with
  | ret u=>
   obtain⟨v,H',I3,rv,ev,q3⟩:=I2.after hq'
   subst ev
   exact⟨rv,⟨V.ref (s.heap.objs.size+1),H',I3,rfl,q3⟩⟩
  | next=>exact cZ hq'
  | brk=>exact cZ hq'
  | cont=>exact cZ hq'
end
end L2
namespace L2
open PySem PySem.Spec PyProof.Rows
noncomputable def Ite (K:aa) (l:Addr):It:=
  ⟨fun i H=>∃ xs x,SqL K H l xs/\xs[i]? = some x,
   fun i H v H'=>∃ T x,H T=none/\v=.ref T/\(∀ xs,SqL K H l xs->xs[i]? = some x)/\H'=upd H T (.tup [.int i,x]),
   fun i H=>∃ xs,SqL K H l xs/\xs.length<=i⟩
theorem Wo {P:aO} {w:bM} {K:aa} {elts:List Expr} {kt:Nat} {pt:Pos} {e it l:Addr} (ne:e≠it) :
  J6 P w K (.Tuple elts kt pt) (Ite K l) [e,it] e (fun i h=>(∃ old,jC h e it (i:Int) old)/\h.IsListIter it l i) where
 mem:=by simp
 obj:=fun i h st b hb=>by
  obtain⟨⟨old,he⟩,⟨o1,e1,c1,d1⟩⟩:=st
  have hb:b=e\/b=it:=by simpa using hb
  rcases hb with rfl|rfl
  ·exact⟨_,he,fun v q=>nomatch q⟩
  ·exact⟨o1,e1,fun v q=>by rw [d1] at q;cases q⟩
 keep:=fun i h h' st k=>by
  obtain⟨⟨old,he⟩,h1⟩:=st
  exact⟨⟨old,k e (by simp) _ he⟩,h1.at fun o q=>k it (by simp) o q⟩
 item:=by
  intro X hP hw hK hc i pins s σ H E I hf st hg
  subst hP hw hK
  obtain⟨xs,x,q1,hx⟩:=hg
  obtain⟨its1,r1,p1,z1⟩:=I.list q1
  obtain⟨u,hu,ru⟩:=r1.get hx
  obtain⟨⟨old,he⟩,h1⟩:=st
  refine wpAny_pyNext_enum_item he h1 p1.isList (x:=u) (by simpa using hu) ne fun h' a1 a2 a3 a4 hk=>?_
  refine⟨_,rfl,hV a1 fun h'' hz' hs'=>?_⟩
  have hT:=I.hok.fresh (af s.heap.objs.size)
  have up':∀ b o,b∉[e,it]->s.heap.get? b=some o->h''.get? b=some o:=fun b o hb q=>by
   have b1:b≠e:=by rintro rfl;exact hb (by simp)
   have b2:b≠it:=by rintro rfl;exact hb (by simp)
   exact hs'.extBut b o b1 (hk b o b1 b2 q)
  have nT:∀ {b o},s.heap.get? b=some o->b≠s.heap.objs.size:=fun q=>aA (au q)
  have Tnew:h''.get? s.heap.objs.size=some { cls:=.type "tuple", data:=.seq #[.int i s.toks,u] }:=hs'.extBut _ _ (cx (nT he)) a3
  have I1:Inv X pins σ (upd H s.heap.objs.size (.tup [.int i,x])) { s with heap:=h'',toks:=s.toks+1 }:=
   I.turnedN (t':=s.toks+1) (ch:=[e,it]) (fun b hb=>hf b hb) up' (af _) ⟨by show 2<=sizeLine;decide,[.int i s.toks,u],.cons ⟨_,rfl⟩ (.cons ru .nil),⟨_,Tnew,rfl,_,rfl⟩⟩
  refine⟨.ref s.heap.objs.size,_,I1,rfl,⟨s.heap.objs.size,x,hT,rfl,fun xs' h'=>by rw [I.list_inj h' q1];exact hx,rfl⟩,⟨⟨_,hz'⟩,a2.at fun o q=>hs'.extBut _ o (cx ne) q⟩,fun b hb=>?_⟩
  have q:=(hf b hb).1
  rw [Ae ?_]
  ·exact q
  ·have hb:b=e\/b=it:=by simpa using hb
   rcases hb with rfl|rfl
   ·exact nT he
   ·obtain⟨_,q,_⟩:=h1;exact nT q
 done:=by
  intro X hP hw hK hc i pins s σ H E I hf st hg
  subst hP hw hK
  obtain⟨xs,q1,hx⟩:=hg
  obtain⟨its1,r1,p1,z1⟩:=I.list q1
  have e1:=r1.length
  obtain⟨⟨old,he⟩,h1⟩:=st
  refine wpAny_pyNext_enum_end (I.ok.hd hc) he h1 p1.isList (by simp;omega) fun h' hk=>⟨rfl,?_⟩
  refine I.turnedL (t':=s.toks) (ch:=[e,it]) (fun b hb=>hf b hb) fun b o hb q=>?_
  have b2:b≠it:=by rintro rfl;exact hb (by simp)
  exact hk b o b2 q
 self:=fun A i s Q E st h=>let ⟨_,he⟩:=st.1;ge he h
section
variable {X:Cx} {pins:List (Addr×Obj)} {σ σ0:St} {H H0:Hp} {s s0:ag} {p:Addr} {kvs:List (Key×V)} {o:Obj}
noncomputable def Up (o:Obj) (ep:Nat):Prop:=∃ es,o.data=.dict es ep
theorem Inv.froze (I:Inv X pins σ H s) (h:H p=some (.dK kvs)):∃ ob ep,s.heap.get? p=some ob/\Up ob ep/\Inv X pins σ (upd H p (.frz ob (.dK kvs))) s:=by
 have K:=I.hok p _ h
 obtain⟨z,y,vs,r,ob,es,ep,e,c,d,q⟩:=id K
 refine⟨ob,ep,e,⟨es,d⟩,?_⟩
 exact I.write (x:=p) (e:=p) (t':=s.toks) (h':=s.heap) (by rw [h];trivial) (.inl rfl) (fun b u _ q=>q) ⟨ob,e⟩ ⟨e,K⟩
theorem Inv.thaw (I0:Inv X pins σ0 H0 s0) (h0:H0 p=some (.dK kvs)) (I:Inv X pins σ H s) (h:H p=some (.frz o (.dK kvs))):Inv X pins σ (upd H p (.dK kvs)) s:=by
 have ne:∀ b,H b=none->b≠p:=fun b e z=>by rw [z,h] at e;cases e
 have ntup:∀ b xs,H b=some (.tup xs)->b≠p:=fun b xs e z=>by rw [z,h] at e;cases e
 have nown:∀ b c,H b=some (.own c)->b≠p:=fun b c e z=>by rw [z,h] at e;cases e
 refine⟨I.ok,I.os,I.bare,⟨I.base.keep,I.base.slot,fun b ob e n hx=>?_,I.base.there,fun b xs e=>?_,fun b ob u e=>?_,fun b ps e=>?_⟩,I.loc,I.cell,?_,fun x c e=>?_,fun q hq=>?_,fun b u e=>?_,I.len⟩
 ·have q:=I.base.free b ob e n hx
  rw [Ae (ne b q)];exact q
 ·have q:=I.base.tups b xs e
  rw [Ae (ntup b xs q)];exact q
 ·have q:=I.base.frzs b ob u e
  have n:b≠p:=fun z=>by
   have q0:=I0.base.frzs b ob u e
   rw [z,h0] at q0;cases q0
  rw [Ae n];exact q
 ·obtain⟨more,q⟩:=I.base.tbls b ps e
  have n:b≠p:=fun z=>by rw [z,h] at q;cases q
  exact⟨more,by rw [Ae n];exact q⟩
 ·rw [Ae (ne _ I.free)];exact I.free
 ·have q:=I.freeC x c e
  rw [Ae (ne _ q)];exact q
 ·obtain⟨a,b,c⟩:=I.pin q hq
  exact⟨a,by rw [Ae (ne _ b)];exact b,c⟩
 ·by_cases z:b=p
  ·subst z
   rw [Ad] at e
   cases e
   exact (I.hok b _ h).2
  ·rw [Ae z] at e
   exact (I.hok b u e).stay (fun _ _ _ q=>q) (fun c q=>by rw [Ae (nown c b q)];exact q) fun c xs q=>by rw [Ae (ntup c xs q)];exact q
theorem Thaw.inv {P:Hp->Prop} (I0:Inv X pins σ0 H0 s0) (I:Inv X pins σ H s) (t:Thaw H0 H P):∃ H',Inv X pins σ H' s/\P H':=by
 rcases t with t|⟨p,o,kvs,h0,h,t⟩
 ·exact⟨H,I,t⟩
 ·exact⟨_,I0.thaw h0 I h,t⟩
theorem Inv.kdict (I:Inv X pins σ H s) (h:H p=some (.frz o (.dK kvs))) {ep:Nat} (he:Up o ep):∃ vs,KV kvs vs/\s.heap.DictAt (Ao X.prog X.w) p vs ep/\(p==cQ)=false:=by
 obtain⟨e1,z,y,vs,r,ob,es,ep',e,c,d,q⟩:=I.hok p _ h
 obtain⟨es',d'⟩:=he
 rw [e1] at e
 cases e
 have d2:=d
 rw [d'] at d2
 cases d2
 exact⟨vs,r,⟨o,_,e1,c,d,q⟩,y⟩
end
noncomputable def Itd (p:Addr) (o:Obj) (kvs:List (Key×V)):It:=
 ⟨fun i H=>H p=some (.frz o (.dK kvs))/\i<kvs.length,fun i H x H'=>H'=H /\ ∃ k v,kvs[i]? = some (k,v)/\x=kV k,fun i H=>H p=some (.frz o (.dK kvs))/\kvs.length<=i⟩
theorem Ti:∀ {kvs:List (Key×V)} {vs:List (Key×Value)} {i:Nat} {k:Key} {v:V},KV kvs vs->kvs[i]? = some (k,v) -> ∃ u,vs[i]? = some (k,u)/\RelV v u
 | _,_,0,k,v,.cons (b:=q) r _,e=>by
  simp only [cN,f7] at e
  subst e
  exact⟨q.2,congrArg some (Prod.ext r.1.symm rfl),r.2⟩
 | _,_,i+1,k,v,.cons r t,e=>by
  simp only [bA] at e ⊢
  exact Ti t e
theorem Za {P:aO} {w:bM} {k:Key} {u:Value} (h:(Ao P w).is k u=true):RelV (kV k) u:=by
 cases k with
 | inl i=>obtain⟨t,rfl⟩:=Value.isInt_shape (show lT i u=true from h);exact⟨t,rfl⟩
 | inr z=>obtain⟨t,rfl⟩:=kB (show gH z u=true from h);exact⟨t,rfl⟩
theorem Wn {P:aO} {w:bM} {K:aa} {tg:Expr} (p it:Addr) (o:Obj) (kvs:List (Key×V)) {ep:Nat} (he:Up o ep):J6 P w K tg (Itd p o kvs) [it] it (fun i h=>h.IsKeyIter it p i kvs.length ep) where
 mem:=by simp
 obj:=fun i h st b hb=>by
  have e:b=it:=by simpa using hb
  subst e
  obtain⟨o,e,c,d⟩:=st
  exact⟨o,e,fun v z=>by rw [d] at z;cases z⟩
 keep:=fun i h h' st k=>st.at fun o e=>k it (by simp) o e
 item:=by
  intro X hP hw hK hc i pins s σ H E I hf st hg
  subst hP hw hK
  obtain⟨hH,hi⟩:=hg
  obtain⟨vs,rel,hd,hm⟩:=I.kdict hH he
  obtain⟨f0,f1,f2,f3,f4,f5⟩:=hf it (by simp)
  obtain⟨⟨k,v⟩,hx⟩:∃ q,kvs[i]? = some q:=⟨kvs[i],by simp [hi]⟩
  obtain⟨u,hu,_⟩:=Ti rel hx
  have hl:kvs.length=vs.length:=rel.length
  rw [hl] at st
  refine jz st hd hu fun key h' hk st' sb=>?_
  have I1:Inv X pins σ H { s with heap:=h' }:=I.turned (t':=s.toks) (fun b o hb e=>sb.extBut b o hb e) f0 f1 f3 f4 f5
  obtain⟨o1,e,c,d⟩:=id st'
  exact⟨key,rfl,K5 (s:={ s with heap:=h' }) e c d (by decide) ⟨kV k,H,I1,Za hk,⟨rfl,k,v,hx,rfl⟩,by rw [hl];exact st',fun b hb=>(hf b hb).1⟩⟩
 done:=by
  intro X hP hw hK hc i pins s σ H E I hf st hg
  subst hP hw hK
  obtain⟨hH,hi⟩:=hg
  obtain⟨vs,rel,hd,hm⟩:=I.kdict hH he
  obtain⟨f0,f1,f2,f3,f4,f5⟩:=hf it (by simp)
  have hl:kvs.length=vs.length:=rel.length
  rw [hl] at st
  exact wpAny_pyNext_dict_end (I.ok.hd hc) st hd (by simp;omega) fun h' eb=>⟨rfl,I.turned (t':=s.toks) (fun b o hb e=>eb b o hb e) f0 f1 f3 f4 f5⟩
 self:=fun _ _ _ _ _ st h=>wpAny_pyIter_keyiter st h
theorem ai6 {X:Cx} {tg:Expr} {pins:List (Addr×Obj)} {σ:St} {H:Hp} {s:ag} {R:It->Hp->Prop} {E:Value->ag->Prop} {p:Addr} {o:Obj} {kvs:List (Key×V)} (I:Inv X pins σ H s) (h:H p=some (.frz o (.dK kvs)))
  (q:R (Itd p o kvs) H):ay (model X.prog X.w) X.A (l9 (.ref p)) (PIE X pins σ tg R) E s:=by
 have he:∃ ep,Up o ep:=by
  obtain⟨e1,z,y,vs,r,ob,es,ep,e,c,d,_⟩:=I.hok p _ h
  rw [e1] at e;cases e
  exact⟨ep,es,d⟩
 obtain⟨ep,he⟩:=he
 obtain⟨vs,rel,hd,hm⟩:=I.kdict h he
 refine fb hm hd ?_
 refine⟨s.heap.objs.size,[s.heap.objs.size],_,_,H,rfl,I.kept (t':=s.toks) fun b o e=>ae _ e,Wn p _ o kvs he,⟨_,aq _ rfl,rfl,by rw [rel.length];rfl⟩,fun b hb=>?_,q⟩
 have e:b=s.heap.objs.size:=by simpa using hb
 subst e
 exact I.fpOk (af _) (I.hok.fresh (af _))
end L2
namespace PySem
theorem Sem.wp_never {α:Type} (M:mw) (Γ:Ctx):∀ (t:Sem α) (p:Pos) (s:ag),Sem.wp M Γ t (fun _ _ _=>False) (fun _ _ _=>False) p s->False:=by
 intro t
 induction t with
 | pure a=>intro p s h;exact h
 | raise e=>intro p s h;exact h
 | unsupported w=>intro p s h;exact h
 | finish e=>intro p s h;exact h
 | rule tag k ih=>intro p s h;exact ih () p s h
 | «at» q k ih=>intro p s h;exact ih () q s h
 | load a part k ih=>intro p s h;obtain⟨o,_,h⟩:=h;exact ih o p s h
 | update a part f k ih=>intro p s h;exact ih () p _ h.2
 | alloc o k ih=>intro p s h;exact ih _ p _ h
 | loadIfAlive a k ih=>intro p s h;exact ih _ p s h
 | point l k ih=>intro p s h;exact ih () p s h
 | register a k ih=>intro p s h;exact h
 | fresh k ih=>intro p s h;exact ih _ p _ h
 | ask k ih=>intro p s h;exact ih _ p s h
 | choose src n k ih=>intro p s h;exact ih _ p _ h.2
 | os q l k ih=>intro p s h;exact ih _ p _ h
 | call c hd g l k ih=>intro p s h;obtain⟨r,s',_,h⟩:=h;exact ih r p s' h
 | handled own k ih=>intro p s h;exact ih _ p s h
 | newGen c k ih=>intro p s h;exact ih _ p _ h
 | genState g k ih=>intro p s h;obtain⟨st,_,h⟩:=h;exact ih _ p s h
 | resume g r l k ih=>intro p s h;obtain⟨res,s',_,h⟩:=h;exact ih res p s' h
 | yield v g l k ih=>intro p s h;exact h
 | stack k ih=>intro p s h;exact ih _ p s h
 | fork c k ih=>intro p s h;exact h
 | thread k ih=>intro p s h;first|exact ih _ p s h|exact h
 | await a tk d l k ih=>intro p s h;first|exact h|exact ih _ p s h
section
variable {prog:aO} {w:bM} {A:aX} {E:Value->ag->Prop} {s:ag}
theorem V0 {v:Value} {P:Value->ag->Prop} (h:ay (model prog w) A (fc v) (fun r s'=>∃ u,r=some u/\P u s') (fun _ _=>False) s):ay (model prog w) A (aN v) P E s:=by
 intro Γ p hΓ
 have h:=h Γ p hΓ
 unfold fc Sem.attempt at h
 unfold aN
 rw [lD,Sem.wp_tryCatch,Sem.wp_bind] at h
 rw [lD]
 refine Sem.wp_mono _ _ _ (fun o p' s' q=>?_) (fun e p' s' q=>?_) p s h
 ·cases o with
  | none=>exact (show False from q).elim
  | some u=>
   obtain⟨u',e,q⟩:=q
   cases e
   exact q
 ·refine (Sem.wp_never (model prog w) Γ (iK e (.type "StopIteration")) p' s' ?_).elim
  have q:Sem.wp (model prog w) Γ (iK e (.type "StopIteration") >>= fun b=>if b=true then pure none else throw e) (fun r _ s'=>∃ u,r=some u/\P u s') (fun _ _ _=>False) p' s':=q
  rw [lD] at q
  refine Sem.wp_mono _ _ _ (fun b p2 s2 q=>?_) (fun _ _ _ z=>z) p' s' q
  cases b with
  | true=>obtain⟨u,z,_⟩:=q;cases z
  | false=>exact q
variable {κ:Type} [DecidableEq κ] {knd:KeyKind prog w κ} {d it:Addr} {ep i:Nat} {kvs:List (κ×Value)}
theorem G9 {Q:Value->ag->Prop} (hh:A.handled=none) (hit:s.heap.IsKeyIter it d i kvs.length ep) (hm:s.heap.DictAt knd d kvs ep) (hx:kvs[i]? = none)
  (hE:∀ h' x,lL it s.heap h'->(∃ o,h'.get? x=some o/\o.cls=.type "StopIteration")->E (.ref x) { s with heap:=h' }):ay (model prog w) A (aN (.ref it)) Q E s:=by
 have ⟨oi,ei,ci,di⟩:=hit
 have ⟨od,es,ed,_,dd,_,pr,_⟩:=hm
 have size:es.size=kvs.length:=pr.length▸(by simp)
 have past:es.size<=i:=by rw [size];simpa using hx
 have own:eK "dict_keyiterator" = false:=by decide
 have nx:¬ ((i:Int)<0):=by omega
 have noNone:¬ ((aH d==be)=true):=aj
 unfold aN
 refine ac (bR (name:=ba "__next__") hit.typeIs gC (cF gC hit.typeIs F.entry_dict_keyiterator_next ?_ (F.args_dict_keyiterator_next_1 _)))
 refine ac (ai (ac (ac ?_)))
 first|refine ac (gy hit.typeIs (ai (ac (fu ei di ?_))))|refine ac (iN hit.typeIs (ai (ac (fu ei di ?_))))
 simp only [own,bz,if_false]
 show ay _ _ (if (aH d==be)=true then _ else _) _ _ s
 rw [if_neg noNone]
 refine ac (ai (ac (gc ed dd ?_)))
 rw [if_neg (show ¬ _ by rw [size];simp)]
 refine ac (ai (ac (jU ed dd ?_)))
 rw [if_neg (show ¬ _ by simp)]
 refine ai ?_
 simp only [nx,if_false,bt,jo past]
 refine ac ?_
 first|refine ac (gy hit.typeIs (ai ?_))|refine ac (iN hit.typeIs (ai ?_))
 show ay _ _ (i9 (.ref it) 0 .none >>= fun _=>newExc (.type "StopIteration") [] >>= _) _ _ s
 refine ac (eG ei di (by simp) (ac ?_))
 simp only [newExc,newTuple]
 refine ac (cv (ac (m:=ir _ _) (l6 (a:=be) (by first|rfl|(simp only [ir];rfl)) (cv ?_ (by size_fits)))) (by size_fits))
 simp only [ml]
 refine ac (k8 ?_)
 rw [show A.in1.handled=none from hh]
 refine ac (ai (kF ?_))
 exact hE _ _ (((cb ..).extBut.push _).push _) ⟨_,aq _ rfl,rfl⟩
theorem Gj {k:κ} {v:Value} {Q:Value->ag->Prop} (hit:s.heap.IsKeyIter it d i kvs.length ep) (hm:s.heap.DictAt knd d kvs ep) (hx:kvs[i]? = some (k,v))
  (hQ:∀ key h',knd.is k key=true->h'.IsKeyIter it d (i+1) kvs.length ep->aV it s.heap h'->Q key { s with heap:=h' }):ay (model prog w) A (aN (.ref it)) Q E s:=
 V0 (jz hit hm hx fun key h' a b c=>⟨key,rfl,hQ key h' a b c⟩)
theorem U7 {e:Addr} {old:Value} {J:Value->Heap->Prop} {Q:Value->ag->Prop} (he:jC s.heap e it i old) (hne:e≠it)
  (nx:∀ (A:aX) (P:Value->ag->Prop) (E:Value->ag->Prop),(∀ x h1,J x h1->aV it s.heap h1->P x { s with heap:=h1 })->ay (model prog w) A (aN (.ref it)) P E s)
  (hJ:∀ x h1 h2,J x h1->(∀ o,h1.get? it=some o->h2.get? it=some o)->J x h2)
  (hQ:∀ x h',IsEnumOut h' e it ((i:Int)+1) x s.heap.objs.size->J x h'->h'.get? s.heap.objs.size=some { cls:=.type "tuple", data:=.seq #[.int i s.toks,x] } ->
   (∀ b o,b≠e->b≠it->s.heap.get? b=some o->h'.get? b=some o)->Q (.ref s.heap.objs.size) { s with heap:=h',toks:=s.toks+1 }) :
  ay (model prog w) A (ar.«enumerate.__next__» ⟨[.ref e],[]⟩) (fun fin s'=>∃ v,fin=.done (.ret v)/\Q v s') E s:=by
 have lt:e<s.heap.objs.size:=au he
 obtain⟨h0,gs,dr,tk,ops⟩:=s
 show ay _ _ (l8 (.ref e) 2 >>= fun z=>aN z >>= _) _ _ _
 refine ac (aZ he rfl (x:=.ref it) rfl (ac (nx _ _ _ fun x h1 j1 s1=>?_)))
 have k1:aV it h0 h1:=s1
 have e1:jC h1 e it i old:=(k1.2 e hne).trans he
 refine ac (aZ (s:=⟨h1,gs,dr,tk,ops⟩) e1 rfl (x:=dJ i) rfl ?_)
 refine ac (m:=l8 (.ref e) 4) (aZ (s:=⟨h1,gs,dr,tk,ops⟩) e1 rfl (x:=.none) rfl ?_)
 show ay _ _ (mkInt i >>= _) _ _ ⟨h1,gs,dr,tk,ops⟩
 refine ac (wpAny_mkInt ?_)
 show ay _ _ (i9 (.ref e) 3 (dJ ((i:Int)+1)) >>= fun _=>i9 (.ref e) 4 .none >>= _) _ _ ⟨h1,gs,dr,tk+1,ops⟩
 refine ac (br e1 (by simp) fun h2 e2 s2=>ac (br (s:=⟨h2,gs,dr,tk+1,ops⟩) (show jC h2 e it ((i:Int)+1) old from e2) (by simp) fun h3 e3 s3=>?_))
 have k2:aV e h1 h2:=s2
 have k3:aV e h2 h3:=s3
 have e3:jC h3 e it ((i:Int)+1) old:=e3
 show ay _ _ (newTuple [.int i tk,x] >>= _) _ _ ⟨h3,gs,dr,tk+1,ops⟩
 refine ac (gh ?_)
 have size:h3.objs.size=h0.objs.size:=by rw [k3.1,k2.1,k1.1]
 have up:∃ h4:Heap,h4=h3.push { cls:=.type "tuple", data:=.seq #[.int i tk,x] }:=⟨_,rfl⟩
 obtain⟨h4,eh4⟩:=up
 rw [<- eh4]
 have e4:jC h4 e it ((i:Int)+1) old:=by rw [eh4];exact ae _ e3
 have t4:h4.get? h0.objs.size=some { cls:=.type "tuple", data:=.seq #[.int i tk,x] }:=by rw [eh4,<- size];exact aq _ rfl
 have j4:J x h4:=hJ x h1 h4 j1 fun o q=>by rw [eh4];exact ae _ (k3.extBut it o (cx hne) (k2.extBut it o (cx hne) q))
 have all4:∀ b o,b≠e->b≠it->h0.get? b=some o->h4.get? b=some o:=fun b o b1 b2 q=>by
  rw [eh4]
  exact ae _ (k3.extBut b o b1 (k2.extBut b o b1 (k1.extBut b o b2 q)))
 show ay _ _ (bi (.ref e) >>= _) _ _ ⟨h4,gs,dr,tk+1,ops⟩
 rw [size]
 refine ac ?_
 unfold bi
 refine ac (aZ e4 rfl (x:=.none) rfl (ai ?_))
 simp only [if_true]
 refine ac (gJ (ac (aZ e4 rfl (x:=old) rfl (ac (br e4 (by simp) fun h5 e5 s5=>?_)))))
 have e5:jC h5 e it ((i:Int)+1) x:=e5
 have k5:aV e h4 h5:=s5
 show ay _ _ (cB (.ref e) (.ref h0.objs.size) >>= _) _ _ ⟨h5,gs,dr,tk+1,ops⟩
 refine ac ?_
 unfold cB
 refine ac (br e5 (by simp) fun h6 e6 s6=>br (s:=⟨h6,gs,dr,tk+1,ops⟩) (show IsEnumOut h6 e it ((i:Int)+1) x h0.objs.size from e6) (by simp) fun h7 e7 s7=>?_)
 have k6:aV e h5 h6:=s6
 have k7:aV e h6 h7:=s7
 have on:∀ b o,b≠e->h4.get? b=some o->h7.get? b=some o:=fun b o n q=>k7.extBut b o n (k6.extBut b o n (k5.extBut b o n q))
 exact ac (gd (ai ⟨_,rfl,hQ x h7 e7 (hJ x h4 h7 j4 fun o q=>on it o (cx hne) q) (on _ _ (b5 lt) t4) fun b o b1 b2 q=>on b o b1 (all4 b o b1 b2 q)⟩))
theorem Jc {e:Addr} {old:Value} {J:Value->Heap->Prop} {Q:Option Value->ag->Prop} (he:jC s.heap e it i old) (hne:e≠it)
  (nx:∀ (A:aX) (P:Value->ag->Prop) (E:Value->ag->Prop),(∀ x h1,J x h1->aV it s.heap h1->P x { s with heap:=h1 })->ay (model prog w) A (aN (.ref it)) P E s)
  (hJ:∀ x h1 h2,J x h1->(∀ o,h1.get? it=some o->h2.get? it=some o)->J x h2)
  (hQ:∀ x h',IsEnumOut h' e it ((i:Int)+1) x s.heap.objs.size->J x h'->h'.get? s.heap.objs.size=some { cls:=.type "tuple", data:=.seq #[.int i s.toks,x] } ->
   (∀ b o,b≠e->b≠it->s.heap.get? b=some o->h'.get? b=some o)->Q (some (.ref s.heap.objs.size)) { s with heap:=h',toks:=s.toks+1 }):ay (model prog w) A (fc (.ref e)) Q E s:=by
 have ty:s.TypeIs (.ref e) "enumerate" := ⟨_,he,rfl⟩
 unfold fc
 exact ac (dX (bR (name:=ba "__next__") ty eP (cF eP ty jp (U7 he hne nx hJ fun x h' a b c d=>ai (hQ x h' a b c d)) (iP _))))
theorem Gp {e:Addr} {old:Value} {Q:Option Value->ag->Prop} (hh:A.handled=none) (he:jC s.heap e it i old) (hit:s.heap.IsKeyIter it d i kvs.length ep) (hm:s.heap.DictAt knd d kvs ep) (hx:kvs[i]? = none)
  (hQ:∀ h',lL it s.heap h'->Q none { s with heap:=h' }):ay (model prog w) A (fc (.ref e)) Q E s:=by
 have ty:s.TypeIs (.ref e) "enumerate" := ⟨_,he,rfl⟩
 unfold fc
 refine ac (dX (bR (name:=ba "__next__") ty eP (cF eP ty jp ?_ (iP _))))
 show ay _ _ (l8 (.ref e) 2 >>= fun z=>aN z >>= _) _ _ _
 refine ac (aZ he rfl (x:=.ref it) rfl (ac (G9 hh hit hm hx fun h' x hk ⟨o,ho,hc⟩=>?_)))
 exact ac (fv (T := "StopIteration") (b:=true) ⟨o,ho,hc⟩ ke (ai (hQ _ hk)))
theorem Pq {Q:Value->ag->Prop} (hd:(d==cQ)=false) (hm:s.heap.DictAt knd d kvs ep)
  (h:∀ h',jC h' (s.heap.objs.size+1) s.heap.objs.size 0 .none->h'.IsKeyIter s.heap.objs.size d 0 kvs.length ep->(∀ b o,s.heap.get? b=some o->h'.get? b=some o)->Q (.ref (s.heap.objs.size+1)) { s with heap:=h' }) :
  ay (model prog w) A (call (.type "enumerate") [.ref d]) Q E s:=by
 have g:lj prog w (ar.«enumerate.__new__» ⟨[.type "enumerate", .ref d],[]⟩) (fun _ R s=>s.heap.DictAt knd d kvs ep /\
   R (.ok (.ret (.ref (s.heap.objs.size+1)))) { s with heap:=(s.heap.push { cls:=.type "dict_keyiterator", data:=.fields #[.ref d,.int 0 0,.int kvs.length 0,.int ep 0] }).push { cls:=.type "enumerate", data:=.fields #[.none,.bool false,.ref s.heap.objs.size,dJ 0,.none,.none] } }):=by
  refine .of_wp fun A R s h=>?_
  obtain⟨hp,g,d',tk,os⟩:=s
  obtain⟨hm,h⟩:=h
  have hsub:=sub_enumerate
  obtain⟨o,es,ho,hcl,hdat,q⟩:=id hm
  have hz:(hp.push { cls:=.type "dict_keyiterator", data:=.fields #[.ref d,.int 0 0,.int kvs.length 0,.int ep 0] }).objs.size=hp.objs.size+1:=bE ..
  wp_walk using fb hd hm
  refine wpAny_stack_any fun st=>ai ?_
  have h2:R (.ok (.ret (.ref (hp.push { cls:=.type "dict_keyiterator", data:=.fields #[.ref d,.int 0 0,.int kvs.length 0,.int ep 0] }).objs.size))) ⟨(hp.push { cls:=.type "dict_keyiterator", data:=.fields #[.ref d,.int 0 0,.int kvs.length 0,.int ep 0] }).push { cls:=.type "enumerate", data:=.fields #[.none,.bool false,.ref hp.objs.size,dJ 0,.none,.none] },g,d',tk,os⟩:=by rw [hz];exact h
  split
  ·rename_i c _ _ _ _ _
   cases (c==b_ "enumerate")
   ·wp_walk using fb hd hm
    exact⟨_,rfl,h2⟩
   ·wp_walk using fb hd hm
    exact⟨_,rfl,h2⟩
  ·wp_walk using fb hd hm
   exact⟨_,rfl,h2⟩
 refine callType_newIn F.called_enumerate (by decide) (F.typeCall_enumerate_1 _) (F.newCall_enumerate_1 _) (fun obj=>F.args_object_init_2 obj _) F.entry_enumerate_new g ⟨hm,?_⟩
 have hz:(s.heap.push { cls:=.type "dict_keyiterator", data:=.fields #[.ref d,.int 0 0,.int kvs.length 0,.int ep 0] }).objs.size=s.heap.objs.size+1:=bE ..
 have he:jC ((s.heap.push { cls:=.type "dict_keyiterator", data:=.fields #[.ref d,.int 0 0,.int kvs.length 0,.int ep 0] }).push { cls:=.type "enumerate", data:=.fields #[.none,.bool false,.ref s.heap.objs.size,dJ 0,.none,.none] }) (s.heap.objs.size+1) s.heap.objs.size 0 .none:=hz▸aq _ rfl
 exact⟨⟨_,he,rfl⟩,h _ he ⟨_,ae _ (aq _ rfl),rfl,rfl⟩ fun b o x=>ae _ (ae _ x)⟩
end
end PySem
namespace L2
open PySem PySem.Spec PyProof.Rows
noncomputable def ax3 (p:Addr) (o:Obj) (kvs:List (Key×V)):It:=
  ⟨fun i H=>H p=some (.frz o (.dK kvs))/\i<kvs.length,
   fun i H x H'=>∃ T k v,H T=none/\x=.ref T/\kvs[i]? = some (k,v)/\H'=upd H T (.tup [.int i,kV k]),
   fun i H=>H p=some (.frz o (.dK kvs))/\kvs.length<=i⟩
theorem Se {P:aO} {w:bM} {K:aa} {elts:List Expr} {kt:Nat} {pt:Pos} {e it p:Addr} {o:Obj} {kvs:List (Key×V)} {ep:Nat} (ne:e≠it) (he:Up o ep) :
  J6 P w K (.Tuple elts kt pt) (ax3 p o kvs) [e,it] e (fun i h=>(∃ old,jC h e it (i:Int) old)/\h.IsKeyIter it p i kvs.length ep) where
 mem:=by simp
 obj:=fun i h st b hb=>by
  obtain⟨⟨old,he⟩,⟨o1,e1,c1,d1⟩⟩:=st
  rcases List.mem_cons.mp hb with rfl|hb
  ·exact⟨_,he,fun v q=>nomatch q⟩
  ·rw [List.mem_singleton.mp hb];exact⟨o1,e1,fun v q=>by rw [d1] at q;cases q⟩
 keep:=fun i h h' st k=>let ⟨⟨old,he⟩,h1⟩:=st;⟨⟨old,k e (by simp) _ he⟩,h1.at fun o q=>k it (by simp) o q⟩
 item:=by
  intro X hP hw hK hc i pins s σ H E I hf st hg
  subst hP hw hK
  obtain⟨hH,hi⟩:=hg
  obtain⟨vs,rel,hd,hm⟩:=I.kdict hH he
  obtain⟨⟨k,v⟩,hx⟩:∃ q,kvs[i]? = some q:=⟨kvs[i],by simp [hi]⟩
  obtain⟨u,hu,_⟩:=Ti rel hx
  have hl:kvs.length=vs.length:=rel.length
  obtain⟨⟨old,en⟩,h1⟩:=st
  rw [hl] at h1
  refine Jc en ne (J:=fun x h=>(Ao X.prog X.w).is k x=true/\h.IsKeyIter it p (i+1) vs.length ep) (fun A P E hQ=>Gj h1 hd hu fun key h' a b c=>hQ key h' ⟨a,b⟩ c) (fun x h1 h2 j k=>⟨j.1,j.2.at k⟩) fun key h' a1 ⟨hk,a2⟩ a3 hk'=>?_
  refine⟨_,rfl,hV a1 fun h'' hz' hs'=>?_⟩
  have hT:=I.hok.fresh (af s.heap.objs.size)
  have nT:∀ {b ob},s.heap.get? b=some ob->b≠s.heap.objs.size:=fun q=>aA (au q)
  have up:∀ b ob,b∉[e,it]->s.heap.get? b=some ob->h''.get? b=some ob:=fun b ob hb q=>by
   have b1:b≠e:=by rintro rfl;exact hb (by simp)
   have b2:b≠it:=by rintro rfl;exact hb (by simp)
   exact hs'.extBut b ob b1 (hk' b ob b1 b2 q)
  have Tnew:h''.get? s.heap.objs.size=some { cls:=.type "tuple", data:=.seq #[.int i s.toks,key] }:=hs'.extBut _ _ (cx (nT en)) a3
  have I1:Inv X pins σ (upd H s.heap.objs.size (.tup [.int i,kV k])) { s with heap:=h'',toks:=s.toks+1 }:=
   I.turnedN (t':=s.toks+1) (ch:=[e,it]) (fun b hb=>hf b hb) up (af _) ⟨by show 2<=sizeLine;decide,[.int i s.toks,key],.cons ⟨_,rfl⟩ (.cons (Za hk) .nil),⟨_,Tnew,rfl,_,rfl⟩⟩
  refine⟨.ref s.heap.objs.size,_,I1,rfl,⟨s.heap.objs.size,k,v,hT,rfl,hx,rfl⟩,⟨⟨_,hz'⟩,by rw [hl];exact a2.at fun o q=>hs'.extBut _ o (cx ne) q⟩,fun b hb=>?_⟩
  have q:=(hf b hb).1
  rw [Ae ?_]
  ·exact q
  ·rcases List.mem_cons.mp hb with rfl|hb
   ·exact nT en
   ·rw [List.mem_singleton.mp hb];obtain⟨_,q,_⟩:=h1;exact nT q
 done:=by
  intro X hP hw hK hc i pins s σ H E I hf st hg
  subst hP hw hK
  obtain⟨hH,hi⟩:=hg
  obtain⟨vs,rel,hd,hm⟩:=I.kdict hH he
  have hl:kvs.length=vs.length:=rel.length
  obtain⟨⟨old,en⟩,h1⟩:=st
  rw [hl] at h1
  refine Gp (I.ok.hd hc) en h1 hd (by simp;omega) fun h' hk=>⟨rfl,?_⟩
  refine I.turnedL (t':=s.toks) (ch:=[e,it]) (fun b hb=>hf b hb) fun b o hb q=>hk b o (by rintro rfl;exact hb (by simp)) q
 self:=fun A i s Q E st h=>let ⟨_,he⟩:=st.1;ge he h
theorem Yl {X:Cx} {elts:List Expr} {kt:Nat} {pt:Pos} {pins:List (Addr×Obj)} {σ:St} {H:Hp} {s:ag} {R:It->Hp->Prop} {E:Value->ag->Prop} {p:Addr} {o:Obj} {kvs:List (Key×V)} (I:Inv X pins σ H s) (h:H p=some (.frz o (.dK kvs)))
  (q:R (ax3 p o kvs) H):ay (model X.prog X.w) X.A (call (.type "enumerate") [.ref p]) (fun v s1=>ay (model X.prog X.w) X.A (l9 v) (PIE X pins σ (.Tuple elts kt pt) R) E s1) E s:=by
 have he:∃ ep,Up o ep:=by
  obtain⟨e1,z,y,vs,r,ob,es,ep,e,c,d,_⟩:=I.hok p _ h
  rw [e1] at e;cases e
  exact⟨ep,es,d⟩
 obtain⟨ep,he⟩:=he
 obtain⟨vs,rel,hd,hm⟩:=I.kdict h he
 refine Pq hm hd fun h' en hit hk=>ge en ?_
 refine⟨_,_,_,_,H,rfl,I.kept (t':=s.toks) hk,Se (jh _) he,⟨⟨_,en⟩,by rw [rel.length];exact hit⟩,fun b hb=>?_,q⟩
 have hb:b=s.heap.objs.size+1\/b=s.heap.objs.size:=by simpa using hb
 have le:s.heap.objs.size<=b:=hb.elim (fun e=>e▸aB _ 1) fun e=>e▸af _
 exact I.fpOk le (I.hok.fresh le)
end L2
namespace PySem
open PyProof.Rows
section
variable {κ:Type} [DecidableEq κ]
noncomputable def D1 (xs:List κ):List κ:=xs.foldl (fun σ k=>if σ.any (fun j=>decide (j=k)) then σ else σ++[k]) []
theorem Lf (xs:List κ) (k:κ):D1 (xs++[k])=if (D1 xs).any (fun j=>decide (j=k)) then D1 xs else D1 xs++[k]:=by
 unfold D1
 rw [List.foldl_append]
 rfl
theorem Zm (xs:List κ) (k j:κ):(D1 (xs++[k])).any (fun i=>decide (i=j))=((D1 xs).any (fun i=>decide (i=j))||decide (j=k)):=by
 rw [Lf]
 by_cases h:(D1 xs).any (fun i=>decide (i=k))=true
 ·rw [if_pos h]
  by_cases e:j=k
  ·subst e;rw [h];rfl
  ·simp [e]
 ·rw [if_neg h,List.any_append]
  congr 1
  simp [eq_comm]
theorem On (xs:List κ):(D1 xs).length<=xs.length:=by
 have:∀ (ys acc:List κ),(ys.foldl (fun σ k=>if σ.any (fun j=>decide (j=k)) then σ else σ++[k]) acc).length<=acc.length+ys.length:=by
  intro ys
  induction ys with
  | nil=>intro acc;exact af _
  | cons y ys ih=>
   intro acc
   refine aR (ih _) ?_
   rw [aQ]
   dsimp only
   split
   ·omega
   ·rw [ax,bP];omega
 exact aR (this xs []) (by simp)
end
section
variable {prog:aO} {w:bM} {A:aX} {R:jO->ag->Prop} {I:Addr} {fp wr:List Addr} {G:Array jW->Array jW->Prop} {P:Nat->Value->Prop} {St:Nat->ag->Prop} {κ:Type} [DecidableEq κ] {knd:KeyKind prog w κ} {ks:List κ}
noncomputable abbrev Ea (knd:KeyKind prog w κ) (h:Heap) (S:Addr) (ks:List κ):Prop:=h.SetOf knd S (fun k=>(D1 ks).any (fun j=>decide (j=k))) (D1 ks).length
theorem K3 {h h':Heap} {S:Addr} (x:Ea knd h S ks) (k:∀ o,h.get? S=some o->h'.get? S=some o):Ea knd h' S ks:=
 let ⟨o,es,ep,t,ho,r⟩:=x;⟨o,es,ep,t,k o ho,r⟩
theorem Pc (W:WalksS prog w A.in1 I fp wr G ks.length P St) (S:Addr) (out:S∉fp) (hv:∀ i v,P i v -> ∃ k,ks[i]? = some k/\knd.is k v=true/\v.scannable=true) (few:ks.length+1<scanBound) (left:Nat) :
  ∀ (i:Nat) (s:ag),i+left=ks.length->St i s->Ea knd s.heap S (ks.take i)->(∀ s',Moved (S::wr) G s s'->Ea knd s'.heap S ks->R (.ok (.ret .none)) s') ->
   d4 (model prog w) A (.builtin "set.update.loop" ⟨[.ref S,.ref I],[]⟩) R s:=by
 have outw:S∉wr:=fun z=>out (W.sub _ z)
 have into:∀ b∈wr,b∈S::wr:=fun b z=>.tail _ z
 induction left with
 | zero=>
  intro i s hi st fl hR
  have ei:i=ks.length:=hi
  subst ei
  rw [gv] at fl
  refine bY iQ (bG fI _ ▸ ?_)
  show ay _ A.in1 (fc (.ref I) >>= _) _ _ s
  exact ac (W.done s _ _ st fun s' mv=>ai (hR s' (mv.mono into) (K3 fl fun o e=>mv.heap S o outw e)))
 | succ left ih=>
  intro i s hi st fl hR
  have lt:i<ks.length:=by omega
  refine bY iQ (bG fI _ ▸ ?_)
  show ay _ A.in1 (fc (.ref I) >>= _) _ _ s
  refine ac (W.item i s _ _ lt st fun v s1 pv st1 mv=>?_)
  obtain⟨k,ek,ik,sk⟩:=hv i v pv
  have fl1:Ea knd s1.heap S (ks.take i):=K3 fl fun o e=>mv.heap S o outw e
  have tk:ks.take (i+1)=ks.take i++[k]:=by rw [List.take_succ,ek];rfl
  show ay _ A.in1 (lW [v] (setAdd S v) >>= _) _ _ s1
  refine ac (bb ?_)
  unfold setAdd
  refine bb (ac (knd.pyHash (k:=k) ik ?_))
  have room:(D1 (ks.take i)).length+1<scanBound:=by
   have:=On (ks.take i)
   rw [dN] at this
   omega
  refine wpAny_setAddHashed_of (knd:=knd) (s:={ s1 with toks:=s1.toks+1 }) ik sk fl1 room fun h' sb fl2=>?_
  have fl3:Ea knd h' S (ks.take (i+1)):=by
   have eS:(fun j=>(D1 (ks.take i)).any (fun m=>decide (m=j))||decide (j=k))=fun j=>(D1 (ks.take i++[k])).any (fun m=>decide (m=j)):=funext fun j=>(Zm (ks.take i) k j).symm
   have en:(if (D1 (ks.take i)).any (fun m=>decide (m=k))=true then (D1 (ks.take i)).length else (D1 (ks.take i)).length+1)=(D1 (ks.take i++[k])).length:=by
    rw [Lf];split <;> simp
   rw [tk]
   show h'.SetOf knd S _ _
   rw [<- eS,<- en]
   exact fl2
  refine ai ⟨b9 fI _,ih (i+1) _ (by omega) (W.frame _ s1 _ _ st1 (cG _) fun b hb o e=>?_) fl3 fun s2 mv2 fl4=>?_⟩
  ·exact (sb.2 b fun z=>out (z▸hb)).trans e
  ·exact hR s2 (Moved.trans W.gtrans ((mv.mono into).then_heap (cG _) fun b o hb e=>(sb.2 b fun z=>hb (z▸bC)).trans e) mv2) fl4
end
section
variable {prog:aO} {w:bM} {A:aX} {E:Value->ag->Prop} {s:ag} {κ:Type} [DecidableEq κ] {knd:KeyKind prog w κ} {ks:List κ}
noncomputable abbrev Cl (led:Bool):Obj:={ cls:=.type "set", dict:=none,data:=.set #[] 0 (.fresh 0 0 led) }
theorem Pd {l:Addr} {items:Array Value} {Q:Value->ag->Prop} (hh:A.handled=none) (hl:s.heap.IsList l items) (hv:∀ (i:Nat) (v:Value),items[i]? = some v -> ∃ k,ks[i]? = some k/\knd.is k v=true/\v.scannable=true) (hs:items.size=ks.length) (few:ks.length+1<scanBound)
  (h:∀ (h':Heap) (tk:Nat),Ea knd h' s.heap.objs.size ks->(∀ b o,b<s.heap.objs.size->s.heap.get? b=some o->h'.get? b=some o)->Q (.ref s.heap.objs.size) { s with heap:=h',toks:=tk }) :
  ay (model prog w) A (call (.type "set") [.ref l]) Q E s:=by
 obtain⟨c,tl,hmro⟩:=F.called_set.mro
 have m1:=F.called_set.made
 have m2:=F.called_set.sub
 have m3:=F.called_set.notType
 have m4:=F.called_set.canCreate
 have m5:=F.typeCall_set_1 (.ref l)
 refine eF (jS (show ay _ _ (callAny (.type "set") _) _ _ _ from ai ⟨eL _ (by decide +kernel),bY F.entry_type_call ?_⟩))
 rw [Around.under_plain (weight_type_call_type "set" [.ref l] []) rfl]
 repeat (any_goals (first|assumption|wp_step))
 refine eY (code_set_new_1 (.ref l) (E:=E) (Q₁:=fun obj s₁=>∃ led:Bool,obj=.ref s.heap.objs.size/\s₁={ s with heap:=s.heap.push (Cl led) }) fun led=>⟨led,rfl,rfl⟩) fun r s₁ hr=>?_
 cases r with
 | error e=>exact hr
 | ok fl=>
  cases fl with
  | ret obj=>
   obtain⟨led,rfl,rfl⟩:=hr
   have new:(s.heap.push (Cl led)).get? s.heap.objs.size=some (Cl led):=aq _ rfl
   have ty:iZ { s with heap:=s.heap.push (Cl led) } (.ref s.heap.objs.size) "set" := ⟨_,new,rfl⟩
   have m6:=F.called_set.init.lookup
   have m7:=F.called_set.init.bind (.ref s.heap.objs.size)
   repeat (any_goals (first|assumption|wp_step))
   refine eY (dz (R:=wants (fun r s₂=>r=.none /\ ∃ h' tk,s₂={ s with heap:=h',toks:=tk }/\Ea knd h' s.heap.objs.size ks/\(∀ b o,b<s.heap.objs.size->s.heap.get? b=some o->h'.get? b=some o)) E) F.called_set.init.plain F.entry_set_init (check_set_init_1 ty ?_)) fun r2 s2 hr2=>?_
   ·obtain⟨⟨oc,odict,od,osl⟩,ol,hc,n,hd⟩:=hl
    simp only at hc hd
    subst hc;subst hd
    have lt:l<s.heap.objs.size:=au ol
    have ol2:(s.heap.push (Cl led)).get? l=some { cls:=.type "list", dict:=odict,data:=.seq items n,slots:=osl }:=ae _ ol
    have m8:=F.sub_list_set
    have m9:=F.sub_list_frozenset
    have m10:(b_ "list" == b_ "dict")=false:=by decide
    have isl:(s.heap.push (Cl led)).IsList l items:=⟨_,ol2,rfl,n,rfl⟩
    have size:(s.heap.push (Cl led)).objs.size=s.heap.objs.size+1:=bE ..
    unfold ar.«set.__init__» noKeywords Builtin.Frozenset.updateFrom
    generalize hPI:l9=PI
    wp_walk
    subst hPI
    refine gf isl (ac (wpAny_runValue ?_))
    have quiet:A.in1.in1.in1.handled=none:=by simp [hh]
    have ne1:l≠(s.heap.push (Cl led)).objs.size:=size▸aA (bV lt)
    have out:s.heap.objs.size∉[(s.heap.push (Cl led)).objs.size,l]:=by
     simp only [size,aC,bT,or_false,not_or]
     exact⟨aA (cm _),b5 lt⟩
    have W:=(Walks.list (prog:=prog) (w:=w) quiet (s.heap.push (Cl led)).objs.size l ne1 items).toS
    rw [hs] at W
    refine Pc (ks:=ks) W s.heap.objs.size out hv few ks.length 0 _ (jI _) ⟨⟨_,aq _ rfl,rfl,rfl⟩,isl.push _⟩ ?_ fun s' mv fl=>?_
    ·exact (setObjOf_fresh (knd:=knd) led).setOf (ae _ new) (by unfold scanBound;omega)
    ·obtain⟨h',g',d',tk',os'⟩:=s'
     have e1:g'=s.gens:=mv.gens
     have e2:d'=s.drawn:=mv.drawn
     have e3:os'=s.os:=mv.os
     subst e1;subst e2;subst e3
     refine (show ay _ _ _ _ _ _ from ai (show ay _ _ (ret be) _ _ _ from ai ⟨rfl,h',tk',rfl,fl,fun b o hb e=>?_⟩))
     refine mv.heap b o ?_ (ae _ (ae _ e))
     simp only [size,aC,bT,or_false,not_or]
     exact⟨aA hb,aA (bV hb)⟩
   ·cases r2 with
    | error e=>exact hr2
    | ok f2=>
     cases f2 with
     | ret r=>
      obtain⟨rfl,h',tk,rfl,fl,kept⟩:=hr2
      repeat (any_goals (first|assumption|wp_step))
      exact h _ _ fl kept
     | _=>exact hr2.elim
  | _=>exact hr.elim
end
end PySem
namespace L2
open PySem PySem.Spec PyProof.Rows
section
variable {X:Cx} {e:Expr} {de:DE} {p p2 pos pos2:Pos}
noncomputable def Mw (K:aa):V->Hp->VK->Prop:=fun x H Q=>match x with
 | .ref l=>∃ ys:List Str,SqL K H l (ys.map V.str)/\ys.length<30/\Q (.int (D1 ys).length) H
 | _=>False
theorem Ud:∀ {ys:List Str} {us:List Value} {i:Nat} {v:Value},Vals (ys.map V.str) us->us[i]? = some v -> ∃ k t,ys[i]? = some k/\v=.str k t
 | [],_,i,v,r,e=>by rw [eU] at r;cases r;simp at e
 | y::ys,_,i,v,r,e=>by
  rw [aS] at r
  cases r with
  | cons r1 r2=>
   obtain⟨t,rfl⟩:=r1
   cases i with
   | zero=>simp only [cN,f7] at e;exact⟨y,t,rfl,e.symm⟩
   | succ i=>simp only [bA] at e ⊢;exact Ud r2 e
theorem ak2 {pins:List (Addr×Obj)} {σ:St} {H:Hp} {s:ag} {x:V} {u:Value} {Q:VK} (hc:X.calm=true) (I:Inv X pins σ H s) (rx:RelV x u) (h:Mw X.K x H Q) :
  ay (model X.prog X.w) X.A (call (.type "set") [u]) (fun v s1=>ay (model X.prog X.w) X.A (call (.builtin "len") [v]) (EP X pins σ Q) X.xe s1) X.xe s:=by
 cases x with
 | ref l=>
  cases rx
  obtain⟨ys,hq,few,q⟩:=h
  obtain⟨its,rv,pl,hz⟩:=I.list hq
  have hl:its.length=ys.length:=by rw [<- rv.length,al]
  refine bh (af _) (Pd (knd:=PySem.strKind X.prog X.w) (ks:=ys) (I.ok.hd hc) pl.isList (fun i v e=>?_) (by simpa using hl) (by unfold scanBound;omega) fun h' tk fl kept htk=>?_)
  ·obtain⟨k,t,ek,rfl⟩:=Ud rv (by simpa using e)
   exact⟨k,ek,by show gH k (.str k t)=true;simp [gH],rfl⟩
  ·have I1:Inv X pins σ H { s with heap:=h',toks:=tk }:=I.kept (t':=tk) fun b o e=>kept b o (au e) e
   obtain⟨o,es,ep,t,ho,hex,hd,hel,hmem,hb,hf,hn⟩:=fl
   refine call_len_set ho hex hd hf ?_ ?_
   ·have:=On ys
    rw [hn];omega
   ·rw [hn]
    exact⟨.int _,H,I1.tok _,⟨_,rfl⟩,q⟩
 | _=>exact (show False from h).elim
end
end L2
namespace PySem
open PyProof.Rows
section
variable {prog:aO} {w:bM} {A:aX} {E:Value->ag->Prop} {s:ag} {κ:Type} [DecidableEq κ] {knd:KeyKind prog w κ} {d it:Addr} {ep i:Nat} {kvs:List (κ×Value)}
noncomputable def ItemsAt (h:Heap) (it d:Addr) (i n ep:Nat):Prop:=
 ∃ f0 f1 k v,h.get? it=some { cls:=.type "dict_itemiterator", dict:=none,data:=.fields #[f0,f1,.ref d,.int i 0,.int n 0,.int ep 0,k,v],slots:=#[] }/\(f0=.none \/ ∃ a:Nat,f0=dJ a/\a≠it /\ ∃ o,h.get? a=some o)
theorem ItemsAt.on {h h':Heap} {n:Nat} (x:ItemsAt h it d i n ep) (k:∀ o,h.get? it=some o->h'.get? it=some o) (t:∀ b o,h.get? b=some o -> ∃ o',h'.get? b=some o'):ItemsAt h' it d i n ep:=
 let ⟨f0,f1,a,b,e,r⟩:=x;⟨f0,f1,a,b,k _ e,r.imp id fun⟨c,e,n,o,q⟩=>⟨c,e,n,t c o q⟩⟩
theorem Qc {k:κ} {v:Value} {Q:Option Value->ag->Prop} (hit:ItemsAt s.heap it d i kvs.length ep) (hm:s.heap.DictAt knd d kvs ep) (hx:kvs[i]? = some (k,v))
  (hQ:∀ key h',knd.is k key=true->ItemsAt h' it d (i+1) kvs.length ep->h'.get? s.heap.objs.size=some { cls:=.type "tuple", data:=.seq #[key,v] } ->
   (∀ b o,b≠it->s.heap.get? b=some o->h'.get? b=some o)->Q (some (.ref s.heap.objs.size)) { s with heap:=h' }):ay (model prog w) A (fc (.ref it)) Q E s:=by
 obtain⟨f0,f1,ok,ov,ei,hf0⟩:=hit
 obtain⟨h0,gs,dr,tk,ops⟩:=s
 obtain⟨od,es,ed,_,dd,_,pr,_⟩:=id hm
 have lt:i<kvs.length:=by
  rcases jH i kvs.length with h|h
  ·exact h
  ·simp [dg h] at hx
 have size:es.size=kvs.length:=pr.length▸(by simp)
 have lt2:i<es.size:=size▸lt
 obtain⟨isk,isv⟩:=pr.get? (e:=es[i]) (by simp [lt2]) hx
 have ty:iZ ⟨h0,gs,dr,tk,ops⟩ (.ref it) "dict_itemiterator" := ⟨_,ei,rfl⟩
 have own:eK "dict_itemiterator" = true:=by decide
 have noNone:¬ ((aH d==be)=true):=aj
 have nx:¬ ((i:Int)<0):=by omega
 unfold fc
 refine ac (dX (bR (name:=ba "__next__") ty dv (cF dv ty gj ?_ (fZ _))))
 refine ac (ai (ac (ac ?_)))
 first|refine ac (dq ty (ai (ac (fu ei rfl ?_))))|refine ac (d5 ty (ai (ac (fu ei rfl ?_))))
 simp only [own,if_true]
 show ay _ _ (if (aH d==be)=true then _ else _) _ _ _
 rw [if_neg noNone]
 refine ac (ai (ac (gc ed dd ?_)))
 rw [if_neg (show ¬ _ by rw [size];simp)]
 refine ac (ai (ac (jU ed dd ?_)))
 rw [if_neg (show ¬ _ by simp)]
 refine ai ?_
 simp only [nx,if_false,bt,ie lt2]
 refine ac ?_
 first|refine ac (dq ty (ai (ac (eJ ty ?_))))|refine ac (d5 ty (ai (ac (eJ ty ?_))))
 show ay _ _ (i9 (.ref it) 3 (dJ ((i:Int)+1)) >>= _) _ _ ⟨h0,gs,dr,tk,ops⟩
 refine ac (br ei (by simp) fun h1 e1 s1=>?_)
 have k1:aV it h0 h1:=s1
 have e1:h1.get? it=some { cls:=.type "dict_itemiterator", dict:=none,data:=.fields #[f0,f1,.ref d,.int (i+1:Nat) 0,.int kvs.length 0,.int ep 0,ok,ov],slots:=#[] }:=by
  have e:((i+1:Nat):Int)=(i:Int)+1:=by omega
  rw [e];simpa [dJ] using e1
 have ty1:iZ ⟨h1,gs,dr,tk,ops⟩ (.ref it) "dict_itemiterator" := ⟨_,e1,rfl⟩
 refine ac (bb (ac (eJ (s:=⟨h1,gs,dr,tk,ops⟩) ty1 (ac (eJ (s:=⟨h1,gs,dr,tk,ops⟩) ty1 ?_)))))
 show ay _ _ (fS (.ref it) 6 es[i].key es[i].val) _ _ ⟨h1,gs,dr,tk,ops⟩
 unfold fS
 refine ac (gh ?_)
 have up:∃ h2:Heap,h2=h1.push { cls:=.type "tuple", data:=.seq #[es[i].key,es[i].val] }:=⟨_,rfl⟩
 obtain⟨h2,eh2⟩:=up
 rw [<- eh2,show h1.objs.size=h0.objs.size from k1.1]
 have e2:=ae { cls:=.type "tuple", data:=.seq #[es[i].key,es[i].val] } e1
 have t2:h2.get? h0.objs.size=some { cls:=.type "tuple", data:=.seq #[es[i].key,v] }:=by rw [eh2,<- isv,<- show h1.objs.size=h0.objs.size from k1.1];exact aq _ rfl
 have all2:∀ b o,b≠it->h0.get? b=some o->h2.get? b=some o:=fun b o hb e=>by rw [eh2];exact ae _ (k1.extBut b o hb e)
 rw [<- eh2] at e2
 have lti:it<h0.objs.size:=au ei
 have ne:h0.objs.size≠it:=b5 lti
 refine ac ?_
 unfold Builtin.Dict_items.ownedTupleIsFree
 refine ac (aZ (s:=⟨h2,gs,dr,tk,ops⟩) e2 rfl (x:=f0) rfl ?_)
 rcases hf0 with rfl|⟨a,rfl,na,oa,ea⟩
 ·refine ai ?_
  simp only [if_true]
  refine ac (aZ (s:=⟨h2,gs,dr,tk,ops⟩) e2 rfl (x:=ok) rfl (ac (aZ (s:=⟨h2,gs,dr,tk,ops⟩) e2 rfl (x:=ov) rfl ?_)))
  refine ac (br (s:=⟨h2,gs,dr,tk,ops⟩) e2 (by simp) fun h3 e3 s3=>ac (br (s:=⟨h3,gs,dr,tk,ops⟩) e3 (by simp) fun h4 e4 s4=>?_))
  refine ac (br (s:=⟨h4,gs,dr,tk,ops⟩) e4 (by simp) fun h5 e5 s5=>ac (br (s:=⟨h5,gs,dr,tk,ops⟩) e5 (by simp) fun h6 e6 s6=>?_))
  have on:∀ b o,b≠it->h2.get? b=some o->h6.get? b=some o:=fun b o n q=>s6.extBut b o n (s5.extBut b o n (s4.extBut b o n (s3.extBut b o n q)))
  refine ac (gd (ai (ai ⟨_,rfl,ai (hQ es[i].key h6 isk ?_ (on _ _ ne t2) fun b o n q=>on b o n (all2 b o n q))⟩)))
  exact⟨dJ h0.objs.size,_,_,_,e6,.inr ⟨_,rfl,ne,_,on _ _ ne t2⟩⟩
 ·show ay _ _ (loadIfAlive (a:Int).toNat >>= _) _ _ ⟨h2,gs,dr,tk,ops⟩
  have a2:h2.get? a=some oa:=all2 a oa na ea
  have la:∀ {α:Type} {k:Option Obj->Sem α} {Q':α->ag->Prop} {E':Value->ag->Prop},ay (model prog w) A.in1 (k (some oa)) Q' E' ⟨h2,gs,dr,tk,ops⟩->ay (model prog w) A.in1 (loadIfAlive (a:Int).toNat >>= k) Q' E' ⟨h2,gs,dr,tk,ops⟩:=fun {α k Q' E'} h Γ p hΓ=>by
   have z:=h Γ p hΓ
   show Sem.wp _ _ (Sem.loadIfAlive (a:Int).toNat fun x=>k x) _ _ _ _
   rw [kK]
   rw [bt]
   rw [show (lR ⟨h2,gs,dr,tk,ops⟩).get? a=some oa from a2]
   exact z
  refine la ?_
  simp only [h_,bz,if_false]
  refine ac (aZ (s:=⟨h2,gs,dr,tk,ops⟩) e2 rfl (x:=f1) rfl ?_)
  have fin:∀ h3:Heap,(∀ b o,b≠it->h2.get? b=some o->h3.get? b=some o)->ItemsAt h3 it d (i+1) kvs.length ep->Q (some (.ref h0.objs.size)) ⟨h3,gs,dr,tk,ops⟩:=fun h3 on at3=>hQ es[i].key h3 isk at3 (on _ _ ne t2) fun b o n q=>on b o n (all2 b o n q)
  by_cases c:(f1 != eE true)=true
  ·rw [if_pos c]
   refine ac (br (s:=⟨h2,gs,dr,tk,ops⟩) e2 (by simp) fun h3 e3 s3=>ai ?_)
   simp only [bz,if_false]
   exact ai (ai ⟨_,rfl,ai (fin h3 (fun b o n q=>s3.extBut b o n q) ⟨_,_,_,_,e3,.inr ⟨a,rfl,na,oa,s3.extBut _ _ na a2⟩⟩)⟩)
  ·rw [if_neg c]
   refine ai ?_
   simp only [bz,if_false]
   exact ai (ai ⟨_,rfl,ai (fin h2 (fun b o n q=>q) ⟨_,_,_,_,e2,.inr ⟨a,rfl,na,oa,a2⟩⟩)⟩)
theorem Vl {Q:Option Value->ag->Prop} (hh:A.handled=none) (hit:ItemsAt s.heap it d i kvs.length ep) (hm:s.heap.DictAt knd d kvs ep) (hx:kvs[i]? = none)
  (hQ:∀ h',lL it s.heap h'->Q none { s with heap:=h' }):ay (model prog w) A (fc (.ref it)) Q E s:=by
 obtain⟨f0,f1,ok,ov,ei,_⟩:=hit
 obtain⟨od,es,ed,_,dd,_,pr,_⟩:=id hm
 have size:es.size=kvs.length:=pr.length▸(by simp)
 have past:es.size<=i:=by rw [size];simpa using hx
 have ty:s.TypeIs (.ref it) "dict_itemiterator" := ⟨_,ei,rfl⟩
 have own:eK "dict_itemiterator" = true:=by decide
 have noNone:¬ ((aH d==be)=true):=aj
 have nx:¬ ((i:Int)<0):=by omega
 unfold fc
 refine ac (dX (bR (name:=ba "__next__") ty dv (cF dv ty gj ?_ (fZ _))))
 refine ac (ai (ac (ac ?_)))
 first|refine ac (dq ty (ai (ac (fu ei rfl ?_))))|refine ac (d5 ty (ai (ac (fu ei rfl ?_))))
 simp only [own,if_true]
 show ay _ _ (if (aH d==be)=true then _ else _) _ _ s
 rw [if_neg noNone]
 refine ac (ai (ac (gc ed dd ?_)))
 rw [if_neg (show ¬ _ by rw [size];simp)]
 refine ac (ai (ac (jU ed dd ?_)))
 rw [if_neg (show ¬ _ by simp)]
 refine ai ?_
 simp only [nx,if_false,bt,jo past]
 refine ac ?_
 first|refine ac (dq ty (ai ?_))|refine ac (d5 ty (ai ?_))
 show ay _ _ (i9 (.ref it) 2 .none >>= fun _=>newExc (.type "StopIteration") [] >>= _) _ _ s
 refine ac (eG ei rfl (by simp) (ac ?_))
 simp only [newExc,newTuple]
 refine ac (cv (ac (m:=ir _ _) (l6 (a:=be) (by first|rfl|(simp only [ir];rfl)) (cv ?_ (by size_fits)))) (by size_fits))
 simp only [ml]
 refine ac (k8 ?_)
 rw [show A.in1.handled=none from hh]
 refine ac (ai (kF ?_))
 exact ac (fv (T := "StopIteration") (b:=true) ⟨_,aq _ rfl,rfl⟩ ke (ai (hQ _ (((cb ..).extBut.push _).push _))))
end
end PySem
namespace L2
open PySem PySem.Spec PyProof.Rows
noncomputable abbrev Kn (H H':Hp):Prop:=∀ b o,H b=some o->H' b=some o
section
variable {X:Cx} {pins:List (Addr×Obj)} {σ:St} {A:aX} {E:Value->ag->Prop} {R:jO->ag->Prop} {p it S:Addr} {ep:Nat} {kvs:List (Key×V)} {vs:List (Key×Value)} {res:Value}
noncomputable def Laid (H0 H:Hp) (kvs:List (Key×V)) (Ts:List Addr):Prop:=∀ (j:Nat) k v T,kvs[j]? = some (k,v)->Ts[j]? = some T->H0 T=none/\H T=some (.tup [kV k,v])
theorem Qb (H0:Hp) (rel:KV kvs vs) (hh:A.handled=none) (small:vs.length<sizeLine) (n1:it≠S) (n2:p≠it) (n3:p≠S) (left:Nat) :
  ∀ (i:Nat) (s:ag) (H:Hp) (Ts:List Addr),i+left=vs.length->Inv X pins σ H s->Cy X pins H it->(∀ b o,b≠S->H0 b=some o->H b=some o)->H S=some (.lst (Ts.map V.ref))->H0 S=none->ItemsAt s.heap it p i vs.length ep->s.heap.DictAt (Ao X.prog X.w) p vs ep->Ts.length=i ->
   Laid H0 H kvs Ts->(∀ s' H' Ts',Inv X pins σ H' s'->Kn H0 H'->H' S=some (.lst (Ts'.map V.ref))->Ts'.length=vs.length->Laid H0 H' kvs Ts'->R (.ok (.ret res)) s') ->
   d4 (model X.prog X.w) A (.builtin "list.extend.loop" ⟨[.ref S,.ref it,res],[]⟩) R s:=by
 induction left with
 | zero=>
  intro i s H Ts hi I fp top hS h0 at1 hd hl laid hR
  refine bY fz (bG cD _ ▸ ?_)
  show ay _ A.in1 (fc (.ref it) >>= _) _ _ s
  obtain⟨f0,f1,f2,f3,f4,f5⟩:=fp
  refine ac (Vl hh at1 hd (by simp;omega) fun h' ext=>ai (hR _ H Ts (I.turned (t':=s.toks) (fun b o hb e=>ext b o hb e) f0 f1 f3 f4 f5) (fun b o e=>top b o (fun z=>by rw [z,h0] at e;cases e) e) hS (by omega) laid))
 | succ left ih=>
  intro i s H Ts hi I fp top hS h0 at1 hd hl laid hR
  have lt:i<kvs.length:=by rw [rel.length];omega
  obtain⟨⟨k,v⟩,hx⟩:∃ q,kvs[i]? = some q:=⟨kvs[i],by simp [lt]⟩
  obtain⟨u,hu,ru⟩:=Ti rel hx
  refine bY fz (bG cD _ ▸ ?_)
  show ay _ A.in1 (fc (.ref it) >>= _) _ _ s
  refine ac (Qc at1 hd hu fun key h' isk at2 t2 all2=>?_)
  have fresh:H s.heap.objs.size=none:=I.hok.fresh (af _)
  have ltS:S<s.heap.objs.size:=(I.hok S _ hS).lt
  have lti:it<s.heap.objs.size:=by obtain⟨_,_,_,_,e,_⟩:=at1;exact au e
  have I1:Inv X pins σ (upd H s.heap.objs.size (.tup [kV k,v])) { s with heap:=h' }:=
   I.turnedN (t':=s.toks) (ch:=[it]) (fun b hb=>by rw [List.mem_singleton.mp hb];exact fp) (fun b o hb e=>all2 b o (fun z=>hb (by simp [z])) e) (af _) ⟨by show 2<=sizeLine;decide,[key,u],.cons (Za isk) (.cons ru .nil),⟨_,t2,rfl,_,rfl⟩⟩
  have S1:upd H s.heap.objs.size (.tup [kV k,v]) S=some (.lst (Ts.map V.ref)):=by rw [Ae (aA ltS)];exact hS
  obtain⟨its,n,r,ho,hz⟩:=I1.lst S1
  have li:its.length=i:=by rw [<- r.length,al];exact hl
  show ay _ A.in1 (fq S (·.push (.ref s.heap.objs.size)) >>= _) _ _ { s with heap:=h' }
  refine ac ?_
  refine cE ho rfl (ai ⟨b9 cD _,?_⟩) (by rw [am,li];omega) (by show (its.toArray.push _).size<=sizeLine+1;rw [Array.size_push,am,li];omega)
  have I2:=I1.lset (t':=s.toks) (f:=fun z=>z.push (.ref s.heap.objs.size)) (its':=its++[.ref s.heap.objs.size]) (ys:=(Ts++[s.heap.objs.size]).map V.ref) S1 ho (by simp) (by rw [bx];exact r.append (.cons rfl .nil)) (by rw [al,ax,bP,hl];omega)
  have nS:∀ b,b≠S->(h'.update S (bu fun z=>z.push (.ref s.heap.objs.size))).get? b=h'.get? b:=fun b n=>aG _ _ (cx n)
  refine ih (i+1) _ _ (Ts++[s.heap.objs.size]) (by omega) I2 ?_ (fun b o n e=>?_) Ad h0 (at2.on (fun o e=>(nS it n1).trans e) fun b o e=>?_) ?_ (by rw [ax,bP,hl]) (fun j k' v' T e1 e2=>?_) hR
  ·obtain⟨f0,f1,f2,f3,f4,f5⟩:=fp
   exact⟨by rw [Ae n1,Ae (aA lti)];exact f0,f1,f2,f3,f4,f5⟩
  ·rw [Ae n,Ae (Ak (top b o n e) fresh)];exact top b o n e
  ·by_cases z:b=S
   ·subst z;exact⟨_,aL _ e (by rw [ho] at e;cases e;rfl)⟩
   ·exact⟨o,(nS b z).trans e⟩
  ·obtain⟨od,es,ed,q⟩:=hd
   exact⟨od,es,(nS p n3).trans (all2 p od n2 ed),q⟩
  ·by_cases hj:j<Ts.length
   ·rw [c9 hj] at e2
    obtain⟨q1,q2⟩:=laid j k' v' T e1 e2
    refine⟨q1,?_⟩
    have nT:T≠S:=fun z=>by rw [z,hS] at q2;cases q2
    rw [Ae nT,Ae (Ak q2 fresh)];exact q2
   ·have hj2:j=i:=by
     have:j<(Ts++[s.heap.objs.size]).length:=by
      rcases jH j (Ts++[s.heap.objs.size]).length with h|h
      ·exact h
      ·rw [dg h] at e2;cases e2
     rw [ax,bP] at this
     omega
    subst hj2
    rw [cw (by omega),hl,lB] at e2
    cases e2
    rw [hx] at e1
    cases e1
    refine⟨?_,by rw [Ae (b5 ltS)];exact Ad⟩
    cases q:H0 s.heap.objs.size with
    | none=>rfl
    | some o=>exact absurd (top _ o (b5 ltS) q) (by rw [fresh];intro z;cases z)
end
section
variable {X:Cx} {pins:List (Addr×Obj)} {σ:St} {A:aX} {E:Value->ag->Prop}
theorem P9 {s:ag} {r:Addr} {Q:Bool->ag->Prop} {prog:aO} {w:bM} (ty:s.TypeIs (.ref r) "dict_items") (h:Q false s):ay (model prog w) A (bU (.ref r)) Q E s:=by
 unfold bU
 refine ac (fR ty PySem.F.slot_dict_items_len.lookup ?_)
 generalize eid:("dict_items.__len__" : String)=name
 wp_delta
 rw [show splitId name=some ("dict_items", "__len__") from eid▸by decide +kernel]
 subst eid
 refine ac (fv (T := "dict_items") (b:=true) ty (by rw [isSubtype_type];kernel_rfl) (cg (fun z=>absurd z (by decide)) fun _=>cg (fun _=>ac (ic ty (ai h))) fun z=>absurd (by decide +kernel) z))
theorem Qg {H:Hp} {s:ag} {p:Addr} {kvs:List (Key×V)} {Q:Value->ag->Prop} (hc:X.calm=true) (I:Inv X pins σ H s) (e:Rd H p (.dK kvs)) (few:kvs.length<1000)
  (h:∀ l Ts H' s',Inv X pins σ H' s'->Kn H H'->H l=none->H' l=some (.lst (Ts.map V.ref))->Ts.length=kvs.length->Laid H H' kvs Ts->Q (.ref l) s') :
  ay (model X.prog X.w) X.A (call (.builtin "dict.items") [.ref p]) (fun v s1=>ay (model X.prog X.w) X.A (call (.type "list") [v]) Q X.xe s1) X.xe s:=by
 obtain⟨z,lo,vs,rel,dof⟩:=Cs I.hok e
 obtain⟨ep,dat⟩:=dof.dictAt
 have lp:p<s.heap.objs.size:=dat.lt_size
 refine dW iW dof.typeIs PySem.F.entry_dict_items (PySem.F.args_dict_items_1 _) (meets_dict_items _ p lo) ⟨⟨vs,dof⟩,?_⟩
 have zv:(s.heap.push { cls:=.type "dict_items", data:=.fields #[.ref p] }).objs.size=s.heap.objs.size+1:=bE ..
 have view:(s.heap.push { cls:=.type "dict_items", data:=.fields #[.ref p] }).get? s.heap.objs.size=some { cls:=.type "dict_items", data:=.fields #[.ref p] }:=aq _ rfl
 have on1:∀ b o,s.heap.get? b=some o->(s.heap.push { cls:=.type "dict_items", data:=.fields #[.ref p] }).get? b=some o:=fun b o q=>ae _ q
 generalize s.heap.push { cls:=.type "dict_items", data:=.fields #[.ref p] }=h1 at zv view on1 ⊢
 refine j9 (s:={ s with heap:=h1 }) (Q₁:=fun obj s2=>obj=.ref (s.heap.objs.size+1)/\s2={ s with heap:=h1.push { cls:=.type "list", data:=.seq #[] } }) gU (fN _) fL
  (kU _ ⟨by show aH h1.objs.size=_;rw [zv],rfl⟩) fun obj s2 hs=>?_
 obtain⟨rfl,rfl⟩:=hs
 have S2:(h1.push { cls:=.type "list", data:=.seq #[] }).get? (s.heap.objs.size+1)=some { cls:=.type "list", data:=.seq #[] }:=zv▸aq _ rfl
 have z2:(h1.push { cls:=.type "list", data:=.seq #[] }).objs.size=s.heap.objs.size+2:=by rw [bE,zv]
 have view2:=ae { cls:=.type "list", data:=.seq #[] } view
 have on2:∀ b o,s.heap.get? b=some o->(h1.push { cls:=.type "list", data:=.seq #[] }).get? b=some o:=fun b o q=>ae _ (on1 b o q)
 generalize h1.push { cls:=.type "list", data:=.seq #[] }=h2 at S2 z2 view2 on2 ⊢
 refine⟨⟨_,S2,rfl⟩,fD _ _,?_⟩
 show ay _ _ (do let old <- cV (.ref (s.heap.objs.size+1));fG (.ref (s.heap.objs.size+1)) (fun _=>#[]);letGo old.toList.reverse;bB (.ref (s.heap.objs.size+1)) (.ref s.heap.objs.size) .none) _ _ { s with heap:=h2 }
 refine ac ?_
 unfold cV
 refine ac (df (s:={ s with heap:=h2 }) S2 rfl (ai ?_))
 show ay _ _ (fq (s.heap.objs.size+1) (fun _=>#[]) >>= fun _=>letGo (#[]:Array Value).toList.reverse >>= fun _=>bB (.ref (s.heap.objs.size+1)) (.ref s.heap.objs.size) .none) _ _ { s with heap:=h2 }
 refine ac (cE (s:={ s with heap:=h2 }) S2 rfl (ac (gd ?_)))
 have S3:∃ c,(h2.update (s.heap.objs.size+1) (bu (fun _=>(#[]:Array Value)))).get? (s.heap.objs.size+1)=some { cls:=.type "list", data:=.seq #[] c }:=⟨_,aL _ S2 rfl⟩
 have o3:∀ b o,b≠s.heap.objs.size+1->h2.get? b=some o->(h2.update (s.heap.objs.size+1) (bu (fun _=>(#[]:Array Value)))).get? b=some o:=fun b o n q=>(aG _ _ (cx n)).trans q
 have z3:(h2.update (s.heap.objs.size+1) (bu (fun _=>(#[]:Array Value)))).objs.size=s.heap.objs.size+2:=by rw [(cb ..).1,z2]
 generalize h2.update (s.heap.objs.size+1) (bu (fun _=>(#[]:Array Value)))=h3 at S3 o3 z3 ⊢
 obtain⟨c3,S3⟩:=S3
 have view3:h3.get? s.heap.objs.size=some { cls:=.type "dict_items", data:=.fields #[.ref p] }:=o3 _ _ (aA (cm _)) view2
 have on3:∀ b o,s.heap.get? b=some o->h3.get? b=some o:=fun b o q=>o3 b o (aA (bV (au q))) (on2 b o q)
 have isv:Heap.IsItemsView h3 s.heap.objs.size p:=⟨_,view3,rfl,rfl⟩
 have dat3:h3.DictAt (Ao X.prog X.w) p vs ep:=dat.keep on3
 unfold bB
 refine ac (ic (s:={ s with heap:=h3 }) (T := "dict_items") isv.typeIs ?_)
 have t1:cI (.ref (s.heap.objs.size+1)) (.ref s.heap.objs.size)=false:=by simp [cI]
 have t2:(b_ "dict_items" == b_ "list")=false:=by decide
 have t3:(b_ "dict_items" == b_ "tuple")=false:=by decide
 simp only [t1,t2,t3,gB,bz,if_false]
 refine ac (wpAny_pyIter_items (s:={ s with heap:=h3 }) isv dat3 ?_)
 have it4:(h3.push { cls:=.type "dict_itemiterator", data:=.fields #[.none,.bool false,.ref p,.int 0 0,.int vs.length 0,.int ep 0,.none,.none] }).get? (s.heap.objs.size+2)=some { cls:=.type "dict_itemiterator", data:=.fields #[.none,.bool false,.ref p,.int 0 0,.int vs.length 0,.int ep 0,.none,.none] }:=z3▸aq _ rfl
 have o4:∀ b o,h3.get? b=some o->(h3.push { cls:=.type "dict_itemiterator", data:=.fields #[.none,.bool false,.ref p,.int 0 0,.int vs.length 0,.int ep 0,.none,.none] }).get? b=some o:=fun b o q=>ae _ q
 show ay _ _ (lW [.ref h3.objs.size] (bU (.ref s.heap.objs.size)) >>= _) _ _ { s with heap:=h3.push _ }
 rw [z3]
 generalize h3.push { cls:=.type "dict_itemiterator", data:=.fields #[.none,.bool false,.ref p,.int 0 0,.int vs.length 0,.int ep 0,.none,.none] }=h4 at it4 o4 ⊢
 refine ac (bb (P9 (s:={ s with heap:=h4 }) ⟨_,o4 _ _ view3,rfl⟩ ?_))
 have S4:=o4 _ _ S3
 have loop:∀ (h:Heap) (c tk:Nat),s.toks<=tk->(∀ b o,b≠s.heap.objs.size+1->h4.get? b=some o->h.get? b=some o)->h.get? (s.heap.objs.size+1)=some { cls:=.type "list", data:=.seq #[] c } ->
   d4 (model X.prog X.w) X.A.in1 (.builtin "list.extend.loop" ⟨[.ref (s.heap.objs.size+1),.ref (s.heap.objs.size+2),.none],[]⟩) (wants (fun r s₂=>r=.none/\Q (.ref (s.heap.objs.size+1)) s₂) X.xe) { s with heap:=h,toks:=tk }:=by
  intro hh c tk htk k5 S5
  have on5:∀ b o,s.heap.get? b=some o->hh.get? b=some o:=fun b o q=>k5 b o (aA (bV (au q))) (o4 b o (on3 b o q))
  have fr:H (s.heap.objs.size+1)=none:=I.hok.fresh (aB _ 1)
  have I5:Inv X pins σ (upd H (s.heap.objs.size+1) (.lst [])) { s with heap:=hh,toks:=tk }:=I.laid (t':=tk) on5 (aB _ 1) ⟨bJ _,[],c,.nil,S5⟩
  have ni:s.heap.objs.size+2≠s.heap.objs.size+1:=by omega
  refine Qb (X:=X) (pins:=pins) (σ:=σ) (A:=X.A.in1) (kvs:=kvs) (ep:=ep) H rel (by simp [I.ok.hd hc]) (by rw [<- rel.length,bL];omega) ni (aA (av lp (aB _ 2))) (aA (bV lp)) vs.length 0 _ _ [] (jI _) I5
   (I.fpOk (aB _ 2) (by rw [Ae ni];exact I.hok.fresh (aB _ 2))) (fun b o n q=>by rw [Ae n];exact q) Ad fr ⟨_,_,_,_,k5 _ _ ni it4,.inl rfl⟩ (dat.keep on5) rfl (fun j k v T _ e2=>by simp at e2) fun s' H' Ts' I' top hS hl laid=>?_
  exact⟨rfl,h _ Ts' H' s' I' top fr hS (by rw [hl,rel.length]) laid⟩
 refine cg (fun _=>?_) (fun _=>ai ⟨b9 cD _,loop h4 c3 s.toks (af _) (fun b o _ q=>q) S4⟩)
 refine ac (gJ (ac ?_))
 show ay _ _ (fq (s.heap.objs.size+1) (·.push .none) >>= fun _=>fq (s.heap.objs.size+1) (·.pop)) _ _ _
 have S5:=aL (bu (·.push be)) S4 rfl
 refine ac (cE (s:={ s with heap:=h4 }) S4 rfl (cE (hz:=by seq_fits) S5 rfl (ai ⟨b9 cD _,loop _ _ s.toks (af _) (fun b o n q=>?_) (aL (bu (·.pop)) S5 rfl)⟩)))
 exact (aG _ _ (cx n)).trans ((aG _ _ (cx n)).trans q)
end
section
variable {X:Cx}
noncomputable def au7 (K:aa):R2:=fun x y H Q=>∃ a b ys,x=.ref a/\y=.ref b/\SqT K H a []/\SqT K H b ys/\Q (.ref b) H
theorem al7:OpR X (c_ .Add) (au7 X.K):=by
 intro pins s σ H x y v u Q I rx ry h
 obtain⟨a,b,ys,rfl,rfl,ha,hb,q⟩:=h
 cases rx
 cases ry
 obtain⟨its,r1,p1,_⟩:=I.tuple ha
 obtain⟨its2,r2,p2,_⟩:=I.tuple hb
 cases r1
 obtain⟨⟨c1,d1,da1,s1⟩,ho,hc,n,hd⟩:=id p1
 obtain⟨⟨c2,d2,da2,s2⟩,ho2,hc2,n2,hd2⟩:=id p2
 simp only at hc hd hc2 hd2
 subst hc hd hc2 hd2
 exact lF ⟨_,ho,rfl⟩ ⟨_,ho2,rfl⟩ jj kX fY fM (fE _ _)
   (tuple_addW0 a b _ _ n n2 d1 d2 s1 s2 rfl) ⟨ho,ho2,⟨.ref b,H,I,rfl,q⟩⟩
noncomputable def a29 (T:String):Bool:=["int", "bool", "str", "list", "tuple", "dict"].contains T
theorem Mh {K:aa} {t:String} (ht:t = "list" \/ t = "tuple"):∀ {Ts:List String},Ts.all a29=true->PySem.W.kitAny K (.type t) (Ts.map b_)=some (Ts.any fun T=>T==t)
 | [],_=>rfl
 | T::Ts,h=>by
  rw [bw,ak] at h
  have hT:T = "int" \/ T = "bool" \/ T = "str" \/ T = "list" \/ T = "tuple" \/ T = "dict" := by
   have:=h.1
   unfold a29 at this
   simpa using this
  have one:dB K (.type t) (.type T)=some (T==t):=by
   rcases ht with rfl|rfl <;> rcases hT with rfl|rfl|rfl|rfl|rfl|rfl <;> rfl
  rw [aS]
  unfold PySem.W.kitAny
  rw [one,c8]
  cases (T==t) with
  | true=>rfl
  | false=>exact Mh ht h.2
theorem Ui:∀ {Ts:List String} {us:List Value},Vals (Ts.map V.ty) us->us=Ts.map b_
 | [],_,r=>by rw [eU] at r;cases r;rfl
 | T::Ts,_,r=>by
  rw [aS] at r
  cases r with
  | cons a b=>rw [Ui b,aS,show _=b_ T from a]
noncomputable def au9 (K:aa):V->V->Hp->VK->Prop:=fun x y H Q=>match x,y with
 | .ref a,.ref b=>∃ Ts:List String,SqT K H b (Ts.map V.ty)/\Ts.all a29=true/\(((∃ xs,SqL K H a xs)/\Q (.bl (Ts.any fun T=>T == "list")) H)\/((∃ xs,SqT K H a xs)/\Q (.bl (Ts.any fun T=>T == "tuple")) H))
 | _,_=>False
theorem Ut {pins:List (Addr×Obj)} {σ:St} {H:Hp} {s:ag} {x y:V} {u v:Value} {Q:VK} (I:Inv X pins σ H s) (rx:RelV x u) (ry:RelV y v) (h:au9 X.K x y H Q):ay (model X.prog X.w) X.A (call (.builtin "isinstance") [u,v]) (EP X pins σ Q) X.xe s:=by
  cases x <;> cases y <;> first
    | exact (show False from h).elim
    | (cases rx;cases ry
       obtain⟨Ts,hT,ok,h⟩:=h
       obtain⟨its,r,p,_⟩:=I.tuple hT
       obtain⟨⟨c1,d1,da1,s1⟩,ho,hc,n,hd⟩:=id p
       simp only at hc hd
       subst hc hd
       have e:=Ui r
       subst e
       rcases h with ⟨⟨xs,hq⟩,q⟩|⟨⟨xs,hq⟩,q⟩
       . obtain⟨_,_,⟨o,_,h1,h2,_⟩,_⟩:=I.list hq
         exact bh (af _) (PySem.W.kia_tup f8 I.kIn ⟨o,h1,h2⟩ ho (Mh (.inl rfl) ok) (fun z=>nomatch z) fun tk htk=>⟨.bl _,H,I.tok tk htk,rfl,q⟩)
       . obtain⟨_,_,⟨o,h1,h2,_⟩,_⟩:=I.tuple hq
         exact bh (af _) (PySem.W.kia_tup ia I.kIn ⟨o,h1,h2⟩ ho (Mh (.inr rfl) ok) (fun z=>nomatch z) fun tk htk=>⟨.bl _,H,I.tok tk htk,rfl,q⟩))
theorem Tg (hu:X.A.units+64<cLine):IxR X (fun x y H Q=>∃ a v,x=.ref a/\F0 H a y (some v)/\Q v H):=by
 intro value slice pins s σ H x y v u Q I rx ry h hs
 obtain⟨a,w',rfl,g,q⟩:=h
 cases rx
 exact tail_any (N7 I g) PySem.F.slot_dict_getitem.lookup (U5 (by omega) I g ry fun w1 s' I' r'=>⟨w',H,I',r',q⟩) hs
end
end L2
namespace PySem
open PyProof.Rows
section
variable {prog:aO} {w:bM} {A:aX} {E:Value->ag->Prop} {s:ag}
theorem B6 {it t:Addr} {i:Nat} {items} {x:Value} {Q:Value->ag->Prop} (hit:s.heap.IsTupleIter it t i)
  (ht:s.heap.IsTuple t items) (hx:items[i]? = some x)
  (hQ:∀ h',h'.IsTupleIter it t (i+1)->aV it s.heap h'->Q x { s with heap:=h' }) :
  ay (model prog w) A (aN (.ref it)) Q E s:=by
 obtain⟨o,ho,hc,hd⟩:=id hit
 obtain⟨ol,hol,_,nl,hdl⟩:=ht
 unfold aN
 refine ac (bR (name:=ba "__next__") hit.typeIs g_
  (cF g_ hit.typeIs F.entry_tuple_iterator_next ?_ (F.args_tuple_iterator_next_1 _)))
 show ay _ _ (l8 (.ref it) 0 >>= _) _ _ s
 refine ac (aZ ho hd (x:=.ref t) rfl ?_)
 show ay _ _ (if (aH t==be)=true then _ else _) _ _ s
 rw [if_neg (show ¬ ((aH t==be)=true) from aj)]
 show ay _ _ (l8 (.ref it) 1 >>= _) _ _ s
 refine ac (aZ ho hd (x:=.int i 0) rfl ?_)
 show ay _ _ (seqItems? (.ref t) >>= _) _ _ s
 refine ac (df hol hdl ?_)
 simp only [bt,hx]
 refine ac (eG ho hd (by simp) (ai ⟨x,rfl,ai (hQ _ ?_ (cb ..))⟩))
 exact⟨_,aL _ ho (dj (kI hd _)),(Obj.cls_mapFields ..).trans hc,by
  rw [kI hd];simp [dJ]⟩
noncomputable def ZipAt (h:Heap) (z TI TO i1 i2 l t:Addr) (k:Nat):Prop:=
 jd h TI (.ref i1) (.ref i2)/\(∃ a b,jd h TO a b)/\h.IsListIter i1 l k/\h.IsTupleIter i2 t k/\(lg h z TI TO .none \/
  ∃ (c:Nat) (f1:Value) (o:Obj),h.get? z=some { cls:=.type "zip", dict:=none,data:=.fields #[dJ c,f1,.bool false,.ref TI,.ref TO],slots:=#[] }/\c≠z/\c≠i1/\c≠i2/\h.get? c=some o)
theorem ZipAt.on {h h':Heap} {z TI TO i1 i2 l t S:Addr} {k:Nat} (x:ZipAt h z TI TO i1 i2 l t k) (hk:∀ b o,b≠S->h.get? b=some o->h'.get? b=some o) (hS:∀ o,h.get? S=some o -> ∃ o',h'.get? S=some o') (n1:z≠S) (n2:TI≠S) (n3:TO≠S) (n4:i1≠S) (n5:i2≠S):ZipAt h' z TI TO i1 i2 l t k:=by
 obtain⟨a,⟨u,v,q⟩,b,c,d⟩:=x
 refine⟨hk _ _ n2 a,⟨u,v,hk _ _ n3 q⟩,b.at fun o e=>hk _ o n4 e,?_,?_⟩
 ·obtain⟨o,e,r⟩:=c;exact⟨o,hk _ o n5 e,r⟩
 ·rcases d with p|⟨c,f1,o,p,q1,q2,q3,q4⟩
  ·exact .inl (hk _ _ n1 p)
  ·by_cases e:c=S
   ·subst e
    obtain⟨o',e'⟩:=hS o q4
    exact .inr ⟨_,f1,o',hk _ _ n1 p,q1,q2,q3,e'⟩
   ·exact .inr ⟨c,f1,o,hk _ _ n1 p,q1,q2,q3,hk _ o e q4⟩
theorem Lh {h:Heap} {z TI TO:Addr} {c:Int} {f1 f2 f3 f4:Value} (e:h.get? z=some { cls:=.type "zip", dict:=none,data:=.fields #[dJ c,f1,f2,f3,f4],slots:=#[] }):¬ lg h z TI TO .none:=fun q=>by
 have q:h.get? z=some { cls:=.type "zip", dict:=none,data:=.fields #[.none,.bool false,.bool false,.ref TI,.ref TO],slots:=#[] }:=q
 rw [e] at q
 simp [dJ] at q
theorem Pk {c:Nat} {oc:Obj} {α:Type} {k:Option Obj->Sem α} {Q':α->ag->Prop} (hc:s.heap.get? c=some oc) (h:ay (model prog w) A (k (some oc)) Q' E s):ay (model prog w) A (loadIfAlive (c:Int).toNat >>= k) Q' E s:=fun Γ p hΓ=>by
 have z:=h Γ p hΓ
 show Sem.wp _ _ (Sem.loadIfAlive (c:Int).toNat fun x=>k x) _ _ _ _
 rw [kK,bt,hc]
 exact z
theorem Wt {z TI TO i1 i2 l t:Addr} {k:Nat} {xs ys:Array Value} {x y:Value} {Q:Value->ag->Prop} (D:kR z TI TO i1 i2 l t) (hz:ZipAt s.heap z TI TO i1 i2 l t k) (hl1:s.heap.IsList l xs) (hl2:s.heap.IsTuple t ys) (hx:xs[k]? = some x) (hy:ys[k]? = some y)
  (hQ:∀ h',ZipAt h' z TI TO i1 i2 l t (k+1) -> ¬ lg h' z TI TO .none->jd h' s.heap.objs.size x y->(∀ c o,c≠z->c≠TO->c≠i1->c≠i2->s.heap.get? c=some o->h'.get? c=some o)->Q (.ref s.heap.objs.size) { s with heap:=h' }) :
  ay (model prog w) A (ar.«zip.__next__» ⟨[.ref z],[]⟩) (fun fin s'=>∃ v,fin=.done (.ret v)/\Q v s') E s:=by
 obtain⟨hTI,⟨a,b,hTO⟩,h1,h2,hz⟩:=hz
 have tup:∀ {h:Heap} {h':Heap} {c:Addr},h.IsTuple t ys->aV c h h'->t≠c->h'.IsTuple t ys:=fun a b n=>by obtain⟨o,e,r⟩:=a;exact⟨o,(b.2 t n).trans e,r⟩
 have ti:∀ {h:Heap} {h':Heap} {c:Addr} {k:Nat},h.IsTupleIter i2 t k->aV c h h'->i2≠c->h'.IsTupleIter i2 t k:=fun a b n=>by obtain⟨o,e,r⟩:=a;exact⟨o,(b.2 i2 n).trans e,r⟩
 rcases hz with hz|⟨c,f1,oc,hz,nc1,nc2,nc3,hc⟩
 ·show ay _ _ (l8 (.ref z) 2 >>= _) _ _ _
  refine ac (aZ hz rfl (x:=.bool false) rfl ?_)
  show ay _ _ (l8 (.ref z) 3 >>= _) _ _ _
  refine ac (aZ hz rfl (x:=.ref TI) rfl ?_)
  refine ac (df hTI rfl ?_)
  show ay _ _ (bi (.ref z) >>= _) _ _ _
  refine ac ?_
  unfold bi
  refine ac (aZ hz rfl (x:=.none) rfl (ai ?_))
  simp only [if_true]
  refine ac (gJ ?_)
  refine ac (aZ hz rfl (x:=.ref TO) rfl ?_)
  refine ac (br hz (by simp) fun h₁ hz₁ hs₁=>?_)
  replace hz₁:lg h₁ z TI TO .ellipsis:=hz₁
  refine ac ?_
  simp only [List.zipIdx_cons,List.zipIdx_nil,fJ,ii]
  refine ac (ac (k9 ?_))
  show ay _ _ (aN (.ref i1) >>= _) _ _ _
  refine ac (jv (h1.extBut hs₁.extBut D.i1z) (hl1.extBut hs₁.extBut D.l1z) hx fun h₂ h1₂ hs₂=>ai ?_)
  have hTO₂:jd h₂ TO a b:=hs₂.extBut _ _ D.TOi1 (hs₁.extBut _ _ D.TOz hTO)
  refine ac (df hTO₂ rfl ?_)
  refine ac (j6 hTO₂ fun h₃ hTO₃ hs₃=>?_)
  replace hTO₃:jd h₃ TO x b:=hTO₃
  refine ac (gd (ai ?_))
  refine ac (ac (k9 ?_))
  show ay _ _ (aN (.ref i2) >>= _) _ _ _
  refine ac (B6 (ti (ti (ti h2 hs₁ D.i2z) hs₂ D.i12.symm) hs₃ D.TOi2.symm) (tup (tup (tup hl2 hs₁ D.l2z) hs₂ D.l2i1) hs₃ D.l2TO) hy fun h₄ h2₄ hs₄=>ai ?_)
  have hTO₄:jd h₄ TO x b:=hs₄.extBut _ _ D.TOi2 hTO₃
  refine ac (df hTO₄ rfl ?_)
  refine ac (j6 hTO₄ fun h₅ hTO₅ hs₅=>?_)
  replace hTO₅:jd h₅ TO x y:=hTO₅
  refine ac (gd (ai (ai ?_)))
  refine ac (df hTO₅ rfl ?_)
  refine ac (gh ?_)
  have hsz:h₅.objs.size=s.heap.objs.size:=by rw [hs₅.1,hs₄.1,hs₃.1,hs₂.1,hs₁.1]
  have hz₅:lg h₅ z TI TO .ellipsis:=hs₅.extBut _ _ D.TOz.symm (hs₄.extBut _ _ D.i2z.symm (hs₃.extBut _ _ D.TOz.symm (hs₂.extBut _ _ D.i1z.symm hz₁)))
  have hk₅:∀ c o,c≠z->c≠TO->c≠i1->c≠i2->s.heap.get? c=some o->h₅.get? c=some o:=fun c o c1 c2 c3 c4 e=>
   hs₅.extBut _ _ c2 (hs₄.extBut _ _ c4 (hs₃.extBut _ _ c2 (hs₂.extBut _ _ c3 (hs₁.extBut _ _ c1 e))))
  have h1₅:h₅.IsListIter i1 l (k+1):=((h1₂.extBut hs₃.extBut D.TOi1.symm).extBut hs₄.extBut D.i12).extBut hs₅.extBut D.TOi1.symm
  have h2₅:h₅.IsTupleIter i2 t (k+1):=ti h2₄ hs₅ D.TOi2.symm
  have hzlt:z<h₅.objs.size:=au hz₅
  have hTOlt:TO<h₅.objs.size:=au hTO₅
  have hi1lt:i1<h₅.objs.size:=by obtain⟨_,e,_⟩:=h1₅;exact au e
  have hi2lt:i2<h₅.objs.size:=by obtain⟨_,e,_⟩:=h2₅;exact au e
  show ay _ _ (cB (.ref z) (.ref h₅.objs.size) >>= _) _ _ _
  refine ac ?_
  unfold cB
  have hz₆:lg (h₅.push { cls:=.type "tuple", data:=.seq #[x,y] }) z TI TO .ellipsis:=ae _ hz₅
  refine ac (br hz₆ (by simp) fun h₇ hz₇ hs₇=>?_)
  replace hz₇:lg h₇ z TI TO (dJ h₅.objs.size):=hz₇
  refine br hz₇ (by simp) fun h₈ hz₈ hs₈=>?_
  replace hz₈:lg h₈ z TI TO (dJ h₅.objs.size):=hz₈
  have up:∀ c o,c≠z->h₅.get? c=some o->h₈.get? c=some o:=fun c o c1 e=>hs₈.extBut _ _ c1 (hs₇.extBut _ _ c1 (ae _ e))
  have hT₈:jd h₈ h₅.objs.size x y:=hs₈.extBut _ _ (b5 hzlt) (hs₇.extBut _ _ (b5 hzlt) (aq _ rfl))
  rw [hsz] at hz₈ hT₈
  refine ai ⟨_,rfl,?_⟩
  show Q (.ref h₅.objs.size) _
  rw [hsz]
  rw [hsz] at hzlt hi1lt hi2lt
  refine hQ h₈ ⟨up _ _ D.TIz (hk₅ _ _ D.TIz D.TITO D.TIi1 D.TIi2 hTI),⟨_,_,up _ _ D.TOz hTO₅⟩,h1₅.at fun o e=>up _ o D.i1z e,?_,.inr ⟨s.heap.objs.size,_,_,hz₈,b5 hzlt,b5 hi1lt,b5 hi2lt,hT₈⟩⟩ (Lh hz₈) hT₈ fun c o c1 c2 c3 c4 e=>up c o c1 (hk₅ c o c1 c2 c3 c4 e)
  obtain⟨o,e,r⟩:=h2₅
  exact⟨o,up _ o D.i2z e,r⟩
 ·show ay _ _ (l8 (.ref z) 2 >>= _) _ _ _
  refine ac (aZ hz rfl (x:=.bool false) rfl ?_)
  show ay _ _ (l8 (.ref z) 3 >>= _) _ _ _
  refine ac (aZ hz rfl (x:=.ref TI) rfl ?_)
  refine ac (df hTI rfl ?_)
  show ay _ _ (bi (.ref z) >>= _) _ _ _
  refine ac ?_
  unfold bi
  refine ac (aZ hz rfl (x:=dJ c) rfl ?_)
  show ay _ _ (loadIfAlive (c:Int).toNat >>= _) _ _ s
  refine Pk hc ?_
  simp only [h_,bz,if_false]
  refine ac (aZ hz rfl (x:=f1) rfl ?_)
  refine cg (fun cf=>ac (br hz (by simp) fun h₁ hz₁ hs₁=>ai ?_)) (fun cf=>ai ?_)
  rotate_left
  have hs₁:aV z s.heap s.heap:=⟨rfl,fun _ _=>rfl⟩
  have hz₁:=hz
  obtain⟨h₁,eh⟩:∃ h₁,h₁=s.heap:=⟨_,rfl⟩
  rw [show s={ s with heap:=h₁ } by rw [eh]]
  rw [<- eh] at hz₁
  replace hs₁:aV z s.heap h₁:=by rw [eh];exact hs₁
  clear eh
  all_goals
   simp only [bz,if_false]
   rw [<- hW]
   simp only [fJ,ii]
   refine ac (ac (ac (bb ?_)))
   show ay _ _ (aN (.ref i1) >>= _) _ _ _
   refine ac (jv (h1.extBut hs₁.extBut D.i1z) (hl1.extBut hs₁.extBut D.l1z) hx fun h₂ h1₂ hs₂=>ai ?_)
   refine ai ?_
   dsimp only
   refine ac (ac (bb ?_))
   show ay _ _ (aN (.ref i2) >>= _) _ _ _
   refine ac (B6 (ti (ti h2 hs₁ D.i2z) hs₂ D.i12.symm) (tup (tup hl2 hs₁ D.l2z) hs₂ D.l2i1) hy fun h₄ h2₄ hs₄=>ai ?_)
   refine ai (ai ?_)
   dsimp only
   refine ac (gh ?_ (by show 2<=_;rw [bL];decide))
   have hs₂:aV i1 h₁ h₂:=hs₂
   have hs₄:aV i2 h₂ h₄:=hs₄
   have hsz:h₄.objs.size=s.heap.objs.size:=by rw [hs₄.1,hs₂.1,hs₁.1]
   show ay _ _ (ret (.ref h₄.objs.size)) _ _ { s with heap:=h₄.push { cls:=.type "tuple", data:=.seq #[x,y] } }
   refine ai ⟨_,rfl,?_⟩
   have up:∀ c o,c≠z->c≠i1->c≠i2->s.heap.get? c=some o->(h₄.push { cls:=.type "tuple", data:=.seq #[x,y] }).get? c=some o:=fun c o n1 n3 n4 e=>ae _ (hs₄.extBut _ _ n4 (hs₂.extBut _ _ n3 (hs₁.extBut _ _ n1 e)))
   have tp:(h₄.push { cls:=.type "tuple", data:=.seq #[x,y] }).get? h₄.objs.size=some { cls:=.type "tuple", data:=.seq #[x,y] }:=aq _ rfl
   rw [hsz] at tp ⊢
   refine hQ _ ⟨up _ _ D.TIz D.TIi1 D.TIi2 hTI,⟨_,_,up _ _ D.TOz D.TOi1 D.TOi2 hTO⟩,?_,?_,.inr ⟨c,_,oc,ae _ (hs₄.extBut _ _ D.i2z.symm (hs₂.extBut _ _ D.i1z.symm hz₁)),nc1,nc2,nc3,up _ _ nc1 nc2 nc3 hc⟩⟩ (Lh (ae _ (hs₄.extBut _ _ D.i2z.symm (hs₂.extBut _ _ D.i1z.symm hz₁)))) tp fun c o n1 n2 n3 n4 e=>up c o n1 n3 n4 e
   ·exact (h1₂.extBut hs₄.extBut D.i12).at fun o e=>ae _ e
   ·obtain⟨o,e,r⟩:=h2₄
    exact⟨o,ae _ e,r⟩
theorem ag5 {z TI TO i1 i2 l t:Addr} {k:Nat} {xs:Array Value} {Q:Fin->ag->Prop} (hh:A.handled=none) (D:kR z TI TO i1 i2 l t) (hz:ZipAt s.heap z TI TO i1 i2 l t k) (hn:¬ lg s.heap z TI TO .none) (hl1:s.heap.IsList l xs) (hx:xs[k]? = none)
  (hE:∀ h' e,(∀ c o,c≠z->c≠i1->s.heap.get? c=some o->h'.get? c=some o)->(∃ o,h'.get? e=some o/\o.cls=.type "StopIteration")->E (.ref e) { s with heap:=h' }) :
  ay (model prog w) A (ar.«zip.__next__» ⟨[.ref z],[]⟩) Q E s:=by
 obtain⟨hTI,_,h1,h2,hz⟩:=hz
 rcases hz with hz|⟨c,f1,oc,hz,nc1,nc2,nc3,hc⟩
 ·exact absurd hz hn
 ·show ay _ _ (l8 (.ref z) 2 >>= _) _ _ _
  refine ac (aZ hz rfl (x:=.bool false) rfl ?_)
  show ay _ _ (l8 (.ref z) 3 >>= _) _ _ _
  refine ac (aZ hz rfl (x:=.ref TI) rfl ?_)
  refine ac (df hTI rfl ?_)
  show ay _ _ (bi (.ref z) >>= _) _ _ _
  refine ac ?_
  unfold bi
  refine ac (aZ hz rfl (x:=dJ c) rfl ?_)
  show ay _ _ (loadIfAlive (c:Int).toNat >>= _) _ _ s
  refine Pk hc ?_
  simp only [h_,bz,if_false]
  refine ac (aZ hz rfl (x:=f1) rfl ?_)
  refine cg (fun cf=>ac (br hz (by simp) fun h₁ hz₁ hs₁=>ai ?_)) (fun cf=>ai ?_)
  rotate_left
  ·have hs₁:aV z s.heap s.heap:=⟨rfl,fun _ _=>rfl⟩
   revert hs₁
   rcases s with ⟨h₁,g,d,tk,os⟩
   intro hs₁
   simp only [bz,if_false]
   rw [<- hW]
   simp only [fJ,ii]
   refine ac (ac (ac (bb ?_)))
   show ay _ _ (aN (.ref i1) >>= _) _ _ _
   exact ac (jV hh (h1.extBut hs₁.extBut D.i1z) (hl1.extBut hs₁.extBut D.l1z) hx fun h₂ e hs₂ he=>hE h₂ e (fun c o n1 n3 q=>hs₂ _ _ n3 (hs₁.extBut _ _ n1 q)) he)
  ·simp only [bz,if_false]
   rw [<- hW]
   simp only [fJ,ii]
   refine ac (ac (ac (bb ?_)))
   show ay _ _ (aN (.ref i1) >>= _) _ _ _
   exact ac (jV hh (h1.extBut hs₁.extBut D.i1z) (hl1.extBut hs₁.extBut D.l1z) hx fun h₂ e hs₂ he=>hE h₂ e (fun c o n1 n3 q=>hs₂ _ _ n3 (hs₁.extBut _ _ n1 q)) he)
theorem Wv {z TI TO i1 i2 l t:Addr} {k:Nat} {xs ys:Array Value} {x y:Value} {Q:Option Value->ag->Prop} (D:kR z TI TO i1 i2 l t) (hz:ZipAt s.heap z TI TO i1 i2 l t k) (hl1:s.heap.IsList l xs) (hl2:s.heap.IsTuple t ys) (hx:xs[k]? = some x) (hy:ys[k]? = some y)
  (hQ:∀ h',ZipAt h' z TI TO i1 i2 l t (k+1) -> ¬ lg h' z TI TO .none->jd h' s.heap.objs.size x y->(∀ c o,c≠z->c≠TO->c≠i1->c≠i2->s.heap.get? c=some o->h'.get? c=some o)->Q (some (.ref s.heap.objs.size)) { s with heap:=h' }) :
  ay (model prog w) A (fc (.ref z)) Q E s:=by
 have hT:s.TypeIs (.ref z) "zip" := by
  obtain⟨_,_,_,_,e|⟨c,f1,oc,e,_⟩⟩:=hz
  ·exact⟨_,e,rfl⟩
  ·exact⟨_,e,rfl⟩
 unfold fc
 exact ac (dX (bR (name:=ba "__next__") hT gN
  (cF gN hT F.entry_zip_next
   (Wt D hz hl1 hl2 hx hy fun h' a1 a2 a3 a4=>ai (hQ h' a1 a2 a3 a4)) (F.args_zip_next_1 _))))
theorem Wu {z TI TO i1 i2 l t:Addr} {k:Nat} {xs:Array Value} {Q:Option Value->ag->Prop} (hh:A.handled=none) (D:kR z TI TO i1 i2 l t) (hz:ZipAt s.heap z TI TO i1 i2 l t k) (hn:¬ lg s.heap z TI TO .none) (hl1:s.heap.IsList l xs) (hx:xs[k]? = none)
  (hQ:∀ h',(∀ c o,c≠z->c≠i1->s.heap.get? c=some o->h'.get? c=some o)->Q none { s with heap:=h' }):ay (model prog w) A (fc (.ref z)) Q E s:=by
 have hT:s.TypeIs (.ref z) "zip" := by
  obtain⟨_,_,_,_,e|⟨c,f1,oc,e,_⟩⟩:=hz
  ·exact⟨_,e,rfl⟩
  ·exact⟨_,e,rfl⟩
 unfold fc
 refine ac (dX (bR (name:=ba "__next__") hT gN
  (cF gN hT F.entry_zip_next (ag5 hh D hz hn hl1 hx fun h' e hk he=>?_) (F.args_zip_next_1 _))))
 obtain⟨o,ho,hc⟩:=he
 refine ac (fv (T := "StopIteration") (b:=true) ⟨o,ho,hc⟩ ke ?_)
 exact ai (hQ _ hk)
end
noncomputable abbrev Uk (h:Heap) (l1 l2:Addr):Heap:=(zipH1 h l1).push { cls:=.type "tuple_iterator", data:=.fields #[.ref l2,.int 0 0] }
noncomputable abbrev Ul (h:Heap) (l1 l2:Addr):Heap:=(Uk h l1 l2).push { cls:=.type "tuple", data:=.seq #[.ref h.objs.size,.ref (zipH1 h l1).objs.size] }
noncomputable abbrev Um (h:Heap) (l1 l2:Addr):Heap:=(Ul h l1 l2).push { cls:=.type "tuple", data:=.seq #[.none,.none] }
noncomputable abbrev J4 (h:Heap) (l1 l2:Addr):Heap:=(Um h l1 l2).push { cls:=.type "zip", data:=.fields #[.none,.bool false,.bool false,.ref (Uk h l1 l2).objs.size,.ref (Ul h l1 l2).objs.size] }
theorem Iy (l1 l2:Addr) (xs ys:Array Value) :
  Meets (ar.«zip.__new__» ⟨[.type "zip", .ref l1,.ref l2],[]⟩) (fun _ R s=>s.heap.IsList l1 xs/\s.heap.IsTuple l2 ys /\
   R (.ok (.ret (.ref (Um s.heap l1 l2).objs.size))) { s with heap:=J4 s.heap l1 l2 }):=
 .of_wp fun prog w A R s h=>by
  obtain⟨hp,g,d,tk,os⟩:=s;obtain⟨hl1,hl2,h⟩:=h
  have hsub:=sub_zip
  have hL1:Heap.IsList (lR ⟨hp,g,d,tk,os⟩) l1 xs:=hl1
  have hL2:Heap.IsTuple (lR ⟨hp.push { cls:=.type "list_iterator", data:=.fields #[.ref l1,.int 0 0] },g,d,tk,os⟩) l2 ys:=by obtain⟨o,e,r⟩:=hl2;exact⟨o,ae _ e,r⟩
  wp_walk using gf hL1,lb hL2
  exact⟨_,rfl,h⟩
section
variable {prog:aO} {w:bM} {A:aX} {E:Value->ag->Prop} {s:ag}
theorem U2 {l1 l2:Addr} {xs ys:Array Value} {Q:Value->ag->Prop} (hl1:s.heap.IsList l1 xs) (hl2:s.heap.IsTuple l2 ys)
  (h:∀ h',lg h' (s.heap.objs.size+4) (s.heap.objs.size+2) (s.heap.objs.size+3) .none->jd h' (s.heap.objs.size+2) (.ref s.heap.objs.size) (.ref (s.heap.objs.size+1)) ->
   jd h' (s.heap.objs.size+3) .none .none->h'.IsListIter s.heap.objs.size l1 0->h'.IsTupleIter (s.heap.objs.size+1) l2 0->h'.objs.size=s.heap.objs.size+5 ->
   (∀ c o,s.heap.get? c=some o->h'.get? c=some o)->Q (.ref (s.heap.objs.size+4)) { s with heap:=h' }) :
  ay (model prog w) A (call (.type "zip") [.ref l1,.ref l2]) Q E s:=by
 refine callType_new F.called_zip (by decide) (F.typeCall_zip_2 _ _) (F.newCall_zip_2 _ _) (fun obj=>F.args_object_init_3 obj _ _) F.entry_zip_new
  (Iy l1 l2 xs ys) ⟨hl1,hl2,?_⟩
 have z1:(zipH1 s.heap l1).objs.size=s.heap.objs.size+1:=bE ..
 have z2:(Uk s.heap l1 l2).objs.size=s.heap.objs.size+2:=by rw [bE,z1]
 have z3:(Ul s.heap l1 l2).objs.size=s.heap.objs.size+3:=by rw [bE,z2]
 have z4:(Um s.heap l1 l2).objs.size=s.heap.objs.size+4:=by rw [bE,z3]
 have z5:(J4 s.heap l1 l2).objs.size=s.heap.objs.size+5:=by rw [bE,z4]
 have g5:(J4 s.heap l1 l2).get? (Um s.heap l1 l2).objs.size=some _:=aq _ rfl
 have g4:(J4 s.heap l1 l2).get? (Ul s.heap l1 l2).objs.size=some _:=ae _ (aq _ rfl)
 have g3:(J4 s.heap l1 l2).get? (Uk s.heap l1 l2).objs.size=some _:=ae _ (ae _ (aq _ rfl))
 have g2:(J4 s.heap l1 l2).get? (zipH1 s.heap l1).objs.size=some _:=ae _ (ae _ (ae _ (aq _ rfl)))
 have g1:(J4 s.heap l1 l2).get? s.heap.objs.size=some _:=ae _ (ae _ (ae _ (ae _ (aq _ rfl))))
 show _/\_
 rw [z2,z3,z4] at g5
 rw [z1,z2] at g3
 rw [z3] at g4
 rw [z1] at g2
 rw [z4]
 exact⟨⟨_,g5,rfl⟩,h _ g5 g3 g4 ⟨_,g1,rfl,rfl⟩ ⟨_,g2,rfl,rfl⟩ z5 fun c o x=>
  ae _ (ae _ (ae _ (ae _ (ae _ x))))⟩
end
end PySem
namespace L2
open PySem PySem.Spec PyProof.Rows
section
variable {X:Cx} {pins:List (Addr×Obj)} {σ:St} {A:aX} {E:Value->ag->Prop} {R:jO->ag->Prop} {z TI TO i1 i2 l t S:Addr} {xs ys:List V} {res:Value}
noncomputable def Sl (H0 H:Hp) (xs ys:List V) (Ts:List Addr):Prop:=∀ (j:Nat) x y T,xs[j]? = some x->ys[j]? = some y->Ts[j]? = some T->H0 T=none/\H T=some (.tup [x,y])
theorem ag7 (H0:Hp) (hh:A.handled=none) (D:kR z TI TO i1 i2 l t) (nS:z≠S/\TI≠S/\TO≠S/\i1≠S/\i2≠S /\ ∀ o,¬ H0 S=some o) (hl0:H0 l=some (.lst xs)) (ht0:H0 t=some (.tup ys)) (len:xs.length=ys.length) (pos:0<xs.length) (small:xs.length<sizeLine) (left:Nat) :
  ∀ (i:Nat) (s:ag) (H:Hp) (Ts:List Addr),i+left=xs.length->Inv X pins σ H s->(∀ b∈[z,TO,i1,i2],Cy X pins H b)->(∀ b o,b≠S->H0 b=some o->H b=some o)->H S=some (.lst (Ts.map V.ref))->H0 S=none->ZipAt s.heap z TI TO i1 i2 l t i->(0<i -> ¬ lg s.heap z TI TO .none)->Ts.length=i ->
   Sl H0 H xs ys Ts->(∀ s' H' Ts',Inv X pins σ H' s'->Kn H0 H'->H' S=some (.lst (Ts'.map V.ref))->Ts'.length=xs.length->Sl H0 H' xs ys Ts'->R (.ok (.ret res)) s') ->
   d4 (model X.prog X.w) A (.builtin "list.extend.loop" ⟨[.ref S,.ref z,res],[]⟩) R s:=by
 have nl:l≠S:=fun e=>by rw [e] at hl0;exact nS.2.2.2.2.2 _ hl0
 have nt:t≠S:=fun e=>by rw [e] at ht0;exact nS.2.2.2.2.2 _ ht0
 have off:∀ {b:Addr},b∉[z,TO,i1,i2]->b≠z/\b≠TO/\b≠i1/\b≠i2:=fun hb=>by
  simpa using hb
 induction left with
 | zero=>
  intro i s H Ts hi I fp top hS h0 at1 nz hl laid hR
  refine bY fz (bG cD _ ▸ ?_)
  show ay _ A.in1 (fc (.ref z) >>= _) _ _ s
  obtain⟨its,ri,pl,_⟩:=I.list (SqL.of (top l _ nl hl0))
  have e1:=ri.length
  refine ac (Wu hh D at1 (nz (by omega)) pl.isList (by simp;omega) fun h' ext=>ai (hR _ H Ts ?_ (fun b o e=>top b o (fun z=>by rw [z,h0] at e;cases e) e) hS (by omega) laid))
  exact I.turnedL (t':=s.toks) (ch:=[z,TO,i1,i2]) fp fun b o hb e=>ext b o (off hb).1 (off hb).2.2.1 e
 | succ left ih=>
  intro i s H Ts hi I fp top hS h0 at1 nz hl laid hR
  obtain⟨its,ri,pl,_⟩:=I.list (SqL.of (top l _ nl hl0))
  obtain⟨its2,ri2,pl2,_⟩:=I.tuple (SqT.of (top t _ nt ht0))
  have hx:xs[i]? = some (xs[i]'(by omega)):=ah _
  have hy:ys[i]? = some (ys[i]'(by omega)):=ah _
  generalize xs[i]'(by omega)=x at hx
  generalize ys[i]'(by omega)=y at hy
  obtain⟨u,hu,ru⟩:=ri.get hx
  obtain⟨v,hv,rv⟩:=ri2.get hy
  refine bY fz (bG cD _ ▸ ?_)
  show ay _ A.in1 (fc (.ref z) >>= _) _ _ s
  refine ac (Wv D at1 pl.isList pl2 (x:=u) (y:=v) (by simpa using hu) (by simpa using hv) fun h' at2 nz2 t2 all2=>?_)
  have fresh:H s.heap.objs.size=none:=I.hok.fresh (af _)
  have ltS:S<s.heap.objs.size:=(I.hok S _ hS).lt
  have lts:∀ b∈[z,TO,i1,i2],b≠s.heap.objs.size:=fun b hb=>by
   obtain⟨q1,⟨_,_,q0⟩,⟨o1,q2,_⟩,⟨o2,q3,_⟩,q4⟩:=at1
   have hb:b=z\/b=TO\/b=i1\/b=i2:=by simpa using hb
   rcases hb with rfl|rfl|rfl|rfl
   ·rcases q4 with q|⟨_,_,_,q,_⟩
    ·exact aA (au q)
    ·exact aA (au q)
   ·exact aA (au q0)
   ·exact aA (au q2)
   ·exact aA (au q3)
  have I1:Inv X pins σ (upd H s.heap.objs.size (.tup [x,y])) { s with heap:=h' }:=
   I.turnedN (t':=s.toks) (ch:=[z,TO,i1,i2]) fp (fun b o hb e=>all2 b o (off hb).1 (off hb).2.1 (off hb).2.2.1 (off hb).2.2.2 e) (af _) ⟨by show 2<=sizeLine;decide,[u,v],.cons ru (.cons rv .nil),⟨_,t2,rfl,_,rfl⟩⟩
  have S1:upd H s.heap.objs.size (.tup [x,y]) S=some (.lst (Ts.map V.ref)):=by rw [Ae (aA ltS)];exact hS
  obtain⟨its3,n,r,ho,hz⟩:=I1.lst S1
  have li:its3.length=i:=by rw [<- r.length,al];exact hl
  show ay _ A.in1 (fq S (·.push (.ref s.heap.objs.size)) >>= _) _ _ { s with heap:=h' }
  refine ac ?_
  refine cE ho rfl (ai ⟨b9 cD _,?_⟩) (by rw [am,li];omega) (by show (its3.toArray.push _).size<=sizeLine+1;rw [Array.size_push,am,li];omega)
  have I2:=I1.lset (t':=s.toks) (f:=fun z=>z.push (.ref s.heap.objs.size)) (its':=its3++[.ref s.heap.objs.size]) (ys:=(Ts++[s.heap.objs.size]).map V.ref) S1 ho (by simp) (by rw [bx];exact r.append (.cons rfl .nil)) (by rw [al,ax,bP,hl];omega)
  have nSb:∀ b,b≠S->(h'.update S (bu fun z=>z.push (.ref s.heap.objs.size))).get? b=h'.get? b:=fun b n=>aG _ _ (cx n)
  refine ih (i+1) _ _ (Ts++[s.heap.objs.size]) (by omega) I2 (fun b hb=>?_) (fun b o n e=>?_) Ad h0 (at2.on (fun b o n e=>(nSb b n).trans e) (fun o e=>⟨_,aL _ e (by rw [ho] at e;cases e;rfl)⟩) nS.1 nS.2.1 nS.2.2.1 nS.2.2.2.1 nS.2.2.2.2.1) (fun _ q=>nz2 ?_) (by rw [ax,bP,hl]) (fun j x' y' T e1 e2 e3=>?_) hR
  ·obtain⟨f0,f1,f2,f3,f4,f5⟩:=fp b hb
   have nb:b≠S:=by
    have hb:b=z\/b=TO\/b=i1\/b=i2:=by simpa using hb
    rcases hb with rfl|rfl|rfl|rfl
    ·exact nS.1
    ·exact nS.2.2.1
    ·exact nS.2.2.2.1
    ·exact nS.2.2.2.2.1
   exact⟨by rw [Ae nb,Ae (lts b hb)];exact f0,f1,f2,f3,f4,f5⟩
  ·rw [Ae n,Ae (Ak (top b o n e) fresh)];exact top b o n e
  ·exact (nSb z nS.1).symm.trans q
  ·by_cases hj:j<Ts.length
   ·rw [c9 hj] at e3
    obtain⟨q1,q2⟩:=laid j x' y' T e1 e2 e3
    refine⟨q1,?_⟩
    have nT:T≠S:=fun z=>by rw [z,hS] at q2;cases q2
    rw [Ae nT,Ae (Ak q2 fresh)];exact q2
   ·have hj2:j=i:=by
     have:j<(Ts++[s.heap.objs.size]).length:=by
      rcases jH j (Ts++[s.heap.objs.size]).length with h|h
      ·exact h
      ·rw [dg h] at e3;cases e3
     rw [ax,bP] at this
     omega
    subst hj2
    rw [cw (by omega),hl,lB] at e3
    cases e3
    rw [hx] at e1
    rw [hy] at e2
    cases e1
    cases e2
    refine⟨?_,by rw [Ae (b5 ltS)];exact Ad⟩
    cases q:H0 s.heap.objs.size with
    | none=>rfl
    | some o=>exact absurd (top _ o (b5 ltS) q) (by rw [fresh];intro z;cases z)
theorem ar2:dR (.type "zip") "__len__" = pure none:=by rw [g6,eX];kernel_rfl
theorem ag6:dR (.type "zip") "__length_hint__" = pure none:=by rw [g6,eX];kernel_rfl
theorem Y7 {s:ag} {r:Addr} {Q:Bool->ag->Prop} {prog:aO} {w:bM} (ty:s.TypeIs (.ref r) "zip") (h:Q true s):ay (model prog w) A (bU (.ref r)) Q E s:=by
 unfold bU
 refine ac (fR ty ar2 ?_)
 wp_delta
 refine ac (fR ty ag6 ?_)
 wp_delta
 exact ai h
theorem Zg {H:Hp} {s:ag} {Q:Value->ag->Prop} (hc:X.calm=true) (I:Inv X pins σ H s) (hl0:H l=some (.lst xs)) (ht0:H t=some (.tup ys)) (len:xs.length=ys.length) (pos:0<xs.length) (few:xs.length<1000)
  (h:∀ D Ts H' s',Inv X pins σ H' s'->Kn H H'->H D=none->H' D=some (.lst (Ts.map V.ref))->Ts.length=xs.length->Sl H H' xs ys Ts->Q (.ref D) s') :
  ay (model X.prog X.w) X.A (call (.type "zip") [.ref l,.ref t]) (fun v s1=>ay (model X.prog X.w) X.A (call (.type "list") [v]) Q X.xe s1) X.xe s:=by
 obtain⟨its,ri,pl,_⟩:=I.list (SqL.of hl0)
 obtain⟨its2,ri2,pl2,_⟩:=I.tuple (SqT.of ht0)
 have l1:l<s.heap.objs.size:=(I.hok l _ hl0).lt
 have l2:t<s.heap.objs.size:=(I.hok t _ ht0).lt
 refine U2 pl.isList pl2 fun h1 hz hTI hTO hi1 hi2 zv on1=>?_
 refine j9 (s:={ s with heap:=h1 }) (Q₁:=fun obj s2=>obj=.ref (s.heap.objs.size+5)/\s2={ s with heap:=h1.push { cls:=.type "list", data:=.seq #[] } }) gU (fN _) fL
  (kU _ ⟨by show aH h1.objs.size=_;rw [zv],rfl⟩) fun obj s2 hs=>?_
 obtain⟨rfl,rfl⟩:=hs
 have S2:(h1.push { cls:=.type "list", data:=.seq #[] }).get? (s.heap.objs.size+5)=some { cls:=.type "list", data:=.seq #[] }:=zv▸aq _ rfl
 have on2:∀ b o,h1.get? b=some o->(h1.push { cls:=.type "list", data:=.seq #[] }).get? b=some o:=fun b o q=>ae _ q
 generalize h1.push { cls:=.type "list", data:=.seq #[] }=h2 at S2 on2 ⊢
 refine⟨⟨_,S2,rfl⟩,fD _ _,?_⟩
 show ay _ _ (do let old <- cV (.ref (s.heap.objs.size+5));fG (.ref (s.heap.objs.size+5)) (fun _=>#[]);letGo old.toList.reverse;bB (.ref (s.heap.objs.size+5)) (.ref (s.heap.objs.size+4)) .none) _ _ { s with heap:=h2 }
 refine ac ?_
 unfold cV
 refine ac (df (s:={ s with heap:=h2 }) S2 rfl (ai ?_))
 show ay _ _ (fq (s.heap.objs.size+5) (fun _=>#[]) >>= fun _=>letGo (#[]:Array Value).toList.reverse >>= fun _=>bB (.ref (s.heap.objs.size+5)) (.ref (s.heap.objs.size+4)) .none) _ _ { s with heap:=h2 }
 refine ac (cE (s:={ s with heap:=h2 }) S2 rfl (ac (gd ?_)))
 have S3:∃ c,(h2.update (s.heap.objs.size+5) (bu (fun _=>(#[]:Array Value)))).get? (s.heap.objs.size+5)=some { cls:=.type "list", data:=.seq #[] c }:=⟨_,aL _ S2 rfl⟩
 have o3:∀ b o,b≠s.heap.objs.size+5->h2.get? b=some o->(h2.update (s.heap.objs.size+5) (bu (fun _=>(#[]:Array Value)))).get? b=some o:=fun b o n q=>(aG _ _ (cx n)).trans q
 generalize h2.update (s.heap.objs.size+5) (bu (fun _=>(#[]:Array Value)))=h3 at S3 o3 ⊢
 obtain⟨c3,S3⟩:=S3
 have k3:∀ b o,b<s.heap.objs.size+5->h1.get? b=some o->h3.get? b=some o:=fun b o hb q=>o3 b o (aA hb) (on2 b o q)
 have hz3:=k3 _ _ (cm _) hz
 have on3:∀ b o,s.heap.get? b=some o->h3.get? b=some o:=fun b o q=>k3 b o (av (au q) (aB _ 5)) (on1 b o q)
 have at3:ZipAt h3 (s.heap.objs.size+4) (s.heap.objs.size+2) (s.heap.objs.size+3) s.heap.objs.size (s.heap.objs.size+1) l t 0:=by
  refine⟨k3 _ _ (by omega) hTI,⟨_,_,k3 _ _ (by omega) hTO⟩,?_,?_,.inl hz3⟩
  ·obtain⟨o,e,r⟩:=hi1;exact⟨o,k3 _ o (by omega) e,r⟩
  ·obtain⟨o,e,r⟩:=hi2;exact⟨o,k3 _ o (by omega) e,r⟩
 unfold bB
 have ty3:iZ { s with heap:=h3 } (.ref (s.heap.objs.size+4)) "zip" := ⟨_,hz3,rfl⟩
 refine ac (ic (s:={ s with heap:=h3 }) (T := "zip") ty3 ?_)
 have t1:cI (.ref (s.heap.objs.size+5)) (.ref (s.heap.objs.size+4))=false:=by simp [cI]
 have t2:(b_ "zip" == b_ "list")=false:=by decide
 have t3:(b_ "zip" == b_ "tuple")=false:=by decide
 simp only [t1,t2,t3,gB,bz,if_false]
 refine ac (jn (s:={ s with heap:=h3 }) hz3 ?_)
 refine ac (bb (Y7 (s:={ s with heap:=h3 }) ty3 ?_))
 have loop:∀ (hh:Heap) (c tk:Nat),s.toks<=tk->(∀ b o,b≠s.heap.objs.size+5->h3.get? b=some o->hh.get? b=some o)->hh.get? (s.heap.objs.size+5)=some { cls:=.type "list", data:=.seq #[] c } ->
   d4 (model X.prog X.w) X.A.in1 (.builtin "list.extend.loop" ⟨[.ref (s.heap.objs.size+5),.ref (s.heap.objs.size+4),.none],[]⟩) (wants (fun r s₂=>r=.none/\Q (.ref (s.heap.objs.size+5)) s₂) X.xe) { s with heap:=hh,toks:=tk }:=by
  intro hh c tk htk k5 S5
  have on5:∀ b o,s.heap.get? b=some o->hh.get? b=some o:=fun b o q=>k5 b o (aA (av (au q) (aB _ 5))) (on3 b o q)
  have fr:H (s.heap.objs.size+5)=none:=I.hok.fresh (aB _ 5)
  have I5:Inv X pins σ (upd H (s.heap.objs.size+5) (.lst [])) { s with heap:=hh,toks:=tk }:=I.laid (t':=tk) on5 (aB _ 5) ⟨bJ _,[],c,.nil,S5⟩
  have m4:s.heap.objs.size+4≠s.heap.objs.size+5:=by omega
  have m3:s.heap.objs.size+3≠s.heap.objs.size+5:=by omega
  have m2:s.heap.objs.size+2≠s.heap.objs.size+5:=by omega
  have m1:s.heap.objs.size+1≠s.heap.objs.size+5:=by omega
  have m0:s.heap.objs.size≠s.heap.objs.size+5:=by omega
  refine ag7 (X:=X) (pins:=pins) (σ:=σ) (A:=X.A.in1) (xs:=xs) (ys:=ys) H (by simp [I.ok.hd hc]) (im l1 l2) ⟨m4,m2,m3,m0,m1,fun o e=>by rw [fr] at e;cases e⟩ hl0 ht0 len pos (by rw [bL];omega) xs.length 0 _ _ [] (jI _) I5
   (fun b hb=>?_) (fun b o n q=>by rw [Ae n];exact q) Ad fr (at3.on (S:=s.heap.objs.size+5) k5 (fun o _=>⟨_,S5⟩) m4 m2 m3 m0 m1) (fun z=>absurd z (by omega)) rfl (fun j x y T _ _ e3=>by simp at e3) fun s' H' Ts' I' top hS hl laid=>⟨rfl,h _ Ts' H' s' I' top fr hS hl laid⟩
  have hb:b=s.heap.objs.size+4\/b=s.heap.objs.size+3\/b=s.heap.objs.size\/b=s.heap.objs.size+1:=by simpa using hb
  have le:s.heap.objs.size<=b/\b≠s.heap.objs.size+5:=by
   rcases hb with e|e|e|e <;> (rw [e];first|exact⟨aB _ _,m4⟩|exact⟨aB _ _,m3⟩|exact⟨aB _ _,m1⟩|exact⟨af _,m0⟩)
  exact I.fpOk le.1 (by rw [Ae le.2];exact I.hok.fresh le.1)
 refine cg (fun _=>?_) (fun _=>ai ⟨b9 cD _,loop h3 c3 s.toks (af _) (fun b o _ q=>q) S3⟩)
 refine ac (gJ (ac ?_))
 show ay _ _ (fq (s.heap.objs.size+5) (·.push .none) >>= fun _=>fq (s.heap.objs.size+5) (·.pop)) _ _ _
 have S5:=aL (bu (·.push be)) S3 rfl
 refine ac (cE (s:={ s with heap:=h3 }) S3 rfl (cE (hz:=by seq_fits) S5 rfl (ai ⟨b9 cD _,loop _ _ s.toks (af _) (fun b o n q=>?_) (aL (bu (·.pop)) S5 rfl)⟩)))
 exact (aG _ _ (cx n)).trans ((aG _ _ (cx n)).trans q)
end
section
variable {X:Cx}
theorem Eo:∀ l:List (Str×Tok),Vals ((l.map (·.1)).map V.str) (strValues l)
 | []=>.nil
 | p::r=>.cons ⟨p.2,rfl⟩ (Eo r)
noncomputable def Q0:V->List V->Hp->VK->Prop:=fun x xs H Q=>∃ z y,x=.str z/\xs=[.str y]/\(y.length==0)=false/\z.length<=100000 /\ ∀ D,H D=none->Q (.ref D) (upd H D (.lst ((lS z y).map V.str)))
theorem Zs:MtR X "str.split" Q0:=by
 intro pins s σ H x xs v us Q I rx rs h
 obtain⟨z,y,rfl,rfl,hy,hz,q⟩:=h
 obtain⟨t,rfl⟩:=rx
 obtain⟨u,rfl,ru⟩:=rs.one
 obtain⟨t',rfl⟩:=ru
 have big:100002<=sizeLine:=by decide
 have fin:∀ (l:List (Str×Tok)) (k:Nat),l.map (·.1)=lS z y->s.toks<=k->EP X pins σ Q (.ref s.heap.objs.size) { s with toks:=k,heap:=s.heap.push { cls:=.type "list", data:=.seq (strValues l).toArray } }:=fun l k e htk=>by
  have hv:=Eo l
  rw [e] at hv
  have hl:((lS z y).map V.str).length<=sizeLine:=by
   rw [al]
   have:=split_le z y
   omega
  exact⟨.ref s.heap.objs.size,_,I.laid (t':=k) (a:=s.heap.objs.size) (fun b o q=>ae _ q) (af _) (show ObjOk X.prog X.w _ _ _ (.lst ((lS z y).map V.str)) from⟨hl,_,0,hv,aq _ rfl⟩),rfl,q _ (I.hok.fresh (af _))⟩
 have hn:(iC z (cq z y 0 z.length (z.length+1)) y.length).length<=sizeLine:=by
  have e1:=StrLaws.occ_length_le z y 0 z.length (z.length+1)
  rw [length_partsBetween];omega
 cases h1:(decide (z.length<y.length)||decide (kh z<kh y))
 ·cases hf:(cq z y 0 z.length (z.length+1)).isEmpty
  ·refine dE jb (jX _ _ _) iD (hX _ _) (meets_str_split_sep z y t t' h1 hy hf (by omega) hn) ?_
   show EP X pins σ Q _ { s with toks:=_,heap:=s.heap.push { cls:=.type "list", data:=.seq (strsFrom s.toks (iC z (cq z y 0 z.length (z.length+1)) y.length)).toArray } }
   rw [strsFrom_eq]
   exact fin (numbered s.toks _) _ ((numbered_texts _ _).trans ((if_neg (ne_true_of_eq_false h1)).trans (if_neg (ne_true_of_eq_false hf))).symm) (by first|exact af _|exact aB _ _|(dsimp only;omega))
  ·exact dE jb (jX _ _ _) iD (hX _ _) (meets_str_split_not_found z y t t' h1 hy hf) (fin [(z,t)] _ ((if_neg (ne_true_of_eq_false h1)).trans (if_pos hf)).symm (by first|exact af _|exact aB _ _|(dsimp only;omega)))
 ·exact dE jb (jX _ _ _) iD (hX _ _) (meets_str_split_cannot_occur z y t t' h1) (fin [(z,t)] _ (if_pos h1).symm (by first|exact af _|exact aB _ _|(dsimp only;omega)))
theorem ah5 {y:V} {v:Value} (r:RelV y v) (f:A8 y=true):a02 v=some y:=by
 cases y with
 | non=>cases r;rfl
 | bl b=>cases r;rfl
 | int i=>obtain⟨t,rfl⟩:=r;rfl
 | str z=>obtain⟨t,rfl⟩:=r;rfl
 | _=>cases f
noncomputable def eqF (y:V) (v:Value):Bool:=match a02 v with
 | some x=>eqV x y
 | none=>false
theorem Uh {ys:List V} {us:List Value} (r:Vals ys us):∀ {i:Nat} {u:Value},us[i]? = some u -> ∃ y,ys[i]? = some y/\RelV y u:=by
 induction r with
 | nil=>intro i u e;simp at e
 | @cons y v ys us h t ih=>
  intro i u e
  cases i with
  | zero=>rw [cN] at e;cases e;exact⟨y,rfl,h⟩
  | succ i=>rw [bA] at e;exact ih e
noncomputable def Qz:V->List V->Hp->VK->Prop:=fun x xs H Q=>∃ p ys y,x=.ref p/\xs=[y]/\H p=some (.lst ys)/\A8 y=true/\ys.all A8=true /\ ∃ j:Nat,j<ys.length/\eqV (ys.getD j .non) y=true/\(∀ m,m<j->eqV (ys.getD m .non) y=false)/\Q (.int j) H
theorem Zq:MtR X "list.index" Qz:=by
 intro pins s σ H x xs v us Q I rx rs h
 obtain⟨p,ys,y,rfl,rfl,hp,fy,fs,j,hj,e1,e2,q⟩:=h
 cases rx
 obtain⟨u,rfl,ru⟩:=rs.one
 obtain⟨hz,its,n,r,e⟩:=I.hok p _ hp
 have hl:=r.length
 have at_:∀ (m:Nat) (hm:m<its.toArray.size),eqF y its.toArray[m]=eqV (ys.getD m .non) y/\RelV (ys.getD m .non) its.toArray[m]/\A8 (ys.getD m .non)=true:=fun m hm=>by
  have hm':m<its.length:=by simpa using hm
  obtain⟨y',h1,h2⟩:=Uh r (i:=m) (u:=its[m]) (ah hm')
  have f':A8 y'=true:=List.all_eq_true.mp fs y' (bd h1)
  have g:ys.getD m .non=y':=by rw [bc,h1];rfl
  rw [g]
  have e3:its.toArray[m]=its[m]:=by simp
  rw [e3]
  refine⟨?_,h2,f'⟩
  unfold eqF
  rw [ah5 h2 f']
 have hs:its.toArray.size=ys.length:=by rw [am];omega
 refine dE iY ⟨_,e,rfl⟩ PySem.F.entry_list_index (PySem.F.args_list_index_2 _ _)
  (MeetsSeq.list_index p its.toArray n u (eqF y) (fun z hz=>?_) j (by omega) ?_ (by rw [(at_ j (by omega)).1];exact e1) (fun m hm hlt=>by rw [(at_ m hm).1];exact e2 m hlt)) ⟨e,?_⟩
 ·obtain⟨m,hm,rfl⟩:=Array.mem_iff_getElem.mp hz
  obtain⟨a1,a2,a3⟩:=at_ m hm
  rw [a1]
  exact fun prog w A E s Q hq=>Ma (A:=A) (s:=s) a2 ru a3 fy prog w E Q hq
 ·have:=bL
  have h3:(sizeLine:Int)<2 ^ 63 - 1:=by decide
  omega
 ·exact⟨.int j,H,I.tok _,⟨_,rfl⟩,q⟩
end
section
variable {prog:aO} {w:bM} {A:aX} {E:Value->ag->Prop} {s:ag}
theorem ak3:dR (.type "list_reverseiterator") "__len__" = pure none:=by rw [g6,eX];kernel_rfl
theorem Zh:dR (.type "list_reverseiterator") "__length_hint__" = pure (some (.builtin "list_reverseiterator.__length_hint__")):=by rw [g6,eX];kernel_rfl
theorem Y6 {r:Addr} {Q:Bool->ag->Prop} (ty:s.TypeIs (.ref r) "list_reverseiterator") (h:Q false s):ay (model prog w) A (bU (.ref r)) Q E s:=by
 unfold bU
 refine ac (fR ty ak3 ?_)
 generalize eid:("list_reverseiterator.__length_hint__" : String)=name
 have lh:=Zh
 rw [eid] at lh
 wp_delta
 refine ac (fR ty lh ?_)
 wp_delta
 rw [show splitId name=some ("list_reverseiterator", "__length_hint__") from eid▸by decide +kernel]
 subst eid
 refine ac (fv (T := "list_reverseiterator") (b:=true) ty (by rw [isSubtype_type];kernel_rfl) (cg (fun z=>absurd z (by decide)) fun _=>cg (fun _=>?_) fun z=>absurd (by decide +kernel) z))
 exact cg (fun z=>absurd z (by decide)) fun _=>ai h
theorem ad5 {l:Addr} {items:Array Value} {Q:Value->ag->Prop} (hh:A.handled=none) (hl:s.heap.IsList l items) (small:items.size<=sizeLine)
  (h:∀ h' tk acc c,(∀ b o,s.heap.get? b=some o->h'.get? b=some o)->h'.get? (s.heap.objs.size+1)=some { cls:=.type "list", dict:=none,data:=.seq acc c,slots:=#[] }->ItemsOf (fun i v=>items[items.size - 1 - i]? = some v) acc items.size->Q (.ref (s.heap.objs.size+1)) { s with heap:=h',toks:=tk }) :
  ay (model prog w) A (call (.type "reversed") [.ref l]) (fun v s1=>ay (model prog w) A (call (.type "list") [v]) Q E s1) E s:=by
 have lp:l<s.heap.objs.size:=by obtain⟨_,e,_⟩:=hl;exact au e
 refine call_reversed_list hl ?_
 have zv:(s.heap.push (mz l ((items.size:Int) - 1))).objs.size=s.heap.objs.size+1:=bE ..
 have view:(s.heap.push (mz l ((items.size:Int) - 1))).get? s.heap.objs.size=some (mz l ((items.size:Int) - 1)):=aq _ rfl
 have on1:∀ b o,s.heap.get? b=some o->(s.heap.push (mz l ((items.size:Int) - 1))).get? b=some o:=fun b o q=>ae _ q
 generalize s.heap.push (mz l ((items.size:Int) - 1))=h1 at zv view on1 ⊢
 refine j9 (s:={ s with heap:=h1 }) (Q₁:=fun obj s2=>obj=.ref (s.heap.objs.size+1)/\s2={ s with heap:=h1.push { cls:=.type "list", data:=.seq #[] } }) gU (fN _) fL
  (kU _ ⟨by show aH h1.objs.size=_;rw [zv],rfl⟩) fun obj s2 hs=>?_
 obtain⟨rfl,rfl⟩:=hs
 have S2:(h1.push { cls:=.type "list", data:=.seq #[] }).get? (s.heap.objs.size+1)=some { cls:=.type "list", data:=.seq #[] }:=zv▸aq _ rfl
 have view2:=ae { cls:=.type "list", data:=.seq #[] } view
 have on2:∀ b o,s.heap.get? b=some o->(h1.push { cls:=.type "list", data:=.seq #[] }).get? b=some o:=fun b o q=>ae _ (on1 b o q)
 generalize h1.push { cls:=.type "list", data:=.seq #[] }=h2 at S2 view2 on2 ⊢
 refine⟨⟨_,S2,rfl⟩,fD _ _,?_⟩
 show ay _ _ (do let old <- cV (.ref (s.heap.objs.size+1));fG (.ref (s.heap.objs.size+1)) (fun _=>#[]);letGo old.toList.reverse;bB (.ref (s.heap.objs.size+1)) (.ref s.heap.objs.size) .none) _ _ { s with heap:=h2 }
 refine ac ?_
 unfold cV
 refine ac (df (s:={ s with heap:=h2 }) S2 rfl (ai ?_))
 show ay _ _ (fq (s.heap.objs.size+1) (fun _=>#[]) >>= fun _=>letGo (#[]:Array Value).toList.reverse >>= fun _=>bB (.ref (s.heap.objs.size+1)) (.ref s.heap.objs.size) .none) _ _ { s with heap:=h2 }
 refine ac (cE (s:={ s with heap:=h2 }) S2 rfl (ac (gd ?_)))
 have S3:∃ c,(h2.update (s.heap.objs.size+1) (bu (fun _=>(#[]:Array Value)))).get? (s.heap.objs.size+1)=some { cls:=.type "list", data:=.seq #[] c }:=⟨_,aL _ S2 rfl⟩
 have o3:∀ b o,b≠s.heap.objs.size+1->h2.get? b=some o->(h2.update (s.heap.objs.size+1) (bu (fun _=>(#[]:Array Value)))).get? b=some o:=fun b o n q=>(aG _ _ (cx n)).trans q
 generalize h2.update (s.heap.objs.size+1) (bu (fun _=>(#[]:Array Value)))=h3 at S3 o3 ⊢
 obtain⟨c3,S3⟩:=S3
 have view3:h3.get? s.heap.objs.size=some (mz l ((items.size:Int) - 1)):=o3 _ _ (aA (cm _)) view2
 have on3:∀ b o,s.heap.get? b=some o->h3.get? b=some o:=fun b o q=>o3 b o (aA (bV (au q))) (on2 b o q)
 have isr:h3.IsRevIter s.heap.objs.size l ((items.size:Int) - 1):=⟨_,view3,rfl,rfl⟩
 have isl:h3.IsList l items:=hl.at fun o q=>on3 l o q
 unfold bB
 refine ac (ic (s:={ s with heap:=h3 }) (T := "list_reverseiterator") (jB (s:={ s with heap:=h3 }) isr) ?_)
 have t1:cI (.ref (s.heap.objs.size+1)) (.ref s.heap.objs.size)=false:=by simp [cI]
 have t2:(b_ "list_reverseiterator" == b_ "list")=false:=by decide
 have t3:(b_ "list_reverseiterator" == b_ "tuple")=false:=by decide
 simp only [t1,t2,t3,gB,bz,if_false]
 refine ac (wpAny_pyIter_revIter (s:={ s with heap:=h3 }) isr ?_)
 refine ac (bb (Y6 (s:={ s with heap:=h3 }) (jB (s:={ s with heap:=h3 }) isr) ?_))
 have nS:s.heap.objs.size+1∉[s.heap.objs.size,l]:=by
  simp only [aC,bT,or_false,not_or]
  exact⟨jh _,(aA (bV lp)).symm⟩
 have loop:∀ (h0:Heap) (c tk:Nat),(∀ b o,b≠s.heap.objs.size+1->h3.get? b=some o->h0.get? b=some o)->h0.get? (s.heap.objs.size+1)=some { cls:=.type "list", data:=.seq #[] c } ->
   d4 (model prog w) A.in1 (.builtin "list.extend.loop" ⟨[.ref (s.heap.objs.size+1),.ref s.heap.objs.size,.none],[]⟩) (wants (fun r s₂=>r=.none/\Q (.ref (s.heap.objs.size+1)) s₂) E) { s with heap:=h0,toks:=tk }:=by
  intro h0 c tk k5 S5
  have n1:s.heap.objs.size≠s.heap.objs.size+1:=by omega
  have n2:l≠s.heap.objs.size+1:=aA (bV lp)
  have W:=Walks.listRev (prog:=prog) (w:=w) (A:=A.in1.in1) (by simpa using hh) s.heap.objs.size l (aA lp) items
  refine codeAny_extend_loopS W.toS small _ nS .none items.size 0 _ #[] c rfl (bJ _) ⟨bJ _,?_,isl.at fun o q=>k5 l o n2 q⟩ S5 (ItemsOf.nil _) fun s' acc' c' hm hS' hacc=>?_
  ·have e:(items.size:Int) - 1 - ((0:Nat):Int)=(items.size:Int) - 1:=by omega
   rw [e]
   exact isr.at fun o q=>k5 _ o n1 q
  ·rw [Moved.eq_with hm]
   refine⟨rfl,h s'.heap s'.toks acc' c' (fun b o q=>hm.heap b o (fun hmem=>?_) (k5 b o (aA (bV (au q))) (on3 b o q))) hS' hacc⟩
   have hb:=au q
   simp only [aC,bT,or_false] at hmem
   rcases hmem with rfl|rfl
   ·exact absurd hb (Nat.not_lt.mpr (cG _))
   ·exact absurd hb (e8 _)
 refine cg (fun _=>?_) (fun _=>ai ⟨b9 cD _,loop h3 c3 s.toks (fun b o _ q=>q) S3⟩)
 refine ac (gJ (ac ?_))
 show ay _ _ (fq (s.heap.objs.size+1) (·.push .none) >>= fun _=>fq (s.heap.objs.size+1) (·.pop)) _ _ _
 have S5:=aL (bu (·.push be)) S3 rfl
 refine ac (cE (s:={ s with heap:=h3 }) S3 rfl (cE (hz:=by seq_fits) S5 rfl (ai ⟨b9 cD _,loop _ _ s.toks (fun b o n q=>?_) (aL (bu (·.pop)) S5 rfl)⟩)))
 exact (aG _ _ (cx n)).trans ((aG _ _ (cx n)).trans q)
end
section
variable {X:Cx} {pins:List (Addr×Obj)} {σ:St} {H:Hp} {s:ag} {Q:VK}
noncomputable def O1 (K:aa):V->Hp->VK->Prop:=fun x H Q=>match x with
 | .ref p=>∃ ys,SqL K H p ys /\ ∀ D,H D=none->Q (.ref D) (upd H D (.lst ys.reverse))
 | _=>False
theorem Nh:∀ {ys:List V} {us:List Value},ys.length=us.length->(∀ (i:Nat) y u,ys[i]? = some y->us[i]? = some u->RelV y u)->Vals ys us
 | [],[],_,_=>.nil
 | y::ys,u::us,hl,h=>.cons (h 0 y u rfl rfl) (Nh (by simpa using hl) fun i y u e1 e2=>h (i+1) y u (by rw [bA];exact e1) (by rw [bA];exact e2))
 | [],_::_,hl,_=>by simp at hl
 | _::_,[],hl,_=>by simp at hl
theorem Km {ys:List V} {its:List Value} (r:Vals ys its) {acc:Array Value} (h:ItemsOf (fun i v=>its.toArray[its.toArray.size - 1 - i]? = some v) acc its.toArray.size):Vals ys.reverse acc.toList:=by
 have hl:=r.length
 have hs:its.toArray.size=its.length:=am
 have ha:acc.toList.length=its.length:=by rw [cY,h.1,hs]
 refine Nh (by rw [gR,ha,hl]) fun i y u e1 e2=>?_
 rw [gi] at e2
 have e3:=h.2 i u e2
 have hi:i<its.length:=by
  have:=(Array.getElem?_eq_some_iff.mp e2).1
  rw [h.1,hs] at this
  exact this
 rw [hs,List.getElem?_toArray] at e3
 obtain⟨y',g1,g2⟩:=Uh r e3
 rw [List.getElem?_reverse (by omega),hl,g1] at e1
 cases e1
 exact g2
theorem Ze {p:Addr} {ys:List V} (hc:X.calm=true) (I:Inv X pins σ H s) (hq:SqL X.K H p ys) (q:∀ D,H D=none->Q (.ref D) (upd H D (.lst ys.reverse))) :
  ay (model X.prog X.w) X.A (call (.type "reversed") [.ref p]) (fun v s1=>ay (model X.prog X.w) X.A (call (.type "list") [v]) (EP X pins σ Q) X.xe s1) X.xe s:=by
 obtain⟨its,r,pl,hz⟩:=I.list hq
 have hl:=r.length
 refine bh (af _) (cA (ad5 (Q:=fun a s'=>s.toks<=s'.toks->EP X pins σ Q a s') (E:=fun e s'=>s.toks<=s'.toks->X.xe e s') (I.ok.hd hc) pl.isList (by rw [am];omega) fun h' tk acc c k e it htk=>?_) (fun v s1 z htk=>bh htk z) fun e s' z=>z)
 exact⟨.ref (s.heap.objs.size+1),_,I.laid (t':=tk) (a:=s.heap.objs.size+1) k (cG _) (show ObjOk X.prog X.w _ h' _ (.lst ys.reverse) from⟨by rw [gR];exact hz,acc.toList,c,Km r it,by simpa using e⟩),rfl,q _ (I.hok.fresh (cG _))⟩
noncomputable def O2:V->Hp->VK->Prop:=fun x H Q=>match x with
 | .int n=>n<=1000 /\ -(2 ^ 62)<=n /\ ∀ D,H D=none->Q (.ref D) (upd H D (.lst ((bO n.toNat).map fun i:Nat=>V.int (i:Int))))
 | _=>False
theorem Zf {n:Int} {t:Tok} (hc:X.calm=true) (I:Inv X pins σ H s) (hn:n<=1000) (h0:-(2 ^ 62)<=n) (q:∀ D,H D=none->Q (.ref D) (upd H D (.lst ((bO n.toNat).map fun i:Nat=>V.int (i:Int))))) :
  ay (model X.prog X.w) X.A (call (.type "range") [.int n t]) (fun v s1=>ay (model X.prog X.w) X.A (call (.type "list") [v]) (EP X pins σ Q) X.xe s1) X.xe s:=by
 refine call_range_1 ?_
 have zv:(s.heap.push { cls:=.type "range", data:=.fields #[.int 0 s.toks,.int n t,.int 1 (s.toks+1)] }).objs.size=s.heap.objs.size+1:=bE ..
 have hr:IsRange (s.heap.push { cls:=.type "range", data:=.fields #[.int 0 s.toks,.int n t,.int 1 (s.toks+1)] }) s.heap.objs.size 0 n 1 s.toks t (s.toks+1):=lN ..
 have on1:∀ b o,s.heap.get? b=some o->(s.heap.push { cls:=.type "range", data:=.fields #[.int 0 s.toks,.int n t,.int 1 (s.toks+1)] }).get? b=some o:=fun b o q=>ae _ q
 generalize s.heap.push { cls:=.type "range", data:=.fields #[.int 0 s.toks,.int n t,.int 1 (s.toks+1)] }=h1 at zv hr on1 ⊢
 refine bh (n:=s.toks) (show s.toks<=s.toks+1+1 by omega) (call_list_range (n:=(n - 0).toNat) (I.ok.hd hc) hr (small_one (by omega) (by omega) (by omega) (by omega)) (rangeSize_nat _ _) (by omega) fun h' tk acc c k e it htk=>?_)
 rw [zv] at e ⊢
 rw [Int.sub_zero] at it
 refine⟨.ref (s.heap.objs.size+1),_,I.laid (t':=tk) (a:=s.heap.objs.size+1) (fun b o q=>k b o (on1 b o q)) (cG _) (show ObjOk X.prog X.w _ h' _ (.lst ((bO n.toNat).map fun i:Nat=>V.int (i:Int))) from⟨?_,acc.toList,c,Nh ?_ fun i y u e1 e2=>?_,by simpa using e⟩),rfl,q _ (I.hok.fresh (cG _))⟩
 ·rw [al,iF]
  exact aR (show n.toNat<=1000 by omega) (by decide)
 ·rw [al,iF,cY,it.1]
 ·rw [gi] at e2
  obtain⟨tt,ev⟩:=it.2 i u e2
  have hi:i<n.toNat:=by
   have:=(Array.getElem?_eq_some_iff.mp e2).1
   rw [it.1] at this
   exact this
  rw [aI,ko hi] at e1
  cases e1
  exact⟨tt,by rw [ev];congr 1;omega⟩
end
open Sem (wp)
section
variable {M:mw} {A:aX} {E:Value->ag->Prop} {env:Env}
variable {nm q:Str} {C N:Addr} {bs bm:List Value} {hdct:Bool} {sn:List Str} {sub:List Value} {ab:Bool} {col:Option Bool} {dd:Option Addr} {k0 k1 k2 k3 k5:Option Value} {newId:String}
end
section
variable {X:Cx} {e:Expr} {te:TE} {pos:Pos}
noncomputable def ac8 (K:aa) (R:EK):VK:=fun x H=>match x with
 | .ref a=>∃ C dx,H a=some (E1 a C dx)/\ECls K C/\R a (upd H a (flO a C dx))
 | _=>False
theorem aa3 {Ex:St->EK} (m:Meets X Ex) (hh:X.A.handled=none) (he:PE X e te):PS X (.Raise (some e) none pos) (fun _ σ H=>te σ H (ac8 X.K (Ex σ))):=by
 intro pins s σ H D I h
 rw [arm_exec_Raise]
 show ay _ _ (do ls pos;lY X.env (some (do let v <- eval e X.env;ls pos;pure v)) none) _ _ s
 refine ac (eC ?_)
 unfold lY
 refine ac (ac (thn (he pins s σ H _ I h) fun v s1 ⟨x,H1,I1,r1,q1⟩=>ac (eC (ai ?_))))
 cases x with
 | ref a=>
  cases r1
  obtain⟨C,dx,ea,c,q⟩:=q1
  obtain⟨vs,g1,g2,g3,g4⟩:=Ie I1 ea
  obtain⟨nm,qn,N,bs,bm,hdct,sn,sub,ab,col,dd,k0,k1,k2,k3,k5,hl,ht,hd⟩:=c.obj
  have hC:=I1.kIn _ _ hl
  have hb:bm.contains (.type "BaseException")=true:=Bg ht (by decide +kernel)
  have I2:Inv X pins σ (upd H1 a (flO a C dx)) s1:=by
   have:=I1.write (x:=a) (e:=a) (h':=s1.heap) (t':=s1.toks) (o:=flO a C dx) (by rw [ea];exact aY) (.inl rfl) (fun b u _ z=>z) ⟨_,g1⟩ (Yt g1 g2 g4)
   exact this
  have hx:=m pins σ _ s1 a I2 ⟨C,dx,vs,.inl Ad,g1,g2,.inl g3⟩ q
  have hcB:(aH C::bm).contains (.type "BaseException")=true:=by rw [b7,hb,fC]
  obtain⟨hp,g,d,tk,os⟩:=s1
  repeat (first|with_reducible refine aZ g1 rfl g3 ?_|with_reducible refine bo g1 ?_|with_reducible refine bo hC ?_|(with_reducible refine ce hC ?_;rw [hcB])|wp_step)
  exact wpAny_raiseNew_none hh hx
 | _=>exact (show False from q1).elim
end
end L2
namespace L2
open PySem PySem.Spec PyProof.Rows
inductive Dt where
 | at_ (v:V)
 | lst (l:List Dt)
 | tup (l:List Dt)
mutual
noncomputable def deq:Dt->Dt->Bool
 | .at_ v,.at_ w=>eqV v w
 | .lst xs,.lst ys=>C3 xs ys
 | .tup xs,.tup ys=>C3 xs ys
 | _,_=>false
noncomputable def C3:List Dt->List Dt->Bool
 | [],[]=>true
 | x::xs,y::ys=>deq x y&&C3 xs ys
 | _,_=>false
end
mutual
noncomputable def dep:Dt->Nat
 | .at_ _=>0
 | .lst l=>Cj l+1
 | .tup l=>Cj l+1
noncomputable def Cj:List Dt->Nat
 | []=>0
 | x::xs=>ma (dep x) (Cj xs)
end
mutual
noncomputable def At (K:aa) (H:Hp):Dt->V->Prop
 | .at_ v,x=>x=v/\A8 v=true
 | .lst ds,x=>∃ a xs,x=.ref a/\SqL K H a xs/\AtL K H ds xs
 | .tup ds,x=>∃ a xs,x=.ref a/\SqT K H a xs/\AtL K H ds xs
noncomputable def AtL (K:aa) (H:Hp):List Dt->List V->Prop
 | [],xs=>xs=[]
 | d::ds,xs=>∃ y ys,xs=y::ys/\At K H d y/\AtL K H ds ys
end
theorem AtL.length {K:aa} {H:Hp}:∀ {ds:List Dt} {xs:List V},AtL K H ds xs->xs.length=ds.length
 | [],xs,h=>by unfold AtL at h;subst h;rfl
 | d::ds,xs,h=>by
  unfold AtL at h
  obtain⟨y,ys,rfl,_,h2⟩:=h
  rw [aQ,aQ,AtL.length h2]
theorem At.pl {K:aa} {H:Hp}:∀ {d:Dt} {x:V},At K H d x->x.pl=true
 | .at_ v,x,h=>by
  unfold At at h
  obtain⟨h1,f⟩:=h
  subst h1
  cases x <;> first|rfl|cases f
 | .lst l,x,h=>by unfold At at h;obtain⟨a,xs,h1,_⟩:=h;subst h1;rfl
 | .tup l,x,h=>by unfold At at h;obtain⟨a,xs,h1,_⟩:=h;subst h1;rfl
theorem Yo {v:V} (h:A8 v=true):eqV v v=true:=by
 cases v <;> first|rfl|(exact beq_self_eq_true _)|exact absurd (show false=true from h) aj
mutual
theorem Ed {K:aa} {H:Hp}:∀ {d:Dt} {x:V},At K H d x->deq d d=true
 | .at_ v,x,h=>by unfold At at h;unfold deq;exact Yo h.2
 | .lst l,x,h=>by unfold At at h;obtain⟨a,xs,_,_,h⟩:=h;unfold deq;exact Gb h
 | .tup l,x,h=>by unfold At at h;obtain⟨a,xs,_,_,h⟩:=h;unfold deq;exact Gb h
theorem Gb {K:aa} {H:Hp}:∀ {ds:List Dt} {xs:List V},AtL K H ds xs->C3 ds ds=true
 | [],xs,h=>by unfold C3;rfl
 | d::ds,xs,h=>by
  unfold AtL at h
  obtain⟨y,ys,rfl,h1,h2⟩:=h
  unfold C3
  rw [Ed h1,Gb h2]
  rfl
end
theorem Ef:∀ {xs ys:List Dt},xs.length≠ys.length->C3 xs ys=false
 | [],[],h=>absurd rfl h
 | [],_::_,_=>by unfold C3;rfl
 | _::_,[],_=>by unfold C3;rfl
 | x::xs,y::ys,h=>by
  unfold C3
  rw [Ef (xs:=xs) (ys:=ys) (fun e=>h (by rw [aQ,aQ,e])),ig]
theorem C4 (z:Dt):∀ {xs ys:List Dt},xs.length=ys.length->C3 xs ys=(bO xs.length).all fun j=>deq (xs.getD j z) (ys.getD j z)
 | [],[],_=>by unfold C3;rfl
 | [],_::_,h=>by simp at h
 | _::_,[],h=>by simp at h
 | x::xs,y::ys,h=>by
  unfold C3
  rw [aQ,jq,bw,gk,C4 z (xs:=xs) (ys:=ys) (by simpa using h)]
  rfl
section
variable {X:Cx} {pins:List (Addr×Obj)} {σ:St} {H:Hp} {s:ag}
theorem Ot {a:Addr} {xs ys:List V} (I:Inv X pins σ H s) (h:SqL X.K H a xs) (h':SqT X.K H a ys):False:=by
 obtain⟨its,r,⟨o,n,e,c,_,d⟩,_⟩:=I.list h
 obtain⟨its',r',⟨o',e',c',n',d'⟩,_⟩:=I.tuple h'
 rw [e] at e';cases e'
 rw [c] at c'
 injection c' with c'
 exact absurd c' (by decide)
mutual
theorem Ls (I:Inv X pins σ H s):∀ {d d':Dt} {x:V},At X.K H d x->At X.K H d' x->d=d'
 | .at_ v,.at_ w,x,h,h'=>by unfold At at h h';rw [<- h.1,<- h'.1]
 | .at_ v,.lst l,x,h,h'=>by
  unfold At at h h'
  obtain⟨a,xs,rfl,_⟩:=h'
  rw [<- h.1] at h
  exact absurd (show false=true from h.2) aj
 | .at_ v,.tup l,x,h,h'=>by
  unfold At at h h'
  obtain⟨a,xs,rfl,_⟩:=h'
  rw [<- h.1] at h
  exact absurd (show false=true from h.2) aj
 | .lst l,.at_ v,x,h,h'=>by
  unfold At at h h'
  obtain⟨a,xs,rfl,_⟩:=h
  rw [<- h'.1] at h'
  exact absurd (show false=true from h'.2) aj
 | .tup l,.at_ v,x,h,h'=>by
  unfold At at h h'
  obtain⟨a,xs,rfl,_⟩:=h
  rw [<- h'.1] at h'
  exact absurd (show false=true from h'.2) aj
 | .lst l,.lst l',x,h,h'=>by
  unfold At at h h'
  obtain⟨a,xs,rfl,q,h⟩:=h
  obtain⟨a',xs',e,q',h'⟩:=h'
  cases e
  rw [I.list_inj q q'] at h
  rw [Lr I h h']
 | .tup l,.tup l',x,h,h'=>by
  unfold At at h h'
  obtain⟨a,xs,rfl,q,h⟩:=h
  obtain⟨a',xs',e,q',h'⟩:=h'
  cases e
  rw [I.tuple_inj q q'] at h
  rw [Lr I h h']
 | .lst l,.tup l',x,h,h'=>by
  unfold At at h h'
  obtain⟨a,xs,rfl,q,h⟩:=h
  obtain⟨a',xs',e,q',h'⟩:=h'
  cases e
  exact (Ot I q q').elim
 | .tup l,.lst l',x,h,h'=>by
  unfold At at h h'
  obtain⟨a,xs,rfl,q,h⟩:=h
  obtain⟨a',xs',e,q',h'⟩:=h'
  cases e
  exact (Ot I q' q).elim
theorem Lr (I:Inv X pins σ H s):∀ {ds ds':List Dt} {xs:List V},AtL X.K H ds xs->AtL X.K H ds' xs->ds=ds'
 | [],[],_,_,_=>rfl
 | [],_::_,_,h,h'=>by unfold AtL at h h';obtain⟨y,ys,e,_⟩:=h';rw [h] at e;cases e
 | _::_,[],_,h,h'=>by unfold AtL at h h';obtain⟨y,ys,e,_⟩:=h;rw [h'] at e;cases e
 | d::ds,d'::ds',xs,h,h'=>by
  unfold AtL at h h'
  obtain⟨y,ys,rfl,h1,h2⟩:=h
  obtain⟨y',ys',e,h1',h2'⟩:=h'
  cases e
  rw [Ls I h1 h1',Lr I h2 h2']
end
theorem K4 {A:aX} {v:V} {u:Value} {a:Addr} {its:Array Value} (f:A8 v=true) (r:RelV v u) (hl:s.heap.IsList a its) (hu:A.units<cLine):bp A s u (.ref a) false/\bp A s (.ref a) u false:=by
 cases v with
 | non=>cases r;exact⟨.none_list hl hu,.list_none hl hu⟩
 | bl b=>cases r;exact⟨.bool_list b hl hu,.list_bool b hl hu⟩
 | int i=>obtain⟨t,rfl⟩:=r;exact⟨.int_list i t hl hu,.list_int i t hl hu⟩
 | str i=>obtain⟨t,rfl⟩:=r;exact⟨.str_list i t hl hu,.list_str i t hl hu⟩
 | _=>exact absurd (show false=true from f) aj
theorem Ih {A:aX} {v:V} {u:Value} {a:Addr} {its:Array Value} (f:A8 v=true) (r:RelV v u) (hl:s.heap.IsTuple a its) (hu:A.units<cLine):bp A s u (.ref a) false/\bp A s (.ref a) u false:=by
 cases v with
 | non=>cases r;exact⟨.none_tuple hl hu,.tuple_none hl hu⟩
 | bl b=>cases r;exact⟨.bool_tuple b hl hu,.tuple_bool b hl hu⟩
 | int i=>obtain⟨t,rfl⟩:=r;exact⟨.int_tuple i t hl hu,.tuple_int i t hl hu⟩
 | str i=>obtain⟨t,rfl⟩:=r;exact⟨.str_tuple i t hl hu,.tuple_str i t hl hu⟩
 | _=>exact absurd (show false=true from f) aj
theorem IsTup.isTuple {h:Heap} {a:Addr} {its:Array Value} (p:lJ h a its):h.IsTuple a its:=p
mutual
theorem Ic (I:Inv X pins σ H s):∀ (d d':Dt) (A:aX) (x y:V) (u v:Value),At X.K H d x->At X.K H d' y->RelV x u->RelV y v->A.units+dep d<cLine->bp A s u v (deq d d')
 | .at_ p,.at_ q,A,x,y,u,v,h,h',r,r',hu=>by
  unfold At at h h';unfold deq
  obtain⟨rfl,f⟩:=h
  obtain⟨rfl,f'⟩:=h'
  exact Ma r r' f f'
 | .at_ p,.lst l,A,x,y,u,v,h,h',r,r',hu=>by
  unfold At at h h';unfold deq
  obtain⟨rfl,f⟩:=h
  obtain⟨a,xs,rfl,q,_⟩:=h'
  obtain⟨its,_,pl,_⟩:=I.list q
  cases r'
  exact (K4 f r pl.isList (by omega)).1
 | .at_ p,.tup l,A,x,y,u,v,h,h',r,r',hu=>by
  unfold At at h h';unfold deq
  obtain⟨rfl,f⟩:=h
  obtain⟨a,xs,rfl,q,_⟩:=h'
  obtain⟨its,_,pl,_⟩:=I.tuple q
  cases r'
  exact (Ih f r pl (by omega)).1
 | .lst l,.at_ p,A,x,y,u,v,h,h',r,r',hu=>by
  unfold At at h h';unfold deq
  obtain⟨rfl,f⟩:=h'
  obtain⟨a,xs,rfl,q,_⟩:=h
  obtain⟨its,_,pl,_⟩:=I.list q
  cases r
  exact (K4 f r' pl.isList (by omega)).2
 | .tup l,.at_ p,A,x,y,u,v,h,h',r,r',hu=>by
  unfold At at h h';unfold deq
  obtain⟨rfl,f⟩:=h'
  obtain⟨a,xs,rfl,q,_⟩:=h
  obtain⟨its,_,pl,_⟩:=I.tuple q
  cases r
  exact (Ih f r' pl (by omega)).2
 | .lst l,.tup l',A,x,y,u,v,h,h',r,r',hu=>by
  unfold At at h h';unfold deq
  obtain⟨a,xs,rfl,q,_⟩:=h
  obtain⟨b,ys,rfl,q',_⟩:=h'
  obtain⟨its,_,pl,_⟩:=I.list q
  obtain⟨its',_,pl',_⟩:=I.tuple q'
  cases r;cases r'
  exact .list_tuple pl.isList pl' (by omega)
 | .tup l,.lst l',A,x,y,u,v,h,h',r,r',hu=>by
  unfold At at h h';unfold deq
  obtain⟨a,xs,rfl,q,_⟩:=h
  obtain⟨b,ys,rfl,q',_⟩:=h'
  obtain⟨its,_,pl,_⟩:=I.tuple q
  obtain⟨its',_,pl',_⟩:=I.list q'
  cases r;cases r'
  exact .tuple_list pl pl'.isList (by omega)
 | .lst l,.lst l',A,x,y,u,v,h,h',r,r',hu=>by
  by_cases e:x=y
  ·subst e
   have:=Ls I h h'
   rw [<- this,Ed h]
   have hx:∃ a,x=.ref a:=by unfold At at h;obtain⟨a,_,e,_⟩:=h;exact⟨a,e⟩
   obtain⟨a,rfl⟩:=hx
   cases r;cases r'
   exact .same _
  ·unfold At at h h';unfold deq
   unfold dep at hu
   obtain⟨a,xs,rfl,q,h⟩:=h
   obtain⟨b,ys,rfl,q',h'⟩:=h'
   obtain⟨its,ri,pl,_⟩:=I.list q
   obtain⟨its',ri',pl',_⟩:=I.list q'
   cases r;cases r'
   have ne:a≠b:=fun z=>e (by rw [z])
   have e1:=h.length
   have e2:=h'.length
   have e3:=ri.length
   have e4:=ri'.length
   refine .of_refs ne ?_
   by_cases hl:l.length=l'.length
   ·rw [C4 (.lst []) hl]
    have hsz:its.toArray.size=l.length:=by simp;omega
    rw [<- hsz]
    exact .lists pl.isList pl'.isList (by simp;omega) (by omega) fun j h1 h2=>by
     have:=Fj I l l' A.in1 xs ys its its' h h' ri ri' (by show A.units+1+Cj l<cLine;omega) j (by simpa using h1) (by simpa using h2)
     simpa using this
   ·rw [Ef hl]
    exact .lists_lengths pl.isList pl'.isList (by simp;omega) (by omega)
 | .tup l,.tup l',A,x,y,u,v,h,h',r,r',hu=>by
  by_cases e:x=y
  ·subst e
   have:=Ls I h h'
   rw [<- this,Ed h]
   have hx:∃ a,x=.ref a:=by unfold At at h;obtain⟨a,_,e,_⟩:=h;exact⟨a,e⟩
   obtain⟨a,rfl⟩:=hx
   cases r;cases r'
   exact .same _
  ·unfold At at h h';unfold deq
   unfold dep at hu
   obtain⟨a,xs,rfl,q,h⟩:=h
   obtain⟨b,ys,rfl,q',h'⟩:=h'
   obtain⟨its,ri,pl,_⟩:=I.tuple q
   obtain⟨its',ri',pl',_⟩:=I.tuple q'
   cases r;cases r'
   have ne:a≠b:=fun z=>e (by rw [z])
   have e1:=h.length
   have e2:=h'.length
   have e3:=ri.length
   have e4:=ri'.length
   refine .of_refs ne ?_
   have T:=SeqAt.RcAt.tuples (A:=A) (s:=s) (e:=fun j=>deq (l.getD j (.lst [])) (l'.getD j (.lst []))) pl pl' (by omega) fun j h1 h2=>by
     have:=Fj I l l' A.in1 xs ys its its' h h' ri ri' (by show A.units+1+Cj l<cLine;omega) j (by simpa using h1) (by simpa using h2)
     simpa using this
   by_cases hl:l.length=l'.length
   ·rw [C4 (.lst []) hl]
    have hsz:its.toArray.size=l.length:=by simp;omega
    have hsz':its'.toArray.size=l.length:=by simp;omega
    rw [hsz,hsz',Nat.min_self,beq_self_eq_true,iO] at T
    exact T
   ·rw [Ef hl]
    have hne:(its.toArray.size==its'.toArray.size)=false:=by
     rw [beq_eq_false_iff_ne];simp;omega
    rw [hne,ig] at T
    exact T
theorem Fj (I:Inv X pins σ H s):∀ (ds ds':List Dt) (A:aX) (xs ys:List V) (us vs:List Value),AtL X.K H ds xs->AtL X.K H ds' ys->Vals xs us->Vals ys vs->A.units+Cj ds<cLine ->
  ∀ (j:Nat) (h1:j<us.length) (h2:j<vs.length),bp A s us[j] vs[j] (deq (ds.getD j (.lst [])) (ds'.getD j (.lst [])))
 | [],_,A,xs,ys,us,vs,h,h',r,r',hu=>fun j h1 h2=>by
  unfold AtL at h
  subst h
  cases r
  cases h1
 | _::_,[],A,xs,ys,us,vs,h,h',r,r',hu=>fun j h1 h2=>by
  unfold AtL at h'
  subst h'
  cases r'
  cases h2
 | d::ds,d'::ds',A,xs,ys,us,vs,h,h',r,r',hu=>fun j h1 h2=>by
  unfold AtL at h h'
  obtain⟨y,ys,rfl,q1,q2⟩:=h
  obtain⟨z,zs,rfl,q1',q2'⟩:=h'
  cases r with
  | cons r1 r2=>
   cases r' with
   | cons r1' r2'=>
    unfold Cj at hu
    have m1:dep d<=ma (dep d) (Cj ds):=jG _ _
    have m2:Cj ds<=ma (dep d) (Cj ds):=jg _ _
    cases j with
    | zero=>exact Ic I d d' A _ _ _ _ q1 q1' r1 r1' (by omega)
    | succ j=>exact Fj I ds ds' A _ _ _ _ q2 q2' r2 r2' (by omega) j (by simpa using h1) (by simpa using h2)
end
theorem Ev {K:aa} {d:Dt} {a:Addr} (h:At K H d (.ref a)):(∃ l xs,d=.lst l/\SqL K H a xs/\AtL K H l xs)\/(∃ l xs,d=.tup l/\SqT K H a xs/\AtL K H l xs):=by
 cases d with
 | at_ v=>
  unfold At at h
  rw [<- h.1] at h
  exact absurd (show false=true from h.2) aj
 | lst l=>unfold At at h;obtain⟨b,xs,e,q,h⟩:=h;cases e;exact .inl ⟨l,xs,rfl,q,h⟩
 | tup l=>unfold At at h;obtain⟨b,xs,e,q,h⟩:=h;cases e;exact .inr ⟨l,xs,rfl,q,h⟩
theorem Os {K:aa} {d:Dt} {x:V} (h:At K H d x) (f:∀ a,x≠.ref a):d=.at_ x/\A8 x=true:=by
 cases d with
 | at_ v=>unfold At at h;rw [h.1];exact⟨rfl,h.2⟩
 | lst l=>unfold At at h;obtain⟨b,xs,e,_⟩:=h;exact absurd e (f b)
 | tup l=>unfold At at h;obtain⟨b,xs,e,_⟩:=h;exact absurd e (f b)
theorem b03 (I:Inv X pins σ H s) {A:aX} {d d':Dt} {a b:Addr} (h:At X.K H d (.ref a)) (h':At X.K H d' (.ref b)) (hu:A.units+dep d<cLine):gI A s (.ref a) (.ref b) (deq d d')/\eW A s (.ref a) (.ref b) (!deq d d'):=by
 rcases Ev h with ⟨l,xs,rfl,q,h⟩|⟨l,xs,rfl,q,h⟩
 ·rcases Ev h' with ⟨l',ys,rfl,q',h'⟩|⟨l',ys,rfl,q',h'⟩
  ·unfold deq
   unfold dep at hu
   obtain⟨its,ri,pl,_⟩:=I.list q
   obtain⟨its',ri',pl',_⟩:=I.list q'
   have e1:=h.length
   have e2:=h'.length
   have e3:=ri.length
   have e4:=ri'.length
   have it:∀ j (h1:j<its.toArray.size) (h2:j<its'.toArray.size),bp A.in1 s its.toArray[j] its'.toArray[j] (deq (l.getD j (.lst [])) (l'.getD j (.lst []))):=fun j h1 h2=>by
    have:=Fj I l l' A.in1 xs ys its its' h h' ri ri' (by show A.units+1+Cj l<cLine;omega) j (by simpa using h1) (by simpa using h2)
    simpa using this
   by_cases hl:l.length=l'.length
   ·rw [C4 (.lst []) hl]
    have hsz:its.toArray.size=l.length:=by simp;omega
    rw [<- hsz]
    exact⟨.lists pl.isList pl'.isList (by simp;omega) (by omega) it,.lists pl.isList pl'.isList (by simp;omega) (by omega) it⟩
   ·rw [Ef hl]
    exact⟨.lists_lengths pl.isList pl'.isList (by simp;omega) (by omega),.lists_lengths pl.isList pl'.isList (by simp;omega) (by omega)⟩
  ·unfold deq
   obtain⟨its,ri,pl,_⟩:=I.list q
   obtain⟨its',ri',pl',_⟩:=I.tuple q'
   exact⟨.list_tuple pl.isList pl' (by omega),.list_tuple pl.isList pl' (by omega)⟩
 ·rcases Ev h' with ⟨l',ys,rfl,q',h'⟩|⟨l',ys,rfl,q',h'⟩
  ·unfold deq
   obtain⟨its,ri,pl,_⟩:=I.tuple q
   obtain⟨its',ri',pl',_⟩:=I.list q'
   exact⟨.tuple_list pl pl'.isList (by omega),.tuple_list pl pl'.isList (by omega)⟩
  ·unfold deq
   unfold dep at hu
   obtain⟨its,ri,pl,_⟩:=I.tuple q
   obtain⟨its',ri',pl',_⟩:=I.tuple q'
   have e1:=h.length
   have e2:=h'.length
   have e3:=ri.length
   have e4:=ri'.length
   have it:∀ j (h1:j<its.toArray.size) (h2:j<its'.toArray.size),bp A.in1 s its.toArray[j] its'.toArray[j] (deq (l.getD j (.lst [])) (l'.getD j (.lst []))):=fun j h1 h2=>by
    have:=Fj I l l' A.in1 xs ys its its' h h' ri ri' (by show A.units+1+Cj l<cLine;omega) j (by simpa using h1) (by simpa using h2)
    simpa using this
   have T:=SeqAt.RcAt.tuples pl pl' (by omega) it
   have T':=SeqAt.RcNeAt.tuples pl pl' (by omega) it
   by_cases hl:l.length=l'.length
   ·rw [C4 (.lst []) hl]
    have hsz:its.toArray.size=l.length:=by simp;omega
    have hsz':its'.toArray.size=l.length:=by simp;omega
    rw [hsz,hsz',Nat.min_self,beq_self_eq_true,iO] at T T'
    exact⟨T,T'⟩
   ·rw [Ef hl]
    have hne:(its.toArray.size==its'.toArray.size)=false:=by
     rw [beq_eq_false_iff_ne];simp;omega
    rw [hne,ig] at T T'
    exact⟨T,T'⟩
theorem Tv (I:Inv X pins σ H s) {A:aX} {d:Dt} {a:Addr} {v:V} {u:Value} (h:At X.K H d (.ref a)) (f:A8 v=true) (r:RelV v u) (hu:A.units<cLine) :
  gI A s (.ref a) u false/\eW A s (.ref a) u true/\gI A s u (.ref a) false/\eW A s u (.ref a) true:=by
 rcases Ev h with ⟨l,xs,rfl,q,h⟩|⟨l,xs,rfl,q,h⟩
 ·obtain⟨its,ri,pl,_⟩:=I.list q
  cases v with
  | non=>cases r;exact⟨.list_none pl.isList hu,.list_none pl.isList hu,.none_list pl.isList hu,.none_list pl.isList hu⟩
  | bl b=>cases r;exact⟨.list_bool b pl.isList hu,.list_bool b pl.isList hu,.bool_list b pl.isList hu,.bool_list b pl.isList hu⟩
  | int b=>obtain⟨t,rfl⟩:=r;exact⟨.list_int b t pl.isList hu,.list_int b t pl.isList hu,.int_list b t pl.isList hu,.int_list b t pl.isList hu⟩
  | str b=>obtain⟨t,rfl⟩:=r;exact⟨.list_str b t pl.isList hu,.list_str b t pl.isList hu,.str_list b t pl.isList hu,.str_list b t pl.isList hu⟩
  | _=>exact absurd (show false=true from f) aj
 ·obtain⟨its,ri,pl,_⟩:=I.tuple q
  cases v with
  | non=>cases r;exact⟨.tuple_none pl hu,.tuple_none pl hu,.none_tuple pl hu,.none_tuple pl hu⟩
  | bl b=>cases r;exact⟨.tuple_bool b pl hu,.tuple_bool b pl hu,.bool_tuple b pl hu,.bool_tuple b pl hu⟩
  | int b=>obtain⟨t,rfl⟩:=r;exact⟨.tuple_int b t pl hu,.tuple_int b t pl hu,.int_tuple b t pl hu,.int_tuple b t pl hu⟩
  | str b=>obtain⟨t,rfl⟩:=r;exact⟨.tuple_str b t pl hu,.tuple_str b t pl hu,.str_tuple b t pl hu,.str_tuple b t pl hu⟩
  | _=>exact absurd (show false=true from f) aj
noncomputable def ac1 (K:aa) (neg:Bool):R2:=fun x y H Q=>∃ d d',At K H d x/\At K H d' y/\dep d<=40/\Q (.bl (if neg then !deq d d' else deq d d')) H
theorem ad1 (I:Inv X pins σ H s) {A:aX} {d d':Dt} {x y:V} {u v:Value} (h:At X.K H d x) (h':At X.K H d' y) (r:RelV x u) (r':RelV y v) (hr:(∃ a,x=.ref a) \/ ∃ b,y=.ref b) (hu:A.units+dep d<cLine) :
  gI A s u v (deq d d')/\eW A s u v (!deq d d'):=by
 by_cases hx:∃ a,x=.ref a
 ·obtain⟨a,rfl⟩:=hx
  cases r
  by_cases hy:∃ b,y=.ref b
  ·obtain⟨b,rfl⟩:=hy
   cases r'
   exact b03 I h h' hu
  ·obtain⟨rfl,f⟩:=Os h' (fun b e=>hy ⟨b,e⟩)
   obtain⟨q1,q2,_⟩:=Tv I h f r' (show A.units<cLine by omega)
   have e:deq d (.at_ y)=false:=by
    rcases Ev h with ⟨l,xs,rfl,_⟩|⟨l,xs,rfl,_⟩ <;> (unfold deq;rfl)
   rw [e]
   exact⟨q1,q2⟩
 ·have hy:∃ b,y=.ref b:=hr.resolve_left hx
  obtain⟨b,rfl⟩:=hy
  cases r'
  obtain⟨rfl,f⟩:=Os h (fun b e=>hx ⟨b,e⟩)
  obtain⟨_,_,q1,q2⟩:=Tv I h' f r (show A.units<cLine by omega)
  have e:deq (.at_ x) d'=false:=by
   rcases Ev h' with ⟨l,xs,rfl,_⟩|⟨l,xs,rfl,_⟩ <;> (unfold deq;rfl)
  rw [e]
  exact⟨q1,q2⟩
theorem Qp (hu:X.A.units+64<cLine) {x y:V} {u v:Value} {Q:VK} (I:Inv X pins σ H s) (rx:RelV x u) (ry:RelV y v) (hr:(∃ a,x=.ref a) \/ ∃ b,y=.ref b) (h:ac1 X.K false x y H Q):ay (model X.prog X.w) X.A (bZ .Eq u v) (EP X pins σ Q) X.xe s:=by
 obtain⟨d,d',h1,h2,hd,q⟩:=h
 exact (ad1 I h1 h2 rx ry hr (A:=X.A) (by omega)).1 _ _ _ _ ⟨.bl _,H,I,rfl,q⟩
theorem Qq (hu:X.A.units+64<cLine) {x y:V} {u v:Value} {Q:VK} (I:Inv X pins σ H s) (rx:RelV x u) (ry:RelV y v) (hr:(∃ a,x=.ref a) \/ ∃ b,y=.ref b) (h:ac1 X.K true x y H Q):ay (model X.prog X.w) X.A (bZ .NotEq u v) (EP X pins σ Q) X.xe s:=by
 obtain⟨d,d',h1,h2,hd,q⟩:=h
 exact (ad1 I h1 h2 rx ry hr (A:=X.A) (by omega)).2 _ _ _ _ ⟨.bl _,H,I,rfl,q⟩
noncomputable def eqW (K:aa) (H:Hp) (d':Dt) (u:Value):Bool:=@decide (∃ x d,RelV x u/\At K H d x/\deq d d'=true) (fH _)
theorem a10 (I:Inv X pins σ H s) {d d':Dt} {x:V} {u:Value} (r:RelV x u) (h:At X.K H d x):eqW X.K H d' u=deq d d':=by
 unfold eqW
 cases e:deq d d' with
 | true=>exact @decide_eq_true _ (fH _) ⟨x,d,r,h,e⟩
 | false=>
  refine @decide_eq_false _ (fH _) fun⟨x',d2,r',h',e'⟩=>?_
  have:=r.inj r' h.pl h'.pl
  subst this
  rw [Ls I h h'] at e
  rw [e] at e'
  cases e'
theorem Lc (I:Inv X pins σ H s) {A:aX} {d':Dt} {y:V} {v:Value} (h':At X.K H d' y) (r':RelV y v):∀ {ds:List Dt} {xs:List V} {us:List Value},AtL X.K H ds xs->Vals xs us->A.units+Cj ds<cLine ->
  (∀ u∈us,bp A s u v (eqW X.K H d' u))/\us.countP (eqW X.K H d')=ds.countP (fun d=>deq d d')/\us.any (eqW X.K H d')=ds.any (fun d=>deq d d')
 | [],xs,us,h,r,hu=>by
  unfold AtL at h
  subst h
  cases r
  exact⟨(fun u hu=>by cases hu),rfl,rfl⟩
 | d::ds,xs,us,h,r,hu=>by
  unfold AtL at h
  obtain⟨x,xs,rfl,h1,h2⟩:=h
  cases r with
  | cons r1 r2=>
   unfold Cj at hu
   have m1:dep d<=ma (dep d) (Cj ds):=jG _ _
   have m2:Cj ds<=ma (dep d) (Cj ds):=jg _ _
   obtain⟨q1,q2,q3⟩:=Lc I h' r' h2 r2 (A:=A) (by omega)
   have e:=a10 I (d':=d') r1 h1
   refine⟨fun u hu=>?_,?_,?_⟩
   ·rcases List.mem_cons.mp hu with rfl|hu
    ·rw [e];exact Ic I d d' A _ _ _ _ h1 h' r1 r' (by omega)
    ·exact q1 u hu
   ·rw [List.countP_cons,List.countP_cons,q2,e]
   ·rw [c8,c8,q3,e]
noncomputable def Qy (K:aa):V->List V->Hp->VK->Prop:=fun x xs H Q=>∃ p y ds d ys,x=.ref p/\xs=[y]/\SqL K H p ys/\AtL K H ds ys/\At K H d y/\Cj ds<=40/\Q (.int (ds.countP fun c=>deq c d:Nat)) H
theorem Zp (hu:X.A.units+64<cLine):MtR X "list.count" (Qy X.K):=by
 intro pins s σ H x xs v us Q I rx rs h
 obtain⟨p,y,ds,d,ys,rfl,rfl,hq,hL,hd,hz,q⟩:=h
 cases rx
 cases rs with
 | cons ry t=>
  cases t
  obtain⟨its,r,⟨o,n,e,c,dn,dt⟩,hz2⟩:=I.list hq
  obtain⟨oc,od,odt,osl⟩:=o
  simp only at c dn dt
  subst c dn dt
  obtain⟨q1,q2,q3⟩:=Lc I hd ry hL r (A:=X.A.in1) (by show X.A.units+1+Cj ds<cLine;omega)
  refine dE iX ⟨_,e,rfl⟩ PySem.F.entry_list_count (PySem.F.args_list_count_2 _ _) (SeqAt.list_countAt p its.toArray n none osl _ (eqW X.K H d)) ⟨e,fun z hz=>q1 z (by simpa using hz),?_⟩
  refine⟨.int _,H,I.tok _,⟨_,rfl⟩,?_⟩
  rw [<- q2] at q
  exact q
end
open AutoSeq1 (wpAny_loadPart')
open MeetsSeq MeetsSeq2 MeetsSeq3 SeqRoads2
noncomputable def Pl (P:aO) (w:bM) (A:aX) (s:ag) (y x:Value) (b:Bool):Prop:=∀ (E:Value->ag->Prop) (Q:Bool->ag->Prop),Q b s->ay (model P w) A (eqBool y x) Q E s
section
variable {P:aO} {w:bM} {l b:Addr} {items items2:Array Value} {n n2:Nat} {dd dd2:Option Addr} {sl sl2:Array (Option Value)}
noncomputable abbrev aq9 (l b:Addr) (items items2:Array Value) (n n2:Nat) (dd dd2:Option Addr) (sl sl2:Array (Option Value)) (P:aO) (w:bM) (r:Bool):bH:=fun A R s=>
 s.heap.get? l=some { cls:=.type "list", dict:=dd,data:=.seq items n,slots:=sl }/\s.heap.get? b=some { cls:=.type "list", dict:=dd2,data:=.seq items2 n2,slots:=sl2 } /\
    (∀ j (h1:j<items.size) (h2:j<items2.size),Pl P w A.in1 s items[j] items2[j] true)/\R (.ok (.ret (.bool r))) s
theorem U8 (hsz:items.size=items2.size) (k:Nat):∀ i:Nat,items.size - i=k->lj P w (ar.«list.__eq__.loop» ⟨[.ref l,.ref b,dJ i,dJ 2],[]⟩) (aq9 l b items items2 n n2 dd dd2 sl sl2 P w true):=by
 induction k with
 | zero=>
  intro i hk A R s h
  obtain⟨hp,g,d,tk,os⟩:=s;obtain⟨hl,hb,he,h⟩:=h
  wp_walk using aF hl,aF hb
  have hi1:items[((i:Nat):Int).toNat]? = none:=by simp;omega
  have hi2:items2[((i:Nat):Int).toNat]? = none:=by simp;omega
  rw [hi1,hi2]
  wp_walk using aF hl,aF hb
  show R (.ok (.ret (.bool (items.size==items2.size)))) _
  rw [hsz]
  simpa using h
 | succ k ih=>
  intro i hk A R s h
  obtain⟨hp,g,d,tk,os⟩:=s;obtain⟨hl,hb,he,h⟩:=h
  wp_walk using aF hl,aF hb
  have hlt:i<items.size:=by omega
  have hlt2:i<items2.size:=by omega
  have hi1:items[((i:Nat):Int).toNat]? = some items[i]:=by simp [hlt]
  have hi2:items2[((i:Nat):Int).toNat]? = some items2[i]:=by simp [hlt2]
  have hc:((i:Int)+1)=((i+1:Nat):Int):=by push_cast;rfl
  rw [hi1,hi2]
  refine ac (he i hlt hlt2 _ _ ?_)
  wp_walk
  rw [hc]
  exact⟨b9 cP _,bY fP (by
   rw [bG cP _]
   exact ih (i+1) (by omega) A R _ ⟨hl,hb,he,h⟩)⟩
theorem Vy (hsz:items.size=items2.size) (k:Nat):∀ i:Nat,items.size - i=k->lj P w (ar.«list.__eq__.loop» ⟨[.ref l,.ref b,dJ i,dJ 3],[]⟩) (aq9 l b items items2 n n2 dd dd2 sl sl2 P w false):=by
 induction k with
 | zero=>
  intro i hk A R s h
  obtain⟨hp,g,d,tk,os⟩:=s;obtain⟨hl,hb,he,h⟩:=h
  wp_walk using aF hl,aF hb
  have hi1:items[((i:Nat):Int).toNat]? = none:=by simp;omega
  have hi2:items2[((i:Nat):Int).toNat]? = none:=by simp;omega
  rw [hi1,hi2]
  wp_walk using aF hl,aF hb
  show R (.ok (.ret (.bool (items.size != items2.size)))) _
  rw [hsz]
  simpa using h
 | succ k ih=>
  intro i hk A R s h
  obtain⟨hp,g,d,tk,os⟩:=s;obtain⟨hl,hb,he,h⟩:=h
  wp_walk using aF hl,aF hb
  have hlt:i<items.size:=by omega
  have hlt2:i<items2.size:=by omega
  have hi1:items[((i:Nat):Int).toNat]? = some items[i]:=by simp [hlt]
  have hi2:items2[((i:Nat):Int).toNat]? = some items2[i]:=by simp [hlt2]
  have hc:((i:Int)+1)=((i+1:Nat):Int):=by push_cast;rfl
  rw [hi1,hi2]
  refine ac (he i hlt hlt2 _ _ ?_)
  wp_walk
  rw [hc]
  exact⟨b9 cP _,bY fP (by
   rw [bG cP _]
   exact ih (i+1) (by omega) A R _ ⟨hl,hb,he,h⟩)⟩
theorem Vo (hsz:items.size=items2.size):lj P w (ar.«list.__eq__» ⟨[.ref l,.ref b],[]⟩) (aq9 l b items items2 n n2 dd dd2 sl sl2 P w true):=by
 intro A R s h
 obtain⟨hp,g,d,tk,os⟩:=s;obtain⟨hl,hb,he,h⟩:=h
 have f3:=fU
 have hne:¬ (items.size != items2.size)=true:=by simp [hsz]
 wp_walk using aF hl,aF hb
 exact⟨b9 cP _,bY fP (by
  rw [bG cP _]
  exact U8 hsz _ 0 rfl A R _ ⟨hl,hb,he,h⟩)⟩
theorem Vq (hsz:items.size=items2.size):lj P w (ar.«list.__ne__» ⟨[.ref l,.ref b],[]⟩) (aq9 l b items items2 n n2 dd dd2 sl sl2 P w false):=by
 intro A R s h
 obtain⟨hp,g,d,tk,os⟩:=s;obtain⟨hl,hb,he,h⟩:=h
 have f3:=fU
 have hne:¬ (items.size != items2.size)=true:=by simp [hsz]
 wp_walk using aF hl,aF hb
 exact⟨b9 cP _,bY fP (by
  rw [bG cP _]
  exact Vy hsz _ 0 rfl A R _ ⟨hl,hb,he,h⟩)⟩
theorem Iv {A:aX} {E:Value->ag->Prop} {s:ag} {Q:Value->ag->Prop} (hl:s.heap.IsList l items) (hb:s.heap.IsList b items2) (hsz:items.size=items2.size) (hu:A.units<cLine) (he:∀ j (h1:j<items.size) (h2:j<items2.size),Pl P w A.in1 s items[j] items2[j] true) :
  (Q (.bool true) s->ay (model P w) A (bZ .Eq (.ref l) (.ref b)) Q E s)/\(Q (.bool false) s->ay (model P w) A (bZ .NotEq (.ref l) (.ref b)) Q E s):=by
 obtain⟨⟨cls,dd,data,sl⟩,ho,hc,n,hd⟩:=id hl
 obtain⟨⟨cls2,dd2,data2,sl2⟩,ho2,hc2,n2,hd2⟩:=id hb
 simp only at hc hd hc2 hd2
 subst hc hd hc2 hd2
 have t1:s.TypeIs (.ref l) "list" := ⟨_,ho,rfl⟩
 have t2:s.TypeIs (.ref b) "list" := ⟨_,ho2,rfl⟩
 refine⟨fun h=>?_,fun h=>?_⟩
 ·exact eZ (op:=.Eq) t1 t2 F.slot_list_eq (dW F.slot_list_eq t1 F.entry_list_eq (F.args_list_eq_2 _ _) (Vo (n:=n) (n2:=n2) (dd:=dd) (dd2:=dd2) (sl:=sl) (sl2:=sl2) hsz) ⟨ho,ho2,he,show eE true≠fj/\Q (.bool true) s from⟨(fun x=>nomatch x),h⟩⟩) hu
 ·exact eZ (op:=.NotEq) t1 t2 F.slot_list_ne (dW F.slot_list_ne t1 F.entry_list_ne (F.args_list_ne_2 _ _) (Vq (n:=n) (n2:=n2) (dd:=dd) (dd2:=dd2) (sl:=sl) (sl2:=sl2) hsz) ⟨ho,ho2,he,show eE false≠fj/\Q (.bool false) s from⟨(fun x=>nomatch x),h⟩⟩) hu
end
section
variable {P:aO} {w:bM}
theorem Sd {l b:Addr} {items items2:Array Value} {n n2:Nat} {dd dd2:Option Addr} {sl sl2:Array (Option Value)} (hsz:items.size=items2.size) :
  lj P w (ar.«tuple.__ne__» ⟨[.ref l,.ref b],[]⟩)
   (fun A R s=>s.heap.get? l=some { cls:=.type "tuple", dict:=dd,data:=.seq items n,slots:=sl }/\s.heap.get? b=some { cls:=.type "tuple", dict:=dd2,data:=.seq items2 n2,slots:=sl2 } /\
    (∀ j (h1:j<items.size) (h2:j<items2.size),Pl P w A.in1 s items[j] items2[j] true)/\R (.ok (.ret (.bool false))) s):=by
 intro A R s h
 obtain⟨hp,g,d,tk,os⟩:=s;obtain⟨hl,hb,he,h⟩:=h
 have f2:=AutoSeq1.sub_tuple_tuple
 have hZ:(items.toList.zip items2.toList).length=min items.size items2.size:=by simp
 wp_walk using aF hl,aF hb,wpAny_forIn_list _ (fun rest b s'=>b.1=none/\s'=⟨hp,g,d,tk,os⟩ /\ ∃ i,rest=(items.toList.zip items2.toList).drop i) _
 case turn=>
  rintro⟨y,x⟩ rest b s' ⟨hb',rfl,i,hz⟩
  have hlt:i<(items.toList.zip items2.toList).length:=by
   rcases jH i (items.toList.zip items2.toList).length with h'|h'
   ·exact h'
   ·rw [List.drop_of_length_le h'] at hz;cases hz
  have hm:i<min items.size items2.size:=hZ▸hlt
  have h1:i<items.size:=av hm (Nat.min_le_left _ _)
  have h2:i<items2.size:=av hm (Nat.min_le_right _ _)
  rw [cC hlt] at hz
  injection hz with hyx hrest
  have hy:y=items[i]:=by have:=congrArg Prod.fst hyx;simpa using this
  have hx:x=items2[i]:=by have:=congrArg Prod.snd hyx;simpa using this
  subst hy hx
  refine ac (he i h1 h2 _ _ ?_)
  wp_walk
  exact⟨rfl,rfl,i+1,hrest⟩
 case fin=>
  rintro⟨b1,b2⟩ s' ⟨hb',rfl,i,hz⟩
  simp only at hb'
  subst hb'
  wp_walk
  simpa [Builtin.Tuple.tupleCompareSizes,bne,hsz] using h
 case h=>exact⟨rfl,rfl,0,rfl⟩
theorem Wm {A:aX} {E:Value->ag->Prop} {s:ag} {Q:Value->ag->Prop} {l b:Addr} {items items2:Array Value} (hl:s.heap.IsTuple l items) (hb:s.heap.IsTuple b items2) (hsz:items.size=items2.size) (hu:A.units<cLine) (he:∀ j (h1:j<items.size) (h2:j<items2.size),Pl P w A.in1 s items[j] items2[j] true) (h:Q (.bool false) s) :
  ay (model P w) A (bZ .NotEq (.ref l) (.ref b)) Q E s:=by
 obtain⟨⟨cls,dd,data,sl⟩,ho,hc,n,hd⟩:=id hl
 obtain⟨⟨cls2,dd2,data2,sl2⟩,ho2,hc2,n2,hd2⟩:=id hb
 simp only at hc hd hc2 hd2
 subst hc hd hc2 hd2
 have t1:s.TypeIs (.ref l) "tuple" := ⟨_,ho,rfl⟩
 have t2:s.TypeIs (.ref b) "tuple" := ⟨_,ho2,rfl⟩
 exact eZ (op:=.NotEq) t1 t2 F.slot_tuple_ne (dW F.slot_tuple_ne t1 F.entry_tuple_ne (F.args_tuple_ne_2 _ _) (Sd (n:=n) (n2:=n2) (dd:=dd) (dd2:=dd2) (sl:=sl) (sl2:=sl2) hsz) ⟨ho,ho2,he,show eE false≠fj/\Q (.bool false) s from⟨(fun x=>nomatch x),h⟩⟩) hu
end
noncomputable def Nx (K:aa) (H:Hp) (a b:Addr):Prop:=∃ (kvs kvs':List (Key×V)) (ds:List Dt),Rd H a (.dK kvs)/\Rd H b (.dK kvs')/\kvs.map (·.1)=kvs'.map (·.1)/\AtL K H ds (kvs.map (·.2))/\AtL K H ds (kvs'.map (·.2))/\Cj ds<=40
noncomputable def Xz (K:aa) (H:Hp) (x y:V):Prop:=(∃ d,At K H d x/\At K H d y/\dep d<=30) \/ ∃ a b,x=.ref a/\y=.ref b/\Nx K H a b
noncomputable def ar4 (K:aa) (H:Hp) (x y:V):Prop:=Xz K H x y \/ ∃ a b xs ys,x=.ref a/\y=.ref b/\SqL K H a xs/\SqL K H b ys/\xs.length=ys.length /\ ∀ (i:Nat) x y,xs[i]? = some x->ys[i]? = some y->Xz K H x y
noncomputable def ba2 (K:aa) (neg:Bool):R2:=fun x y H Q=>match x,y with
 | .ref a,.ref b=>(Nx K H a b/\Q (.bl (!neg)) H)\/(∃ kvs,Rd H a (.dK kvs)/\Rd H b (.dK [])/\Q (.bl (if neg then !kvs.isEmpty else kvs.isEmpty)) H) \/
   (∃ xs ys,SqL K H a xs/\SqL K H b ys/\xs.length=ys.length/\(∀ (i:Nat) x y,xs[i]? = some x->ys[i]? = some y -> ∃ a b,x=.ref a/\y=.ref b/\Nx K H a b)/\Q (.bl (!neg)) H) \/
   (neg=true /\ ∃ xs ys,SqT K H a xs/\SqT K H b ys/\xs.length=ys.length/\(∀ (i:Nat) x y,xs[i]? = some x->ys[i]? = some y->ar4 K H x y)/\Q (.bl false) H) \/
   (∃ xs ys,SqL K H a xs/\SqL K H b ys/\xs.length≠ys.length/\Q (.bl neg) H)
 | _,_=>False
theorem Lp {K:aa} {H:Hp}:∀ {ds:List Dt} {xs:List V} {i:Nat} {x:V},AtL K H ds xs->xs[i]? = some x -> ∃ d,ds[i]? = some d/\At K H d x
 | [],xs,i,x,h,e=>by unfold AtL at h;subst h;simp at e
 | d::ds,xs,0,x,h,e=>by
  unfold AtL at h
  obtain⟨y,ys,rfl,h1,_⟩:=h
  simp at e
  subst e
  exact⟨d,rfl,h1⟩
 | d::ds,xs,i+1,x,h,e=>by
  unfold AtL at h
  obtain⟨y,ys,rfl,_,h2⟩:=h
  obtain⟨d',e1,e2⟩:=Lp h2 (by simpa using e)
  exact⟨d',by simpa using e1,e2⟩
theorem N6:∀ {ds:List Dt} {i:Nat} {d:Dt},ds[i]? = some d->dep d<=Cj ds
 | [],_,_,h=>by simp at h
 | x::ds,0,d,h=>by
  simp at h
  subst h
  exact jG _ _
 | x::ds,i+1,d,h=>aR (N6 (ds:=ds) (i:=i) (by simpa using h)) (jg _ _)
theorem Od {A:aX} {s:ag} {kb:List (Key×Value)}:∀ {l:List (Key×Value)},(∀ p∈l,∃ y,i_ kb p.1=some y/\bp A s p.2 y true)->PySem.W.KeqHits A s kb l true
 | [],_=>.nil
 | (k,v)::l,h=>by
  obtain⟨y,h1,h2⟩:=h (k,v) bC
  exact .hit (e:=true) (b:=true) h1 h2 (Od fun p hp=>h p (aJ _ hp))
theorem af6 {κ:Type} [DecidableEq κ]:∀ {kvs:List (κ×V)} {i:Nat} {k:κ} {v:V},(kvs.map (·.1)).Nodup->kvs[i]? = some (k,v)->Fv kvs k=some v
 | [],i,k,v,_,h=>by simp at h
 | p::r,0,k,v,_,h=>by
  simp at h
  subst h
  exact Fx rfl
 | p::r,i+1,k,v,nd,h=>by
  rw [aS,fK] at nd
  have h:r[i]? = some (k,v):=by simpa using h
  rw [Fw (fun e=>nd.1 (by rw [e];exact List.mem_map.mpr ⟨_,bd h,rfl⟩))]
  exact af6 nd.2 h
section
variable {X:Cx} {pins:List (Addr×Obj)} {σ:St} {H:Hp} {s:ag}
theorem Tj:∀ {kvs:List (Key×V)} {vs:List (Key×Value)} {i:Nat} {k:Key} {u:Value},KV kvs vs->vs[i]? = some (k,u) -> ∃ v,kvs[i]? = some (k,v)/\RelV v u
 | _,_,0,k,u,.cons (a:=p) r _,e=>by
  simp only [cN,f7] at e
  subst e
  exact⟨p.2,congrArg some (Prod.ext r.1 rfl),r.2⟩
 | _,_,i+1,k,u,.cons r t,e=>by
  simp only [bA] at e ⊢
  exact Tj t e
theorem Gv {A:aX} {a b:Addr} (I:Inv X pins σ H s) (h:Nx X.K H a b) (hu:A.units+40<cLine):∃ ka kb,(a==cQ)=false/\(b==cQ)=false/\s.heap.DictOf (Ao X.prog X.w) a ka/\s.heap.DictOf (Ao X.prog X.w) b kb/\ka.length=kb.length/\PySem.W.KeqHits A s kb ka true:=by
 obtain⟨kvs,kvs',ds,h1,h2,hk,t1,t2,hd⟩:=h
 obtain⟨_,z1,ka,r1,d1⟩:=Cs I.hok h1
 obtain⟨_,z2,kb,r2,d2⟩:=Cs I.hok h2
 have nd:(kvs'.map (·.1)).Nodup:=by
  rw [r2.keys]
  obtain⟨_,_,_,_,_,_,_,_,nd⟩:=id d2
  exact nd
 have len:kvs.length=kvs'.length:=by have:=congrArg List.length hk;simpa using this
 refine⟨ka,kb,z1,z2,d1,d2,by rw [<- r1.length,<- r2.length,len],Od fun p hp=>?_⟩
 obtain⟨i,hi⟩:=List.mem_iff_getElem?.mp hp
 obtain⟨k,u⟩:=p
 obtain⟨x,hx,rx⟩:=Tj r1 hi
 have hi':i<kvs'.length:=by rw [<- len];exact (List.getElem?_eq_some_iff.mp hx).1
 obtain⟨⟨k',x'⟩,hx'⟩:∃ q,kvs'[i]? = some q:=⟨_,ah hi'⟩
 have ek:k'=k:=by
  have e1:(kvs.map (·.1))[i]? = some k:=by rw [aI,hx];rfl
  have e2:(kvs'.map (·.1))[i]? = some k':=by rw [aI,hx'];rfl
  rw [hk,e2] at e1
  exact aK e1
 subst ek
 have hv:=r2.val k'
 rw [af6 nd hx'] at hv
 obtain⟨y,hy,ry⟩:∃ y,i_ kb k'=some y/\RelV x' y:=by
  cases e:i_ kb k' with
  | none=>rw [e] at hv;cases hv
  | some y=>rw [e] at hv;exact⟨y,rfl,hv⟩
 obtain⟨d,hd1,a1⟩:=Lp t1 (i:=i) (x:=x) (by rw [aI,hx];rfl)
 obtain⟨d',hd2,a2⟩:=Lp t2 (i:=i) (x:=x') (by rw [aI,hx'];rfl)
 rw [hd1] at hd2
 cases hd2
 have dl:=N6 hd1
 refine⟨y,hy,?_⟩
 have:=Ic I d d A x x' u y a1 a2 rx ry (by omega)
 rwa [Ed a1] at this
theorem M4 {A:aX} {a b:Addr} (I:Inv X pins σ H s) (h:Nx X.K H a b) (hu:A.units+41<cLine):Pl X.prog X.w A s (.ref a) (.ref b) true:=by
 intro E Q hq
 by_cases e:a=b
 ·subst e
  exact jP _ _ _ _ _ hq
 ·obtain⟨ka,kb,z1,z2,d1,d2,len,hits⟩:=Gv (A:=A.in1) I h (by show A.units+1+40<cLine;omega)
  unfold eqBool
  refine bb ?_
  refine cg (fun hab=>absurd (by have:=cO hab;injection this) e) (fun _=>?_)
  refine ac (j7 z1 z2 d1 d2 (by omega) (fun _=>hits) ?_)
  rw [len,beq_self_eq_true]
  exact c7 hq
theorem Pb {A:aX} {x y:V} {u v:Value} (I:Inv X pins σ H s) (h:Xz X.K H x y) (rx:RelV x u) (ry:RelV y v) (hu:A.units+41<cLine):Pl X.prog X.w A s u v true:=by
 rcases h with ⟨d,a1,a2,hd⟩|⟨a,b,rfl,rfl,sd⟩
 ·have:=Ic I d d A x y u v a1 a2 rx ry (by omega)
  rw [Ed a1] at this
  exact fun E Q hq=>this _ _ E Q hq
 ·cases rx;cases ry
  exact M4 I sd hu
theorem ad6 {A:aX} {x y:V} {u v:Value} (I:Inv X pins σ H s) (h:ar4 X.K H x y) (rx:RelV x u) (ry:RelV y v) (hu:A.units+42<cLine):Pl X.prog X.w A s u v true:=by
 rcases h with h|⟨a,b,xs,ys,rfl,rfl,h1,h2,len,h3⟩
 ·exact Pb I h rx ry (by omega)
 ·cases rx;cases ry
  intro E Q hq
  by_cases e:a=b
  ·subst e
   exact jP _ _ _ _ _ hq
  ·obtain⟨its,ri,pl,_⟩:=I.list h1
   obtain⟨its',ri',pl',_⟩:=I.list h2
   have e3:=ri.length
   have e4:=ri'.length
   unfold eqBool
   refine bb ?_
   refine cg (fun hab=>absurd (by have:=cO hab;injection this) e) (fun _=>?_)
   refine ac ((Iv pl.isList pl'.isList (by simp;omega) (by omega) fun j j1 j2=>?_).1 (c7 hq))
   have j1:j<its.length:=by simpa using j1
   have j2:j<its'.length:=by simpa using j2
   obtain⟨u1,g1,r1⟩:=ri.get (ah (show j<xs.length by omega))
   obtain⟨u2,g2,r2⟩:=ri'.get (ah (show j<ys.length by omega))
   have f1:its[j]=u1:=by rw [ah j1] at g1;exact aK g1
   have f2:its'[j]=u2:=by rw [ah j2] at g2;exact aK g2
   simp only [dw]
   rw [f1,f2]
   exact Pb I (h3 j _ _ (ah (by omega)) (ah (by omega))) r1 r2 (by show A.units+1+41<cLine;omega)
theorem a43 (hu:X.A.units+64<cLine) {x y:V} {u v:Value} {Q:VK} (I:Inv X pins σ H s) (rx:RelV x u) (ry:RelV y v) (h:ba2 X.K false x y H Q):ay (model X.prog X.w) X.A (bZ .Eq u v) (EP X pins σ Q) X.xe s:=by
 cases x <;> cases y <;> first|exact (show False from h).elim|skip
 cases rx;cases ry
 rcases h with ⟨h,q⟩|⟨kvs,h1,h2,q⟩|⟨xs,ys,h1,h2,len,h3,q⟩|⟨z,_⟩|⟨xs,ys,h1,h2,len,q⟩
 rotate_right
 ·obtain⟨its,ri,pl,_⟩:=I.list h1
  obtain⟨its',ri',pl',_⟩:=I.list h2
  have e3:=ri.length
  have e4:=ri'.length
  exact SeqAt.RcAt.lists_lengths pl.isList pl'.isList (by simp;omega) (by omega) _ _ _ _ ⟨.bl _,H,I,rfl,q⟩
 rotate_right
 ·cases z
 ·obtain⟨ka,kb,z1,z2,d1,d2,len,hits⟩:=Gv (A:=X.A.in1) I h (by show X.A.units+1+40<cLine;omega)
  refine j7 z1 z2 d1 d2 (by omega) (fun _=>hits) ?_
  rw [len,beq_self_eq_true]
  exact⟨.bl true,H,I,rfl,q⟩
 ·obtain⟨_,z1,ka,r1,d1⟩:=Cs I.hok h1
  obtain⟨_,z2,kb,r2,d2⟩:=Cs I.hok h2
  cases r2
  refine j7 (r:=true) z1 z2 d1 d2 (by omega) (fun e=>?_) ?_
  ·rw [List.length_eq_zero_iff.mp e];exact .nil
  ·have e:(ka.length==([]:List (Key×Value)).length&&true)=kvs.isEmpty:=by
    rw [iO,<- r1.length]
    cases kvs <;> rfl
   rw [e]
   exact⟨.bl _,H,I,rfl,q⟩
 ·obtain⟨its,ri,pl,_⟩:=I.list h1
  obtain⟨its',ri',pl',_⟩:=I.list h2
  have e3:=ri.length
  have e4:=ri'.length
  refine (Iv pl.isList pl'.isList (by simp;omega) (by omega) fun j j1 j2=>?_).1 ⟨.bl true,H,I,rfl,q⟩
  have j1:j<its.length:=by simpa using j1
  have j2:j<its'.length:=by simpa using j2
  have jx:j<xs.length:=by omega
  have jy:j<ys.length:=by omega
  obtain⟨a,b,ea,eb,sd⟩:=h3 j _ _ (ah jx) (ah jy)
  obtain⟨u1,g1,r1⟩:=ri.get (ah jx)
  obtain⟨u2,g2,r2⟩:=ri'.get (ah jy)
  rw [ea] at r1
  rw [eb] at r2
  have f1:its[j]=.ref a:=by rw [ah j1] at g1;exact (aK g1).trans r1
  have f2:its'[j]=.ref b:=by rw [ah j2] at g2;exact (aK g2).trans r2
  simp only [dw]
  rw [f1,f2]
  exact M4 I sd (by show X.A.units+1+41<cLine;omega)
theorem a48 (hu:X.A.units+64<cLine) {x y:V} {u v:Value} {Q:VK} (I:Inv X pins σ H s) (rx:RelV x u) (ry:RelV y v) (h:ba2 X.K true x y H Q):ay (model X.prog X.w) X.A (bZ .NotEq u v) (EP X pins σ Q) X.xe s:=by
 cases x <;> cases y <;> first|exact (show False from h).elim|skip
 cases rx;cases ry
 rcases h with ⟨h,q⟩|⟨kvs,h1,h2,q⟩|⟨xs,ys,h1,h2,len,h3,q⟩|⟨_,xs,ys,h1,h2,len,h3,q⟩|⟨xs,ys,h1,h2,len,q⟩
 rotate_right
 ·obtain⟨its,ri,pl,_⟩:=I.list h1
  obtain⟨its',ri',pl',_⟩:=I.list h2
  have e3:=ri.length
  have e4:=ri'.length
  exact hU pl.isList pl'.isList (by simp;omega) (by omega) _ _ _ _ ⟨.bl _,H,I,rfl,q⟩
 rotate_right
 ·obtain⟨its,ri,pl,_⟩:=I.tuple h1
  obtain⟨its',ri',pl',_⟩:=I.tuple h2
  have e3:=ri.length
  have e4:=ri'.length
  refine Wm (IsTup.isTuple pl) (IsTup.isTuple pl') (by rw [am,am];omega) (by omega) (fun j j1 j2=>?_) ⟨.bl false,H,I,rfl,q⟩
  have j1:j<its.length:=by simpa using j1
  have j2:j<its'.length:=by simpa using j2
  obtain⟨u1,g1,r1⟩:=ri.get (ah (show j<xs.length by omega))
  obtain⟨u2,g2,r2⟩:=ri'.get (ah (show j<ys.length by omega))
  have f1:its[j]=u1:=by rw [ah j1] at g1;exact aK g1
  have f2:its'[j]=u2:=by rw [ah j2] at g2;exact aK g2
  simp only [dw]
  rw [f1,f2]
  exact ad6 I (h3 j _ _ (ah (by omega)) (ah (by omega))) r1 r2 (by show X.A.units+1+42<cLine;omega)
 ·obtain⟨ka,kb,z1,z2,d1,d2,len,hits⟩:=Gv (A:=X.A.in1) I h (by show X.A.units+1+40<cLine;omega)
  refine PySem.W.keq_ne z1 z2 d1 d2 (by omega) (fun _=>hits) ?_
  rw [len,beq_self_eq_true]
  exact⟨.bl false,H,I,rfl,q⟩
 ·obtain⟨_,z1,ka,r1,d1⟩:=Cs I.hok h1
  obtain⟨_,z2,kb,r2,d2⟩:=Cs I.hok h2
  cases r2
  refine PySem.W.keq_ne (r:=true) z1 z2 d1 d2 (by omega) (fun e=>?_) ?_
  ·rw [List.length_eq_zero_iff.mp e];exact .nil
  ·have e:(!(ka.length==([]:List (Key×Value)).length&&true)) = !kvs.isEmpty:=by
    rw [iO,<- r1.length]
    cases kvs <;> rfl
   rw [e]
   exact⟨.bl _,H,I,rfl,q⟩
 ·obtain⟨its,ri,pl,_⟩:=I.list h1
  obtain⟨its',ri',pl',_⟩:=I.list h2
  have e3:=ri.length
  have e4:=ri'.length
  refine (Iv pl.isList pl'.isList (by simp;omega) (by omega) fun j j1 j2=>?_).2 ⟨.bl false,H,I,rfl,q⟩
  have j1:j<its.length:=by simpa using j1
  have j2:j<its'.length:=by simpa using j2
  have jx:j<xs.length:=by omega
  have jy:j<ys.length:=by omega
  obtain⟨a,b,ea,eb,sd⟩:=h3 j _ _ (ah jx) (ah jy)
  obtain⟨u1,g1,r1⟩:=ri.get (ah jx)
  obtain⟨u2,g2,r2⟩:=ri'.get (ah jy)
  rw [ea] at r1
  rw [eb] at r2
  have f1:its[j]=.ref a:=by rw [ah j1] at g1;exact (aK g1).trans r1
  have f2:its'[j]=.ref b:=by rw [ah j2] at g2;exact (aK g2).trans r2
  simp only [dw]
  rw [f1,f2]
  exact M4 I sd (by show X.A.units+1+41<cLine;omega)
end
end L2
namespace L2
open PySem PySem.Spec PyProof.Rows
section
variable {X:Cx} {pins:List (Addr×Obj)} {σ:St} {H:Hp} {s:ag}
noncomputable def Gs (a:Str) (k:Nat):Str:=⟨(a0 k a.cps).foldl (· ++ ·) #[]⟩
noncomputable def ac7:R2:=fun x y H Q=>match x,y with
 | .str a,.int k=>0<a.length/\2<=k/\k<=1000/\a.length * k.toNat<=16777216/\(Gs a k.toNat).length<=16777216/\Q (.str (Gs a k.toNat)) H
 | _,_=>False
theorem al9:OpR X (c_ .Mult) ac7:=by
 intro pins s σ H x y v u Q I rx ry h
 unfold ac7 at h
 split at h
 ·rename_i a k
  obtain⟨h1,h2,h3,h4,h5,q⟩:=h
  obtain⟨t,rfl⟩:=rx
  obtain⟨t',rfl⟩:=ry
  have e1:¬ k<1:=by omega
  have e2:(k==1||a.length==0)=false:=by
   rw [jY,beq_eq_false_iff_ne,beq_eq_false_iff_ne];omega
  refine PySem.P.mul_str ?_ (fun _ _=>?_) (fun _ _=>?_) ?_
  ·rw [jY,decide_eq_false_iff_not,decide_eq_false_iff_not];constructor <;> omega
  ·intro z
   have ek:((k.toNat:Nat):Int)=k:=gP (by omega)
   have z3:(a.length:Int) * k<=16777216:=by rw [<- ek,<- gO];exact Int.ofNat_le.mpr h4
   have z4:(a.length:Int) * 1<=(a.length:Int) * k:=gq (by omega) (kG _)
   have z5:(2 ^ 63 - 1:Int) / 1000<=(2 ^ 63 - 1) / k:=Int.le_ediv_of_mul_le (by omega) (Int.le_trans (gq h3 (by decide)) (by decide))
   have z6:(16777216:Int)<=(2 ^ 63 - 1:Int) / 1000:=by decide
   omega
  ·show decide _=false;rw [bL];exact decide_eq_false (by omega)
  ·rw [if_neg e1,e2]
   exact⟨by rw [bL];exact h5,.str _,H,I.tok _,⟨_,rfl⟩,q⟩
 ·exact h.elim
theorem Inv.tkn (I:Inv X pins σ H s) {x y:Str} {t:Tok} (e:aW X.K aM x=some (some (.str y t))):t<s.toks:=av (I.ok.tk x y t e) I.os.2
noncomputable def ab9 (K:aa):R2:=fun x y H Q=>match x,y with
 | .stk a _ true,.stk b n true=>0<a.length/\0<b.length/\a.length+b.length<=16777216/\(∃ x,aW K aM x=some (some (.str b n)))/\Q (.stk (a++b) (n+1) false) H
 | _,_=>False
theorem al6:OpR X (c_ .Add) (ab9 X.K):=by
 intro pins s σ H x y v u Q I rx ry h
 unfold ab9 at h
 split at h
 ·rename_i a m b n
  obtain⟨h1,h2,h3,⟨g,e⟩,q⟩:=h
  obtain⟨t,rfl,_⟩:=rx
  obtain⟨t',rfl,rfl⟩:=ry
  have lt:=I.tkn e
  refine PySem.P.add_str ?_
  have e1:(a.length==0)=false:=by rw [beq_eq_false_iff_ne];omega
  have e2:(b.length==0)=false:=by rw [beq_eq_false_iff_ne];omega
  rw [e1,e2]
  refine⟨?_,.stk (a++b) (t'+1) false,H,I.tok _,⟨_,rfl,?_⟩,q⟩
  ·have:(a++b).length=a.length+b.length:=by show (a.cps++b.cps).size=_;rw [Array.size_append];rfl
   rw [this,bL];exact h3
  ·show (if false=true then _ else t'+1<=s.toks)
   rw [if_neg aj];exact lt
 ·exact h.elim
noncomputable def Jg:V->List V->Hp->VK->Prop:=fun x xs H Q=>match x,xs with
 | .str a,[.stk y n true,.stk z m false]=>0<n/\n<m/\y≠z/\a.length+(a.length+1) * z.length<=16777216/\Q (.str (kA a y z)) H
 | _,_=>False
theorem Zr:MtR X "str.replace" Jg:=by
 intro pins s σ H x xs v us Q I rx rs h
 unfold Jg at h
 split at h
 ·rename_i a y n z m
  obtain⟨h1,h2,h3,h4,q⟩:=h
  obtain⟨t,rfl⟩:=rx
  obtain⟨u1,u2,rfl,r1,r2⟩:=rs.two
  obtain⟨t1,rfl,e1⟩:=r1
  obtain⟨t2,rfl,e2⟩:=r2
  have e1:t1=n:=e1
  have e2:m<=t2:=by simpa using e2
  subst e1
  have n1:t1≠0:=b5 h1
  have n2:t2≠0:=b5 (av (Nat.lt_trans h1 h2) e2)
  have n3:t1≠t2:=aA (av h2 e2)
  exact bh (af _) (SC.replace n1 n2 n3 (beq_eq_false_iff_ne.mpr h3) h4 fun t' k htk=>⟨.str _,H,I.tok k htk,⟨_,rfl⟩,q⟩)
 ·exact h.elim
theorem Gn:fillsNumberSlot (.type "tuple") "mul" = pure false:=
 PySem.fillsNumberSlot_seq (id := "tuple.__mul__") (r:=some (.builtin "tuple.__rmul__")) F.slot_tuple_mul.lookup (by decide +kernel) F.slot_tuple_rmul.lookup (by decide +kernel)
theorem M2:seqRepeat? (.type "tuple")=pure (some (.builtin "tuple.__mul__")):=by
 unfold seqRepeat?
 rw [PySem.seqSlot_of (T := "tuple") (name := "__mul__") (id := "tuple.__mul__") F.slot_tuple_mul.lookup (by decide +kernel),PySem.seqSlot_of (T := "tuple") (name := "__rmul__") (id := "tuple.__rmul__") F.slot_tuple_rmul.lookup (by decide +kernel)]
 rfl
theorem Jj (a:Int) (t:Tok) (l:Addr) (its:Array Value) (n:Nat) (dd:Option Addr) (sl:Array (Option Value)) :
  PySem.Meets (ar.«int.__rmul__» ⟨[.int a t,.ref l],[]⟩) (fun _ R s=>s.heap.get? l=some { cls:=.type "tuple", dict:=dd,data:=.seq its n,slots:=sl }/\R (.ok (.ret fj)) s):=
 .of_wp fun prog w A R s h=>by obtain⟨hp,g,d,tk,os⟩:=s;obtain⟨hl,h⟩:=h;wp_walk using aF hl;exact⟨_,rfl,h⟩
theorem Kh (l:Addr) (its:Array Value) (n:Nat) (dd:Option Addr) (sl:Array (Option Value)) (k:Int) (t:Tok) (h1:2<=k) (hk:k<=1000) (h2:its.size≠0) (h3:its.size<=1000) :
  PySem.Meets (ar.«tuple.__mul__» ⟨[.ref l,.int k t],[]⟩) (fun _ R s=>s.heap.get? l=some { cls:=.type "tuple", dict:=dd,data:=.seq its n,slots:=sl }/\R (.ok (.ret (aH s.heap.objs.size))) { s with heap:=s.heap.push { cls:=b_ "tuple", data:=Data.seq (iE (fun x1 x2=>x1++x2) #[] (a0 k.toNat its)) },toks:=s.toks }):=
 .of_wp fun prog w A R s h=>by
  obtain⟨hp,g,d,tk,os⟩:=s;obtain⟨hl,h⟩:=h
  have f1:=AutoSeq1.idx_int
  have e0:its.isEmpty=false:=by rw [Array.isEmpty,decide_eq_false_iff_not];exact h2
  have ek:((k.toNat:Nat):Int)=k:=gP (by omega)
  have hm:(its.size:Int) * k<=1000000:=by
   rw [<- ek,<- gO]
   exact Int.ofNat_le.mpr (il h3 (show k.toNat<=1000 by omega))
  have hc0:¬ (decide (k < -2 ^ 63)||decide (k ≥ 2 ^ 63))=true:=by
   rw [eN,decide_eq_true_iff,decide_eq_true_iff];omega
  have hc1:¬ (its.isEmpty||k==1)=true:=by rw [e0,Bool.false_or,beq_iff_eq];omega
  have hc2:¬ (decide (k<=0)||its.isEmpty)=true:=by rw [e0,gB,decide_eq_true_iff];omega
  have hc3:¬ (its.size:Int) * k > (2 ^ 63 - 1) / 8:=by
   have:(1000000:Int)<=(2 ^ 63 - 1) / 8:=by decide
   omega
  have hc4:¬ Builtin.Tuple.tupleTooMany ((its.size:Int) * k)=true:=by
   show ¬ decide _=true
   rw [bL,decide_eq_true_iff];omega
  wp_walk using aF hl
  refine fQ (decide_eq_false hc0) ?_
  wp_walk using aF hl
  refine fQ (decide_eq_false hc1) ?_
  wp_walk using aF hl
  refine fQ (decide_eq_false hc2) ?_
  wp_walk using aF hl
  refine fQ (decide_eq_false hc3) ?_
  wp_walk using aF hl
  have hc5:¬ (iE (fun x1 x2=>x1++x2) #[] (a0 k.toNat its)).size > sizeLine:=by
   have e:=Eu its.toList k.toNat []
   rw [dI] at e
   have e':its.toList.toArray=its:=by simp
   rw [e'] at e
   have e2:(#[]:Array Value)=([]:List Value).toArray:=rfl
   rw [e2,e,am,Mi,bL,cY]
   have:=il (show k.toNat<=1000 by omega) h3
   omega
  refine fQ (decide_eq_false hc5) ?_
  wp_walk using aF hl
  exact⟨_,rfl,h⟩
noncomputable def av0 (K:aa):R2:=fun x y H Q=>∃ l k xs,x=.ref l/\y=.int k/\SqT K H l xs/\2<=k/\k<=1000/\xs.length≠0/\xs.length<=1000 /\ 
 ∀ p,H p=none->Q (.ref p) (upd H p (.tup (a0 k.toNat xs).flatten))
theorem am1:OpR X (c_ .Mult) (av0 X.K):=by
 intro pins s σ H x y v u Q I rx ry h
 obtain⟨l,k,xs,rfl,rfl,hH,h1,h2,h3,h4,q⟩:=h
 cases rx
 obtain⟨t,rfl⟩:=ry
 obtain⟨its,r,p1,_⟩:=I.tuple hH
 obtain⟨⟨cls,dd,data,sl⟩,ho,hc,n,hd⟩:=id p1
 simp only at hc hd
 subst hc hd
 have hnew:iE (fun x1 x2=>x1++x2) #[] (a0 k.toNat its.toArray)=(a0 k.toNat its).flatten.toArray:=by
  have:=Eu its k.toNat []
  rw [dI] at this
  exact this
 have hl:=r.length
 refine iy (T := "tuple") (U := "int") (by decide) ⟨_,ho,rfl⟩ (fun s'=>iM s' k t) Gn F.fills_int_mul gM M2 F.slot_int_index.lookup
  (dE gM (iM s k t) F.entry_int_rmul (F.args_int_rmul_2 _ _) (Jj k t l its.toArray n dd sl)
   ⟨ho,rfl,⟨_,ho,rfl⟩,dE jc ⟨_,ho,rfl⟩ F.entry_tuple_mul (F.args_tuple_mul_2 _ _) (Kh l its.toArray n dd sl k t h1 h2 (by rw [am,<- hl];exact h3) (by rw [am,<- hl];exact h4)) ⟨ho,?_⟩⟩)
 rw [hnew]
 refine⟨.ref s.heap.objs.size,_,I.laid (t':=s.toks) (o:=.tup (a0 k.toNat xs).flatten) (fun b ob q=>ae _ q) (af _) ?_,rfl,q _ (I.hok.fresh (af _))⟩
 exact⟨by rw [Mi,bL];exact aR (il (show k.toNat<=1000 by omega) h4) (by decide),_,r.rep k.toNat,lO _ _⟩
end
noncomputable def rNo:R2:=fun _ _ _ _=>False
noncomputable def As (K:aa):R2:=fun x y H Q=>match x,y with
 | .int i,.int j=>Q (.int (i+j)) H
 | .str a,.str b=>a.length+b.length<=sizeLine/\Q (.str (a++b)) H
 | .ref a,.ref b=>bn6 (.ref a) (.ref b) H Q\/au8 K (.ref a) (.ref b) H Q\/au7 K (.ref a) (.ref b) H Q
 | .stk a m e,.stk b n f=>ab9 K (.stk a m e) (.stk b n f) H Q
 | _,_=>False
noncomputable def ac9:R2:=fun x y H Q=>match x,y with
 | .int i,.int j=>Q (.int (i - j)) H
 | _,_=>False
noncomputable def Bf (K:aa):R2:=fun x y H Q=>match x,y with
 | .int i,.int j=>CMul i j/\Q (.int (i * j)) H
 | .ref a,.int k=>bn9 (.ref a) (.int k) H Q\/av0 K (.ref a) (.int k) H Q
 | .str a,.int k=>ac7 (.str a) (.int k) H Q
 | _,_=>False
noncomputable def Be:R2:=fun x y H Q=>match x,y with
 | .int i,.int j=>bf8 i j/\Q (.int (i / j)) H
 | _,_=>False
noncomputable def Ax:R2:=fun x y H Q=>match x,y with
 | .int i,.int j=>0<j/\Q (.int (i % j)) H
 | _,_=>False
noncomputable def bn8:R2:=fun x y H Q=>match x,y with
 | .int i,.int j=>ag8 i j/\Q (.int (i ^ j.toNat)) H
 | _,_=>False
noncomputable def bo1:R2:=fun x y H Q=>match x,y with
 | .int i,.int j=>ag8 i j/\Q (.int (i * 2 ^ j.toNat)) H
 | _,_=>False
noncomputable def bo2:R2:=fun x y H Q=>match x,y with
 | .int i,.int j=>0<=j/\Q (.int (i / 2 ^ j.toNat)) H
 | _,_=>False
noncomputable def bn5:R2:=fun x y H Q=>match x,y with
 | .int i,.int j=>Q (.int (Builtin.bitAnd i j)) H
 | _,_=>False
noncomputable def bz9:R2:=fun x y H Q=>match x,y with
 | .int i,.int j=>Q (.int (Builtin.bitOr i j)) H
 | _,_=>False
noncomputable def bo3:R2:=fun x y H Q=>match x,y with
 | .int i,.int j=>Q (.int (Builtin.bitXor i j)) H
 | _,_=>False
noncomputable def rOp (K:aa):md->R2
 | .Add=>As K
 | .Sub=>ac9
 | .Mult=>Bf K
 | .FloorDiv=>Be
 | .Mod=>Ax
 | .Pow=>bn8
 | .LShift=>bo1
 | .RShift=>bo2
 | .BitAnd=>bn5
 | .BitOr=>bz9
 | .BitXor=>bo3
 | _=>rNo
section
variable {X:Cx}
theorem bz3 (op:md):OpR X (c_ op) (rOp X.K op):=by
 intro pins s σ H x y v u Q I rx ry h
 cases op with
 | Add=>
  cases x <;> cases y <;> first
   | exact (show False from h).elim
   | exact a41 pins s σ H _ _ v u Q I rx ry ⟨_,_,rfl,rfl,h⟩
   | exact Qo pins s σ H _ _ v u Q I rx ry ⟨_,_,rfl,rfl,h⟩
   | exact al6 pins s σ H _ _ v u Q I rx ry h
   | exact (op_cat.or (op_catT.or al7)) pins s σ H _ _ v u Q I rx ry h
 | Sub=>cases x <;> cases y <;> first|exact (show False from h).elim|exact a53 pins s σ H _ _ v u Q I rx ry ⟨_,_,rfl,rfl,h⟩
 | Mult=>cases x <;> cases y <;> first|exact (show False from h).elim|exact a47 pins s σ H _ _ v u Q I rx ry ⟨_,_,rfl,rfl,h⟩|exact (op_rep.or am1) pins s σ H _ _ v u Q I rx ry h|exact al9 pins s σ H _ _ v u Q I rx ry h
 | FloorDiv=>cases x <;> cases y <;> first|exact (show False from h).elim|exact al8 pins s σ H _ _ v u Q I rx ry ⟨_,_,rfl,rfl,h⟩
 | Mod=>cases x <;> cases y <;> first|exact (show False from h).elim|exact a46 pins s σ H _ _ v u Q I rx ry ⟨_,_,rfl,rfl,h⟩
 | Pow=>cases x <;> cases y <;> first|exact (show False from h).elim|exact a50 pins s σ H _ _ v u Q I rx ry ⟨_,_,rfl,rfl,h⟩
 | LShift=>cases x <;> cases y <;> first|exact (show False from h).elim|exact a51 pins s σ H _ _ v u Q I rx ry ⟨_,_,rfl,rfl,h⟩
 | RShift=>cases x <;> cases y <;> first|exact (show False from h).elim|exact a52 pins s σ H _ _ v u Q I rx ry ⟨_,_,rfl,rfl,h⟩
 | BitAnd=>cases x <;> cases y <;> first|exact (show False from h).elim|exact a42 pins s σ H _ _ v u Q I rx ry ⟨_,_,rfl,rfl,h⟩
 | BitOr=>cases x <;> cases y <;> first|exact (show False from h).elim|exact bm1 pins s σ H _ _ v u Q I rx ry ⟨_,_,rfl,rfl,h⟩
 | BitXor=>cases x <;> cases y <;> first|exact (show False from h).elim|exact a54 pins s σ H _ _ v u Q I rx ry ⟨_,_,rfl,rfl,h⟩
 | _=>exact (show False from h).elim
end
noncomputable def A6 (K:aa) (neg:Bool):R2:=fun x y H Q=>match x,y with
 | .ref a,.ref b=>ba3 K neg (.ref a) (.ref b) H Q\/ac1 K neg (.ref a) (.ref b) H Q\/ba2 K neg (.ref a) (.ref b) H Q
 | .ref a,y=>ac1 K neg (.ref a) y H Q
 | x,.ref b=>ac1 K neg x (.ref b) H Q
 | .int i,.int j=>Q (.bl (if neg then !decide (i=j) else decide (i=j))) H
 | .str i,.str j=>Q (.bl (if neg then !decide (i=j) else decide (i=j))) H
 | .bl i,.bl j=>Q (.bl (if neg then !(i==j) else (i==j))) H
 | x,y=>bd2 x y=true/\Q (.bl (if neg then !decide (x=y) else decide (x=y))) H
noncomputable def ba4:R2:=fun x y H Q=>match x,y with
 | .int i,.int j=>Q (.bl (decide (i<j))) H
 | .str i,.str j=>Q (.bl (decide (i.cps.toList<j.cps.toList))) H
 | _,_=>False
noncomputable def Je:R2:=fun x y H Q=>match x,y with
 | .int i,.int j=>Q (.bl (decide (i<=j))) H
 | .str i,.str j=>Q (.bl (!decide (j.cps.toList<i.cps.toList))) H
 | _,_=>False
noncomputable def ap2:R2:=fun x y H Q=>match x,y with
 | .int i,.int j=>Q (.bl (decide (j<i))) H
 | _,_=>False
noncomputable def bz5:R2:=fun x y H Q=>match x,y with
 | .int i,.int j=>Q (.bl (decide (j<=i))) H
 | _,_=>False
noncomputable def ac3 (K:aa) (neg:Bool):R2:=fun x y H Q=>match x,y with
 | .str i,.str j=>Q (.bl (if neg then !(!(cq j i 0 j.length 1).isEmpty) else !(cq j i 0 j.length 1).isEmpty)) H
 | x,.ref p=>rIn K neg x (.ref p) H Q \/ ∃ o,F0 H p x o/\Q (.bl (if neg then !o.isSome else o.isSome)) H
 | _,_=>False
noncomputable def D8 (neg:Bool):R2:=fun x y H Q=>match y with
 | .non=>Q (.bl (if neg then !decide (x=.non) else decide (x=.non))) H
 | .bl d=>(match x with
  | .bl c=>Q (.bl (if neg then !(c==d) else (c==d))) H
  | _=>False)
 | _=>False
noncomputable def Ki (K:aa):l_->R2
 | .Eq=>A6 K false
 | .NotEq=>A6 K true
 | .Lt=>ba4
 | .LtE=>Je
 | .Gt=>ap2
 | .GtE=>bz5
 | .In=>ac3 K false
 | .NotIn=>ac3 K true
 | .Is=>D8 false
 | .IsNot=>D8 true
section
variable {X:Cx}
theorem Kw (hu:X.A.units+64<cLine) (op:l_):OpR X (bZ op) (Ki X.K op):=by
  intro pins s σ H x y v u Q I rx ry h
  cases op with
  | Eq=>
    cases x <;> cases y <;> first
      | (rcases h with h|h|h
         . exact a44 (by omega) pins s σ H _ _ v u Q I rx ry h
         . exact Qp hu I rx ry (.inl ⟨_,rfl⟩) h
         . exact a43 hu I rx ry h)
      | exact Qp hu I rx ry (.inl ⟨_,rfl⟩) h
      | exact Qp hu I rx ry (.inr ⟨_,rfl⟩) h
      | exact Tk pins s σ H _ _ v u Q I rx ry h
      | exact Tk pins s σ H _ _ v u Q I rx ry ⟨rfl,by rw [Hc,cH];exact h⟩
      | exact Tk pins s σ H _ _ v u Q I rx ry ⟨rfl,by rw [Hd,cH];exact h⟩
      | exact Tk pins s σ H _ _ v u Q I rx ry ⟨rfl,by rw [L9];exact h⟩
  | NotEq=>
    cases x <;> cases y <;> first
      | (rcases h with h|h|h
         . exact a49 (by omega) pins s σ H _ _ v u Q I rx ry h
         . exact Qq hu I rx ry (.inl ⟨_,rfl⟩) h
         . exact a48 hu I rx ry h)
      | exact Qq hu I rx ry (.inl ⟨_,rfl⟩) h
      | exact Qq hu I rx ry (.inr ⟨_,rfl⟩) h
      | exact Tl pins s σ H _ _ v u Q I rx ry h
      | exact Tl pins s σ H _ _ v u Q I rx ry ⟨rfl,by rw [Hc,cH];exact h⟩
      | exact Tl pins s σ H _ _ v u Q I rx ry ⟨rfl,by rw [Hd,cH];exact h⟩
      | exact Tl pins s σ H _ _ v u Q I rx ry ⟨rfl,by rw [L9];exact h⟩
  | Lt=>cases x <;> cases y <;> first|exact (show False from h).elim|exact bm0 pins s σ H _ _ v u Q I rx ry ⟨_,_,rfl,rfl,h⟩|exact V5 pins s σ H _ _ v u Q I rx ry ⟨_,_,rfl,rfl,h⟩
  | LtE=>cases x <;> cases y <;> first|exact (show False from h).elim|exact bl9 pins s σ H _ _ v u Q I rx ry ⟨_,_,rfl,rfl,h⟩|exact V4 pins s σ H _ _ v u Q I rx ry ⟨_,_,rfl,rfl,h⟩
  | Gt=>cases x <;> cases y <;> first|exact (show False from h).elim|exact bl8 pins s σ H _ _ v u Q I rx ry ⟨_,_,rfl,rfl,h⟩
  | GtE=>cases x <;> cases y <;> first|exact (show False from h).elim|exact bl7 pins s σ H _ _ v u Q I rx ry ⟨_,_,rfl,rfl,h⟩
  | In=>cases x <;> cases y <;> first|exact (show False from h).elim|exact V3 pins s σ H _ _ v u Q I rx ry ⟨_,_,rfl,rfl,h⟩|exact h.elim (V2 pins s σ H _ _ v u Q I rx ry) fun⟨o,g,q⟩=>by cases ry;exact by6 (by omega) I g rx fun s' I'=>⟨.bl _,H,I',rfl,q⟩
  | NotIn=>cases x <;> cases y <;> first|exact (show False from h).elim|exact Mn pins s σ H _ _ v u Q I rx ry ⟨_,_,rfl,rfl,h⟩|exact h.elim (Mm pins s σ H _ _ v u Q I rx ry) fun⟨o,g,q⟩=>by cases ry;exact ai2 (by omega) I g rx fun s' I'=>⟨.bl _,H,I',rfl,q⟩
  | Is=>cases y <;> first|exact (show False from h).elim|exact a45 pins s σ H _ _ v u Q I rx ry ⟨rfl,h⟩|(cases x <;> first|exact (show False from h).elim|(cases rx;cases ry;exact is_bool ⟨.bl _,H,I,rfl,h⟩))
  | IsNot=>cases y <;> first|exact (show False from h).elim|exact am0 pins s σ H _ _ v u Q I rx ry ⟨rfl,h⟩|(cases x <;> first|exact (show False from h).elim|(cases rx;cases ry;exact isnot_bool ⟨.bl _,H,I,rfl,h⟩))
end
noncomputable def Cc:V->Hp->VK->Prop:=fun x H Q=>match x with
 | .int i=>Q (.int (-i)) H
 | _=>False
theorem b41 {X:Cx}:UnR X (mq .USub) Cc:=by
 intro pins s σ H x v Q I rx h
 cases x <;> first|exact (show False from h).elim|exact be3 pins s σ H _ v Q I rx ⟨_,rfl,h⟩
noncomputable def ac4:V->Hp->VK->Prop:=fun x H Q=>match x with
 | .int i=>Q (.int (Builtin.bitNot i)) H
 | _=>False
theorem bi9 {X:Cx}:UnR X (mq .Invert) ac4:=by
 intro pins s σ H x v Q I rx h
 cases x <;> first|exact (show False from h).elim|exact be2 pins s σ H _ v Q I rx ⟨_,rfl,h⟩
theorem Uf {X:Cx}:bg2 X (af2 X.K):=by
 intro pins s σ H x v Q I rx h
 cases x with
 | non=>exact J1 pins s σ H _ v Q I rx ⟨_,rfl,h⟩
 | bl b=>exact J1 pins s σ H _ v Q I rx ⟨_,rfl,h⟩
 | int i=>exact J1 pins s σ H _ v Q I rx ⟨_,rfl,h⟩
 | str y=>exact J1 pins s σ H _ v Q I rx ⟨_,⟨h.1,rfl⟩,h.2⟩
 | ref p=>exact J1 pins s σ H _ v Q I rx h
 | _=>exact (show False from h).elim
inductive SqX (K:aa) (H:Hp) (p:Addr) (i:Int) (xs:List V):Prop where
 | inl (h:SqL K H p xs)
 | inr (h:SqT K H p xs)
 | dk (h:∀ v,atI xs i=some v->F0 H p (.int i) (some v))
noncomputable def A2 (K:aa):R2:=fun x y H Q=>match x,y with
 | .str z,.int i=>z.length<=sizeLine /\ ∃ c,atI z.cps.toList i=some c/\Q (.str ⟨#[c]⟩) H
 | .ref p,.int i=>∃ xs v,SqX K H p i xs/\atI xs i=some v/\Q v H
 | .ref p,.str k=>∃ v,F0 H p (.str k) (some v)/\Q v H
 | .ref p,.ref b=>∃ v,F0 H p (.ref b) (some v)/\Q v H
 | _,_=>False
theorem bz1 {X:Cx} (hu:X.A.units+64<cLine):IxR X (A2 X.K):=by
  intro value slice pins s σ H x y v u Q I rx ry h hs
  cases x <;> cases y <;> first
    | exact (show False from h).elim
    | (obtain⟨h1,c,h2,h3⟩:=h;exact a22 value slice pins s σ H _ _ v u Q I rx ry ⟨_,_,c,rfl,rfl,h1,h2,h3⟩ hs)
    | (obtain⟨xs,w,h1|h1|h1,h2,h3⟩:=h
       . exact aj9 value slice pins s σ H _ _ v u Q I rx ry ⟨_,_,_,_,rfl,rfl,h1,h2,h3⟩ hs
       . exact a23 value slice pins s σ H _ _ v u Q I rx ry ⟨_,_,_,_,rfl,rfl,h1,h2,h3⟩ hs
       . exact Tg hu value slice pins s σ H _ _ v u Q I rx ry ⟨_,w,rfl,h1 w h2,h3⟩ hs)
    | (obtain⟨w,h1,h2⟩:=h;exact Tg hu value slice pins s σ H _ _ v u Q I rx ry ⟨_,w,rfl,h1,h2⟩ hs)
noncomputable def av2:V->V->V->Hp->(Hp->Prop)->Prop:=fun o i v H N=>match o,i with
 | .ref p,.int k=>(∃ xs j,H p=some (.lst xs)/\ixN xs.length k=some j/\N (upd H p (.lst (xs.set j v)))) \/ ∃ H',ag9 H p (.int k) v H'/\N H'
 | .ref p,i=>∃ H',ag9 H p i v H'/\N H'
 | _,_=>False
theorem bt8 {X:Cx} (hu:X.A.units+64<cLine):a00 X av2:=by
 intro pins s σ H o i v ov iv u Q I ro ri rv h
 cases o with
 | ref p=>
  have dp:∀ {H'},ag9 H p i v H'->Q H'->ay (model X.prog X.w) X.A (setItem ov iv u) (fun _ s'=>∃ H',Inv X pins σ H' s'/\Q H') X.xe s:=fun {H'} g q=>by
   cases ro
   exact U6 (by omega) I g ri rv fun s' I'=>⟨H',I',q⟩
  cases i with
  | int k=>
   rcases h with ⟨xs,j,h1,h2,h3⟩|⟨H',g,q⟩
   ·exact ad8 pins s σ H _ _ v ov iv u Q I ro ri rv ⟨p,xs,k,j,rfl,rfl,h1,h2,h3⟩
   ·exact dp g q
  | _=>obtain⟨H',g,q⟩:=h;exact dp g q
 | _=>exact (show False from h).elim
noncomputable def ac2 (K:aa) (f:Str):V->Hp->VK->Prop:=fun x H Q=>match x with
 | .ref a=>(∃ C dx fs v,H a=some (.ins C dx fs)/\Cls K C/\NoAttr K C f/\fs.lookup f=some v/\Q v H)\/(∃ C fs v,ExcAt H a C fs/\ECls K C/\NoAttr K C f/\fs.lookup f=some v/\Q v H)
 | _=>False
noncomputable def av1 (K:aa) (f:Str):V->V->Hp->(Hp->Prop)->Prop:=fun x y H N=>match x with
 | .ref a=>(∃ C dx fs,H a=some (.ins C dx fs)/\Cls K C/\NoAttr K C f/\fs.length<1000/\N (upd H a (.ins C dx (D7 f y fs))))\/(∃ C,ECls K C/\NoAttr K C f/\bg1 H a C f y N)
 | _=>False
section
variable {X:Cx} {pins:List (Addr×Obj)} {σ:St} {H:Hp} {s:ag} {A:aX} {E:Value->ag->Prop}
theorem bh3 {f:Str} {x:V} {u:Value} {b:Bool} {Q:VK} (I:Inv X pins σ H s) (rx:RelV x u) (h:ac2 X.K f x H Q):ay (model X.prog X.w) A (lm u f b) (EP X pins σ Q) E s:=by
 cases x with
 | ref a=>
  cases rx
  rcases h with ⟨C,dx,fs,v,ea,c,n,l,q⟩|⟨C,fs,v,ea,c,n,l,q⟩
  ·exact P8 I ea c n l fun u' s2 I2 ru=>⟨v,H,I2,ru,q⟩
  ·exact Vd I ea c n l fun u' s2 I2 ru=>⟨v,H,I2,ru,q⟩
 | _=>exact (show False from h).elim
theorem bt7 {f:Str} {x y:V} {u v:Value} {N:Hp->Prop} {Q:Unit->ag->Prop} (I:Inv X pins σ H s) (rx:RelV x u) (ry:RelV y v) (h:av1 X.K f x y H N) (hQ:∀ H' s',Inv X pins σ H' s'->N H'->Q () s') :
  ay (model X.prog X.w) A (l4 u f v) Q E s:=by
 cases x with
 | ref a=>
  cases rx
  rcases h with ⟨C,dx,fs,ea,c,n,l,q⟩|⟨C,c,n,q⟩
  ·exact R7 I ea c n l ry fun s3 I3=>hQ _ _ I3 q
  ·exact Wh I c n ry q hQ
 | _=>exact (show False from h).elim
end
structure FI where
 f:Addr
 fd:aE
 ps:List Str
 k:Nat
 sp:Sp
 dfs:List V
 ds:List Value
structure MI where
 C:Addr
 i:FI
inductive GB where
 | fn (i:FI)
 | cls (C:Addr) (i:Option FI)
 | met (m:Str) (l:List MI)
 | val (v:V) (u:Value)
 | exc (C:Addr) (i:Option FI)
noncomputable def Bj:List (Str×GB)->Str->Option (List MI)
 | [],_=>none
 | (_,.met m l)::r,x=>if m=x then some l else Bj r x
 | _::r,x=>Bj r x
theorem B3:∀ {gb:List (Str×GB)} {x:Str} {l:List MI},Bj gb x=some l -> ∃ k,(k,GB.met x l)∈gb
 | (k,.met m l')::r,x,l,h=>by
  unfold Bj at h
  by_cases e:m=x
  ·rw [if_pos e] at h;cases h;subst e;exact⟨k,by simp⟩
  ·rw [if_neg e] at h;obtain⟨k,q⟩:=B3 h;exact⟨k,aJ _ q⟩
 | (_,.fn _)::r,x,l,h=>by unfold Bj at h;obtain⟨k,q⟩:=B3 h;exact⟨k,aJ _ q⟩
 | (_,.cls _ _)::r,x,l,h=>by unfold Bj at h;obtain⟨k,q⟩:=B3 h;exact⟨k,aJ _ q⟩
 | (_,.val _ _)::r,x,l,h=>by unfold Bj at h;obtain⟨k,q⟩:=B3 h;exact⟨k,aJ _ q⟩
 | (_,.exc _ _)::r,x,l,h=>by unfold Bj at h;obtain⟨k,q⟩:=B3 h;exact⟨k,aJ _ q⟩
structure Sg where
 K:aa
 N:List Str
 sc:List (Str×cz)
 gb:List (Str×GB)
 bl:List Str
 top:Bool
 calm:Bool
noncomputable def B4:List Str->Str->Nat->Option Nat
 | [],_,_=>none
 | y::r,x,i=>if y=x then some i else B4 r x (i+1)
theorem Lk:∀ {N:List Str} {x:Str} {i j:Nat},B4 N x j=some i->j<=i/\N[i - j]? = some x
 | [],_,_,_,h=>by cases h
 | y::r,x,i,j,h=>by
  unfold B4 at h
  by_cases e:y=x
  ·rw [if_pos e] at h
   cases h
   refine⟨af _,?_⟩
   rw [lB,e]
   rfl
  ·rw [if_neg e] at h
   obtain⟨h1,h2⟩:=Lk h
   refine⟨by omega,?_⟩
   have:i - j=(i - (j+1))+1:=by omega
   rw [this,bA]
   exact h2
theorem Dr {N:List Str} {x:Str} {i:Nat} (h:B4 N x 0=some i):N[i]? = some x:=(Lk h).2
noncomputable def Dp (x:Str):Bool:=!(x==("__debug__" : Str)) && !(x==("__classdict__" : Str)) && !(x==("__name__" : Str))
noncomputable def Gf (G:Sg) (x:Str):Bool:=(G.sc.lookup x==some .globalImplicit)&&Dp x
noncomputable def Sj (x:Str):Option String:=
 if x = "int" then some "int" else if x = "bool" then some "bool" else if x = "str" then some "str" else if x = "list" then some "list" else if x = "tuple" then some "tuple" else if x = "dict" then some "dict" else if x = "ValueError" then some "ValueError" else none
theorem ah8:dm "ValueError" = some (.type "ValueError"):=by decide +kernel
theorem Wr {x:Str} {T:String} (h:Sj x=some T):dm x=some (.type T):=by
 unfold Sj at h
 by_cases e1:x = "int"
 ·rw [if_pos e1] at h;cases h;rw [e1];exact jJ
 rw [if_neg e1] at h
 by_cases e2:x = "bool"
 ·rw [if_pos e2] at h;cases h;rw [e2];exact PyProof.Rows.boot_bool
 rw [if_neg e2] at h
 by_cases e3:x = "str"
 ·rw [if_pos e3] at h;cases h;rw [e3];exact jK
 rw [if_neg e3] at h
 by_cases e4:x = "list"
 ·rw [if_pos e4] at h;cases h;rw [e4];exact cW
 rw [if_neg e4] at h
 by_cases e5:x = "tuple"
 ·rw [if_pos e5] at h;cases h;rw [e5];exact iS
 rw [if_neg e5] at h
 by_cases e6:x = "dict"
 ·rw [if_pos e6] at h;cases h;rw [e6];exact PyProof.Rows.boot_dict
 rw [if_neg e6] at h
 by_cases e7:x = "ValueError"
 ·rw [if_pos e7] at h;cases h;rw [e7];exact ah8
 rw [if_neg e7] at h
 cases h
noncomputable def Nw (CX:CXT) (X:Cx):Prop:=∀ Ex,Meets X Ex -> ∀ (pins:List (Addr×Obj)) (σ:St) (H:Hp) (s:ag) (e:Value) (s':ag),Inv X pins σ H s->CX X.stack H s (fun v _ H'=>∃ a,v=.ref a/\Ex σ a H') e s'->X.xe e s'
structure Hl (X:Cx) (i:FI):Prop where
 kp:aU X.K (.ref i.f)=true
 ok:∃ CX,(∀ X':Cx,X'.prog=X.prog->X'.w=X.w->Nw CX X')/\FnOk X.prog X.w X.K X.mg X.base CX i.k i.f i.fd i.ps i.sp
 room:Room i.k X.A
 binds:∀ j,j<=i.dfs.length->Binds X.K i.fd i.ps (i.ds.drop j)
 vals:Vals i.dfs i.ds
noncomputable def F7 (X:Cx) (C:Addr):Option FI->Prop
 | none=>aw X.K (.ref C) "__init__" = some (some (.builtin "ValueError.__init__"))
 | some i=>aw X.K (.ref C) "__init__" = some (some (.ref i.f))/\dU X.K (.ref i.f)=true/\Hl X i/\Room (i.k+1) X.A
noncomputable def ah1 (X:Cx) (C:Addr):Option FI->Prop
 | none=>bX X.K C=true/\aw X.K (.ref C) "__init__" = some (some (.builtin "object.__init__"))
 | some i=>bX X.K C=true/\aw X.K (.ref C) "__init__" = some (some (.ref i.f))/\dU X.K (.ref i.f)=true/\Hl X i/\Room (i.k+1) X.A
noncomputable def FrH (X:Cx):Prop:=∃ (e0:Env) (o0:List Env) (L:Addr),X.stack=e0::o0/\e0.frame=some L/\X.env.frame=some L
structure GOk (X:Cx) (G:Sg):Prop where
 K:X.K=G.K
 kind:X.env.scope.kind=.function
 own:G.top=true->gT (model X.prog X.w) X.A X.env X.xe
 N:X.N=G.N
 nd:G.N.Nodup
 sc:∀ x,X.env.scope.names.lookup x=G.sc.lookup x
 vis:∀ x∈G.N,Vis X.env.scope x
 top:G.top=true -> ∀ x,X.fn x=true
 calm:G.calm=X.calm
 hd:X.calm=true->X.A.handled=none
 units:X.A.units+64<cLine
 cel:∀ x,(X.env.scope.names.lookup x=some .cell\/X.env.scope.names.lookup x=some .free) -> ∃ c,X.env.cells.lookup x=some c
 fn:∀ x i,G.gb.lookup x=some (.fn i)->X.mg x=some (.ref i.f)/\Hl X i
 val:∀ x v u,G.gb.lookup x=some (.val v u)->X.mg x=some u/\RelV v u
 bl:∀ x,G.bl.contains x=true->X.mg x=none
 exc:∀ x C oi,G.gb.lookup x=some (.exc C oi)->X.mg x=some (.ref C)/\aU X.K (.ref C)=true/\ECls X.K C/\F7 X C oi
 cls:∀ x C oi,G.gb.lookup x=some (.cls C oi)->X.mg x=some (.ref C)/\aU X.K (.ref C)=true/\ah1 X C oi
 met:∀ m l,Bj G.gb m=some l -> ∀ mi∈l,Cls X.K mi.C/\Dh X.K mi.C m mi.i.f/\Hl X mi.i
 frm:G.top=true->X.stack=X.env::X.outer/\X.env.frame=some X.env.locals
 fr:FrH X
section
variable {X:Cx} {G:Sg}
theorem GOk.gl (O:GOk X G) {x:Str} (h:Gf G x=true):Gl X x:=by
 unfold Gf at h
 rw [ak] at h
 have:=cO h.1
 unfold Gl
 show X.env.scope.names.lookup x=_
 rw [O.sc x]
 exact this
theorem Mp {x:Str} (h:Dp x=true):(x==("__debug__" : Str))=false/\(x==("__classdict__" : Str))=false/\x ≠ "__name__" := by
 unfold Dp at h
 simp only [ak,iB] at h
 exact⟨h.1.1,h.1.2,fun e=>by rw [e] at h;simp at h⟩
theorem Io {x:Str} (h:Gf G x=true):(x==("__debug__" : Str))=false/\(x==("__classdict__" : Str))=false/\x ≠ "__name__" := by
 unfold Gf at h
 rw [ak] at h
 exact Mp h.2
noncomputable def ag1 (G:Sg) (x:Str):DE:=
 match B4 G.N x 0 with
 | some i=>if Dp x=true then Ac i else dNo
 | none=>if Gf G x=true then (match G.gb.lookup x with
   | some (.val v _)=>dC v
   | some (.exc C _)=>dC (.ref C)
   | some (.cls C _)=>dC (.ref C)
   | some _=>dNo
   | none=>if G.bl.contains x=true then (match Sj x with
    | some T=>dC (.ty T)
    | none=>dNo) else dNo) else dNo
theorem Ba {e:Expr}:QE X e dNo:=fun _ _ _ _ _ _ _ _ h=>h.elim
theorem a86 {i:Nat} {x:Str} {pos:Pos} (hN:X.N[i]? = some x) (hv:Vis X.env.scope x) (hp:Dp x=true):QE X (.Name x pos) (Ac i):=by
 intro Ex _ pins s σ H Q I h
 unfold Ac at h
 split at h
 ·rename_i v e
  exact a62 hN hv (Mp hp).1 (Mp hp).2.1 pins s σ H Q I ⟨v,e,h⟩
 ·exact h.elim
theorem ao3 (O:GOk X G) (x:Str) (pos:Pos):QE X (.Name x pos) (ag1 G x):=by
 unfold ag1
 split
 ·rename_i i e
  split
  ·rename_i hp
   have hi:=Dr e
   exact a86 (by rw [O.N];exact hi) (O.vis x (bd hi)) hp
  ·exact Ba
 ·split
  ·rename_i hg
   have dd:=Io hg
   split
   ·rename_i v u e
    obtain⟨h1,h2⟩:=O.val x v u e
    exact fun _ _=>Mo (O.gl hg) h1 h2 dd.1
   ·rename_i C oi e
    exact fun _ _=>Mo (v:=.ref C) (O.gl hg) (O.exc x C oi e).1 rfl dd.1
   ·rename_i C oi e
    exact fun _ _=>Mo (v:=.ref C) (O.gl hg) (O.cls x C oi e).1 rfl dd.1
   ·exact Ba
   ·split
    ·rename_i hb
     split
     ·rename_i T e
      exact fun _ _=>am4 (O.gl hg) (O.bl x hb) (Wr e) rfl dd.2.2 dd.1
     ·exact Ba
    ·exact Ba
  ·exact Ba
noncomputable def af9:Const->DE
 | .int i=>dC (.int i)
 | .bool b=>dC (.bl b)
 | .none=>dC .non
 | .str x=>dC (.str x)
 | _=>dNo
theorem Oy (c:Const) (j:Nat) (pos:Pos):QE X (.Constant c j pos) (af9 c):=by
 cases c with
 | int i=>exact fun _ _=>a56
 | bool b=>exact fun _ _=>bm2
 | none=>exact fun _ _=>a58
 | str x=>exact fun _ _=>a60
 | _=>exact Ba
variable {a b c:Expr} {da db dc:DE} {ta tb:DT} {es:List Expr} {r:DA} {pos:Pos}
theorem a73 (op:md) (ha:QE X a da) (hb:QE X b db):QE X (.BinOp a op b pos) (Af (rOp X.K op) da db):=fun Ex m=>bm4 (bz3 op) (ha Ex m) (hb Ex m)
theorem a81 (ha:QE X a da):QE X (.UnaryOp .USub a pos) (dUn Cc da):=fun Ex m=>au4 b41 (ha Ex m)
theorem a77 (ha:QE X a da):QE X (.UnaryOp .Invert a pos) (dUn ac4 da):=fun Ex m=>au4 bi9 (ha Ex m)
theorem a75 (hu:X.A.units+64<cLine) (op:l_) (ha:QE X a da) (hb:QE X b db) (hm:i5 op b=false):QE X (.Compare a [op] [b] pos) (Af (Ki X.K op) da db):=fun Ex m=>am5 (Kw hu op) (ha Ex m) (hb Ex m) hm
theorem a97 (hu:X.A.units+64<cLine) (op:l_) (ha:QE X a da) (hb:QE X b db) (hm:i5 op b=false):QT X (.Compare a [op] [b] pos) (Ar (Af (Ki X.K op) da db)):=by
 intro Ex m pins s σ H Q I h
 refine wpAny_isTrue_Compare1 (thn (ha Ex m pins s σ H _ I h) fun v s1 ⟨x,H1,I1,r1,q1⟩=>thn (hb Ex m pins s1 σ H1 _ I1 q1) fun u s2 ⟨y,H2,I2,r2,q2⟩=>
  thn (Kw hu op pins s2 σ H2 x y v u _ I2 r1 r2 q2) fun c s3 ⟨z,H3,I3,r3,q3⟩=>?_) hm
 cases z with
 | bl k=>cases r3;exact c7 ⟨H3,I3,q3⟩
 | _=>exact (show False from q3).elim
theorem aa9 (hu:X.A.units+64<cLine) (op op':l_) (ha:QE X a da) (hb:QE X b db) (hc:QE X c dc) (hm:lastMarks [op,op'] [b,c]=false) :
  QE X (.Compare a [op,op'] [b,c] pos) (Dw (Ki X.K op) (Ki X.K op') da db dc):=by
 intro Ex m pins s σ H Q I h
 refine Compare_chain (thn (ha Ex m pins s σ H _ I h) fun v s1 ⟨x,H1,I1,r1,q1⟩=>chain_link (thn (hb Ex m pins s1 σ H1 _ I1 q1) fun u s2 ⟨y,H2,I2,r2,q2⟩=>
  thn (Kw hu op pins s2 σ H2 x y v u _ I2 r1 r2 q2) fun d s3 ⟨z,H3,I3,r3,q3⟩=>?_)) hm
 cases z with
 | bl k=>
  cases r3
  refine c7 ?_
  cases k with
  | false=>exact ite_ff ⟨.bl false,H3,I3,rfl,q3⟩
  | true=>exact ite_tt (chain_last (thn (hc Ex m pins s3 σ H3 _ I3 q3) fun w' s4 ⟨z',H4,I4,r4,q4⟩=>Kw hu op' pins s4 σ H4 y z' u w' Q I4 r2 r4 q4))
 | _=>exact (show False from q3).elim
theorem ab8 (hu:X.A.units+64<cLine) (op op':l_) (ha:QE X a da) (hb:QE X b db) (hc:QE X c dc) (hm:lastMarks [op,op'] [b,c]=false) :
  QT X (.Compare a [op,op'] [b,c] pos) (Ar (Dw (Ki X.K op) (Ki X.K op') da db dc)):=by
 intro Ex m pins s σ H Q I h
 refine isTrue_chain (thn (ha Ex m pins s σ H _ I h) fun v s1 ⟨x,H1,I1,r1,q1⟩=>test_link (thn (hb Ex m pins s1 σ H1 _ I1 q1) fun u s2 ⟨y,H2,I2,r2,q2⟩=>
  thn (Kw hu op pins s2 σ H2 x y v u _ I2 r1 r2 q2) fun d s3 ⟨z,H3,I3,r3,q3⟩=>?_)) hm
 cases z with
 | bl k=>
  cases r3
  refine c7 ?_
  cases k with
  | false=>exact ite_ff ⟨H3,I3,q3⟩
  | true=>
   refine ite_tt (test_last (thn (hc Ex m pins s3 σ H3 _ I3 q3) fun w' s4 ⟨z',H4,I4,r4,q4⟩=>thn (Kw hu op' pins s4 σ H4 y z' u w' _ I4 r2 r4 q4) fun d' s5 ⟨z2,H5,I5,r5,q5⟩=>?_))
   cases z2 with
   | bl k2=>cases r5;exact c7 ⟨H5,I5,q5⟩
   | _=>exact (show False from q5).elim
 | _=>exact (show False from q3).elim
noncomputable def Z8:Expr->Bool
 | .UnaryOp .Not _ _=>false
 | .BoolOp _ _ _=>false
 | .IfExp _ _ _ _=>false
 | .Compare _ _ _ _=>false
 | _=>true
theorem V7 {e:Expr} (h:Z8 e=true) (whole:Sem Value):isTrue e X.env whole=(do let v <- whole;ls e.pos;lW [v] (truthy v)):=by
 cases e with
 | UnaryOp op _ _=>cases op <;> first|rfl|cases h
 | BoolOp _ _ _=>cases h
 | IfExp _ _ _ _=>cases h
 | Compare _ _ _ _=>cases h
 | _=>rfl
theorem a99 (ha:QE X a da) (h:Z8 a=true):QT X a (Fh X.K da):=by
 intro Ex m pins s σ H Q I hw
 exact isTrue_plain (thn (ha Ex m pins s σ H _ I hw) fun v s1 ⟨x,H1,I1,r1,q1⟩=>Uf pins s1 σ H1 x v Q I1 r1 q1) (V7 h _)
theorem a98 (ha:QT X a ta):QT X (.UnaryOp .Not a pos) (Hx ta):=fun Ex m=>a68 (ha Ex m)
theorem ap1 (ha:QT X a ta):QW X (.BoolOp .And [a] pos) ta:=fun Ex m=>an5 (ha Ex m)
theorem ba1 (ha:QT X a ta):QW X (.BoolOp .Or [a] pos) ta:=fun Ex m=>a70 (ha Ex m)
theorem ba0 (ha:QT X a ta) (hb:QW X (.BoolOp .And (b::es) pos) tb):QW X (.BoolOp .And (a::b::es) pos) (Hw ta tb):=fun Ex m=>a69 (ha Ex m) (hb Ex m)
theorem bn4 (ha:QT X a ta) (hb:QW X (.BoolOp .Or (b::es) pos) tb):QW X (.BoolOp .Or (a::b::es) pos) (dOr ta tb):=fun Ex m=>bm8 (ha Ex m) (hb Ex m)
theorem a83 {op:BoolOp} (ha:QE X a da):QE X (.BoolOp op [a] pos) da:=fun Ex m=>a59 (ha Ex m)
theorem a72 (ha:QE X a da) (hb:QE X (.BoolOp .And (b::es) pos) db):QE X (.BoolOp .And (a::b::es) pos) (Gz X.K da db):=by
 intro Ex m pins s σ H Q I h
 refine BoolOp_and (thn (ha Ex m pins s σ H _ I h) fun v s1 ⟨x,H1,I1,r1,q1⟩=>thn (Uf pins s1 σ H1 x v _ I1 r1 q1) fun k s2 ⟨H2,I2,q2⟩=>?_)
 cases k with
 | true=>exact hb Ex m pins s2 σ H2 Q I2 q2
 | false=>exact⟨x,H2,I2,r1,q2⟩
theorem bn2 (ha:QE X a da) (hb:QE X (.BoolOp .Or (b::es) pos) db):QE X (.BoolOp .Or (a::b::es) pos) (bg7 X.K da db):=by
 intro Ex m pins s σ H Q I h
 refine BoolOp_or (thn (ha Ex m pins s σ H _ I h) fun v s1 ⟨x,H1,I1,r1,q1⟩=>thn (Uf pins s1 σ H1 x v _ I1 r1 q1) fun k s2 ⟨H2,I2,q2⟩=>?_)
 cases k with
 | false=>exact hb Ex m pins s2 σ H2 Q I2 q2
 | true=>exact⟨x,H2,I2,r1,q2⟩
theorem a82 (ha:QE X a da):QE X (.UnaryOp .Not a pos) (ar9 X.K da):=by
 intro Ex m pins s σ H Q I h
 refine UnaryOp_ (thn (ha Ex m pins s σ H _ I h) fun v s1 ⟨x,H1,I1,r1,q1⟩=>not_of (thn (Uf pins s1 σ H1 x v _ I1 r1 q1) fun k s2 ⟨H2,I2,q2⟩=>?_))
 exact⟨.bl (!k),H2,I2,rfl,q2⟩
theorem bm9 {t:Expr} (ht:QT X t ta) (ha:QE X a da) (hb:QE X b db):QE X (.IfExp t a b pos) (ai0 ta da db):=fun Ex m=>Z3 (ht Ex m) (ha Ex m) (hb Ex m)
noncomputable def noStar:Expr->Bool
 | .Starred _ _=>false
 | _=>true
theorem Ap {e:Expr} (h:noStar e=true) (es:List Expr) (env:Env):cU (e::es) env=(false,eval e env)::cU es env:=by
 cases e with
 | Starred _ _=>cases h
 | _=>rfl
theorem A1 {es:List Expr} (h:es.all noStar=true) (env:Env) (pos:Pos):(ib pos (cU es env)).any (·.1)=false:=by
 induction es with
 | nil=>rfl
 | cons e es ih=>
  rw [bw,ak] at h
  rw [Ap h.1]
  show (false||(ib pos (cU es env)).any (·.1))=false
  rw [ih h.2]
  rfl
theorem G4 {es:List Expr} (h:es.all noStar=true) (env:Env) (pos:Pos):(ib pos (cU es env)).all (fun x=>!x.1)=true:=by
 induction es with
 | nil=>rfl
 | cons e es ih=>
  rw [bw,ak] at h
  rw [Ap h.1]
  show (true&&(ib pos (cU es env)).all (fun x=>!x.1))=true
  rw [ih h.2]
  rfl
theorem aa6:QA X [] Ag:=fun _ _=>a55
theorem Tn (ha:QE X a da) (hr:QA X es r) (hs:noStar a=true):QA X (a::es) (Aa da r):=fun Ex m=>am3 (ha Ex m) (hr Ex m) (Ap hs es X.env)
theorem a85 {k:Nat} (h:QA X es r):QE X (.Tuple es k pos) (Az r):=fun Ex m=>a61 (h Ex m)
theorem a78 (h:QA X es r):QE X (.List es pos) (Bq r):=fun Ex m=>a57 (h Ex m)
noncomputable def Fp:Expr->Bool
 | .Slice _ _ _ _=>false
 | _=>true
theorem Ql {e:Expr} (h:Fp e=true):Sn e:=by
 intro o i
 cases e with
 | Slice _ _ _ _=>cases h
 | _=>rfl
theorem bn0 (hu:X.A.units+64<cLine) (ha:QE X a da) (hb:QE X b db) (h:Fp b=true):QE X (.Subscript a b pos) (Af (A2 X.K) da db):=fun Ex m=>bm3 (bz1 hu) (ha Ex m) (hb Ex m) (Ql h)
theorem an6 {f:Str} (ha:QE X a da) (h:i4 a f X.env (eval a X.env)=eval a X.env):QE X (.Attribute a f pos) (dUn (ac2 X.K f) da):=by
 intro Ex m pins s σ H Q I hw
 exact ah6 h (thn (ha Ex m pins s σ H _ I hw) fun u s1 ⟨x,H1,I1,rx,q⟩=>bh3 I1 rx q)
end
end L2
namespace PySem.SeqAt
open AutoSeq1 (wpAny_loadPart')
open MeetsSeq MeetsSeq2 MeetsSeq3
theorem Vr (l b:Addr) (items items2:Array Value) (n n2:Nat) (dd dd2:Option Addr) (sl sl2:Array (Option Value)) (e:Nat->Bool) (lt:Nat->Bool) (k:Nat) :
  ∀ i:Nat,items.size - i=k->Meets (ar.«list.__eq__.loop» ⟨[.ref l,.ref b,dJ i,dJ 0],[]⟩)
   (fun A R s=>s.heap.get? l=some { cls:=.type "list", dict:=dd,data:=.seq items n,slots:=sl }/\s.heap.get? b=some { cls:=.type "list", dict:=dd2,data:=.seq items2 n2,slots:=sl2 } /\
    (∀ j (h1:j<items.size) (h2:j<items2.size),EqAt A.in1 s items[j] items2[j] (e j)) /\
    (∀ j (h1:j<items.size) (h2:j<items2.size),∀ (prog:aO) (w:bM) (E:Value->ag->Prop) (Q:Value->ag->Prop),Q (.bool (lt j)) s->ay (model prog w) A.in1 (kD .Lt items[j] items2[j]) Q E s) /\
    R (.ok (.ret (.bool (match ((bO (min items.size items2.size)).drop i).find? (fun j=>!e j) with|some j=>lt j|none=>decide (items.size<items2.size))))) s):=by
 induction k with
 | zero=>
  intro i hk prog w A R s h
  obtain⟨hp,g,d,tk,os⟩:=s;obtain⟨hl,hb,he,hr,h⟩:=h
  wp_walk using aF hl,aF hb
  have hi1:items[((i:Nat):Int).toNat]? = none:=by simp;omega
  have hd:(bO (min items.size items2.size)).drop i=[]:=by simp;omega
  rw [hd] at h
  rw [hi1]
  wp_walk using aF hl,aF hb
  exact h
 | succ k ih=>
  intro i hk prog w A R s h
  obtain⟨hp,g,d,tk,os⟩:=s;obtain⟨hl,hb,he,hr,h⟩:=h
  wp_walk using aF hl,aF hb
  have hlt:i<items.size:=by omega
  have hi1:items[((i:Nat):Int).toNat]? = some items[i]:=by simp [hlt]
  by_cases hlt2:i<items2.size
  ·have hi2:items2[((i:Nat):Int).toNat]? = some items2[i]:=by simp [hlt2]
   have hm:i<min items.size items2.size:=by omega
   have hd:(bO (min items.size items2.size)).drop i=i::(bO (min items.size items2.size)).drop (i+1):=by rw [cC (by simpa using hm)];simp
   have hc:((i:Int)+1)=((i+1:Nat):Int):=by push_cast;rfl
   rw [hd,dH] at h
   rw [hi1,hi2]
   refine ac (he i hlt hlt2 prog w _ _ ?_)
   cases hb':e i with
   | true=>
    rw [hb'] at h
    wp_walk
    rw [hc]
    exact⟨b9 cP _,bY fP (by
     rw [bG cP _]
     exact ih (i+1) (by omega) prog w A R _ ⟨hl,hb,he,hr,h⟩)⟩
   | false=>
    rw [hb'] at h
    wp_walk using aF hl,aF hb
    rw [hi1,hi2]
    refine ac (hr i hlt hlt2 prog w _ _ ?_)
    wp_walk
    exact h
  ·have hi2:items2[((i:Nat):Int).toNat]? = none:=by simp;omega
   have hd:(bO (min items.size items2.size)).drop i=[]:=by simp;omega
   rw [hd] at h
   rw [hi1,hi2]
   wp_walk using aF hl,aF hb
   exact h
theorem Vp (l b:Addr) (items items2:Array Value) (n n2:Nat) (dd dd2:Option Addr) (sl sl2:Array (Option Value)) (e lt:Nat->Bool) :
  Meets (ar.«list.__lt__» ⟨[.ref l,.ref b],[]⟩)
   (fun A R s=>s.heap.get? l=some { cls:=.type "list", dict:=dd,data:=.seq items n,slots:=sl }/\s.heap.get? b=some { cls:=.type "list", dict:=dd2,data:=.seq items2 n2,slots:=sl2 } /\
    (∀ j (h1:j<items.size) (h2:j<items2.size),EqAt A.in1 s items[j] items2[j] (e j)) /\
    (∀ j (h1:j<items.size) (h2:j<items2.size),∀ (prog:aO) (w:bM) (E:Value->ag->Prop) (Q:Value->ag->Prop),Q (.bool (lt j)) s->ay (model prog w) A.in1 (kD .Lt items[j] items2[j]) Q E s) /\
    R (.ok (.ret (.bool (match (bO (min items.size items2.size)).find? (fun j=>!e j) with|some j=>lt j|none=>decide (items.size<items2.size))))) s):=by
 intro prog w A R s h
 obtain⟨hp,g,d,tk,os⟩:=s;obtain⟨hl,hb,he,hr,h⟩:=h
 have f3:=fU
 wp_walk using aF hl,aF hb
 exact⟨b9 cP _,bY fP (by
  rw [bG cP _]
  exact Vr l b items items2 n n2 dd dd2 sl sl2 e lt _ 0 rfl prog w A R _ ⟨hl,hb,he,hr,by simpa using h⟩)⟩
theorem lt_lists {A:aX} {s:ag} {l b:Addr} {items items2:Array Value} {e lt:Nat->Bool} (hl:s.heap.IsList l items) (hb:s.heap.IsList b items2) (hu:A.units<cLine)
  (he:∀ j (h1:j<items.size) (h2:j<items2.size),EqAt A.in1 s items[j] items2[j] (e j))
  (hr:∀ j (h1:j<items.size) (h2:j<items2.size),∀ (prog:aO) (w:bM) (E:Value->ag->Prop) (Q:Value->ag->Prop),Q (.bool (lt j)) s->ay (model prog w) A.in1 (kD .Lt items[j] items2[j]) Q E s)
  {prog:aO} {w:bM} {E:Value->ag->Prop} {Q:Value->ag->Prop} (h:Q (.bool (match (bO (min items.size items2.size)).find? (fun j=>!e j) with|some j=>lt j|none=>decide (items.size<items2.size))) s) :
  ay (model prog w) A (kD .Lt (.ref l) (.ref b)) Q E s:=by
 obtain⟨⟨cls,dd,data,sl⟩,ho,hc,n,hd⟩:=id hl
 obtain⟨⟨cls2,dd2,data2,sl2⟩,ho2,hc2,n2,hd2⟩:=id hb
 simp only at hc hd hc2 hd2
 subst hc hd hc2 hd2
 exact richCompare_meets_room (op:=.Lt) ⟨_,ho,rfl⟩ ⟨_,ho2,rfl⟩ F.slot_list_lt F.entry_list_lt (F.args_list_lt_2 _ _) (Vp l b items items2 n n2 dd dd2 sl sl2 e lt)
  ⟨ho,ho2,he,hr,⟨(fun x=>nomatch x),h⟩⟩ hu
end PySem.SeqAt
namespace PySem.W
open PySem PySem.Calls PyProof.Rows
noncomputable def kRun {α:Type} (n:Nat) (lt:Nat->Nat->Bool):KasT α->Option α
 | .ret a=>some a
 | .ask i j k=>if i<n/\j<n then kRun n lt (k (lt i j)) else none
theorem kRun_wp {α:Type} {n:Nat} {lt:Nat->Nat->Bool} {cmp:Nat->Nat->(Bool->ag->Prop)->ag->Prop} {G:α->ag->Prop} {s:ag} (h:∀ i j C,i<n->j<n->C (lt i j) s->cmp i j C s) :
  ∀ {t:KasT α} {a:α},kRun n lt t=some a->G a s->t.kasWp cmp G s
 | .ret b,a,e,g=>by
  have:b=a:=aK e
  subst this
  exact g
 | .ask i j k,a,e,g=>by
  unfold kRun at e
  split at e
  ·rename_i hij
   exact h i j _ hij.1 hij.2 (kRun_wp h e g)
  ·cases e
section
variable {prog:aO} {w:bM} {A:aX} {E:Value->ag->Prop} {s:ag} {vs:List Value}
noncomputable def SoFin (a:Addr) (e:Nat) (out:List Value) (C:ag->Prop) (s:ag):Prop:=
 s.heap.get? a=some (fF "list" #[] e) /\ ∀ h' c,h'.get? a=some (fF "list" (gm out) c)->aV a s.heap h'->C { s with heap:=h' }
theorem SoFin.mono {a:Addr} {e:Nat} {out:List Value} {C C':ag->Prop} (h:SoFin a e out C s) (hc:∀ s,C s->C' s):SoFin a e out C' s:=⟨h.1,fun h' c x y=>hc _ (h.2 h' c x y)⟩
theorem M7 {n:Nat} {a:Addr} {P:PySem.Fin->ag->Prop} (ho:s.heap.get? a=some (fF "list" vs.toArray n)) (h2:2<=vs.length) (h64:vs.length<64)
  (h:∀ e1 h',h'.get? a=some (fF "list" #[] e1)->(∀ b o,b≠a->s.heap.get? b=some o->h'.get? b=some o) ->
   ay (model prog w) A (keyKind' vs.toArray) (fun κ s'=>(kas_sort vs.length).kasWp (kas_ask prog w A κ vs) (fun p s''=>SoFin a e1 (p.toList.map fun i=>vs.getD i be) (fun s3=>P (.done (.ret .none)) s3) s'') s') (fun _ _=>False) { s with heap:=h' }) :
  ay (model prog w) A (ar.«list.sort» ⟨[.ref a],[]⟩) P E s:=by
 have ha:a<s.heap.objs.size:=au ho
 have s1:=cb s.heap a (bu fun _=>(#[]:Array Value))
 obtain⟨e1,ho1⟩:∃ e1,(s.heap.update a (bu fun _=>(#[]:Array Value))).get? a=some (fF "list" #[] e1):=⟨_,get?_update_seq ho fun _=>#[]⟩
 have ask:=h e1 (((s.heap.update a (bu fun _=>(#[]:Array Value))).push (fF "tuple" vs.toArray 0)).push (fF "list" #[] 0)) (ae _ (ae _ ho1))
  (fun b o nb e=>ae _ (ae _ ((s1.2 b nb).trans e)))
 rw [list_sort_plain]
 refine ac (listItems_at ho rfl ?_)
 refine ac (listUpdate_at ho rfl ?_ (by rw [am,bL];omega) (bJ _))
 refine ac (seqEpoch_at ho1 rfl ?_)
 refine ac (gh ?_ (by show vs.length<=_;rw [bL];omega))
 refine ac (wpAny_newList ?_ (bJ _))
 refine bb ?_
 show ay (model prog w) A _ P E { s with heap:=((s.heap.update a (bu fun _=>(#[]:Array Value))).push (fF "tuple" vs.toArray 0)).push (fF "list" #[] 0) }
 dsimp only
 have hn2:¬ vs.toArray.size<2:=by rw [am];omega
 rw [if_neg hn2,if_neg hn2]
 refine ac (cA ask (fun κ s0 hk=>?_) fun _ _ x=>x.elim)
 refine ac (cA (kat_run (Q:=fun st' s'=>∃ p:Array Nat,p.size=vs.length/\arrOf st'=p.map (kas_item (vs.toArray.zip vs.toArray))/\failedOf st'=none/\SoFin a e1 (p.toList.map fun i=>vs.getD i be) (fun s''=>P (.done (.ret .none)) s'') s')
  rfl h2 h64 (fun p' st' s' a1 a2 a3 a4=>⟨p',a1,a2,a3,a4⟩) hk) ?_ fun _ _ e=>e)
 rintro⟨⟨⟩,st'⟩ s' ⟨p,hp,har,hf,na,k⟩
 dsimp only
 have hout:=kat_snds rfl har
 have hsz:(gm (p.toList.map fun i=>vs.getD i be)).size=vs.length:=by rw [am,al,cY,hp]
 rw [hout]
 have s2:=cb s'.heap a (bu fun _=>gm (p.toList.map fun i=>vs.getD i be))
 obtain⟨c2,hc2⟩:∃ c2,(s'.heap.update a (bu fun _=>gm (p.toList.map fun i=>vs.getD i be))).get? a=some (fF "list" (gm (p.toList.map fun i=>vs.getD i be)) c2):=⟨_,get?_update_seq na fun _=>gm (p.toList.map fun i=>vs.getD i be)⟩
 refine ac (seqEpoch_at na rfl ?_)
 refine ac (listUpdate_at na rfl ?_ (bJ _) (aR (lx hsz) (by rw [bL];omega)))
 rw [hf]
 simp only [bne_self_eq_false,bz,if_false]
 exact ai (k _ c2 hc2 s2)
theorem so_sorted {l:Addr} {Q:Value->ag->Prop} (hl:s.heap.IsList l vs.toArray) (h2:2<=vs.length) (h64:vs.length<64)
  (h:∀ D e1 h',s.heap.objs.size<=D->h'.get? D=some (fF "list" #[] e1)->(∀ b o,s.heap.get? b=some o->h'.get? b=some o) ->
   ay (model prog w) A.in1.in1 (keyKind' vs.toArray) (fun κ s'=>(kas_sort vs.length).kasWp (kas_ask prog w A.in1.in1 κ vs) (fun p s''=>SoFin D e1 (p.toList.map fun i=>vs.getD i be) (fun s3=>Q (.ref D) s3) s'') s') (fun _ _=>False) { s with heap:=h' }) :
  ay (model prog w) A (call (.builtin "sorted") [.ref l]) Q E s:=by
 refine Calls.call_function_entry kind_sorted plain_sorted entry_sorted (args_sorted1 _) ?_
 unfold ar.«sorted»
 refine ac (m:=checkCount "sorted" 1 1 _) (ai ?_)
 refine ac (collect_list hl ?_ (by rw [bL];omega))
 refine ac (wpAny_newList ?_ (by rw [bL];omega))
 have hsz:((s.heap.push (fF "list" #[] 0)).update s.heap.objs.size (bu (· ++ vs.toArray))).objs.size=s.heap.objs.size+1:=by
  rw [Heap.size_update,size_push']
 have hoL:(((s.heap.push (fF "list" #[] 0)).update s.heap.objs.size (bu (· ++ vs.toArray))).push (fF "list" vs.toArray 0)).get? (s.heap.objs.size+1)=some (fF "list" vs.toArray 0):=by
  rw [<- hsz];exact aq _ rfl
 have keep:∀ b o,s.heap.get? b=some o->(((s.heap.push (fF "list" #[] 0)).update s.heap.objs.size (bu (· ++ vs.toArray))).push (fF "list" vs.toArray 0)).get? b=some o:=fun b o q=>by
  have hlt:b<s.heap.objs.size:=au q
  rw [Heap.get?_push_ne _ _ _ (by rw [hsz];exact aA (bV hlt)),Heap.get?_update_ne _ _ _ _ (aA hlt),Heap.get?_push_ne _ _ _ (aA hlt)]
  exact q
 show ay _ _ _ _ _ { s with heap:=((s.heap.push (fF "list" #[] 0)).update s.heap.objs.size (bu (· ++ vs.toArray))).push (fF "list" vs.toArray 0) }
 rw [hsz]
 refine ac (bb (cF slot_list_sort ⟨_,hoL,rfl⟩ entry_list_sort ?body (args_list_sort _)))
 case body=>
  refine M7 (s:={ s with heap:=((s.heap.push (fF "list" #[] 0)).update s.heap.objs.size (bu (· ++ vs.toArray))).push (fF "list" vs.toArray 0) }) hoL h2 h64 fun e1 h' g k=>?_
  refine cA (h _ e1 h' (cG _) g fun b o q=>k b o (aA (bV (au q))) (keep b o q)) (fun κ s' hk=>?_) fun _ _ x=>x
  rw [kat_ask_eq rfl] at hk ⊢
  exact kas_wp_mono hk fun p s'' hk'=>hk'.mono fun s3 hq=>⟨_,rfl,ai ⟨_,rfl,hq⟩⟩
end
end PySem.W
namespace L2
open PySem PySem.Spec PyProof.Rows
noncomputable def ltL:List Int->List Int->Bool
 | [],[]=>false
 | [],_::_=>true
 | _::_,[]=>false
 | x::xs,y::ys=>if x=y then ltL xs ys else decide (x<y)
noncomputable def ltP (p q:Int×List Int):Bool:=if p.1=q.1 then ltL p.2 q.2 else decide (p.1<q.1)
noncomputable def ak4 (ps:List (Int×List Int)) (i j:Nat):Bool:=ltP (ps.getD i (0,[])) (ps.getD j (0,[]))
theorem Om:∀ xs:List Int,ltL xs xs=false
 | []=>rfl
 | x::xs=>by unfold ltL;rw [if_pos rfl];exact Om xs
theorem G6 (n:Nat) (p:Nat->Bool):(bO (n+1)).find? p=if p 0=true then some 0 else ((bO n).find? fun j=>p (j+1)).map (· + 1):=by
 rw [jq,dH]
 cases e:p 0 with
 | true=>simp
 | false=>simp [List.find?_map,Function.comp_def]
theorem Ol:∀ xs ys:List Int,(match (bO (min xs.length ys.length)).find? (fun j=>!(xs.getD j 0==ys.getD j 0)) with|some j=>decide (xs.getD j 0<ys.getD j 0)|none=>decide (xs.length<ys.length))=ltL xs ys
 | [],[]=>rfl
 | [],_::_=>by simp [ltL]
 | _::_,[]=>by simp [ltL]
 | x::xs,y::ys=>by
  have ih:=Ol xs ys
  have e:min (x::xs).length (y::ys).length=min xs.length ys.length+1:=by simp only [aQ];omega
  rw [e,G6]
  unfold ltL
  by_cases h:x=y
  ·subst h
   have c:(!((x::xs).getD 0 0==(x::ys).getD 0 0))=false:=by simp
   rw [c,if_neg aj,if_pos rfl,<- ih]
   have f:(fun j=>!((x::xs).getD (j+1) 0==(x::ys).getD (j+1) 0))=fun j=>!(xs.getD j 0==ys.getD j 0):=by funext j;simp
   rw [f]
   cases (bO (min xs.length ys.length)).find? (fun j=>!(xs.getD j 0==ys.getD j 0)) with
   | none=>simp
   | some j=>simp
  ·have c:(!((x::xs).getD 0 0==(y::ys).getD 0 0))=true:=by simp [h]
   rw [c,if_pos rfl,if_neg h]
   rfl
noncomputable abbrev soV (ds:List ((Int×List Int)×Addr×Addr)):List V:=ds.map fun d=>V.ref d.2.1
noncomputable def M1 (K:aa):List V->Hp->VK->Prop:=fun xs H Q=>match xs with
 | [.ref a]=>∃ (ds:List ((Int×List Int)×Addr×Addr)) (p:Array Nat),SqL K H a (soV ds)/\(∀ d∈ds,H d.2.1=some (.tup [.int d.1.1,.ref d.2.2])/\H d.2.2=some (.lst (d.1.2.map V.int)))/\2<=ds.length/\ds.length<64 /\
   PySem.W.kRun ds.length (ak4 (ds.map (·.1))) (PySem.W.kas_sort ds.length)=some p/\p.toList.length=ds.length/\(p.toList.all fun i=>decide (i<ds.length))=true /\ ∀ D,H D=none->Q (.ref D) (upd H D (.lst (p.toList.map fun i=>(soV ds).getD i .non)))
 | _=>False
section
variable {X:Cx} {pins:List (Addr×Obj)} {σ:St} {H:Hp} {s:ag}
theorem ak5 {A:aX} {a b:Addr} {xs ys:List Int} (I:Inv X pins σ H s) (ha:H a=some (.lst (xs.map V.int))) (hb:H b=some (.lst (ys.map V.int))) (hu:A.units<cLine)
  {Q:Bool->ag->Prop} {E:Value->ag->Prop} (h:Q (ltL xs ys) s):ay (model X.prog X.w) A (bZ .Lt (.ref a) (.ref b)) (PySem.W.BoolBack Q) E s:=by
 obtain⟨its,r,pl,_⟩:=I.list (SqL.of ha)
 obtain⟨its2,r2,pl2,_⟩:=I.list (SqL.of hb)
 have e1:xs.length=its.length:=by have:=r.length;simpa using this
 have e2:ys.length=its2.length:=by have:=r2.length;simpa using this
 have g1:∀ j (hj:j<its.length),∃ t,its[j]=.int (xs.getD j 0) t:=fun j hj=>by
  obtain⟨u,hu,ru⟩:=r.get (i:=j) (x:=.int (xs.getD j 0)) (by rw [aI,ah (by omega),bc,ah (by omega)];rfl)
  rw [ah hj] at hu
  obtain⟨t,rfl⟩:=ru
  exact⟨t,aK hu⟩
 have g2:∀ j (hj:j<its2.length),∃ t,its2[j]=.int (ys.getD j 0) t:=fun j hj=>by
  obtain⟨u,hu,ru⟩:=r2.get (i:=j) (x:=.int (ys.getD j 0)) (by rw [aI,ah (by omega),bc,ah (by omega)];rfl)
  rw [ah hj] at hu
  obtain⟨t,rfl⟩:=ru
  exact⟨t,aK hu⟩
 refine SeqAt.lt_lists (e:=fun j=>xs.getD j 0==ys.getD j 0) (lt:=fun j=>decide (xs.getD j 0<ys.getD j 0)) pl.isList pl2.isList hu (fun j j1 j2=>?_) (fun j j1 j2 prog w E Q hq=>?_) ?_
 ·obtain⟨t,e⟩:=g1 j (by simpa using j1)
  obtain⟨t',e'⟩:=g2 j (by simpa using j2)
  simp only [dw]
  rw [e,e']
  exact kL _ _ _ _
 ·obtain⟨t,e⟩:=g1 j (by simpa using j1)
  obtain⟨t',e'⟩:=g2 j (by simpa using j2)
  simp only [dw]
  rw [e,e']
  exact lt_int hq
 ·have:=Ol xs ys
  rw [am,am,<- e1,<- e2,this]
  exact h
theorem Kz:∀ xs ys:List Int,C3 (xs.map fun i=>Dt.at_ (.int i)) (ys.map fun i=>Dt.at_ (.int i))=decide (xs=ys)
 | [],[]=>by simp [C3]
 | [],_::_=>by simp [C3]
 | _::_,[]=>by simp [C3]
 | x::xs,y::ys=>by
  rw [aS,aS]
  unfold C3
  rw [Kz xs ys]
  unfold deq
  show ((x==y)&&decide (xs=ys))=_
  by_cases h:x=y <;> by_cases h2:xs=ys <;> simp [h,h2]
theorem Ky:∀ xs:List Int,Cj (xs.map fun i=>Dt.at_ (.int i))=0
 | []=>by simp [Cj]
 | x::xs=>by rw [aS];unfold Cj;rw [Ky xs];unfold dep;rfl
theorem Hn {K:aa}:∀ xs:List Int,AtL K H (xs.map fun i=>Dt.at_ (.int i)) (xs.map V.int)
 | []=>by simp [AtL]
 | x::xs=>by rw [aS,aS];unfold AtL;exact⟨_,_,rfl,by unfold At;exact⟨rfl,rfl⟩,Hn xs⟩
theorem ai8 {A:aX} {a b:Addr} {xs ys:List Int} (I:Inv X pins σ H s) (ha:H a=some (.lst (xs.map V.int))) (hb:H b=some (.lst (ys.map V.int))) (hu:A.units+1<cLine) :
  bp A s (.ref a) (.ref b) (decide (xs=ys)):=by
 have:=Ic I (.lst (xs.map fun i=>Dt.at_ (.int i))) (.lst (ys.map fun i=>Dt.at_ (.int i))) A (.ref a) (.ref b) _ _ (by unfold At;exact⟨_,_,rfl,SqL.of ha,Hn xs⟩) (by unfold At;exact⟨_,_,rfl,SqL.of hb,Hn ys⟩) rfl rfl (by unfold dep;rw [Ky];exact hu)
 unfold deq at this
 rwa [Kz] at this
theorem J3 {xs:List V} {us:List Value} (r:Vals xs us) {i:Nat} (h:i<us.length):∃ x,xs[i]? = some x/\RelV x (us.getD i be):=by
 have hl:=r.length
 obtain⟨u,hu,ru⟩:=r.get (i:=i) (x:=xs[i]'(by omega)) (ah (by omega))
 refine⟨_,ah (by omega),?_⟩
 rw [bc,hu]
 exact ru
theorem T8 (I:Inv X pins σ H s):∀ (ds:List ((Int×List Int)×Addr×Addr)) (vs:List Value),Vals (soV ds) vs->(∀ d∈ds,H d.2.1=some (.tup [.int d.1.1,.ref d.2.2])) -> ∃ fs,jL s.heap vs fs/\fs.length=ds.length /\ ∀ v∈fs,∃ i t,v=.int i t
 | [],vs,r,_=>by cases r;exact⟨[],PySem.W.KatTups.nil,rfl,fun v hv=>by cases hv⟩
 | d::ds,vs,r,h=>by
  cases r with
  | cons r1 r2=>
   obtain⟨fs,k,hl,hi⟩:=T8 I ds _ r2 fun x hx=>h x (aJ _ hx)
   cases r1
   obtain⟨its,ri,⟨o,e,c,n,dd⟩,_⟩:=I.tuple (SqT.of (h d bC))
   cases ri with
   | cons ra rr=>
    obtain⟨t,rfl⟩:=ra
    exact⟨_::fs,PySem.W.KatTups.cons e c dd rfl k,by rw [aQ,aQ,hl],fun v hv=>(List.mem_cons.mp hv).elim (fun z=>⟨_,_,z⟩) (hi v)⟩
theorem Ln {xs:List V} {us:List Value} (r:Vals xs us):∀ (p:List Nat),(∀ i∈p,i<us.length)->Vals (p.map fun i=>xs.getD i .non) (p.map fun i=>us.getD i be)
 | [],_=>.nil
 | i::p,h=>by
  obtain⟨x,hx,rx⟩:=J3 r (h i bC)
  refine .cons ?_ (Ln r p fun j hj=>h j (aJ _ hj))
  show RelV (xs.getD i .non) _
  rw [bc,hx]
  exact rx
end
theorem Zb {n:Nat} {lt:Nat->Nat->Bool} {p:Array Nat} (h:PySem.W.kRun n lt (PySem.W.kas_sort n)=some p) (hp:(p.toList.all fun i=>decide (i<n))=true):∀ i∈p.toList,i<n:=fun i hi=>by
 simpa using List.all_eq_true.mp hp i hi
theorem N1:dm "sorted" = some (.builtin "sorted"):=by decide +kernel
theorem Ly {X:Cx} (hu:X.A.units+64<cLine):Bl X (.builtin "sorted") (M1 X.K):=by
 intro pins s σ H xs us Q I r h
 unfold M1 at h
 split at h
 ·rename_i a
  obtain⟨ds,p,hq,hd,h2,h64,hr,hz,hp,q⟩:=h
  obtain⟨u,rfl,ru⟩:=En r
  cases ru
  obtain⟨its,ri,pl,_⟩:=I.list hq
  have hl:its.length=ds.length:=by have:=ri.length;simpa using this.symm
  refine PySem.W.so_sorted (vs:=its) pl.isList (by omega) (by omega) fun D e1 h' hD gD keep=>?_
  have I1:Inv X pins σ H { s with heap:=h' }:=I.kept (t':=s.toks) keep
  obtain⟨fs,kt,kl,ki⟩:=T8 I1 ds its ri fun d hx=>(hd d hx).1
  refine PySem.W.kat_kind (T:=.type "int") kt (by omega) (fun v hv=>by obtain⟨i,t,rfl⟩:=ki v hv;exact .now) rfl ?_
  refine PySem.W.kRun_wp (n:=its.length) (lt:=ak4 (ds.map (·.1))) (a:=p) (fun i j C hi hj hC=>?_) (by rw [hl];exact hr) ⟨gD,fun h2 c g2 sb=>?_⟩
  ·unfold PySem.W.kas_ask
   obtain⟨x,hx,rx⟩:=J3 ri hi
   obtain⟨y,hy,ry⟩:=J3 ri hj
   rw [hl] at hi hj
   have ex:x=.ref (ds[i]'hi).2.1:=by rw [aI,ah hi] at hx;exact (aK hx).symm
   have ey:y=.ref (ds[j]'hj).2.1:=by rw [aI,ah hj] at hy;exact (aK hy).symm
   subst ex ey
   have lt:ak4 (ds.map (·.1)) i j=ltP (ds[i]'hi).1 (ds[j]'hj).1:=by
    unfold ak4
    rw [bc,bc,aI,aI,ah hi,ah hj]
    rfl
   rw [lt] at hC
   obtain⟨t1,l1⟩:=hd _ (dM hi)
   obtain⟨t2,l2⟩:=hd _ (dM hj)
   generalize (ds[i]'hi)=d1 at rx t1 l1 hC
   generalize (ds[j]'hj)=d2 at ry t2 l2 hC
   obtain⟨⟨n1,x1⟩,a1,b1⟩:=d1
   obtain⟨⟨n2,x2⟩,a2,b2⟩:=d2
   rw [show its.getD i be=aH a1 from rx,show its.getD j be=aH a2 from ry]
   obtain⟨i1,r1,⟨o1,e1,c1,m1,d1⟩,_⟩:=I1.tuple (SqT.of t1)
   obtain⟨i2,r2,⟨o2,e2,c2,m2,d2⟩,_⟩:=I1.tuple (SqT.of t2)
   obtain⟨u1,v1,rfl,⟨tk1,rfl⟩,rfl⟩:=r1.two
   obtain⟨u2,v2,rfl,⟨tk2,rfl⟩,rfl⟩:=r2.two
   refine PySem.W.kat_lt e1 d1 e2 d2 ?_
   refine PySem.W.kat_cons (wpAny_eqBool_int ?_)
   unfold ltP at hC
   refine PySem.W.kat_go (fun e=>?_) (fun e=>?_)
   ·have e:n1=n2:=by simpa using e
    rw [if_pos e] at hC
    refine PySem.W.kat_yes (PySem.W.kat_cons (ai8 I1 l1 l2 (by show X.A.units+1+1+1<cLine;omega) _ _ _ _ ?_))
    refine PySem.W.kat_go (fun e=>?_) (fun e=>?_)
    ·have e:x1=x2:=by simpa using e
     subst e
     rw [Om] at hC
     exact PySem.W.kat_yes (PySem.W.kat_nil hC)
    ·exact PySem.W.kat_no (PySem.W.kat_one _ _ (ak5 I1 l1 l2 (by show X.A.units+1+1<cLine;omega) hC))
   ·have e:¬ n1=n2:=by simpa using e
    rw [if_neg e] at hC
    exact PySem.W.kat_no (oneLt_int hC)
  ·refine⟨.ref D,upd H D (.lst (p.toList.map fun i=>(soV ds).getD i .non)),?_,rfl,q D (I.hok.fresh hD)⟩
   refine I.laid (t':=s.toks) (fun b u e=>(sb.2 b (aA (av (au e) hD))).trans (keep b u e)) hD ⟨?_,_,c,Ln ri p.toList (fun i hi=>by rw [hl];exact Zb hr hp i hi),g2⟩
   rw [al,hz,bL]
   omega
 ·exact h.elim
end L2
namespace PySem
section
variable {prog:aO} {w:bM} {K:Type} [DecidableEq K] {knd:HeapKind prog w K} {A:aX} {E:Value->ag->Prop} {s:ag}
theorem C9 {d a:Addr} {xs:List (K×Addr×Value)} {k:K} {v:Value} {Q:Value->ag->Prop} (hu:knd.room A) (hkey:knd.is s.heap k a) (hm:s.heap.DictOfH knd d xs)
  (h1:∀ p,lK xs k=some p->Q p.2 { s with toks:=s.toks+knd.draws k })
  (h2:lK xs k=none -> ∀ h',h'.DictOfH knd d (storedH xs k a v)->aV d s.heap h'->Q v { s with heap:=h',toks:=s.toks+knd.draws k })
  (hsz:xs.length<=sizeLine):ay (model prog w) A (j_ d (.ref a) v) Q E s:=by
 obtain⟨o,es,ep,ho,hc,hd,he,his,hn⟩:=hm
 unfold j_
 try with_reducible refine bb ?_
 refine ac (knd.pyHash hu hkey ?_)
 refine ac (wpAny_dictFind_heap (s:={ s with toks:=s.toks+knd.draws k }) hu hkey ho hd he his hn ?_ ?_)
 ·intro hno
  have hnot:k∉xs.map (·.1):=not_mem_keys_of_get hno
  refine ac (gJ (ac (wpAny_updateDictKeys (hz:=by have e:=size_of_entries he;omega) (s:={ s with toks:=s.toks+knd.draws k }) ho hd (ai (h2 (f9 hno) _ ⟨_,_,ep+1,aL _ ho (Obj.isFreed_of_dict (j0 hd _)),
   hc.mapDictKeys _,j0 hd _,?_,?_,?_⟩ (cb ..))))))
  ·rw [l5 (f9 hno)]
   simp [he,entryOfKey]
  ·rw [l5 (f9 hno)]
   intro x hx
   rcases List.mem_append.mp hx with hx|hx
   ·exact knd.keeps (his x hx) ho hd (cb ..)
   ·simp only [bq] at hx
    subst hx
    exact knd.keeps hkey ho hd (cb ..)
  ·rw [l5 (f9 hno)]
   rw [bx,List.nodup_append]
   refine⟨hn,by simp,?_⟩
   intro x hx y hy
   simp only [aS,eU,bq] at hy
   subst hy
   exact fun e=>hnot (e▸hx)
 ·intro j p hj
  refine ac (gc (s:={ s with toks:=s.toks+knd.draws k }) ho hd ?_)
  rw [entry_at he j,hj]
  exact ac (gJ (ai (h1 p (atKey_of_get hn hj))))
theorem Fo (knd:HeapKind prog w K) (d a:Addr) (hd:(d==cQ)=false) (dflt:Value) :
  lj prog w (ar.«dict.setdefault» ⟨[.ref d,.ref a,dflt],[]⟩) (fun A R s=>knd.room A.in1 /\ ∃ k xs,knd.is s.heap k a/\s.heap.DictOfH knd d xs/\xs.length<=sizeLine /\
   (∀ p,lK xs k=some p->R (.ok (.ret p.2)) { s with toks:=s.toks+knd.draws k }) /\
   (lK xs k=none -> ∀ h',h'.DictOfH knd d (storedH xs k a dflt)->aV d s.heap h'->R (.ok (.ret dflt)) { s with heap:=h',toks:=s.toks+knd.draws k })):=
 .of_wp fun A R s ⟨hu,k,xs,hkey,hm,hz,h1,h2⟩=>by
  unfold ar.«dict.setdefault»
  refine ac ?_
  unfold Builtin.Dict.keyAndDefault
  refine ac (wpAny_notOrdered_dict hm.typeIs ?_)
  show ay _ _ (pure (d,aH a,some dflt)) _ _ s
  refine ai ?_
  show ay _ _ (if (d==cQ)=true then _ else (j_ d (.ref a) dflt >>= _)) _ _ s
  rw [if_neg (by rw [hd];exact aj)]
  exact ac (C9 hu hkey hm (fun p hp=>ai ⟨_,rfl,h1 p hp⟩) (fun hn h' hm' hs'=>ai ⟨dflt,rfl,h2 hn h' hm' hs'⟩) hz)
end
end PySem
namespace L2
open PySem PySem.Spec PyProof.Rows
noncomputable def M0:V->List V->Hp->VK->Prop:=fun x xs H Q=>∃ p b kvs ks v,x=.ref p/\xs=[.ref b,v]/\H p=some (.dT kvs)/\H b=some (.tup (hY kV ks))/\kvs.length<sizeLine/\(match Fv kvs ks with
 | some w=>Q w H
 | none=>Q v (upd H p (.dT (E3 kvs ks v))))
theorem Vx {X:Cx} (hu:X.A.units+64<cLine):MtR X "dict.setdefault" M0:=by
 intro pins s σ H x xs v us Q I rx rs h
 obtain⟨p,b,kvs,ks,y,rfl,rfl,e,eb,hl,q⟩:=h
 cases rx
 obtain⟨u1,u2,rfl,ru,rv⟩:=rs.two
 cases ru
 obtain⟨z,hd,ms,rel,dd⟩:=as1 I.hok e
 have hz:ms.length<=sizeLine:=by rw [<- gE rel];exact z
 have hv:=rel.val ks
 refine dW gF dd.typeIs PySem.F.entry_dict_setdefault (PySem.F.args_dict_setdefault_3 _ _ _) (Fo (gZ (Ao X.prog X.w)) p b hd u2) ⟨du (by omega),ks,ms,Eh I.hok eb,dd,hz,fun r hr=>?_,fun hr h' dd' hs=>?_⟩
 ·rw [hr] at hv
  cases e2:Fv kvs ks with
  | none=>rw [e2] at hv;cases hv
  | some w=>rw [e2] at hv q;exact⟨w,H,I.tok _,hv,q⟩
 ·rw [hr] at hv
  cases e2:Fv kvs ks with
  | some w=>rw [e2] at hv;cases hv
  | none=>
   rw [e2] at q
   have hl2:(E3 kvs ks y).length<=sizeLine:=by have:=Dc kvs ks y;omega
   refine⟨y,_,?_,rv,q⟩
   obtain⟨q,es,ep,hq,h2,h3,h4,_,h5⟩:=dd'
   refine Fi I (by rw [e];exact aY) hs ⟨q,hq⟩ ⟨hl2,hd,_,(rel.put ks eb rv).keeps fun c ys ec=>?_,q,es,ep,hq,h2,h3,h4,h5⟩
   rw [Ae (at9 ec e (fun z=>nomatch z))]
   exact ec
noncomputable abbrev RF:=List V->Hp->VK->Prop
noncomputable def K8 (x:V) (T:String):Bool:=match x with
 | .int _=>T == "int"
 | .bl _=>T == "bool" || T == "int"
 | .str _=>T == "str"
 | _=>false
noncomputable def okT (T:String):Bool:=["int", "bool", "str", "list", "tuple", "dict"].contains T
noncomputable def Kj (K:aa):RF:=fun xs H Q=>match xs with
 | [.int i,.ty T]=>okT T=true/\Q (.bl (K8 (.int i) T)) H
 | [.bl i,.ty T]=>okT T=true/\Q (.bl (K8 (.bl i) T)) H
 | [.str i,.ty T]=>okT T=true/\Q (.bl (K8 (.str i) T)) H
 | [.non,.ty T]=>okT T=true/\Q (.bl (K8 .non T)) H
 | [x,.ty T]=>∃ t b,TyX K H x t/\dB K t (.type T)=some b/\Q (.bl b) H
 | [x,.ref C]=>(∃ t b,TyX K H x t/\dB K t (.ref C)=some b/\Q (.bl b) H)\/au9 K x (.ref C) H Q
 | _=>False
noncomputable def D9 (K:aa):RF:=fun xs H Q=>match xs with
 | [.str z]=>z.length<=sizeLine/\Q (.int z.length) H
 | [.ref p]=>(∃ ys,(SqL K H p ys\/SqT K H p ys)/\Q (.int ys.length) H) \/ ∃ kvs,Rd H p (.dK kvs)/\Q (.int kvs.length) H
 | _=>False
noncomputable def Qx (K:aa):RF:=fun xs H Q=>match xs with
 | [.ref p]=>∃ bs:List Bool,SqL K H p (bs.map V.bl)/\Q (.bl (bs.all fun b=>b)) H
 | _=>False
noncomputable def ap3:RF:=fun xs H Q=>match xs with
 | [.int i]=>Q (.int i) H
 | [.bl k]=>Q (.int (if k then 1 else 0)) H
 | _=>False
noncomputable def Wa:RF:=fun xs H Q=>match xs with
 | [.str x]=>x.length=1/\Q (.int (x.cps.getD 0 0:Nat)) H
 | _=>False
noncomputable def Mx (K:aa):RF:=fun xs H Q=>match xs with
 | [.ref p]=>∃ ys,(SqL K H p ys\/SqT K H p ys) /\ ∀ l,H l=none->Q (.ref l) (upd H l (.lst ys))
 | _=>False
noncomputable def C8 (K:aa):RF:=fun xs H Q=>match xs with
 | [.ref p]=>∃ ys,(SqL K H p ys /\ ∀ l,H l=none->Q (.ref l) (upd H l (.tup ys)))\/(SqT K H p ys/\Q (.ref p) H)
 | _=>False
noncomputable def Q4:RF:=fun xs H Q=>match xs with
 | [.int i]=>i.natAbs.log2<1920/\Q (.str (toString i)) H
 | [.str z]=>Q (.str z) H
 | _=>False
noncomputable def ac5:RF:=fun xs H Q=>match xs with
 | [.int i,.int j]=>Q (.int (if j > i then j else i)) H
 | _=>False
noncomputable def ac6:RF:=fun xs H Q=>match xs with
 | [.int i,.int j]=>Q (.int (if j<i then j else i)) H
 | _=>False
inductive BF where
 | bf (id:String)|ty (T:String)
noncomputable def a05 (K:aa) (calm:Bool) (x:Str):Option (BF×RF):=
 if x = "len" then some (.bf "len", D9 K) else
 if x = "isinstance" then some (.bf "isinstance", Kj K) else
 if x = "all" then (if calm=true then some (.bf "all", Qx K) else none) else
 if x = "int" then some (.ty "int", ap3) else
 if x = "ord" then some (.bf "ord", Wa) else
 if x = "list" then some (.ty "list", Mx K) else
 if x = "tuple" then some (.ty "tuple", C8 K) else
 if x = "max" then (if calm=true then some (.bf "max", ac5) else none) else
 if x = "min" then (if calm=true then some (.bf "min", ac6) else none) else
 if x = "sorted" then some (.bf "sorted", M1 K) else
 if x = "str" then some (.ty "str", Q4) else none
noncomputable def BF.val:BF->Value
 | .bf id=>.builtin id
 | .ty T=>.type T
section
variable {X:Cx}
theorem Qd {K:aa} {x:V} {T:String} (hx:A8 x=true) (h:okT T=true):∃ t,(∀ H,TyOf K H x t)/\dB K t (.type T)=some (K8 x T):=by
 have hT:T = "int" \/ T = "bool" \/ T = "str" \/ T = "list" \/ T = "tuple" \/ T = "dict" := by
  unfold okT at h
  simpa using h
 cases x with
 | int i=>refine⟨_,fun H=>TyOf.int i,?_⟩;rcases hT with rfl|rfl|rfl|rfl|rfl|rfl <;> rfl
 | bl i=>refine⟨_,fun H=>TyOf.bl i,?_⟩;rcases hT with rfl|rfl|rfl|rfl|rfl|rfl <;> rfl
 | str i=>refine⟨_,fun H=>TyOf.str i,?_⟩;rcases hT with rfl|rfl|rfl|rfl|rfl|rfl <;> rfl
 | non=>refine⟨_,fun H=>TyOf.non,?_⟩;rcases hT with rfl|rfl|rfl|rfl|rfl|rfl <;> rfl
 | _=>cases hx
theorem X2:Bl X (.builtin "isinstance") (Kj X.K):=by
 intro pins s σ H xs us Q I r h
 have sc:∀ x T,xs=[x,.ty T]->A8 x=true->okT T=true->Q (.bl (K8 x T)) H->ay (model X.prog X.w) X.A (call (.builtin "isinstance") us) (EP X pins σ Q) X.xe s:=fun x T e hx hT q=>by
  subst e
  obtain⟨t,ht,hk⟩:=Qd (K:=X.K) hx hT
  exact X1 pins s σ H _ us Q I r ⟨x,T,t,_,rfl,ht H,hk,q⟩
 unfold Kj at h
 split at h
 ·exact sc _ _ rfl rfl h.1 h.2
 ·exact sc _ _ rfl rfl h.1 h.2
 ·exact sc _ _ rfl rfl h.1 h.2
 ·exact sc _ _ rfl rfl h.1 h.2
 ·obtain⟨t,b,ty,e,q⟩:=h
  obtain⟨u,v,rfl,ru,rv⟩:=r.two
  cases rv
  exact bh (af _) (Ip I ru ty e fun tk htk=>⟨.bl b,H,I.tok tk htk,rfl,q⟩)
 ·obtain⟨u,v,rfl,ru,rv⟩:=r.two
  rcases h with ⟨t,b,ty,e,q⟩|h
  ·cases rv
   exact bh (af _) (Ip I ru ty e fun tk htk=>⟨.bl b,H,I.tok tk htk,rfl,q⟩)
  ·exact Ut I ru rv h
 ·exact h.elim
theorem Uu:Bl X (.builtin "len") (D9 X.K):=by
 intro pins s σ H xs us Q I r h
 unfold D9 at h
 split at h
 ·exact Lw pins s σ H _ us Q I r ⟨_,rfl,h.1,h.2⟩
 ·rcases h with ⟨ys,h1,h2⟩|⟨kvs,h1,h2⟩
  ·exact Lv pins s σ H _ us Q I r ⟨_,ys,rfl,h1,h2⟩
  ·obtain⟨u,rfl,ru⟩:=En r
   cases ru
   exact bg9 I h1 fun t s' I'=>⟨.int _,H,I',⟨t,rfl⟩,h2⟩
 ·exact h.elim
theorem Ur (hc:X.calm=true):Bl X (.builtin "all") (Qx X.K):=by
 intro pins s σ H xs us Q I r h
 unfold Qx at h
 split at h
 ·obtain⟨bs,h1,h2⟩:=h
  exact X0 hc pins s σ H _ us Q I r ⟨_,bs,rfl,h1,h2⟩
 ·exact h.elim
theorem Us:Bl X (.type "int") ap3:=by
 intro pins s σ H xs us Q I r h
 unfold ap3 at h
 split at h
 ·exact Kt pins s σ H _ us Q I r (.inl ⟨_,rfl,h⟩)
 ·exact Kt pins s σ H _ us Q I r (.inr ⟨_,rfl,h⟩)
 ·exact h.elim
theorem Uz:Bl X (.builtin "ord") Wa:=by
 intro pins s σ H xs us Q I r h
 unfold Wa at h
 split at h
 ·exact X3 pins s σ H _ us Q I r ⟨_,rfl,h.1,h.2⟩
 ·exact h.elim
theorem Ps:Bl X (.type "list") (Mx X.K):=by
 intro pins s σ H xs us Q I r h
 unfold Mx at h
 split at h
 ·obtain⟨ys,h1,h2⟩:=h
  exact Lx pins s σ H _ us Q I r ⟨_,ys,rfl,h1,h2⟩
 ·exact h.elim
theorem U1:Bl X (.type "tuple") (C8 X.K):=by
 intro pins s σ H xs us Q I r h
 unfold C8 at h
 split at h
 ·obtain⟨ys,h1⟩:=h
  exact J8 pins s σ H _ us Q I r ⟨_,ys,rfl,h1⟩
 ·exact h.elim
theorem U0:Bl X (.type "str") Q4:=by
 intro pins s σ H xs us Q I r h
 unfold Q4 at h
 split at h
 ·cases r with
  | cons r1 t=>cases t;obtain⟨tk,rfl⟩:=r1;exact PySem.P.str_of_int h.1 ⟨.str _,H,I.tok _,⟨_,rfl⟩,h.2⟩
 ·cases r with
  | cons r1 t=>cases t;obtain⟨tk,rfl⟩:=r1;exact PySem.P.str_of_str ⟨.str _,H,I,⟨_,rfl⟩,h⟩
 ·exact h.elim
theorem Uw (hc:X.calm=true):Bl X (.builtin "max") ac5:=by
 intro pins s σ H xs us Q I r h
 unfold ac5 at h
 split at h
 ·exact Uv hc pins s σ H _ us Q I r ⟨_,_,rfl,h⟩
 ·exact h.elim
theorem Uy (hc:X.calm=true):Bl X (.builtin "min") ac6:=by
 intro pins s σ H xs us Q I r h
 unfold ac6 at h
 split at h
 ·exact Ux hc pins s σ H _ us Q I r ⟨_,_,rfl,h⟩
 ·exact h.elim
theorem ah7 (hu:X.A.units+64<cLine) {x:Str} {f:BF} {r:RF} {c:Bool} (h:a05 X.K c x=some (f,r)) (hc:c=X.calm):dm x=some f.val/\Bl X f.val r:=by
 unfold a05 at h
 by_cases e:x = "len"
 ·rw [if_pos e] at h;cases h;rw [e];exact⟨PySem.boot_len,Uu⟩
 rw [if_neg e] at h
 by_cases e:x = "isinstance"
 ·rw [if_pos e] at h;cases h;rw [e];exact⟨PyProof.Rows.boot_isinstance,X2⟩
 rw [if_neg e] at h
 by_cases e:x = "all"
 ·rw [if_pos e] at h
  by_cases ec:c=true
  ·rw [if_pos ec] at h;cases h;rw [e];exact⟨PyProof.Rows.boot_all,Ur (hc▸ec)⟩
  ·rw [if_neg ec] at h;cases h
 rw [if_neg e] at h
 by_cases e:x = "int"
 ·rw [if_pos e] at h;cases h;rw [e];exact⟨jJ,Us⟩
 rw [if_neg e] at h
 by_cases e:x = "ord"
 ·rw [if_pos e] at h;cases h;rw [e];exact⟨PyProof.Rows.boot_ord,Uz⟩
 rw [if_neg e] at h
 by_cases e:x = "list"
 ·rw [if_pos e] at h;cases h;rw [e];exact⟨cW,Ps⟩
 rw [if_neg e] at h
 by_cases e:x = "tuple"
 ·rw [if_pos e] at h;cases h;rw [e];exact⟨iS,U1⟩
 rw [if_neg e] at h
 by_cases e:x = "max"
 ·rw [if_pos e] at h
  by_cases ec:c=true
  ·rw [if_pos ec] at h;cases h;rw [e];exact⟨PyProof.Rows.boot_max,Uw (hc▸ec)⟩
  ·rw [if_neg ec] at h;cases h
 rw [if_neg e] at h
 by_cases e:x = "min"
 ·rw [if_pos e] at h
  by_cases ec:c=true
  ·rw [if_pos ec] at h;cases h;rw [e];exact⟨PyProof.Rows.boot_min,Uy (hc▸ec)⟩
  ·rw [if_neg ec] at h;cases h
 rw [if_neg e] at h
 by_cases e:x = "sorted"
 ·rw [if_pos e] at h;cases h;rw [e];exact⟨N1,Ly hu⟩
 rw [if_neg e] at h
 by_cases e:x = "str"
 ·rw [if_pos e] at h;cases h;rw [e];exact⟨jK,U0⟩
 rw [if_neg e] at h
 cases h
noncomputable abbrev RM:=V->List V->Hp->VK->Prop
structure BM where
 T:String
 id:String
 r:RM
noncomputable def rMt (K:aa) (bs:List BM):V->Hp->(Hp->(List V->Hp->Prop)->Prop)->VK->Prop:=fun x H1 ta Q=>
 match bs with
 | []=>False
 | [b]=>tyV K b.T x H1/\ta H1 fun xs H2=>b.r x xs H2 Q
 | b::rest=>(tyV K b.T x H1/\ta H1 fun xs H2=>b.r x xs H2 Q)\/rMt K rest x H1 ta Q
structure ax1 (X:Cx) (m:Str) (b:BM):Prop where
 pa:PlainAttrs b.T
 slot:Slot b.T m b.id
 ty:typeOf (.builtin b.id)=pure (.type "method_descriptor")
 mt:MtR X b.id b.r
noncomputable def Jd (K:aa):RM:=fun x xs H Q=>∃ z p ys,x=.str z/\xs=[.ref p]/\SqL K H p (ys.map V.str)/\(ys.map (·.length)).sum+ys.length * z.length<=16777216/\Q (.str (me z ys)) H
noncomputable def au6:RM:=fun x xs H Q=>∃ i,x=.int i/\xs=[]/\Q (.int (kg i:Nat)) H
noncomputable def Tu:RM:=fun x xs H Q=>match x,xs with
 | .ref a,[y]=>∃ o,F0 H a y o/\Q (o.getD .non) H
 | .ref a,[y,z]=>∃ o,F0 H a y o/\Q (o.getD z) H
 | _,_=>False
theorem ak7 (hu:X.A.units+64<cLine):MtR X "dict.get" Tu:=by
 intro pins s σ H x xs v us Q I rx rs h
 unfold Tu at h
 split at h
 ·obtain⟨o,g,q⟩:=h
  obtain⟨u,rfl,ru⟩:=rs.one
  cases rx
  exact a07 (by omega) I g ru fun w' s' I' r'=>⟨_,H,I',r',q⟩
 ·obtain⟨o,g,q⟩:=h
  obtain⟨u,w,rfl,ru,rw'⟩:=rs.two
  cases rx
  exact a08 (by omega) I g ru rw' fun w' s' I' r'=>⟨_,H,I',r',q⟩
 ·exact h.elim
noncomputable def Mt:RM:=fun x xs H Q=>∃ p kvs,x=.ref p/\xs=[]/\H p=some (.dK kvs)/\Q .non (upd H p (.dK []))
theorem Vu:MtR X "dict.clear" Mt:=by
 intro pins s σ H x xs v us Q I rx rs h
 obtain⟨p,kvs,rfl,rfl,e,q⟩:=h
 cases rx
 cases rs
 exact ai1 I e fun s' I'=>⟨.non,_,I',rfl,q⟩
theorem P3 {i:Nat} (h:i<sizeLine):cT (i:Int)=true:=by
 have hs:sizeLine<=9223372036854775807:=eV rfl
 have e:(2:Int) ^ 63=9223372036854775808:=rfl
 unfold cT
 rw [e,ak]
 exact⟨decide_eq_true (by omega),decide_eq_true (by omega)⟩
noncomputable def Mv:RM:=fun x vs H Q=>∃ l xs y,∃ i:Nat,x=.ref l/\vs=[.int (i:Int),y]/\H l=some (.lst xs)/\i<=xs.length/\xs.length<sizeLine/\Q .non (upd H l (.lst (xs.take i++y::xs.drop i)))
theorem Vw:MtR X "list.insert" Mv:=by
 intro pins s σ H x vs v us Q I rx rv h
 obtain⟨l,xs,y,i,rfl,rfl,hH,hi,hz,q⟩:=h
 cases rx
 obtain⟨u1,u2,rfl,⟨t,rfl⟩,r2⟩:=rv.two
 obtain⟨z,its,n,r,hl,e⟩:=I.lstM hH
 have hf:cT (i:Int)=true:=P3 (bI hi hz)
 have hz':its.toArray.size<=sizeLine:=by rw [am,<- hl];exact z
 obtain⟨j,hj⟩:∃ j:Int,j=(i:Int):=⟨_,rfl⟩
 rw [<- hj] at hf ⊢
 have hf':¬ (!cT j)=true:=by rw [hf];decide
 have M:=AutoSeq1.list_insert_list_int_val_1 l its.toArray n j t u2 hf' hz'
 refine dE iH ⟨_,e,rfl⟩ PySem.F.entry_list_insert (PySem.F.args_list_insert_3 _ _ _) M ⟨e,?_⟩
 refine⟨.non,_,I.lset (its':=its.take i++u2::its.drop i) hH e ?_ ((r.take i).append (.cons r2 (r.drop i))) ?_,rfl,q⟩
 ·have hk:(if j<0 then (j+(its.toArray.size:Int)).toNat else min j.toNat its.toArray.size)=i:=by
   rw [if_neg (by omega),am,hj,bt]
   omega
  show (its.toArray.extract 0 (if j<0 then (j+(its.toArray.size:Int)).toNat else min j.toNat its.toArray.size)).push u2++its.toArray.extract (if j<0 then (j+(its.toArray.size:Int)).toNat else min j.toNat its.toArray.size)=_
  rw [hk]
  apply Array.toList_inj.mp
  simp
  exact List.take_of_length_le (by simp)
 ·rw [ax,aQ,dN,gu]
  omega
noncomputable def mtR (K:aa) (m:Str):List BM:=
 if m = "append" then [⟨"list", "list.append", Bv⟩] else
 if m = "get" then [⟨"dict", "dict.get", Tu⟩] else
 if m = "extend" then [⟨"list", "list.extend", Mu⟩] else
 if m = "clear" then [⟨"list", "list.clear", ac0⟩,⟨"dict", "dict.clear", Mt⟩] else
 if m = "reverse" then [⟨"list", "list.reverse", Jh⟩] else
 if m = "join" then [⟨"str", "str.join", Jd K⟩] else
 if m = "bit_length" then [⟨"int", "int.bit_length", au6⟩] else
 if m = "count" then [⟨"list", "list.count", Qy K⟩] else
 if m = "split" then [⟨"str", "str.split", Q0⟩] else
 if m = "index" then [⟨"list", "list.index", Qz⟩] else
 if m = "setdefault" then [⟨"dict", "dict.setdefault", M0⟩] else
 if m = "insert" then [⟨"list", "list.insert", Mv⟩] else
 if m = "replace" then [⟨"str", "str.replace", Jg⟩] else []
theorem Zn {m:Str} {b:BM} (hu:X.A.units+64<cLine) (h:b∈mtR X.K m):ax1 X m b:=by
 unfold mtR at h
 by_cases e:m = "append"
 ·rw [if_pos e] at h
  have:b=⟨"list", "list.append", Bv⟩:=by simpa using h
  subst this;subst e
  exact⟨cr,PySem.F.slot_list_append,PySem.F.type_list_append,Lg⟩
 rw [if_neg e] at h
 by_cases e:m = "get"
 ·rw [if_pos e] at h
  have:b=⟨"dict", "dict.get", Tu⟩:=by simpa using h
  subst this;subst e
  exact⟨eB,dS,PySem.F.type_dict_get,ak7 hu⟩
 rw [if_neg e] at h
 by_cases e:m = "extend"
 ·rw [if_pos e] at h
  have:b=⟨"list", "list.extend", Mu⟩:=by simpa using h
  subst this;subst e
  exact⟨cr,PySem.F.slot_list_extend,PySem.F.type_list_extend,Vv⟩
 rw [if_neg e] at h
 by_cases e:m = "clear"
 ·rw [if_pos e] at h
  rcases List.mem_cons.mp h with this|h
  ·subst this;subst e
   exact⟨cr,PySem.F.slot_list_clear,PySem.F.type_list_clear,Zo⟩
  ·have:b=⟨"dict", "dict.clear", Mt⟩:=by simpa using h
   subst this;subst e
   exact⟨eB,iV,PySem.F.type_dict_clear,Vu⟩
 rw [if_neg e] at h
 by_cases e:m = "reverse"
 ·rw [if_pos e] at h
  have:b=⟨"list", "list.reverse", Jh⟩:=by simpa using h
  subst this;subst e
  exact⟨cr,PySem.F.slot_list_reverse,PySem.F.type_list_reverse,Qk⟩
 rw [if_neg e] at h
 by_cases e:m = "join"
 ·rw [if_pos e] at h
  have:b=⟨"str", "str.join", Jd X.K⟩:=by simpa using h
  subst this;subst e
  exact⟨fX,PySem.F.slot_str_join,PySem.F.type_str_join,ak8⟩
 rw [if_neg e] at h
 by_cases e:m = "bit_length"
 ·rw [if_pos e] at h
  have:b=⟨"int", "int.bit_length", au6⟩:=by simpa using h
  subst this;subst e
  exact⟨PySem.F.plainAttrs_int,PySem.F.slot_int_bit_length,PySem.F.type_int_bit_length,ak6⟩
 rw [if_neg e] at h
 by_cases e:m = "count"
 ·rw [if_pos e] at h
  have:b=⟨"list", "list.count", Qy X.K⟩:=by simpa using h
  subst this;subst e
  exact⟨cr,iX,PySem.F.type_list_count,Zp hu⟩
 rw [if_neg e] at h
 by_cases e:m = "split"
 ·rw [if_pos e] at h
  have:b=⟨"str", "str.split", Q0⟩:=by simpa using h
  subst this;subst e
  exact⟨fX,PySem.F.slot_str_split,PySem.F.type_str_split,Zs⟩
 rw [if_neg e] at h
 by_cases e:m = "index"
 ·rw [if_pos e] at h
  have:b=⟨"list", "list.index", Qz⟩:=by simpa using h
  subst this;subst e
  exact⟨cr,iY,PySem.F.type_list_index,Zq⟩
 rw [if_neg e] at h
 by_cases e:m = "setdefault"
 ·rw [if_pos e] at h
  have:b=⟨"dict", "dict.setdefault", M0⟩:=by simpa using h
  subst this;subst e
  exact⟨eB,gF,PySem.F.type_dict_setdefault,Vx hu⟩
 rw [if_neg e] at h
 by_cases e:m = "insert"
 ·rw [if_pos e] at h
  have:b=⟨"list", "list.insert", Mv⟩:=by simpa using h
  subst this;subst e
  exact⟨cr,iH,PySem.F.type_list_insert,Vw⟩
 rw [if_neg e] at h
 by_cases e:m = "replace"
 ·rw [if_pos e] at h
  have:b=⟨"str", "str.replace", Jg⟩:=by simpa using h
  subst this;subst e
  exact⟨fX,PySem.F.slot_str_replace,PySem.F.type_str_replace,Zr⟩
 rw [if_neg e] at h
 cases h
theorem Mz {K:aa}:∀ {bs:List BM} {x:V} {H1:Hp} {ta:Hp->(List V->Hp->Prop)->Prop} {Q:VK},rMt K bs x H1 ta Q -> ∃ b∈bs,tyV K b.T x H1/\ta H1 fun xs H2=>b.r x xs H2 Q
 | [],_,_,_,_,h=>h.elim
 | [b],_,_,_,_,h=>⟨b,by simp,h⟩
 | b::c::rest,x,H1,ta,Q,h=>by
  rcases h with h|h
  ·exact⟨b,by simp,h⟩
  ·obtain⟨d,hd,q⟩:=Mz h
   exact⟨d,aJ _ hd,q⟩
noncomputable def Cn:Expr->Bool
 | .Call (.Name x _) [] [] _=>!(x==("super" : Str))
 | _=>true
theorem C7 {e:Expr} (h:Cn e=true) (f:Str) (env:Env) (whole:Sem Value):i4 e f env whole=whole:=by
 unfold i4
 split
 ·rename_i id p pos
  have:(id==("super" : Str))=false:=by
   have h':(!(id==("super" : Str)))=true:=h
   simpa using h'
  have e2:(id != "super")=true:=by
   show (!(id == "super"))=true
   rw [this]
   rfl
  rw [e2]
  simp
 ·rfl
variable {o:Expr} {do':DE} {es:List Expr} {r:DA} {m:Str} {apos cpos:Pos}
theorem a80 {bs:List BM} (hb:∀ b∈bs,ax1 X m b) (ho:QE X o do') (h1:Cn o=true) (h4:(apos.endLine==cpos.line)=true) :
  QE X (.Call (.Attribute o m apos) [] [] cpos) (dMt (rMt X.K bs) do' Ag):=by
 intro Ex mt pins s σ H Q I h
 refine ja (C7 h1 m X.env _) h4 (thn (ho Ex mt pins s σ H _ I h) fun v s1 ⟨x,H1,I1,r1,q1⟩=>?_)
 obtain⟨b,hbm,ty,q⟩:=Mz q1
 obtain⟨k1,k2⟩:=af5 I1 r1 ty
 have B:=hb b hbm
 exact⟨b.T,b.id,B.pa,B.slot,B.ty,k1,k2,fV rfl (ku (B.mt pins s1 σ H1 x [] v [] Q I1 r1 .nil q))⟩
theorem bn1 {bs:List BM} {e:Expr} (hb:∀ b∈bs,ax1 X m b) (ho:QE X o do') (ha:QA X (e::es) r) (h1:Cn o=true) (h2:(e::es).all noStar=true) (h3:(e::es).length<30) (h4:(apos.endLine==cpos.line)=true) :
  QE X (.Call (.Attribute o m apos) (e::es) [] cpos) (dMt (rMt X.K bs) do' r):=by
 intro Ex mt pins s σ H Q I h
 have hs:=bw▸h2
 rw [ak] at hs
 have hfew:((ib cpos (cU (e::es) X.env)).all (fun x=>!x.1)&&(mf cpos (kC [] X.env)).all (fun x=>x.1.isSome)
   && decide ((e::es).length+([]:List lP).length+(if ([]:List lP).isEmpty then 0 else 1)<30))=true:=by
  rw [G4 h2]
  have:decide ((e::es).length+([]:List lP).length+(if ([]:List lP).isEmpty then 0 else 1)<30)=true:=by
   rw [decide_eq_true_iff]
   simpa using h3
  rw [this]
  rfl
 refine wpAny_Call_method_late (C7 h1 m X.env _) hfew h4 rfl (thn (ho Ex mt pins s σ H _ I h) fun v s1 ⟨x,H1,I1,r1,q1⟩=>?_)
 obtain⟨b,hbm,ty,q⟩:=Mz q1
 obtain⟨k1,k2⟩:=af5 I1 r1 ty
 have B:=hb b hbm
 refine⟨b.T,b.id,B.pa,B.slot,B.ty,k1,k2,?_⟩
 have hA:=ha Ex mt cpos pins s1 σ H1 _ I1 q
 rw [Ap hs.1] at hA ⊢
 refine fV (by show (false||(ib cpos (cU es X.env)).any (·.1))=false;rw [A1 hs.2] <;> rfl) (Calls.evalArgs_plain ?_)
 exact thn hA fun us s2 ⟨vs,H2,I2,r2,q2⟩=>B.mt pins s2 σ H2 x vs v us Q I2 r1 r2 q2
variable {x:Str} {p pos:Pos} {G:Sg}
theorem a74 {f:BF} {rf:RF} {e:Expr} (hc:Bl X f.val rf) (hg:Gl X x) (hm:X.mg x=none) (hv:dm x=some f.val) (ha:QA X (e::es) r) (hs:(e::es).all noStar=true) (hn:x ≠ "__name__") (hdb:(x==("__debug__" : Str))=false) :
  QE X (.Call (.Name x p) (e::es) [] pos) (dFn (fun vs H Q _=>rf vs H Q) r):=by
 intro Ex mt
 have h:=bw▸hs
 rw [ak] at h
 cases f with
 | bf id=>exact Z2 hc hg hm hv (ha Ex mt) hn hdb (Ap h.1 es X.env) (A1 h.2 X.env pos)
 | ty T=>exact V6 hc hg hm hv (ha Ex mt) hn hdb (Ap h.1 es X.env) (A1 h.2 X.env pos)
noncomputable def spE (sp:Sp) (dvs:List V):List V->Hp->VK->EK->Prop:=fun vs H Q E=>sp (vs++dvs) H Q (fun v _ H'=>∃ a,v=.ref a/\E a H')
theorem Hj {i:FI} (F:Hl X i) {j:Nat} (hj:j<=i.dfs.length) {Ex:St->EK} (mt:Meets X Ex) {pins:List (Addr×Obj)} {σ:St} {H:Hp} {s:ag} {Q:VK} {us:List Value} {vs:List V}
  (I:Inv X pins σ H s) (r:Vals vs us) (h:spE i.sp (i.dfs.drop j) vs H Q (Ex σ)):ay (model X.prog X.w) X.A (call (.ref i.f) us) (EP X pins σ Q) X.xe s:=by
 obtain⟨CX,hx,FO⟩:=F.ok
 have r2:Vals (vs++i.dfs.drop j) (us++i.ds.drop j):=r.append (F.vals.drop j)
 have hl:(us++i.ds.drop j).length=i.ps.length:=by rw [<- r2.length];exact FO.len _ _ _ _ h
 refine eF (eY (FO.run X.A X.stack s H ⟨us,[]⟩ (us++i.ds.drop j) (vs++i.dfs.drop j) Q _ F.room I.env0 (F.binds j hj s us I.kIn hl) r2 h) fun r s' hq=>?_)
 cases r with
 | error e=>exact hx X rfl rfl Ex mt pins σ H s e s' I hq
 | ok fl=>
  cases fl with
  | ret u=>exact I.after hq
  | next=>exact cZ hq
  | brk=>exact cZ hq
  | cont=>exact cZ hq
theorem aa7 {i:FI} (F:Hl X i) {j:Nat} (hj:j<=i.dfs.length) (hg:Gl X x) (hm:X.mg x=some (.ref i.f)) (hdb:(x==("__debug__" : Str))=false) :
  QE X (.Call (.Name x p) [] [] pos) (dFn (spE i.sp (i.dfs.drop j)) Ag):=by
 intro Ex mt pins s σ H Q I h
 refine bj (Cw I hg hm ?_ hdb)
 exact fA I.kIn F.kp (Hj (us:=[]) F hj mt I .nil h)
theorem an7 {i:FI} {e:Expr} (F:Hl X i) {j:Nat} (hj:j<=i.dfs.length) (hg:Gl X x) (hm:X.mg x=some (.ref i.f)) (ha:QA X (e::es) r) (hs:(e::es).all noStar=true) (hdb:(x==("__debug__" : Str))=false) :
  QE X (.Call (.Name x p) (e::es) [] pos) (dFn (spE i.sp (i.dfs.drop j)) r):=by
 intro Ex mt pins s σ H Q I h
 have h2:=bw▸hs
 rw [ak] at h2
 refine bj (Cw I hg hm ?_ hdb)
 refine fO (h₀:=X.base) I.ok.mod.kin F.kp (thn (ha Ex mt pos pins s σ H _ I h) fun us s1 ⟨vs,H1,I1,r,q⟩=>⟨I1.kIn,?_⟩) (Ap h2.1 es X.env) (A1 h2.2 X.env pos)
 exact Hj F hj mt I1 r q
noncomputable def mkX (C:Addr):Option FI->Nat->List V->Hp->VK->EK->Prop
 | none,_=>fun _ H Q _=>∀ a,H a=none->Q (.ref a) (upd H a (E1 a C none))
 | some i,j=>fun vs H Q E=>∀ a,H a=none->i.sp (.ref a::(vs++i.dfs.drop j)) (upd H a (E1 a C none)) (fun v H2=>v=.non/\Q (.ref a) H2) (fun v _ H'=>∃ b,v=.ref b/\E b H')
theorem Ty {C:Addr} {oi:Option FI} {j:Nat} (c:ECls X.K C) (hi:F7 X C oi) (hj:∀ i,oi=some i->j<=i.dfs.length) {Ex:St->EK} (mt:Meets X Ex) {pins:List (Addr×Obj)} {σ:St} {H:Hp} {s:ag} {Q:VK} {us:List Value} {vs:List V}
  (I:Inv X pins σ H s) (rv:Vals vs us) (hl:vs.length<=1000) (h:mkX C oi j vs H Q (Ex σ)):ay (model X.prog X.w) X.A (call (.ref C) us) (EP X pins σ Q) X.xe s:=by
 cases oi with
 | none=>exact Rb c hi I rv hl h
 | some i=>
  obtain⟨h1,h2,F,hr⟩:=hi
  obtain⟨CX,hx,FO⟩:=F.ok
  exact Wf c h1 h2 FO hr (F.binds j (hj i rfl)) (F.vals.drop j) I rv hl (fun e s1 s' H1 I1 q=>hx X rfl rfl Ex mt pins σ H1 s1 e s' I1 q) h
theorem Tq {C:Addr} {oi:Option FI} {j:Nat} (c:ECls X.K C) (hi:F7 X C oi) (hj:∀ i,oi=some i->j<=i.dfs.length) (kp:aU X.K (.ref C)=true) (hg:Gl X x) (hm:X.mg x=some (.ref C)) (hdb:(x==("__debug__" : Str))=false) :
  QE X (.Call (.Name x p) [] [] pos) (dFn (mkX C oi j) Ag):=by
 intro Ex mt pins s σ H Q I h
 refine bj (Cw I hg hm ?_ hdb)
 exact fA I.kIn kp (Ty (us:=[]) c hi hj mt I .nil (by simp) h)
theorem Qs {C:Addr} {oi:Option FI} {j:Nat} {e:Expr} (c:ECls X.K C) (hi:F7 X C oi) (hj:∀ i,oi=some i->j<=i.dfs.length) (kp:aU X.K (.ref C)=true) (hg:Gl X x) (hm:X.mg x=some (.ref C)) (ha:QA X (e::es) r) (hs:(e::es).all noStar=true) (hdb:(x==("__debug__" : Str))=false) :
  QE X (.Call (.Name x p) (e::es) [] pos) (dFn (fun vs H Q E=>vs.length<=1000/\mkX C oi j vs H Q E) r):=by
 intro Ex mt pins s σ H Q I h
 have h2:=bw▸hs
 rw [ak] at h2
 refine bj (Cw I hg hm ?_ hdb)
 refine fO (h₀:=X.base) I.ok.mod.kin kp (thn (ha Ex mt pos pins s σ H _ I h) fun us s1 ⟨vs,H1,I1,r,q⟩=>⟨I1.kIn,?_⟩) (Ap h2.1 es X.env) (A1 h2.2 X.env pos)
 exact Ty c hi hj mt I1 r q.1 q.2
noncomputable def mkC (C:Addr):Option FI->Nat->List V->Hp->VK->EK->Prop
 | none,_=>fun vs H Q _=>vs=[] /\ ∀ a dx,H a=none->H dx=none->dx≠a->Q (.ref a) (upd (upd H dx (.own a)) a (.ins C dx []))
 | some i,j=>fun vs H Q E=>∀ a dx,H a=none->H dx=none->dx≠a ->
   i.sp (.ref a::(vs++i.dfs.drop j)) (upd (upd H dx (.own a)) a (.ins C dx [])) (fun v H2=>v=.non/\Q (.ref a) H2) (fun v _ H'=>∃ b,v=.ref b/\E b H')
theorem We {C:Addr} (h1:bX X.K C=true) (h2:aw X.K (.ref C) "__init__" = some (some (.builtin "object.__init__"))) {pins:List (Addr×Obj)} {σ:St} {H:Hp} {s:ag} {Q:VK}
  (I:Inv X pins σ H s) (h:∀ a dx,H a=none->H dx=none->dx≠a->Q (.ref a) (upd (upd H dx (.own a)) a (.ins C dx []))):ay (model X.prog X.w) X.A (call (.ref C) []) (EP X pins σ Q) X.xe s:=by
 have hq:=h (s.heap.objs.size+1) s.heap.objs.size (I.hok.fresh (cG _)) (I.hok.fresh (af _)) (aA (cm _))
 have I2:=Inv.made (C:=C) I
 have e2:((s.heap.push bD).push (bQ C s.heap.objs.size)).get? (s.heap.objs.size+1)=some (bQ C s.heap.objs.size):=by
  have z:=aq (s.heap.push bD) (o:=bQ C s.heap.objs.size) rfl
  rwa [bE] at z
 refine eF (Vt I.kIn h1 h2 (fun self=>.of_pure (PySem.W.oi_bind self)) ?_)
 have ty:gG (model X.prog X.w) ((s.heap.push bD).push (bQ C s.heap.objs.size)) (typeOf (.ref (s.heap.objs.size+1))) (.ref C):=(PySem.W.Looks.ld e2).andThen .now
 have io:gG (model X.prog X.w) ((s.heap.push bD).push (bQ C s.heap.objs.size)) (iK (.ref (s.heap.objs.size+1)) (.type "object")) true:=
  ty.andThen ((ji (M:=model X.prog X.w) I.kIn h1).top.keeps fun b o e=>ae _ (ae _ e))
 refine dz PySem.W.oi_plain PySem.W.entry_oi (PySem.W.check_slot (s:={ s with heap:=(s.heap.push bD).push (bQ C s.heap.objs.size) }) (i := "object.__init__") (owner := "object") (self:=.ref (s.heap.objs.size+1)) PySem.W.oi_kind PySem.W.oi_split io (PySem.W.oi_args _) ?_)
 rw [PySem.W.oi_run]
 exact ai ⟨rfl,⟨.ref _,_,I2,rfl,hq⟩⟩
theorem ap9 {C f:Addr} {CX:CXT} {k:Nat} {fd:aE} {ps:List Str} {sp:Sp} {ds:List Value} {dvs:List V} {E:XK} {pins:List (Addr×Obj)} {σ:St} {H:Hp} {s:ag} {Q:VK} {us:List Value} {vs:List V}
  (M:Mk X.K C f) (F:FnOk X.prog X.w X.K X.mg X.base CX k f fd ps sp) (hr:Room (k+1) X.A) (hb:Binds X.K fd ps ds) (hd:Vals dvs ds) (hx:∀ H1 s1 e s',Inv X pins σ H1 s1->CX X.stack H1 s1 E e s'->X.xe e s') (I:Inv X pins σ H s) (r:Vals vs us)
  (h:∀ x dx,H x=none->H dx=none->dx≠x->sp (.ref x::(vs++dvs)) (upd (upd H dx (.own x)) x (.ins C dx [])) (fun v H2=>v=.non/\Q (.ref x) H2) E) :
  ay (model X.prog X.w) X.A (call (.ref C) us) (EP X pins σ Q) X.xe s:=by
 have hq:=h (s.heap.objs.size+1) s.heap.objs.size (I.hok.fresh (cG _)) (I.hok.fresh (af _)) (aA (cm _))
 have I2:=Inv.made (C:=C) I
 have r2:Vals (V.ref (s.heap.objs.size+1)::(vs++dvs)) (aH (s.heap.objs.size+1)::(us++ds)):=.cons rfl (r.append hd)
 have hl:(aH (s.heap.objs.size+1)::us++ds).length=ps.length:=by
  have e:=r2.length
  rw [F.len _ _ _ _ hq] at e
  exact e.symm
 refine eF (Zk (f:=f) I.kIn M.makes M.init (beq_iff_eq.mp M.fn) (eY (F.run _ X.stack _ _ ⟨aH (s.heap.objs.size+1)::us,[]⟩ (aH (s.heap.objs.size+1)::(us++ds)) _ _ E (hr.make C us [])
  (I2.env0.make C us []) (hb _ (aH (s.heap.objs.size+1)::us) I2.kIn hl) r2 hq) fun r s' hq'=>?_))
 cases r with
 | error e=>exact hx _ _ e s' I2 hq'
 | ok fl=>
  cases fl with
  | ret u=>
   obtain⟨v,H',I3,rv,ev,q3⟩:=I2.after hq'
   subst ev
   exact⟨rv,⟨V.ref (s.heap.objs.size+1),H',I3,rfl,q3⟩⟩
  | next=>exact cZ hq'
  | brk=>exact cZ hq'
  | cont=>exact cZ hq'
theorem Tx {C:Addr} {oi:Option FI} {j:Nat} (hi:ah1 X C oi) (hj:∀ i,oi=some i->j<=i.dfs.length) {Ex:St->EK} (mt:Meets X Ex) {pins:List (Addr×Obj)} {σ:St} {H:Hp} {s:ag} {Q:VK} {us:List Value} {vs:List V}
  (I:Inv X pins σ H s) (rv:Vals vs us) (kp:aU X.K (.ref C)=true) (h:mkC C oi j vs H Q (Ex σ)):ay (model X.prog X.w) X.A (call (.ref C) us) (EP X pins σ Q) X.xe s:=by
 cases oi with
 | none=>
  obtain⟨rfl,h⟩:=h
  cases rv
  exact We hi.1 hi.2 I h
 | some i=>
  obtain⟨h0,h1,h2,F,hr⟩:=hi
  obtain⟨CX,hx,FO⟩:=F.ok
  exact ap9 ⟨h0,h1,h2,kp⟩ FO hr (F.binds j (hj i rfl)) (F.vals.drop j) (fun H1 s1 e s' I1 q=>hx X rfl rfl Ex mt pins σ H1 s1 e s' I1 q) I rv h
theorem Tp {C:Addr} {oi:Option FI} {j:Nat} (hi:ah1 X C oi) (hj:∀ i,oi=some i->j<=i.dfs.length) (kp:aU X.K (.ref C)=true) (hg:Gl X x) (hm:X.mg x=some (.ref C)) (hdb:(x==("__debug__" : Str))=false) :
  QE X (.Call (.Name x p) [] [] pos) (dFn (mkC C oi j) Ag):=by
 intro Ex mt pins s σ H Q I h
 refine bj (Cw I hg hm ?_ hdb)
 exact fA I.kIn kp (Tx (us:=[]) hi hj mt I .nil kp h)
theorem a79 {C:Addr} {oi:Option FI} {j:Nat} {e:Expr} (hi:ah1 X C oi) (hj:∀ i,oi=some i->j<=i.dfs.length) (kp:aU X.K (.ref C)=true) (hg:Gl X x) (hm:X.mg x=some (.ref C)) (ha:QA X (e::es) r) (hs:(e::es).all noStar=true) (hdb:(x==("__debug__" : Str))=false) :
  QE X (.Call (.Name x p) (e::es) [] pos) (dFn (mkC C oi j) r):=by
 intro Ex mt pins s σ H Q I h
 have h2:=bw▸hs
 rw [ak] at h2
 refine bj (Cw I hg hm ?_ hdb)
 refine fO (h₀:=X.base) I.ok.mod.kin kp (thn (ha Ex mt pos pins s σ H _ I h) fun us s1 ⟨vs,H1,I1,r,q⟩=>⟨I1.kIn,?_⟩) (Ap h2.1 es X.env) (A1 h2.2 X.env pos)
 exact Tx hi hj mt I1 r kp q
noncomputable def De (m:Str) (n:Nat) (l:List MI) (o:DE) (t:DA):DE:=fun σ H Q E=>o σ H (fun x H1=>∃ a dx fs mi,x=.ref a/\mi∈l/\H1 a=some (.ins mi.C dx fs)/\fs.lookup m=none/\(n+1<=mi.i.ps.length/\mi.i.ps.length<=n+1+mi.i.dfs.length) /\
 t σ H1 (fun vs H2=>spE mi.i.sp (mi.i.dfs.drop (n+1+mi.i.dfs.length - mi.i.ps.length)) (.ref a::vs) H2 Q E) E) E
theorem Ou {es:List Expr} {P:Value->ag->Prop} {s:ag} (h1:Cn o=true) (h2:es.all noStar=true) (h3:es.length<30) (h4:(apos.endLine==cpos.line)=true)
  (h:ay (model X.prog X.w) X.A (eval o X.env) (fun ov s1=>∀ pl,ay (model X.prog X.w) X.A (getMethod ov m pl) (fun fx s2=>ay (model X.prog X.w) X.A (callWith cpos fx.1 fx.2 (ib cpos (cU es X.env)) (mf cpos (kC [] X.env))) P X.xe s2) X.xe s1) X.xe s) :
  ay (model X.prog X.w) X.A (eval (.Call (.Attribute o m apos) es [] cpos) X.env) P X.xe s:=by
 have few:methodCallForm (es.length+([]:List lP).length) (ib cpos (cU es X.env)) (mf cpos (kC [] X.env))=true:=by
  unfold methodCallForm
  rw [G4 h2]
  simpa [mf,kC] using h3
 rw [arm_eval_Call,C7 h1]
 refine ac (thn h fun ov s1 h1=>ac (eC ?_))
 unfold methodCall calleeOf
 rw [few,if_pos rfl]
 refine ac (bb (thn (h1 _) fun fx s2 h2=>?_))
 have hp:methodCallPos true o X.env apos cpos=pure cpos:=by unfold methodCallPos;rw [h4];rfl
 rw [hp]
 exact ac (ai h2)
theorem ao4 {l:List MI} (hl:∀ mi∈l,Cls X.K mi.C/\Dh X.K mi.C m mi.i.f/\Hl X mi.i) (ho:QE X o do') (h1:Cn o=true) (h4:(apos.endLine==cpos.line)=true) :
  QE X (.Call (.Attribute o m apos) [] [] cpos) (De m 0 l do' Ag):=by
 intro Ex mt pins s σ H Q I h
 refine Ou (es:=[]) h1 rfl (by decide) h4 (thn (ho Ex mt pins s σ H _ I h) fun u s1 ⟨x,H1,I1,rx,a,dx,fs,mi,ex,hm,ea,hf,hn,q⟩ pl=>?_)
 subst ex
 obtain rfl:u=aH a:=rx
 obtain⟨c,k,F⟩:=hl mi hm
 refine Ik I1 ea c k hf ?_
 exact fA (first:=[.ref a]) I1.kIn k.kp (Hj (us:=[.ref a]) (vs:=[.ref a]) F (by omega) mt I1 (.cons rfl .nil) q)
theorem a84 {l:List MI} {e:Expr} (hl:∀ mi∈l,Cls X.K mi.C/\Dh X.K mi.C m mi.i.f/\Hl X mi.i) (ho:QE X o do') (ha:QA X (e::es) r) (h1:Cn o=true) (h2:(e::es).all noStar=true) (h3:(e::es).length<30) (h4:(apos.endLine==cpos.line)=true) :
  QE X (.Call (.Attribute o m apos) (e::es) [] cpos) (De m (es.length+1) l do' r):=by
 intro Ex mt pins s σ H Q I h
 refine Ou h1 h2 h3 h4 (thn (ho Ex mt pins s σ H _ I h) fun u s1 ⟨x,H1,I1,rx,a,dx,fs,mi,ex,hm,ea,hf,hn,q⟩ pl=>?_)
 subst ex
 obtain rfl:u=aH a:=rx
 obtain⟨c,k,F⟩:=hl mi hm
 refine Ik I1 ea c k hf ?_
 have hs:=bw▸h2
 rw [ak] at hs
 refine fO (first:=[.ref a]) (h₀:=X.base) I.ok.mod.kin k.kp (thn (ha Ex mt cpos pins s1 σ H1 _ I1 q) fun us s2 ⟨vs,H2,I2,r2,q2⟩=>⟨I2.kIn,?_⟩) (Ap hs.1 es X.env) (A1 hs.2 X.env cpos)
 exact Hj (us:=.ref a::us) (vs:=.ref a::vs) F (by omega) mt I2 (.cons rfl r2) q2
noncomputable def bn7:V->Hp->VK->Prop:=fun x H Q=>match x with
 | .int i=>i.natAbs.log2<1920/\Q (.str (toString i)) H
 | .str z=>z.length<=sizeLine/\Q (.str z) H
 | _=>False
noncomputable def Ya:Str->List DE->DE
 | out,[]=>fun _ H Q _=>out.length<=sizeLine/\Q (.str out) H
 | out,d::ds=>fun σ H Q E=>d σ H (fun x H1=>match x with
  | .str y=>(out++y).length<=sizeLine/\Ya (out++y) ds σ H1 Q E
  | _=>False) E
theorem a76 (ho:QE X o do'):QE X (.FormattedValue o (-1) none pos) (dUn bn7 do'):=by
 intro Ex mt pins s σ H Q I h
 refine FormattedValue_plain (thn (ho Ex mt pins s σ H _ I h) fun u s1 ⟨x,H1,I1,rx,q⟩=>?_)
 cases x with
 | int i=>obtain⟨t,rfl⟩:=rx;exact formatField_int_small q.1 ⟨.str _,H1,I1.tok _,⟨_,rfl⟩,q.2⟩
 | str z=>obtain⟨t,rfl⟩:=rx;exact bh (af _) (formatField_str (fun t' tk htk=>⟨.str _,H1,I1.tok _ htk,⟨_,rfl⟩,q.2⟩) q.1)
 | _=>exact (show False from q).elim
theorem Th {w:Expr->DE} (h:∀ e,QE X e (w e)) {Ex:St->EK} (mt:Meets X Ex) {pins:List (Addr×Obj)} {σ:St} {Q:VK}:∀ {es:List Expr} {out:Str} {s:ag} {H:Hp},Inv X pins σ H s->Ya out (es.map w) σ H Q (Ex σ) ->
  ay (model X.prog X.w) X.A (joinParts out (evalEach es X.env)) (EP X pins σ Q) X.xe s
 | [],out,s,H,I,q=>joinParts_nil ⟨.str _,H,I.tok _,⟨_,rfl⟩,q.2⟩ q.1
 | e::es,out,s,H,I,q=>joinParts_cons (thn (h e Ex mt pins s σ H _ I q) fun u s1 ⟨x,H1,I1,rx,q⟩=>by
  cases x with
  | str y=>obtain⟨t,rfl⟩:=rx;exact⟨q.1,Th h mt I1 q.2⟩
  | _=>exact (show False from q).elim)
noncomputable def aw9 (w:Expr->DE):List Expr->DE
 | []=>dNo
 | [e]=>w e
 | e::f::es=>Ya kP ((e::f::es).map w)
theorem ao2 {w:Expr->DE} (h:∀ e,QE X e (w e)):∀ (es:List Expr),QE X (.JoinedStr es pos) (aw9 w es)
 | []=>Ba
 | [e]=>fun Ex mt pins s σ H Q I q=>JoinedStr_one (h e Ex mt pins s σ H Q I q)
 | e::f::es=>fun Ex mt pins s σ H Q I q=>JoinedStr_many (Th (es:=e::f::es) h mt I q)
noncomputable def N4:DE:=fun _ H Q _=>∀ p,H p=none->Q (.ref p) (upd H p (.dK []))\/Q (.ref p) (upd H p (.dT []))
theorem ao0:QE X (.Dict [] [] pos) N4:=fun Ex mt pins s σ H Q I h=>by
 have fr:=I.hok.fresh (af s.heap.objs.size)
 rcases h _ fr with q|q
 ·exact wpAny_Dict_empty ⟨.ref _,_,I.laid (a:=s.heap.objs.size) (o:=.dK []) (t':=s.toks) (fun _ _ q=>ae _ q) (af _) (N8 s.heap I.big),rfl,q⟩
 ·exact wpAny_Dict_empty ⟨.ref _,_,I.laid (a:=s.heap.objs.size) (o:=.dT []) (t':=s.toks) (fun _ _ q=>ae _ q) (af _) (Yj s.heap I.big),rfl,q⟩
noncomputable def Py:List (DE×DE)->St->Hp->(List (V×V)->Hp->Prop)->EK->Prop
 | [],_,H,Q,_=>Q [] H
 | (k,v)::r,σ,H,Q,E=>k σ H (fun x H1=>v σ H1 (fun y H2=>Py r σ H2 (fun ps H3=>Q ((x,y)::ps) H3) E) E) E
noncomputable def ar8 (trs:List (DE×DE)):DE:=fun σ H Q E=>∀ p,H p=none->Py trs σ (upd H p (.dK [])) (fun ps H2=>H2 p=some (.dK []) /\ ∃ kvs:List (Key×V),ps=kvs.map (fun kv=>(kV kv.1,kv.2))/\kvs.length<=15/\Q (.ref p) (upd H2 p (.dK (Gi [] kvs)))) E
theorem aa0 {w:Expr->DE} (h:∀ e,QE X e (w e)) {Ex:St->EK} (mt:Meets X Ex) (pos:Pos):∀ (ks vs:List Expr),ks.length=vs.length->PPs X pos (ks.map some) vs ((ks.zip vs).map fun p=>((fun σ H Q=>w p.1 σ H Q (Ex σ)),fun σ H Q=>w p.2 σ H Q (Ex σ)))
 | [],[],_=>an0
 | k::ks,v::vs,hl=>Z9 (h k Ex mt) (h v Ex mt) (aa0 h mt pos ks vs (by simpa using hl))
 | [],_::_,hl=>by simp at hl
 | _::_,[],hl=>by simp at hl
theorem N5 {Ex:St->EK} {w:Expr->DE}:∀ (l:List (Expr×Expr)) (σ:St) (H:Hp) (Q:List (V×V)->Hp->Prop),Py (l.map fun p=>(w p.1,w p.2)) σ H Q (Ex σ)=Ng (l.map fun p=>((fun σ H Q=>w p.1 σ H Q (Ex σ)),fun σ H Q=>w p.2 σ H Q (Ex σ))) σ H Q
 | [],_,_,_=>rfl
 | (k,v)::r,σ,H,Q=>by
  show w k σ H _ _=w k σ H _ _
  congr 1
  funext x H1
  congr 1
  funext y H2
  exact N5 r σ H2 _
theorem an9 {w:Expr->DE} (h:∀ e,QE X e (w e)) {ks vs:List Expr} (hl:ks.length=vs.length) (h0:ks≠[]) (h15:ks.length<=15):QE X (.Dict (ks.map some) vs pos) (ar8 ((ks.zip vs).map fun p=>(w p.1,w p.2))):=by
 intro Ex mt pins s σ H Q I q
 refine am6 (aa0 h mt pos ks vs hl) (by simp) (by simpa using hl) (by simpa using h0) (by simpa using h15) pins s σ H Q I ?_
 intro p hp
 have q:=q p hp
 rw [N5] at q
 exact q
theorem V9 {a:Expr} {da:DE} {p2 pos2:Pos} (hc:X.calm=true) (hg:Gl X "len") (hm:X.mg "len" = none) (hg2:Gl X "set") (hm2:X.mg "set" = none) (ha:QE X a da) (hs:noStar a=true) :
  QE X (.Call (.Name "len" p) [.Call (.Name "set" p2) [a] [] pos2] [] pos) (dUn (Mw X.K) da):=by
 intro Ex mt pins s σ H Q I h
 refine bj (B2 I hg hm PySem.boot_len (gp (cy ?_) rfl rfl) (by decide) (by decide))
 refine bj (B2 I hg2 hm2 PyProof.Rows.boot_set (a_ ?_ (Ap hs [] X.env) rfl) (by decide) (by decide))
 rw [Ap hs]
 show ay _ _ (mo ((false,eval a X.env)::ib pos2 (cU [] X.env))) _ _ s
 refine cy (thn (ha Ex mt pins s σ H _ I h) fun u s1 ⟨x,H1,I1,r1,q1⟩=>cJ ?_)
 exact thn (ak2 hc I1 r1 q1) fun v s2 q=>cJ q
theorem J7:dm "reversed" = some (.type "reversed"):=by decide +kernel
theorem Qt {a:Expr} {da:DE} {p2 pos2:Pos} (hc:X.calm=true) (hg:Gl X "list") (hm:X.mg "list" = none) (hg2:Gl X "reversed") (hm2:X.mg "reversed" = none) (ha:QE X a da) (hs:noStar a=true) :
  QE X (.Call (.Name "list" p) [.Call (.Name "reversed" p2) [a] [] pos2] [] pos) (dUn (O1 X.K) da):=by
 intro Ex mt pins s σ H Q I h
 refine bj (B2 I hg hm cW (a_ (cy ?_) rfl rfl) (by decide) (by decide))
 refine bj (B2 I hg2 hm2 J7 (a_ ?_ (Ap hs [] X.env) rfl) (by decide) (by decide))
 rw [Ap hs]
 show ay _ _ (mo ((false,eval a X.env)::ib pos2 (cU [] X.env))) _ _ s
 refine cy (thn (ha Ex mt pins s σ H _ I h) fun u s1 ⟨x,H1,I1,r1,q1⟩=>cJ ?_)
 cases x with
 | ref b=>
  cases r1
  obtain⟨ys,hq,q⟩:=q1
  exact thn (Ze hc I1 hq q) fun v s2 q=>cJ q
 | _=>exact (show False from q1).elim
theorem Qu {a:Expr} {da:DE} {p2 pos2:Pos} (hc:X.calm=true) (hg:Gl X "list") (hm:X.mg "list" = none) (hg2:Gl X "range") (hm2:X.mg "range" = none) (ha:QE X a da) (hs:noStar a=true) :
  QE X (.Call (.Name "list" p) [.Call (.Name "range" p2) [a] [] pos2] [] pos) (dUn O2 da):=by
 intro Ex mt pins s σ H Q I h
 refine bj (B2 I hg hm cW (a_ (cy ?_) rfl rfl) (by decide) (by decide))
 refine bj (B2 I hg2 hm2 boot_range (a_ ?_ (Ap hs [] X.env) rfl) (by decide) (by decide))
 rw [Ap hs]
 show ay _ _ (mo ((false,eval a X.env)::ib pos2 (cU [] X.env))) _ _ s
 refine cy (thn (ha Ex mt pins s σ H _ I h) fun u s1 ⟨x,H1,I1,r1,q1⟩=>cJ ?_)
 cases x with
 | int n=>
  obtain⟨t,rfl⟩:=r1
  exact thn (Zf hc I1 q1.1 q1.2.1 q1.2.2) fun v s2 q=>cJ q
 | _=>exact (show False from q1).elim
noncomputable def Fr:RF:=fun vs H Q=>match vs with
 | [.ref l,.ref t]=>∃ xs ys,H l=some (.lst xs)/\H t=some (.tup ys)/\xs.length=ys.length/\0<xs.length/\xs.length<1000 /\ ∀ D Ts H',Kn H H'->H D=none->H' D=some (.lst (Ts.map V.ref))->Ts.length=xs.length->Sl H H' xs ys Ts->Q (.ref D) H'
 | _=>False
theorem Qv {a b:Expr} {p2 pos2:Pos} (hc:X.calm=true) (hg:Gl X "list") (hm:X.mg "list" = none) (hg2:Gl X "zip") (hm2:X.mg "zip" = none) (ha:QA X [a,b] r) (hs:[a,b].all noStar=true) :
  QE X (.Call (.Name "list" p) [.Call (.Name "zip" p2) [a,b] [] pos2] [] pos) (dFn (fun vs H Q _=>Fr vs H Q) r):=by
 intro Ex mt pins s σ H Q I h
 have h2:=bw▸hs
 rw [ak] at h2
 refine bj (B2 I hg hm cW (a_ (cy ?_) rfl rfl) (by decide) (by decide))
 refine bj (B2 I hg2 hm2 boot_zip (a_ (thn (ha Ex mt pos2 pins s σ H _ I h) fun us s1 ⟨vs,H1,I1,r1,q1⟩=>?_) (Ap h2.1 [b] X.env) (A1 h2.2 X.env pos2)) (by decide) (by decide))
 have q1:Fr vs H1 Q:=q1
 unfold Fr at q1
 split at q1
 ·obtain⟨xs,ys,e1,e2,len,pos,few,q⟩:=q1
  obtain⟨u,v,rfl,ru,rv⟩:=r1.two
  cases ru
  cases rv
  exact thn (Zg hc I1 e1 e2 len pos few fun D Ts H' s' I' top fr hl ln laid=>⟨.ref D,H',I',rfl,q D Ts H' top fr hl ln laid⟩) fun v s2 q=>cJ q
 ·exact q1.elim
noncomputable def Jf (K:aa):V->Hp->VK->Prop:=fun x H Q=>match x with
 | .ref p=>∃ kvs,Rd H p (.dK kvs)/\kvs.length<1000 /\ ∀ l Ts H',Kn H H'->H l=none->H' l=some (.lst (Ts.map V.ref))->Ts.length=kvs.length->Laid H H' kvs Ts->Q (.ref l) H'
 | _=>False
theorem Mr {o:Expr} {do':DE} {ap cp:Pos} (hc:X.calm=true) (hg:Gl X "list") (hm:X.mg "list" = none) (ho:QE X o do') (h1:Cn o=true) (h4:(ap.endLine==cp.line)=true) :
  QE X (.Call (.Name "list" p) [.Call (.Attribute o "items" ap) [] [] cp] [] pos) (dUn (Jf X.K) do'):=by
 intro Ex mt pins s σ H Q I h
 refine bj (B2 I hg hm cW (a_ (cy ?_) rfl rfl) (by decide) (by decide))
 refine ja (C7 h1 "items" X.env _) h4 (thn (ho Ex mt pins s σ H _ I h) fun v s1 ⟨x,H1,I1,r1,q1⟩=>?_)
 cases x with
 | ref a=>
  cases r1
  obtain⟨kvs,rd,few,q⟩:=q1
  obtain⟨_,lo,vs,rel,dof⟩:=Cs I1.hok rd
  obtain⟨ob,es,ep,e,c,_⟩:=id dof
  refine⟨"dict", "dict.items", eB,iW,PySem.F.type_dict_items,dof.typeIs,fun a' e'=>?_,fV rfl (ku ?_)⟩
  ·cases e';exact⟨ob,e,c.2.1⟩
  ·exact thn (Qg hc I1 rd few fun l Ts H' s' I' top fr hl len laid=>⟨.ref l,H',I',rfl,q l Ts H' top fr hl len laid⟩) fun v s2 q=>cJ q
 | _=>exact (show False from q1).elim
end
noncomputable def ah0 (lo st:Int) (n:Nat):It:=⟨fun i _=>i<n,fun i H x H'=>H'=H/\x=.int (lo+(i:Int) * st),fun i _=>n<=i⟩
theorem Wq {P:aO} {w:bM} {K:aa} {tg:Expr} (it:Addr) (lo st:Int) (n:Nat):J6 P w K tg (ah0 lo st n) [it] it (fun i h=>kj h it (lo+(i:Nat) * st) ((n:Int) - (i:Nat)) st) where
 mem:=List.mem_singleton.mpr rfl
 obj:=fun i h q b hb=>by
  obtain rfl:=List.mem_singleton.mp hb
  exact⟨_,q,fun v z=>by cases (show Data.fields _=Data.cell v from z)⟩
 keep:=fun i h h' q k=>k it (List.mem_singleton.mpr rfl) _ q
 item:=by
  intro X hP hw hK hc i pins s σ H E I hf q go
  subst hP hw hK
  obtain⟨g0,g1,_,g3,g4,g5⟩:=hf it (List.mem_singleton.mpr rfl)
  refine bh (af _) ((Walks.range (prog:=X.prog) (w:=X.w) (I.ok.hd hc) it lo st n).item i s _ _ go q fun v h' tk hv q' kk htk=>?_)
  obtain⟨t,rfl⟩:=hv
  have I1:Inv X pins σ H { s with heap:=h',toks:=tk }:=I.turned (fun b o nb e=>kk b o (fun z=>nb (List.mem_singleton.mp z)) e) g0 g1 g3 g4 g5
  exact⟨_,rfl,K5 (s:={ s with heap:=h',toks:=tk }) (n := "range_iterator") q' rfl rfl (by decide) ⟨.int (lo+(i:Int) * st),H,I1,⟨t,rfl⟩,⟨rfl,rfl⟩,q',fun b hb=>(hf b hb).1⟩⟩
 done:=by
  intro X hP hw hK hc i pins s σ H E I hf q go
  subst hP hw hK
  obtain⟨g0,g1,_,g3,g4,g5⟩:=hf it (List.mem_singleton.mpr rfl)
  exact jA (I.ok.hd hc) q (by have:n<=i:=go;omega) fun h' eb=>⟨rfl,I.turned (t':=s.toks) (fun b o nb e=>eb b o nb e) g0 g1 g3 g4 g5⟩
 self:=fun _ _ _ _ _ q h=>jw q h
section
variable {X:Cx} {tg:Expr}
theorem aq7 {pins:List (Addr×Obj)} {σ:St} {H:Hp} {s:ag} {R:It->Hp->Prop} {E:Value->ag->Prop} {lo hi st:Int} {t u v:Tok} {tk:Nat} (I:Inv X pins σ H s) (htk:s.toks<=tk) (sm:fw lo hi st=true)
  (q:R (ah0 lo st (cn lo hi st).toNat) H):ay (model X.prog X.w) X.A (l9 (.ref s.heap.objs.size)) (PIE X pins σ tg R) E { s with heap:=s.heap.push { cls:=.type "range", data:=.fields #[.int lo t,.int hi u,.int st v] },toks:=tk }:=by
 refine k_ (lN ..) sm ?_
 have I1:Inv X pins σ H { s with heap:=s.heap.push { cls:=.type "range", data:=.fields #[.int lo t,.int hi u,.int st v] },toks:=tk }:=I.kept fun b o e=>ae _ e
 generalize s.heap.push { cls:=.type "range", data:=.fields #[.int lo t,.int hi u,.int st v] }=h1 at I1 ⊢
 refine⟨h1.objs.size,[h1.objs.size],_,_,H,rfl,I1.kept (t':=tk) fun b o e=>ae _ e,Wq _ lo st (cn lo hi st).toNat,?_,fun b hb=>?_,q⟩
 ·have e:lo+((0:Nat):Int) * st=lo:=by rw [Int.natCast_zero,Int.zero_mul,Int.add_zero]
  have f:(((cn lo hi st).toNat:Nat):Int) - ((0:Nat):Int)=cn lo hi st:=by
   rw [<- rangeSize_toNat,Int.natCast_zero,Int.sub_zero]
  show kj _ _ (lo+((0:Nat):Int) * st) ((((cn lo hi st).toNat:Nat):Int) - ((0:Nat):Int)) st
  rw [e,f]
  exact aq _ rfl
 ·obtain rfl:=List.mem_singleton.mp hb
  exact I1.fpOk (af _) (I1.hok.fresh (af _))
end
noncomputable def QI (X:Cx) (tg e:Expr) (t:DI):Prop:=∀ Ex,Meets X Ex->PI X tg e (fun σ H R=>t σ H R (Ex σ))
noncomputable def iNo:DI:=fun _ _ _ _=>False
noncomputable def onD (p:Addr) (H:Hp) (R:Obj->List (Key×V)->Hp->Prop):Prop:=(∃ kvs,H p=some (.dK kvs) /\ ∀ o,R o kvs (upd H p (.frz o (.dK kvs)))) \/ ∃ o kvs,H p=some (.frz o (.dK kvs))/\R o kvs H
theorem Zz {X:Cx} {pins:List (Addr×Obj)} {σ:St} {H:Hp} {s:ag} {p:Addr} {R:Obj->List (Key×V)->Hp->Prop} (I:Inv X pins σ H s) (h:onD p H R):∃ o kvs H',Inv X pins σ H' s/\H' p=some (.frz o (.dK kvs))/\R o kvs H':=by
 rcases h with ⟨kvs,e,q⟩|⟨o,kvs,e,q⟩
 ·obtain⟨o,ep,_,_,I'⟩:=I.froze e
  exact⟨o,kvs,_,I',Ad,q o⟩
 ·exact⟨o,kvs,H,I,e,q⟩
noncomputable def Cp (K:aa) (a:DE):DI:=fun σ H R E=>a σ H (fun x H1=>match x with
 | .str z=>R (Its z) H1
 | .ref p=>((∃ xs,SqL K H1 p xs)/\R (Itl K p) H1)\/((∃ xs,SqT K H1 p xs)/\R (Itt K p) H1)\/onD p H1 fun o kvs H2=>R (Itd p o kvs) H2
 | _=>False) E
noncomputable def Ke (t:DA):DI:=fun σ H R E=>t σ H (fun vs H1=>match vs with
 | [.int j]=>(-(2 ^ 62)<=j/\j<2 ^ 62)/\R (Itr 0 j.toNat) H1
 | [.int i,.int j]=>(-(2 ^ 62)<=i/\i<2 ^ 62 /\ -(2 ^ 62)<=j/\j<2 ^ 62)/\R (Itr i (j - i).toNat) H1
 | [.int i,.int j,.int k]=>(fw i j k=true/\1<=k/\k<=1000)/\R (ah0 i k (cn i j k).toNat) H1
 | _=>False) E
noncomputable def iZp (K:aa) (t:DA):DI:=fun σ H R E=>t σ H (fun vs H1=>match vs with
 | [.ref a,.ref b]=>(∃ xs,SqL K H1 a xs)/\(∃ ys,SqL K H1 b ys)/\R (Itz K a b) H1
 | _=>False) E
noncomputable def iEn (K:aa) (t:DA):DI:=fun σ H R E=>t σ H (fun vs H1=>match vs with
 | [.ref a]=>((∃ xs,SqL K H1 a xs)/\R (Ite K a) H1)\/onD a H1 fun o kvs H2=>R (ax3 a o kvs) H2
 | _=>False) E
section
variable {X:Cx} {tg e a b:Expr} {da:DE} {r:DA} {p pos:Pos}
theorem ab2:QI X tg e iNo:=fun _ _ _ _ _ _ _ _ h=>h.elim
theorem a87 (ha:QE X e da):QI X tg e (Cp X.K da):=by
 intro Ex mt pins s σ H R I h
 refine thn (ha Ex mt pins s σ H _ I h) fun v s1 ⟨x,H1,I1,r1,q1⟩=>?_
 cases x with
 | str z=>
  obtain⟨t,rfl⟩:=r1
  refine wpAny_pyIter_strU ?_
  refine⟨s1.heap.objs.size,[s1.heap.objs.size],_,_,H1,rfl,I1.kept (t':=s1.toks) fun b o e=>ae _ e,af3 s1.heap.objs.size z t (strIterType z) (by unfold strIterType;split <;> simp),⟨_,aq _ rfl,rfl,rfl⟩,fun b hb=>?_,q1⟩
  have e:b=s1.heap.objs.size:=by simpa using hb
  subst e
  exact I1.fpOk (af _) (I1.hok.fresh (af _))
 | ref a=>
  cases r1
  rcases q1 with ⟨⟨xs,hq⟩,q⟩|⟨⟨xs,hq⟩,q⟩|q
  ·obtain⟨its,rv,p,hz⟩:=I1.list hq
   refine gf p.isList ?_
   refine⟨s1.heap.objs.size,[s1.heap.objs.size],_,_,H1,rfl,I1.kept (t':=s1.toks) fun b o e=>ae _ e,Wp a _,⟨_,aq _ rfl,rfl,rfl⟩,fun b hb=>?_,q⟩
   have e:b=s1.heap.objs.size:=by simpa using hb
   subst e
   exact I1.fpOk (af _) (I1.hok.fresh (af _))
  ·obtain⟨its,rv,p,hz⟩:=I1.tuple hq
   refine lb (show s1.heap.IsTuple a its.toArray from p) ?_
   refine⟨s1.heap.objs.size,[s1.heap.objs.size],_,_,H1,rfl,I1.kept (t':=s1.toks) fun b o e=>ae _ e,Sh a _,⟨_,aq _ rfl,rfl,rfl⟩,fun b hb=>?_,q⟩
   have e:b=s1.heap.objs.size:=by simpa using hb
   subst e
   exact I1.fpOk (af _) (I1.hok.fresh (af _))
  ·obtain⟨o,kvs,H2,I2,e,q⟩:=Zz I1 q
   exact ai6 I2 e q
 | _=>exact (show False from q1).elim
variable {es:List Expr}
theorem ab3 (hg:Gl X "range") (hm:X.mg "range" = none) (ha:QA X (a::es) r) (hs:(a::es).all noStar=true):QI X tg (.Call (.Name "range" p) (a::es) [] pos) (Ke r):=by
 intro Ex mt pins s σ H R I h
 have h2:=bw▸hs
 rw [ak] at h2
 refine Call_ (B2 I hg hm boot_range (a_ (thn (ha Ex mt pos pins s σ H _ I h) fun us s1 ⟨vs,H1,I1,r1,q1⟩=>?_) (Ap h2.1 es X.env) (A1 h2.2 X.env pos)))
 dsimp only at q1
 split at q1
 ·obtain⟨⟨h1,h2⟩,q⟩:=q1
  obtain⟨u,rfl,t,rfl⟩:=En r1
  exact call_range_1 (O4 I1 (by first|exact af _|exact aB _ _|omega|(dsimp only;omega)) (by omega) (by omega) h1 h2 (by simpa using q))
 ·obtain⟨⟨h1,h2,h3,h4⟩,q⟩:=q1
  obtain⟨u,v,rfl,⟨t,rfl⟩,⟨t',rfl⟩⟩:=af7 r1
  exact call_range_2 (O4 I1 (by first|exact af _|exact aB _ _|omega|(dsimp only;omega)) h1 h2 h3 h4 q)
 ·obtain⟨⟨h1,h2,h3⟩,q⟩:=q1
  cases r1 with
  | cons ra rr=>cases rr with
   | cons rb rr=>cases rr with
    | cons rc rr=>
     cases rr
     obtain⟨t,rfl⟩:=ra
     obtain⟨t',rfl⟩:=rb
     obtain⟨t2,rfl⟩:=rc
     exact call_range_3 (by omega) (aq7 I1 (by first|exact af _|exact aB _ _|omega|(dsimp only;omega)) h1 q) (.inl (jr (by omega)))
 ·exact q1.elim
theorem a88 {elts:List Expr} {kt:Nat} {pt:Pos} (hg:Gl X "zip") (hm:X.mg "zip" = none) (ha:QA X (a::es) r) (hs:(a::es).all noStar=true):QI X (.Tuple elts kt pt) (.Call (.Name "zip" p) (a::es) [] pos) (iZp X.K r):=by
 intro Ex mt pins s σ H R I h
 have hh:=bw▸hs
 rw [ak] at hh
 refine Call_ (B2 I hg hm boot_zip (a_ (thn (ha Ex mt pos pins s σ H _ I h) fun us s1 ⟨vs,H1,I1,r1,q1⟩=>?_) (Ap hh.1 es X.env) (A1 hh.2 X.env pos)))
 dsimp only at q1
 split at q1
 ·rename_i l1 l2
  obtain⟨⟨xs,q1⟩,⟨ys,q2⟩,q⟩:=q1
  obtain⟨u,v,rfl,ru,rv⟩:=r1.two
  cases ru
  cases rv
  obtain⟨its1,t1,p1,z1⟩:=I1.list q1
  obtain⟨its2,t2,p2,z2⟩:=I1.list q2
  refine call_zip_2 p1.isList p2.isList fun h' hz hTI hTO hi1 hi2 hsz hk=>?_
  refine jn hz ?_
  have a1:l1<s1.heap.objs.size:=by obtain⟨_,e,_⟩:=p1.isList;exact au e
  have a2:l2<s1.heap.objs.size:=by obtain⟨_,e,_⟩:=p2.isList;exact au e
  refine⟨_,_,_,_,H1,rfl,I1.kept (t':=s1.toks) hk,af4 (im a1 a2),⟨hz,hTI,⟨_,_,hTO⟩,hi1,hi2⟩,fun b hb=>?_,q⟩
  have hb:b=s1.heap.objs.size+4\/b=s1.heap.objs.size+2\/b=s1.heap.objs.size+3\/b=s1.heap.objs.size\/b=s1.heap.objs.size+1:=by simpa using hb
  have le:s1.heap.objs.size<=b:=by
   rcases hb with e|e|e|e|e
   ·rw [e];exact aB _ 4
   ·rw [e];exact aB _ 2
   ·rw [e];exact aB _ 3
   ·rw [e];exact af _
   ·rw [e];exact aB _ 1
  exact I1.fpOk le (I1.hok.fresh le)
 ·exact q1.elim
theorem ao5 {elts:List Expr} {kt:Nat} {pt:Pos} (hg:Gl X "enumerate") (hm:X.mg "enumerate" = none) (ha:QA X (a::es) r) (hs:(a::es).all noStar=true):QI X (.Tuple elts kt pt) (.Call (.Name "enumerate" p) (a::es) [] pos) (iEn X.K r):=by
 intro Ex mt pins s σ H R I h
 have hh:=bw▸hs
 rw [ak] at hh
 refine Call_ (B2 I hg hm boot_enumerate (a_ (thn (ha Ex mt pos pins s σ H _ I h) fun us s1 ⟨vs,H1,I1,r1,q1⟩=>?_) (Ap hh.1 es X.env) (A1 hh.2 X.env pos)))
 dsimp only at q1
 split at q1
 ·rename_i l
  obtain⟨u,rfl,ru⟩:=En r1
  cases ru
  rcases q1 with ⟨⟨xs,q1⟩,q⟩|q
  case inr=>
   obtain⟨o,kvs,H2,I2,e,q⟩:=Zz I1 q
   exact Yl I2 e q
  obtain⟨its1,t1,p1,z1⟩:=I1.list q1
  refine call_enumerate_list p1.isList fun h' he hit hsz hk=>?_
  refine ge he ?_
  refine⟨_,_,_,_,H1,rfl,I1.kept (t':=s1.toks) hk,Wo (jh _),⟨⟨_,he⟩,hit⟩,fun b hb=>?_,q⟩
  have hb:b=s1.heap.objs.size+1\/b=s1.heap.objs.size:=by simpa using hb
  have le:s1.heap.objs.size<=b:=by
   rcases hb with e|e
   ·rw [e];exact aB _ 1
   ·rw [e];exact af _
  exact I1.fpOk le (I1.hok.fresh le)
 ·exact q1.elim
noncomputable def gNo:DG:=fun _ _ _ _=>False
noncomputable def gdS:List DG->List V->St->Hp->(St->Hp->Prop)->Prop
 | [],[],σ,H,Q=>Q σ H
 | g::gs,v::vs,σ,H,Q=>g v σ H fun σ' H'=>gdS gs vs σ' H' Q
 | _,_,_,_,_=>False
noncomputable def gdT (K:aa) (n:Nat) (gs:List DG):DG:=fun v σ H Q=>match v with
 | .ref a=>∃ xs,SqT K H a xs/\xs.length=n/\gdS gs xs σ H Q
 | _=>False
theorem Ow:PG X tg gNo:=fun _ _ _ _ _ _ _ _ _ h=>h.elim
theorem bm6:PGs X [] (gdS []):=by
 intro pins s σ H vs us Q I r h
 cases vs with
 | nil=>exact am8 pins s σ H [] us Q I r ⟨rfl,h⟩
 | cons v vs=>exact (show False from h).elim
theorem bm5 {g:DG} {gs:List DG} {ts:List Expr} (h1:PG X tg g) (h2:PGs X ts (gdS gs)) (hs:(dD (tg::ts) X.env).map (·.2)=lE tg X.env::(dD ts X.env).map (·.2)):PGs X (tg::ts) (gdS (g::gs)):=by
 intro pins s σ H vs us Q I r h
 cases vs with
 | nil=>exact (show False from h).elim
 | cons v vs=>exact Z4 h1 h2 hs pins s σ H (v::vs) us Q I r ⟨v,vs,rfl,h⟩
theorem bz4 {ts:List Expr} {k n:Nat} {gs:List DG} (hc:X.calm=true) (h:PGs X ts (gdS gs)) (hn:(dD ts X.env).length=n) (hst:(dD ts X.env).findIdx? (·.1)=none):PG X (.Tuple ts k pos) (gdT X.K n gs):=by
 intro pins s σ H v u Q I r hw
 cases v with
 | ref a=>exact a64 hc h hn hst pins s σ H _ u Q I r (let ⟨xs,h1,h2,h3⟩:=hw;⟨a,xs,rfl,h1,h2,h3⟩)
 | _=>exact (show False from hw).elim
end
noncomputable def Cf (cs:List (Str×Addr)):List (Str×cz)->List (Str×Addr)->List (Str×Addr)
 | [],acc=>acc
 | (n,k)::r,acc=>if k==.free then Cf cs r ((n,(cs.lookup n).getD 0)::acc) else Cf cs r acc
theorem J9 {scope:Scope} {env:Env} (h:∀ y∈scope.names,y.2=.free -> ∃ c,env.cells.lookup y.1=some c):closureFor scope env=pure (Cf env.cells scope.names []):=by
 unfold closureFor
 generalize scope.names=names at h
 suffices ∀ acc,(forIn names acc fun (x:Str×cz) cs=>do
   if (x.2==.free)=true then do
    let c <- cellOf env x.1
    pure (eQ ((x.1,c)::cs))
   else pure (eQ cs):Sem (List (Str×Addr)))=pure (Cf env.cells names acc) by
  have:=this []
  simp only [bind_pure]
  exact this
 induction names with
 | nil=>intro acc;rfl
 | cons y r ih=>
  intro acc
  obtain⟨n,k⟩:=y
  rw [fJ]
  unfold Cf
  by_cases e:(k==eA)=true
  ·obtain⟨c,hc⟩:=h (n,k) (by simp) (cO e)
   have ec:cellOf env n=pure c:=by
    unfold cellOf
    rw [show env.cells.lookup n=some c from hc]
   simp only [e,if_true,ec,pure_bind]
   rw [ih (fun y hy=>h y (aJ _ hy))]
   rw [show env.cells.lookup n=some c from hc]
   rfl
  ·have e':(k==eA)=false:=by simpa using e
   simp only [e',bz,if_false,pure_bind]
   rw [ih (fun y hy=>h y (aJ _ hy))]
theorem Ga {cs:List (Str×Addr)}:∀ {names:List (Str×cz)} {acc:List (Str×Addr)} {p:Str×Addr},p∈Cf cs names acc->p∈acc\/((p.1,eA)∈names/\p.2=(cs.lookup p.1).getD 0)
 | [],_,_,h=>.inl h
 | (n,k)::r,acc,p,h=>by
  unfold Cf at h
  by_cases e:(k==eA)=true
  ·rw [if_pos e] at h
   rcases Ga h with h|⟨h1,h2⟩
   ·rcases List.mem_cons.mp h with h|h
    ·subst h
     exact .inr ⟨by rw [cO e];simp,rfl⟩
    ·exact .inl h
   ·exact .inr ⟨aJ _ h1,h2⟩
  ·rw [if_neg e] at h
   rcases Ga h with h|⟨h1,h2⟩
   ·exact .inl h
   ·exact .inr ⟨aJ _ h1,h2⟩
theorem F9 {cs:List (Str×Addr)}:∀ {names:List (Str×cz)} {acc:List (Str×Addr)} {p:Str×Addr},p∈acc->p∈Cf cs names acc
 | [],_,_,h=>h
 | (n,k)::r,acc,p,h=>by
  unfold Cf
  split
  ·exact F9 (aJ _ h)
  ·exact F9 h
theorem Kv {cs:List (Str×Addr)}:∀ {names:List (Str×cz)} {acc:List (Str×Addr)} {n:Str},(n,eA)∈names->n∈(Cf cs names acc).map (·.1)
 | [],_,_,h=>by cases h
 | (m,k)::r,acc,n,h=>by
  unfold Cf
  rcases List.mem_cons.mp h with e|h
  ·cases e
   rw [if_pos (show (eA==eA)=true from rfl)]
   exact List.mem_map.mpr ⟨_,F9 (bC),rfl⟩
  ·split <;> exact Kv h
noncomputable def O7 (sc:List (Str×cz)) (names:List (Str×cz)):List (Str×cz):=names.map fun (n,k)=>if (k==.free&&sc.lookup n==some .cell) then (n,.cell) else (n,k)
noncomputable def Oj (names:List (Str×cz)):List Str:=(names.filter fun y=>(y.2==.local) && !(y.1==(".0" : Str))).map (·.1)
noncomputable def P4 (names:List (Str×cz)):List Str:=(names.filter fun y=>y.2==.free).map (·.1)
noncomputable def cfV (o:Option cz):Bool:=o==some .cell||o==some .free
noncomputable def Cg (G:Sg) (names:List (Str×cz)):Sg:={ G with N:=Oj names++P4 names,sc:=O7 G.sc names,top:=false }
noncomputable def Et (G:Sg) (names:List (Str×cz)):List (Option Nat):=(Oj names).map (fun _=>none)++(P4 names).map (fun x=>B4 G.N x 0)
noncomputable def Eb (G:Sg) (sc:Scope):Bool:=
 (sc.names.all fun y=>!(y.2==.cell))&&(sc.names.all fun y=>!(y.2==.local)||(sc.names.lookup y.1==some .local))&&(sc.kind==.function) &&
 decide (Oj sc.names++P4 sc.names).Nodup&&((P4 sc.names).all fun x=>(B4 G.N x 0).isSome&&cfV (G.sc.lookup x)&&cfV ((O7 G.sc sc.names).lookup x)) &&
 ((Oj sc.names).all fun x=>(O7 G.sc sc.names).lookup x==some .local)
section
variable {X:Cx} {G:Sg} {sc:Scope}
theorem Fg {o:Option cz} (h:cfV o=true):o=some .cell\/o=some .free:=by
 unfold cfV at h
 rw [eN] at h
 exact h.elim (fun e=>.inl (cO e)) fun e=>.inr (cO e)
theorem Fb (O:GOk X G):(iu sc X.env).names=O7 G.sc sc.names:=by
 unfold iu O7
 apply gS
 rintro⟨n,k⟩ _
 have e:X.env.kindOf n=G.sc.lookup n:=O.sc n
 dsimp only
 rw [e,O.kind]
 simp
theorem L6 (O:GOk X G) (h:Eb G sc=true):Hk X (Cg G sc.names).N (Et G sc.names) sc (Cf X.env.cells sc.names []):=by
 unfold Eb at h
 simp only [ak,aP,iB,decide_eq_true_eq,eN] at h
 obtain⟨⟨⟨⟨⟨h1,h2⟩,h3⟩,h4⟩,h5⟩,h6⟩:=h
 have fr:∀ y∈sc.names,y.2=.free -> ∃ c,X.env.cells.lookup y.1=some c:=fun y hy hf=>by
  refine O.cel y.1 ?_
  rw [O.sc]
  refine Fg (h5 y.1 ?_).1.2
  exact List.mem_map.mpr ⟨y,List.mem_filter.mpr ⟨hy,by rw [hf];rfl⟩,rfl⟩
 have nc:∀ y∈sc.names,y.2≠.cell:=fun y hy e=>by
  have:=h1 y hy
  rw [e] at this
  cases this
 refine⟨J9 fr,nc,cO h3,fun y hy hl=>?_,fun x c hx=>?_,fun x hx=>?_,?_,fun k j x e1 e2=>?_⟩
 ·rcases h2 y hy with z|z
  ·rw [hl] at z;cases z
  ·exact cO z
 ·have hm:=bK hx
  rcases Ga hm with z|⟨z1,z2⟩
  ·cases z
  ·obtain⟨c',hc'⟩:=fr _ z1 rfl
   have z2':c=(X.env.cells.lookup x).getD 0:=z2
   rw [show X.env.cells.lookup x=some c' from hc'] at z2' ⊢
   rw [z2']
   rfl
 ·have hn:(iu sc X.env).names=O7 G.sc sc.names:=Fb O
  have key:∀ kd,(iu sc X.env).names.lookup x=some kd->cfV (some kd)=true -> ∃ c,(Cf X.env.cells sc.names []).lookup x=some c:=fun kd hkd hc=>by
   rw [hn] at hkd
   have hm:=bK hkd
   unfold O7 at hm
   obtain⟨⟨n,k⟩,hy,e⟩:=List.mem_map.mp hm
   dsimp only at e
   have hfree:k=.free/\n=x:=by
    have hkc:=nc _ hy
    by_cases e1:(k==eA&&G.sc.lookup n==some .cell)=true
    ·rw [if_pos e1] at e
     rw [ak] at e1
     exact⟨cO e1.1,congrArg Prod.fst e⟩
    ·rw [if_neg e1] at e
     cases e
     rcases Fg hc with z|z
     ·exact absurd (aK z) hkc
     ·exact⟨aK z,rfl⟩
   obtain⟨rfl,rfl⟩:=hfree
   exact Zl (Kv hy)
  rcases hx with hx|hx
  ·exact key _ hx rfl
  ·exact key _ hx rfl
 ·unfold Et Cg
  simp
 ·have e1':(Oj sc.names++P4 sc.names)[k]? = some x:=e1
  have e2':((Oj sc.names).map (fun _=>(none:Option Nat))++(P4 sc.names).map (fun x=>B4 G.N x 0))[k]? = some (some j):=e2
  by_cases hlt:k<(Oj sc.names).length
  ·rw [c9 (by simpa using hlt),aI] at e2'
   cases q:(Oj sc.names)[k]? with
   | none=>rw [q] at e2';cases e2'
   | some z=>rw [q] at e2';cases e2'
  ·rw [cw (by simpa using hlt)] at e1' 
   rw [cw (by simpa using hlt),al,aI,e1'] at e2'
   have hs:B4 G.N x 0=some j:=aK e2'
   have hx:x∈P4 sc.names:=bd e1'
   obtain⟨⟨_,c1⟩,c2⟩:=h5 x hx
   refine⟨by rw [O.N];exact Dr hs,?_,?_⟩
   ·rw [O.sc];exact Fg c1
   ·rw [Fb O];exact Fg c2
theorem Sw (O:GOk X G) (h:Eb G sc=true) (fp:List Addr) (C:Addr) (s:ag) (H:Hp) (xe:Value->ag->Prop) :
  GOk (X.comp (Cg G sc.names).N sc (Cf X.env.cells sc.names []) fp C s H xe) (Cg G sc.names):=by
 have S:=L6 O h
 unfold Eb at h
 simp only [ak,aP,iB,decide_eq_true_eq,eN] at h
 obtain⟨⟨⟨⟨⟨h1,h2⟩,h3⟩,h4⟩,h5⟩,h6⟩:=h
 have hn:(iu sc X.env).names=O7 G.sc sc.names:=Fb O
 refine⟨O.K,cO h3,(fun z=>by cases z),rfl,h4,fun x=>?_,fun x hx=>?_,fun z=>(by cases z),O.calm,O.hd,O.units,fun x hx=>S.has x hx,fun x i e=>?_,O.val,O.bl,fun x C oi e=>?_,fun x C oi e=>?_,fun m l e mi hm=>?_,fun z=>(by cases z),O.fr⟩
 ·show (iu sc X.env).names.lookup x=_
  rw [hn]
  rfl
 ·show Vis (iu sc X.env) x
  unfold Vis
  rw [hn]
  rcases List.mem_append.mp hx with q|q
  ·exact .inl (cO (h6 x q))
  ·exact .inr (Fg (h5 x q).2)
 ·obtain⟨m,F⟩:=O.fn x i e
  obtain⟨CX,p,f⟩:=F.ok
  exact⟨m,⟨F.kp,⟨CX,p,f⟩,F.room,F.binds,F.vals⟩⟩
 ·obtain⟨m,k,c,i0⟩:=O.exc x C oi e
  refine⟨m,k,c,?_⟩
  cases oi with
  | none=>exact i0
  | some i=>obtain⟨a1,a2,F,r⟩:=i0;obtain⟨CX,p,f⟩:=F.ok;exact⟨a1,a2,⟨F.kp,⟨CX,p,f⟩,F.room,F.binds,F.vals⟩,r⟩
 ·obtain⟨m,k,i0⟩:=O.cls x C oi e
  refine⟨m,k,?_⟩
  cases oi with
  | none=>exact i0
  | some i=>
   obtain⟨a,b,c,F,r⟩:=i0
   obtain⟨CX,p,f⟩:=F.ok
   exact⟨a,b,c,⟨F.kp,⟨CX,p,f⟩,F.room,F.binds,F.vals⟩,r⟩
 ·obtain⟨a,b,F⟩:=O.met m l e mi hm
  obtain⟨CX,p,f⟩:=F.ok
  exact⟨a,b,⟨F.kp,⟨CX,p,f⟩,F.room,F.binds,F.vals⟩⟩
end
noncomputable def Dy:St->Hp->(Option Int->Hp->Prop)->EK->Prop:=fun _ H Q _=>Q none H
noncomputable def Ec (a:DE):St->Hp->(Option Int->Hp->Prop)->EK->Prop:=fun σ H Q E=>a σ H (fun x H1=>match x with
 | .int i=>Q (some i) H1
 | _=>False) E
noncomputable abbrev DO:=St->Hp->(Option Int->Hp->Prop)->EK->Prop
noncomputable def b00 (K:aa):V->Option Int->Option Int->Hp->VK->Prop:=fun x lo hi H Q=>match x with
 | .str z=>z.length<=sizeLine/\Q (.str (Txt.slice z lo hi)) H
 | .ref a=>(∃ xs,SqL K H a xs /\ ∀ p,H p=none->Q (.ref p) (upd H p (.lst (Ka xs lo hi)))) \/
   (∃ xs,SqT K H a xs /\ ¬ (HT.sIx xs.length 0 lo=0/\HT.sIx xs.length xs.length hi=xs.length) /\ ∀ p,H p=none->Q (.ref p) (upd H p (.tup (Ka xs lo hi))))
 | _=>False
noncomputable def dSl (K:aa) (a:DE) (l h:DO):DE:=fun σ H Q E=>a σ H (fun x H1=>l σ H1 (fun lo H2=>h σ H2 (fun hi H3=>b00 K x lo hi H3 Q) E) E) E
noncomputable def QO (X:Cx) (e:Option Expr) (t:DO):Prop:=∀ Ex,Meets X Ex->PO X e (fun σ H Q=>t σ H Q (Ex σ))
section
variable {X:Cx} {G:Sg} {e:Expr} {de:DE} {lo hi:Option Expr} {dl dh:DO} {pos p2:Pos}
theorem Tr:QO X none Dy:=fun _ _=>am9
theorem Tt (h:QE X e de):QO X (some e) (Ec de):=by
 intro Ex m pins s σ H Q I hw
 rw [evalPart_some]
 refine thn (h Ex m pins s σ H _ I hw) fun u s1 ⟨x,H1,I1,r1,q1⟩=>?_
 cases x with
 | int i=>obtain⟨t,rfl⟩:=r1;exact⟨some i,H1,I1,.int i t,q1⟩
 | _=>exact (show False from q1).elim
theorem Mj (e:Expr) (z:Str) (t:Tok) (r:Value):letTemporaryGo e (.str z t) r=pure ():=by
 cases e <;> rfl
theorem ab1 (he:QE X e de) (hl:QO X lo dl) (hh:QO X hi dh):QE X (.Subscript e (.Slice lo hi none p2) pos) (dSl X.K de dl dh):=by
 intro Ex m pins s σ H Q I h
 refine Subscript_ (thn (he Ex m pins s σ H _ I h) fun v s1 ⟨x,H1,I1,r1,q1⟩=>?_)
 refine wpAny_Slice (thn (hl Ex m pins s1 σ H1 _ I1 q1) fun vl s2 ⟨l,H2,I2,pl,q2⟩=>thn (hh Ex m pins s2 σ H2 _ I2 q2) fun vu s3 ⟨u,H3,I3,pu,q3⟩=>?_)
 rw [evalPart_none]
 refine ai ?_
 show ay (model X.prog X.w) X.A (kZ e (.Slice lo hi none p2) v (.ref s3.heap.objs.size)) (EP X pins σ Q) X.xe { s3 with heap:=s3.heap.push { cls:=.type "slice", data:=.fields #[vl,vu,.none] } }
 have I4:Inv X pins σ H3 { s3 with heap:=s3.heap.push { cls:=.type "slice", data:=.fields #[vl,vu,.none] } }:=I3.kept (t':=s3.toks) fun b ob q=>ae _ q
 have gen:∀ r,SlR X r->r x l u H3 Q->ay (model X.prog X.w) X.A (kZ e (.Slice lo hi none p2) v (.ref s3.heap.objs.size)) (EP X pins σ Q) X.xe { s3 with heap:=s3.heap.push { cls:=.type "slice", data:=.fields #[vl,vu,.none] } }:=fun r hr q=>by
  obtain⟨T,id,hT,ht,hg⟩:=hr pins _ σ H3 x v vl vu l u s3.heap.objs.size Q I4 r1 (Heap.IsSliceOf.new ..) pl pu q
  exact tail_any (ops:=[.ref s3.heap.objs.size,v]) ht hT hg (by with_unfolding_all rfl)
 cases x with
 | str z=>
  obtain⟨hz,q⟩:=q3
  obtain⟨t,rfl⟩:=r1
  have hk:KeptH (fun h=>Inv X pins σ H3 { s3 with heap:=h }):=fun h ob J=>J.kept (t':=s3.toks) fun b o eb=>ae _ eb
  have fin:∀ h' t' k,Inv X pins σ H3 { s3 with heap:=h' }->(fun (a:Value) (s':ag)=>s3.toks<=s'.toks->EP X pins σ Q a s') (.str (Txt.slice z l u) t') { s3 with heap:=h',toks:=k }:=fun h' t' k J htk=>⟨.str _,H3,J.tok k htk,⟨_,rfl⟩,q⟩
  refine bh (n:=s3.toks) (af _) ?_
  cases pl with
  | none=>
   cases pu with
   | none=>exact iw (SBH.sliceItem_nn hk I3 fin hz) (by with_unfolding_all rfl) (Mj e z t)
   | int j uj=>exact iw (SBH.sliceItem_ns hk I3 fin hz) (by with_unfolding_all rfl) (Mj e z t)
  | int i ui=>
   cases pu with
   | none=>exact iw (SBH.sliceItem_sn hk I3 fin hz) (by with_unfolding_all rfl) (Mj e z t)
   | int j uj=>exact iw (SBH.sliceItem_ss hk I3 fin hz) (by with_unfolding_all rfl) (Mj e z t)
 | ref a=>
  rcases q3 with ⟨xs,h1,h2⟩|⟨xs,h1,h2,h3⟩
  ·exact gen _ aq5 ⟨a,xs,rfl,h1,h2⟩
  ·exact gen _ bd4 ⟨a,xs,rfl,h1,h2,h3⟩
 | _=>exact (show False from q3).elim
noncomputable def Iz:Expr->Bool
 | .Set _ _ _=>false
 | _=>true
theorem Ja {e:Expr} (h:Iz e=true) (env:Env) (x:Value):e_ e env x=pure x:=by
 cases e with
 | Set _ _ _=>cases h
 | _=>rfl
theorem Ek:Meets X (fun _ _ _=>False):=fun _ _ _ _ _ _ _ h=>h.elim
variable {tg iter elt:Expr} {ifs:List Expr} {sc:Scope} {wi:DI} {g:DG} {tc:DT}
noncomputable def Qn (G:Sg) (x:Str):Bool:=(G.sc.lookup x==some .local)||(G.top&&(G.sc.lookup x==some .cell))
noncomputable def wG:Nat->Sg->Expr->DG
 | 0,_,_=>gNo
 | n+1,G,e=>match e with
  | .Name x _=>match B4 G.N x 0 with
   | some i=>if Qn G x=true then gdN i else gNo
   | none=>gNo
  | .Tuple ts _ _=>if G.calm=true/\ts.all noStar=true then gdT G.K ts.length (ts.map (wG n G)) else gNo
  | _=>gNo
theorem Ml (O:GOk X G) {x:Str} (h:Qn G x=true):Loc X.env.scope x/\(X.fn x=true\/X.env.scope.names.lookup x=some .local):=by
 unfold Qn at h
 rw [eN,ak] at h
 rcases h with h|⟨h1,h2⟩
 ·have:X.env.scope.names.lookup x=some .local:=by rw [O.sc];exact cO h
  exact⟨.inl this,.inr this⟩
 ·have:X.env.scope.names.lookup x=some .cell:=by rw [O.sc];exact cO h2
  exact⟨.inr this,.inl (O.top h1 x)⟩
theorem D3 {e:Expr} (h:noStar e=true) (es:List Expr) (env:Env):dD (e::es) env=(false,lE e env)::dD es env:=by
 cases e with
 | Starred _ _=>cases h
 | _=>rfl
theorem Hm {es:List Expr} (h:es.all noStar=true) (env:Env):(dD es env).length=es.length/\(dD es env).findIdx? (·.1)=none:=by
 induction es with
 | nil=>exact⟨rfl,rfl⟩
 | cons e es ih=>
  rw [bw,ak] at h
  obtain⟨h1,h2⟩:=ih h.2
  rw [D3 h.1]
  refine⟨by rw [aQ,aQ,h1],?_⟩
  rw [List.findIdx?_cons,h2]
  rfl
theorem Pj:∀ (n:Nat) (X:Cx) (G:Sg),GOk X G -> ∀ e,PG X e (wG n G e)
 | 0,_,_,_,_=>Ow
 | n+1,X,G,O,e=>by
  cases e with
  | Name x p=>
   unfold wG
   dsimp only
   split
   ·rename_i i e
    split
    ·rename_i h
     obtain⟨h1,h2⟩:=Ml O h
     exact am7 (by rw [O.N];exact O.nd) (by rw [O.N];exact Dr e) h1 h2
    ·exact Ow
   ·exact Ow
  | Tuple ts k p=>
   unfold wG
   dsimp only
   split
   ·rename_i h
    obtain⟨h1,h2⟩:=h
    obtain⟨h3,h4⟩:=Hm h2 X.env
    rw [<- O.K]
    refine bz4 (O.calm▸h1) ?_ h3 h4
    clear h3 h4
    induction ts with
    | nil=>exact bm6
    | cons t ts ih=>
     rw [bw,ak] at h2
     refine bm5 (Pj n X G O t) (ih h2.2) ?_
     rw [D3 h2.1]
     rfl
   ·exact Ow
  | _=>exact Ow
end
end L2
namespace L2
open PySem PySem.Spec
structure Sm (l:List Addr) (e C:Addr) (dx:Option Addr) (h h':Heap):Prop where
 exc:∃ (vs':Array Value) (T:Addr) (oT:Obj) (ts':Array Value),h'.get? e=some (Am C dx vs')/\vs'.size=6/\vs'[1]? = some (.ref T)/\h.objs.size<=T/\T≠e/\h'.get? T=some oT/\oT.data=.fields ts'/\3<ts'.size /\ ∀ vs,h.get? e=some (Am C dx vs)->vs'[2]? = vs[2]?
 keep:∀ b o,b≠e->b∉l->h.get? b=some o->h'.get? b=some o
 slot:∀ b o,b≠e->h.get? b=some o -> ∃ sl,h'.get? b=some { o with slots:=sl }
noncomputable abbrev tbO (fs:Array Value):Obj:={ cls:=.type "traceback", dict:=none,data:=.fields fs }
noncomputable abbrev Iu (T:Addr):Obj->Obj:=bS (·.setIfInBounds 1 (.ref T))
noncomputable abbrev He (h:Heap) (e:Addr) (fs:Array Value):Heap:=(h.push (tbO fs)).update e (Iu h.objs.size)
section
variable {h:Heap} {e C:Addr} {dx:Option Addr} {vs fs:Array Value}
theorem apart (q:h.get? e=some (Am C dx vs)):h.objs.size≠e:=b5 (au q)
theorem Oi (T:Addr):(Iu T (Am C dx vs)).data=.fields (vs.setIfInBounds 1 (.ref T)):=rfl
theorem P1 (q:h.get? e=some (Am C dx vs)):(He h e fs).get? e=some (Am C dx (vs.setIfInBounds 1 (.ref h.objs.size))):=
 aL (Iu h.objs.size) (ae (tbO fs) q) (dj (Oi h.objs.size))
theorem P2 (q:h.get? e=some (Am C dx vs)):(He h e fs).get? h.objs.size=some (tbO fs):=
 (aG (h.push (tbO fs)) (Iu h.objs.size) (apart q).symm).trans (aq h rfl)
theorem G0 {b:Addr} {o:Obj} (ne:b≠e) (q:h.get? b=some o):(He h e fs).get? b=some o:=
 (aG (h.push (tbO fs)) (Iu h.objs.size) ne.symm).trans (ae (tbO fs) q)
theorem Qe {h0:Heap} {l:List Addr} (hz:h.objs.size=h0.objs.size) (k1:∀ b,b∉l->h.get? b=h0.get? b) (k2:∀ b o,h0.get? b=some o -> ∃ sl,h.get? b=some { o with slots:=sl }) (q:h.get? e=some (Am C dx vs)) (hs:vs.size=6) (hf:3<fs.size) :
  Sm l e C dx h0 (He h e fs) where
 exc:=⟨_,h.objs.size,_,_,P1 q,by rw [d6];exact hs,eM (by omega),by omega,apart q,P2 q,rfl,hf,fun vs0 q0=>by
  obtain⟨sl,z⟩:=k2 e _ q0
  rw [q] at z
  cases z
  exact cX (by decide)⟩
 keep:=fun b o ne nl hb=>G0 ne ((k1 b nl).trans hb)
 slot:=fun b o ne hb=>let ⟨sl,z⟩:=k2 b o hb;⟨sl,G0 ne z⟩
end
section
variable {M:mw} {A:aX} {E:Value->ag->Prop} {s:ag} {base:Heap} {env:Env} {outer:List Env} {L e C:Addr} {dx:Option Addr} {vs:Array Value} {Q:Unit->ag->Prop}
theorem Vz {head:Value} {hadNext:Bool} {env0:Env} (hfr:A.frames=some (env0::outer)) (hl:s.heap.FunFrames base (env0::outer)) (h0:env0.frame=some L) (hf:env.frame=some L) (q:s.heap.get? e=some (Am C dx vs)) (hs:vs.size=6) (k:∀ h',Sm (frs (env0::outer)) e C dx s.heap h'->Q () { s with heap:=h' }) :
  ay M A ((mk env >>= fun a=>entryPlaceOf L hadNext >>= fun pl=>gK head a .none (dJ L) .none pl >>= fun b=>i9 (.ref e) 1 b)) Q E s:=by
 have off:e∉frs (env0::outer):=fun z=>by
  obtain⟨_,o,z1,z2⟩:=hl.mem z
  rw [q] at z1
  cases z1
  exact z2 vs rfl
 have fe:mk env=mk env0:=by unfold mk;rw [hf,h0]
 rw [fe]
 refine ac (wpAny_frameOf_fun hfr hl h0 fun h1 ⟨a1,a2,a3⟩=>ac (wpAny_entryPlaceOf fun pl hpl=>?_))
 unfold gK newFields
 refine ac (cv ?_ (hpl.sizeOk5 _ _ _ _ _))
 have q1:h1.get? e=some (Am C dx vs):=(a2 e off).trans q
 have lt:3<([head,.ref L,.none,dJ L,.none]++(if pl.isEmpty then a0 6 be else pl)).toArray.size:=by rw [am,ax];simp only [aQ,jD];omega
 generalize ([head,.ref L,.none,dJ L,.none]++(if pl.isEmpty then a0 6 be else pl)).toArray=fs at lt ⊢
 exact eG (ae (tbO fs) q1) rfl (show 1<vs.size by omega) (k _ (Qe a1 a2 a3 q1 hs lt))
end
end L2
namespace L2
open PySem PySem.Spec PyProof.Rows
open Sem (wp)
section
variable {X:Cx} {pins:List (Addr×Obj)} {σ:St} {H:Hp} {s:ag} {a C:Addr} {dx:Option Addr} {h':Heap}
theorem ak1 (I:Inv X pins σ H s) (ea:FlO H a C dx) (L:Sm (frs X.stack) a C dx s.heap h'):Un (frs X.stack) [] H H s.heap h' where
 keep:=fun b o q n hb _=>L.keep b o (fun z=>by rw [z] at n;rcases ea with ea|ea <;> (rw [ea] at n;cases n)) hb q
 slot:=fun b o q n _ _=>L.slot b o (fun z=>by rw [z] at n;rcases ea with ea|ea <;> (rw [ea] at n;cases n)) q
 free:=fun b o _ n _=>n
 there:=fun b o q _=>by
  by_cases hb:b=a
  ·obtain⟨vs',T,oT,ts',h1,_⟩:=L.exc
   exact⟨_,by rw [hb];exact h1⟩
  ·obtain⟨sl,h1⟩:=L.slot b o hb q
   exact⟨_,h1⟩
 tups:=fun _ _ e=>e
 frzs:=fun _ _ _ e=>e
 tbls:=fun b ps e=>⟨#[],by rw [e];simp⟩
theorem ak0 (I:Inv X pins σ H s) (ea:FlO H a C dx) (L:Sm (frs X.stack) a C dx s.heap h'):HOk X.prog X.w H h':=fun b o e=>by
 by_cases hb:b=a
 ·subst hb
  obtain⟨vs',T,oT,ts',h1,h2,_,_,_,_,_,_,hc⟩:=L.exc
  rcases ea with ea|ea
  ·obtain⟨vs,g1,_,g3⟩:=Yu I ea
   rw [ea] at e
   cases e
   exact Yt h1 h2 ((hc vs g1).trans g3)
  ·rw [ea] at e
   cases e
   exact Yq h1 h2
 ·refine (I.hok b o e).stay (fun c u hc q=>L.keep c u ?_ ?_ q) (fun _ q=>q) fun _ _ q=>q
  ·rcases hc with rfl|hc
   ·exact hb
   ·rintro rfl
    rcases ea with ea|ea <;> (rw [ea] at hc;cases hc)
  ·intro hm
   have n:=I.stkFree c hm
   rcases hc with rfl|hc
   ·rw [n] at e;cases e
   ·rw [n] at hc;cases hc
end
end L2
namespace L2
open PySem PySem.Spec PyProof.Rows
open Sem (wp)
section
variable {X:Cx} {pins:List (Addr×Obj)} {σ:St} {H:Hp} {s:ag} {a:Addr} {E:Value->ag->Prop} {Q:Unit->ag->Prop}
noncomputable def FlyT (X:Cx) (pins:List (Addr×Obj)) (H:Hp) (a:Addr) (s:ag) (z:Value):Prop:=
 ∃ (C:Addr) (dx:Option Addr) (vs:Array Value) (T:Addr) (oT:Obj) (ts:Array Value),FlO H a C dx/\s.heap.get? a=some (Am C dx vs)/\vs.size=6/\vs[1]? = some (.ref T)/\T≠a/\s.heap.get? T=some oT/\oT.data=.fields ts/\ts[3]? = some z/\Cy X pins H T
theorem FlyT.at {z:Value} (F:FlyT X pins H a s z):E4 X pins H a s:=by
 obtain⟨C,dx,vs,T,oT,ts,h1,h2,h3,q1,q2,q3,q4,q5,q6⟩:=F
 exact⟨C,dx,vs,h1,h2,h3,.inr ⟨T,oT,ts,q1,q2,q3,q4,⟨z,q5⟩,q6⟩⟩
theorem bt6 {C T:Addr} {dx:Option Addr} {vs ts:Array Value} {oT:Obj} {y:Value} (I:Inv X pins σ H s) (h1:FlO H a C dx) (h2:s.heap.get? a=some (Am C dx vs)) (h3:vs.size=6) (q1:vs[1]? = some (.ref T)) (q2:T≠a) (q3:s.heap.get? T=some oT) (q4:oT.data=.fields ts) (q5:ts[3]? = some y) (q6:Cy X pins H T) (v:Value) :
  Inv X pins σ H { s with heap:=s.heap.update T (bS (·.setIfInBounds 3 v)) }/\FlyT X pins H a { s with heap:=s.heap.update T (bS (·.setIfInBounds 3 v)) } v/\(s.heap.update T (bS (·.setIfInBounds 3 v))).get? a=some (Am C dx vs):=by
 have ha:(s.heap.update T (bS (·.setIfInBounds 3 v))).get? a=some (Am C dx vs):=(aG _ _ q2).trans h2
 obtain⟨c0,d0,dt0,sl0⟩:=oT
 cases (show dt0=.fields ts from q4)
 have hT:(s.heap.update T (bS (·.setIfInBounds 3 v))).get? T=some ⟨c0,d0,.fields (ts.setIfInBounds 3 v),sl0⟩:=aL _ q3 (dj (vs:=ts.setIfInBounds 3 v) rfl)
 exact⟨I.turned (t':=s.toks) (fun b o ne e=>(aG _ _ (cx ne)).trans e) q6.1 q6.2.1 q6.2.2.2.1 q6.2.2.2.2.1 q6.2.2.2.2.2,⟨C,dx,vs,T,_,_,h1,ha,h3,q1,q2,hT,rfl,eM (Array.getElem?_eq_some_iff.mp q5).1,q6⟩,ha⟩
theorem Tz {A:aX} {fr:Option Addr} {z:Value} (I:Inv X pins σ H s) (F:FlyT X pins H a s z) (h:∀ s',Inv X pins σ H s'->FlyT X pins H a s' (fr.elim .none fun f=>dJ f)->Q () s'):ay (model X.prog X.w) A (jT (.ref a) fr) Q E s:=by
 obtain⟨C,dx,vs,T,oT,ts,h1,h2,h3,q1,q2,q3,q4,q5,q6⟩:=F
 obtain⟨I',F',_⟩:=bt6 I h1 h2 h3 q1 q2 q3 q4 q5 q6 (fr.elim .none fun f=>dJ f)
 unfold jT
 refine ac (aZ h2 rfl q1 ?_)
 rw [if_pos (by simp)]
 exact eG q3 q4 (Array.getElem?_eq_some_iff.mp q5).1 (h _ I' F')
theorem Zw {env:Env} (I:Inv X pins σ H s) {e0:Env} {o0:List Env} {L:Addr} (hs:X.stack=e0::o0) (h0:e0.frame=some L) (hf:env.frame=some L) (F:E4 X pins H a s) (h:∀ s' z,Inv X pins σ H s'->FlyT X pins H a s' z->Q () s') :
  ay (model X.prog X.w) X.A (kW (.ref a) env) Q E s:=by
 obtain⟨C,dx,vs,h1,h2,h3,h4⟩:=F
 have fr:X.A.frames=some (e0::o0):=hs▸I.ok.frames
 have new:∀ {s1:ag} {head:Value} {hadNext:Bool},Inv X pins σ H s1->s1.heap.get? a=some (Am C dx vs)->ay (model X.prog X.w) X.A ((mk env >>= fun y=>entryPlaceOf L hadNext >>= fun pl=>gK head y .none (dJ L) .none pl >>= fun b=>i9 (.ref a) 1 b)) Q E s1:=fun {s1 head hadNext} I1 q=>by
  have fn:s1.heap.FunFrames X.base (e0::o0):=hs▸I1.stack
  refine Vz (base:=X.base) fr fn h0 hf q h3 fun h' L=>?_
  rw [<- hs] at L
  have I':=I1.call (h':=h') (g':=s1.gens) (t':=s1.toks) (d':=s1.drawn) (ch:=[]) (ak1 I1 h1 L) (ak0 I1 h1 L) I1.bare (fun b z=>absurd z (by simp))
  obtain⟨vs',T,oT,ts',a1,a2,a3,a4,a5,a6,a7,a8,_⟩:=L.exc
  exact h _ _ I' ⟨C,dx,vs',T,oT,ts',h1,a1,a2,a3,a5,a6,a7,ie a8,I1.fpOk a4 (I1.hok.fresh a4)⟩
 unfold kW
 simp only [hf]
 rcases h4 with c|⟨T,oT,ts,c,ne,hT,hd,⟨z,hz⟩,fp⟩
 ·refine ac (aZ h2 rfl c ?_)
  rw [if_neg (by decide)]
  exact new I h2
 ·refine ac (aZ h2 rfl c ?_)
  rw [if_pos (by simp)]
  refine ac (aZ hT hd hz ?_)
  by_cases e:(z==dJ L)=true
  ·rw [if_pos e]
   exact ai (h s z I ⟨C,dx,vs,T,oT,ts,h1,h2,h3,c,ne,hT,hd,hz,fp⟩)
  ·rw [if_neg e]
   obtain⟨I',_,ha⟩:=bt6 I h1 h2 h3 c ne hT hd hz fp .none
   exact ac (eG hT hd (Array.getElem?_eq_some_iff.mp hz).1 (new I' ha))
theorem al0 (I:Inv X pins σ H s) (hs:X.stack=X.env::X.outer) (hf:X.env.frame=some X.env.locals) (F:E4 X pins H a s) (h:∀ s',Inv X pins σ H s'->FlyT X pins H a s' .none->Q () s') :
  ay (model X.prog X.w) X.A (kW (.ref a) X.env) (fun _ s1=>ay (model X.prog X.w) X.A (jT (.ref a) none) Q E s1) E s:=
 Zw I hs hf hf F fun s1 z I1 F1=>Tz I1 F1 h
theorem Gd {A:aX} (I:Inv X pins σ H s) (F:E4 X pins H a s) (h:∀ s',Inv X pins σ H s'->E4 X pins H a s'->Q () s'):ay (model X.prog X.w) A (jT (.ref a) none) Q E s:=by
 obtain⟨C,dx,vs,h1,h2,h3,h4⟩:=F
 rcases h4 with h4|⟨T,oT,ts,q1,q2,q3,q4,⟨z,q5⟩,q6⟩
 ·unfold jT
  refine ac (aZ h2 rfl h4 ?_)
  rw [if_neg (by decide)]
  exact ai (h s I ⟨C,dx,vs,h1,h2,h3,.inl h4⟩)
 ·exact Tz I ⟨C,dx,vs,T,oT,ts,h1,h2,h3,q1,q2,q3,q4,q5,q6⟩ fun s' I' F'=>h s' I' F'.at
end
section
variable {prog:aO} {w:bM} {A:aX} {E:Value->ag->Prop} {s:ag} {K:aa} {a C D:Addr} {dx:Option Addr} {vs:Array Value} {b:Bool} {Q:Bool->ag->Prop}
open PySem.W in
theorem Iw (X:K.In s.heap) (c:ECls K C) (d:ECls K D) (ha:s.heap.get? a=some (Am C dx vs)) (m:mroIn K C (.ref D)=some b) (h:Q b s) :
  ay (model prog w) A (excMatches (.ref a) (.ref D)) Q E s:=by
 obtain⟨nm,qn,N,bs,bm,hdct,sn,sub,ab,col,dd,k0,k1,k2,k3,k5,hl,ht,hd⟩:=c.obj
 obtain⟨nm',qn',N',bs',bm',hdct',sn',sub',ab',col',dd',k0',k1',k2',k3',k5',hl',ht',hd'⟩:=d.obj
 have hC:=X _ _ hl
 have hD:=X _ _ hl'
 have hcB:(aH D::bm').contains (.type "BaseException")=true:=by rw [b7,Bg ht' (show valTail.contains (.type "BaseException")=true by decide +kernel),fC]
 have hcD:(aH C::bm).contains (.ref D)=b:=by
  unfold mroIn at m
  obtain⟨cd,e,em⟩:∃ cd,clsIn K C=some cd/\cd.mro=.ref C::bm:=⟨_,by unfold clsIn;rw [hl],rfl⟩
  rw [e,dP,em] at m
  exact aK m
 have f:=tc_notTuple
 obtain⟨hp,g,dr,tk,os⟩:=s
 unfold excMatches
 repeat (first|with_reducible refine bo ha ?_|with_reducible refine bo hD ?_|(with_reducible refine ce hD ?_;rw [hcB])|(with_reducible refine ce hC ?_;rw [hcD])|wp_step)
 cases b <;> (wp_walk;exact h)
end
end L2
namespace L2
open PySem PySem.Spec PyProof.Rows
section
variable {X:Cx} {G:Sg} {elt tg iter:Expr} {ifs:List Expr} {sc:Scope} {wi:DI} {g:DG} {tc:DT} {de:DE} {pos:Pos}
theorem bh1 {pins pins':List (Addr×Obj)} {σ:St} {H2 H':Hp} {s2:ag} {N':List Str} {cl:List (Str×Addr)} {fp:List Addr} {C T:Addr} {xe:Value->ag->Prop} (I2:Inv X pins σ H2 s2) (f2:∀ b∈fp,Cy X pins H2 b)
  (F:Cy (X.comp N' sc cl fp C s2 H2 xe) pins' H' T):Cy X pins H' T:=by
 obtain⟨r1,r2,r3,r4,r5,r6⟩:=F
 rcases r4 with r4|r4
 ·exact⟨r1,(f2 T r4).2⟩
 ·exact I2.fpOk r4 r1
theorem Ix {Ex:St->EK} (m:Meets X Ex) (fr:FrH X) {pins:List (Addr×Obj)} {σ:St} {H2:Hp} {s2:ag} {N':List Str} {cl:List (Str×Addr)} {fp:List Addr} {C D:Addr} {us:Option (Value->Sem Unit)} {Q2:Value->ag->Prop} (I2:Inv X pins σ H2 s2) (f2:∀ b∈fp,Cy X pins H2 b)
  (hC:s2.heap.objs.size<=C):Meets (X.comp N' sc cl fp C s2 H2 (Bb X sc cl us Q2 D C)) (fun _ a H'=>Ex σ a H'):=by
 intro pins' σ' H' s' a I' F' hE
 obtain⟨e0,o0,L,f1,f3,f4⟩:=fr
 refine Zw (X:=X.comp N' sc cl fp C s2 H2 (Bb X sc cl us Q2 D C)) (env:=mj sc cl C X.env) I' f1 f3 f4 F' fun s3 z I3 F3=>?_
 obtain⟨mm,hn,_⟩:=id I3.loc
 refine⟨mm,hn,fun h' sb cenv hce=>?_⟩
 have I4:Inv X pins σ H' s3:=I2.call' (ch:=fp) I3.os I3.base I3.hok I3.bare fun b hb=>⟨(f2 b hb).2.2.2.1,(f2 b hb).2.1,(f2 b hb).2.2.2.2.1,(f2 b hb).2.2.2.2.2⟩
 have fo:=I2.fpOk hC I3.free
 obtain⟨g0,g1,g2,g3,g4,g5⟩:=id fo
 have I5:Inv X pins σ H' { s3 with heap:=h' }:=I4.turned (t':=s3.toks) (fun b o hb e=>(sb.2 b hb).trans e) g0 g1 g3 g4 g5
 obtain⟨C0,dx,vs,T,oT,ts,h1,h2,h3,q1,q2,q3,q4,q5,q6⟩:=F3
 have na:a≠C:=fun z=>by rcases h1 with h1|h1 <;> (rw [z,g0] at h1;cases h1)
 have nT:T≠C:=q6.2.1
 have F5:FlyT X pins H' a { s3 with heap:=h' } z:=⟨C0,dx,vs,T,oT,ts,h1,(sb.2 a na).trans h2,h3,q1,q2,(sb.2 T nT).trans q3,q4,q5,bh1 I2 f2 q6⟩
 unfold PySem.passOn
 refine ac (aZ (s:={ s3 with heap:=h' }) ((sb.2 a na).trans h2) rfl q1 ?_)
 rw [if_neg (by simp)]
 refine ac (Tz I5 F5 fun s6 I6 F6=>?_)
 exact kF (m pins σ H' s6 a I6 F6.at hE)
noncomputable def ah4 (X:Cx) (ifs:List Expr) (t:DT):Prop:=∀ Ex,Meets X Ex->Uq X ifs (fun σ H Q=>t σ H Q (Ex σ))
theorem Oz:ah4 X [] Df:=fun _ _=>Z6
theorem O0 {c:Expr} {t:DT} (h:QT X c t):ah4 X [c] t:=fun Ex m=>Z7 (h Ex m)
theorem To (O:GOk X G) (hc:X.calm=true) (hk:Eb G sc=true) (hs:Iz iter=true) (hi:QI X tg iter wi) (hg:∀ X',GOk X' (Cg G sc.names)->PG X' tg g) (ht:∀ X',GOk X' (Cg G sc.names)->ah4 X' ifs tc) (he:∀ X',GOk X' (Cg G sc.names)->QE X' elt de) :
  QE X (.ListComp elt [⟨tg,iter,ifs,0⟩] sc pos) (Ch (Et G sc.names) wi g tc de):=by
 intro Ex m pins s σ H Q I h
 exact X7 hc (L6 O hk) (hi Ex m) (fun Q2 fp C D s2 H2 I2 f2 hC=>
  have M:=Ix (N':=(Cg G sc.names).N) (cl:=Cf X.env.cells sc.names []) (us:=none) (Q2:=Q2) (D:=D) m O.fr I2 f2 hC
  have K:=Sw O hk fp C s2 H2 (Bb X sc (Cf X.env.cells sc.names []) none Q2 D C)
  ⟨hg _ K,ht _ K _ M,he _ K _ M⟩) I h (fun x=>Ja hs X.env x)
end
noncomputable def Su (K:aa) (op:BoolOp):List DE->DE
 | []=>dNo
 | [a]=>a
 | a::r=>match op with
  | .And=>Gz K a (Su K op r)
  | .Or=>bg7 K a (Su K op r)
noncomputable def Ss (op:BoolOp):List DT->DT
 | []=>fun _ _ _ _=>False
 | [a]=>a
 | a::r=>match op with
  | .And=>Hw a (Ss op r)
  | .Or=>dOr a (Ss op r)
noncomputable def Ce:List DE->DA
 | []=>Ag
 | a::r=>Aa a (Ce r)
noncomputable def tNo:DT:=fun _ _ _ _=>False
noncomputable def Ws (G:Sg) (ops:List l_) (bs:List Expr) (a:DE) (ds:List DE):DE:=match ops,bs,ds with
 | [op],[b],[d]=>if i5 op b=false then Af (Ki G.K op) a d else dNo
 | [op,op'],[b,c],[d,d']=>if lastMarks [op,op'] [b,c]=false then Dw (Ki G.K op) (Ki G.K op') a d d' else dNo
 | _,_,_=>dNo
noncomputable def af8 (G:Sg) (x:Str) (es:List Expr) (ds:List DE):DE:=
 if Gf G x=true/\(B4 G.N x 0)=none/\es.all noStar=true then (match G.gb.lookup x with
  | some (.fn i)=>if es.length<=i.ps.length/\i.ps.length<=es.length+i.dfs.length then dFn (spE i.sp (i.dfs.drop (es.length+i.dfs.length - i.ps.length))) (Ce ds) else dNo
  | some (.exc C oi)=>(match oi with
   | none=>if es.isEmpty=true then dFn (mkX C none 0) (Ce ds) else dFn (fun vs H Q E=>vs.length<=1000/\mkX C none 0 vs H Q E) (Ce ds)
   | some i=>if es.length+1<=i.ps.length/\i.ps.length<=es.length+1+i.dfs.length then (if es.isEmpty=true then dFn (mkX C (some i) (es.length+1+i.dfs.length - i.ps.length)) (Ce ds)
    else dFn (fun vs H Q E=>vs.length<=1000/\mkX C (some i) (es.length+1+i.dfs.length - i.ps.length) vs H Q E) (Ce ds)) else dNo)
  | some (.cls C oi)=>(match oi with
   | none=>if es.isEmpty=true then dFn (mkC C none 0) (Ce ds) else dNo
   | some i=>if es.length+1<=i.ps.length/\i.ps.length<=es.length+1+i.dfs.length then dFn (mkC C (some i) (es.length+1+i.dfs.length - i.ps.length)) (Ce ds) else dNo)
  | some _=>dNo
  | none=>if G.bl.contains x=true then (match a05 G.K G.calm x with
   | some (_,r)=>if es.isEmpty=true then dNo else dFn (fun vs H Q _=>r vs H Q) (Ce ds)
   | none=>dNo) else dNo) else dNo
noncomputable def ag0 (G:Sg) (o:Expr) (m:Str) (es:List Expr) (ap cp:Pos) (d:DE) (ds:List DE):DE:=
 if Cn o=true/\es.all noStar=true/\es.length<30/\(ap.endLine==cp.line)=true then (match Bj G.gb m with
  | none=>dMt (rMt G.K (mtR G.K m)) d (Ce ds)
  | some l=>De m es.length l d (Ce ds)) else dNo
inductive Fz where
 | lenSet (a:Expr)|listItems (o:Expr)|revList (a:Expr)|rngList (a:Expr)|zipList (a b:Expr)
noncomputable def fzD (K:aa) (w:Expr->DE):Fz->DE
 | .lenSet a=>dUn (Mw K) (w a)
 | .listItems o=>dUn (Jf K) (w o)
 | .revList a=>dUn (O1 K) (w a)
 | .rngList a=>dUn O2 (w a)
 | .zipList a b=>dFn (fun vs H Q _=>Fr vs H Q) (Ce ([a,b].map w))
noncomputable def Il (G:Sg) (x:Str):Bool:=Gf G x&&(G.gb.lookup x).isNone&&G.bl.contains x
noncomputable def P6 (G:Sg) (x:Str) (es:List Expr):Option Fz:=match es with
 | [.Call (.Name y _) [a] [] _]=>if x = "len" /\ y = "set" /\ Il G x=true/\Il G y=true/\noStar a=true/\G.calm=true then some (.lenSet a)
  else if x = "list" /\ y = "reversed" /\ Il G x=true/\Il G y=true/\noStar a=true/\G.calm=true then some (.revList a)
  else if x = "list" /\ y = "range" /\ Il G x=true/\Il G y=true/\noStar a=true/\G.calm=true then some (.rngList a) else none
 | [.Call (.Name y _) [a,b] [] _]=>if x = "list" /\ y = "zip" /\ Il G x=true/\Il G y=true/\[a,b].all noStar=true/\G.calm=true then some (.zipList a b) else none
 | [.Call (.Attribute o m ap) [] [] cp]=>if x = "list" /\ m = "items" /\ Il G x=true/\Cn o=true/\(ap.endLine==cp.line)=true/\G.calm=true then some (.listItems o) else none
 | _=>none
mutual
noncomputable def wE:Nat->Sg->Expr->DE
 | 0,_,_=>dNo
 | n+1,G,e=>match e with
  | .Constant c _ _=>af9 c
  | .Name x _=>ag1 G x
  | .BinOp a op b _=>Af (rOp G.K op) (wE n G a) (wE n G b)
  | .UnaryOp .USub a _=>dUn Cc (wE n G a)
  | .UnaryOp .Not a _=>ar9 G.K (wE n G a)
  | .UnaryOp .Invert a _=>dUn ac4 (wE n G a)
  | .BoolOp op es _=>Su G.K op (es.map (wE n G))
  | .Compare a ops bs _=>Ws G ops bs (wE n G a) (bs.map (wE n G))
  | .IfExp t a b _=>ai0 (wT n G t) (wE n G a) (wE n G b)
  | .List es _=>if es.all noStar=true then Bq (Ce (es.map (wE n G))) else dNo
  | .Tuple es _ _=>if es.all noStar=true then Az (Ce (es.map (wE n G))) else dNo
  | .Subscript a (.Slice lo hi none _) _=>dSl G.K (wE n G a) (match lo with|none=>Dy|some l=>Ec (wE n G l)) (match hi with|none=>Dy|some h=>Ec (wE n G h))
  | .Subscript a b _=>if Fp b=true then Af (A2 G.K) (wE n G a) (wE n G b) else dNo
  | .Attribute o f _=>if Cn o=true then dUn (ac2 G.K f) (wE n G o) else dNo
  | .JoinedStr es _=>aw9 (wE n G) es
  | .FormattedValue a (-1) none _=>dUn bn7 (wE n G a)
  | .Call (.Name x _) es [] _=>match P6 G x es with
   | some z=>fzD G.K (wE n G) z
   | none=>af8 G x es (es.map (wE n G))
  | .Dict ks vs _=>if ks.isEmpty=true/\vs.isEmpty=true then N4 else if (ks.all (·.isSome))=true/\ks.length=vs.length/\ks.length<=15/\ks.isEmpty=false then ar8 (((ks.filterMap id).zip vs).map fun p=>(wE n G p.1,wE n G p.2)) else dNo
  | .Call (.Attribute o m ap) es [] cp=>ag0 G o m es ap cp (wE n G o) (es.map (wE n G))
  | .ListComp elt [⟨tg,iter,ifs,0⟩] sc _=>if G.calm=true/\Eb G sc=true/\Iz iter=true then
    Ch (Et G sc.names) (wI n G tg iter) (wG n (Cg G sc.names) tg) (match ifs with | []=>Df | [c]=>wT n (Cg G sc.names) c|_=>tNo) (wE n (Cg G sc.names) elt) else dNo
  | _=>dNo
noncomputable def wT:Nat->Sg->Expr->DT
 | 0,_,_=>tNo
 | n+1,G,e=>match e with
  | .UnaryOp .Not a _=>Hx (wT n G a)
  | .BoolOp op es _=>Ss op (es.map (wT n G))
  | .Compare a ops bs _=>Ar (Ws G ops bs (wE n G a) (bs.map (wE n G)))
  | .IfExp _ _ _ _=>tNo
  | e=>Fh G.K (wE n G e)
noncomputable def wI:Nat->Sg->Expr->Expr->DI
 | 0,_,_,_=>iNo
 | n+1,G,tg,e=>match e with
  | .Call (.Name x _) (a::es) [] _=>
   if x = "range" /\ Gf G x=true/\G.gb.lookup x=none/\G.bl.contains x=true/\(a::es).all noStar=true then Ke (Ce ((a::es).map (wE n G)))
   else if x = "zip" /\ Gf G x=true/\G.gb.lookup x=none/\G.bl.contains x=true/\(a::es).all noStar=true then (match tg with
    | .Tuple _ _ _=>iZp G.K (Ce ((a::es).map (wE n G)))
    | _=>iNo)
   else if x = "enumerate" /\ Gf G x=true/\G.gb.lookup x=none/\G.bl.contains x=true/\(a::es).all noStar=true then (match tg with
    | .Tuple _ _ _=>iEn G.K (Ce ((a::es).map (wE n G)))
    | _=>iNo)
   else Cp G.K (wE n G e)
  | e=>Cp G.K (wE n G e)
end
theorem au5 {X:Cx} {e:Expr}:QT X e tNo:=fun _ _ _ _ _ _ _ _ h=>h.elim
theorem Bn {X:Cx} {w:Expr->DE} (h:∀ e,QE X e (w e)):∀ {es:List Expr},es.all noStar=true->QA X es (Ce (es.map w))
 | [],_=>aa6
 | e::es,hs=>by
  rw [bw,ak] at hs
  exact Tn (h e) (Bn h hs.2) hs.1
theorem Mq {X:Cx} {w:Expr->DE} {op:BoolOp} {pos:Pos} (h:∀ e,QE X e (w e)):∀ {es:List Expr},QE X (.BoolOp op es pos) (Su X.K op (es.map w))
 | []=>Ba
 | [e]=>a83 (h e)
 | e::e'::es=>by
  cases op with
  | And=>exact a72 (h e) (Mq h)
  | Or=>exact bn2 (h e) (Mq h)
theorem Ms {X:Cx} {w:Expr->DT} {op:BoolOp} {pos:Pos} (h:∀ e,QT X e (w e)):∀ {es:List Expr},QW X (.BoolOp op es pos) (Ss op (es.map w))
 | []=>fun _ _ _ _ _ _ _ _ _ h=>h.elim
 | [e]=>by
  cases op with
  | And=>exact ap1 (h e)
  | Or=>exact ba1 (h e)
 | e::e'::es=>by
  cases op with
  | And=>exact ba0 (h e) (Ms h)
  | Or=>exact bn4 (h e) (Ms h)
section
variable {X:Cx} {G:Sg}
theorem an8 (O:GOk X G) {w:Expr->DE} (h:∀ e,QE X e (w e)) (a:Expr) (ops:List l_) (bs:List Expr) (pos:Pos):QE X (.Compare a ops bs pos) (Ws G ops bs (w a) (bs.map w)):=by
 unfold Ws
 rw [<- O.K]
 split
 ·rename_i op b d e
  have:d=w b:=by simpa using e.symm
  subst this
  split
  ·exact a75 O.units op (h a) (h b) ‹_›
  ·exact Ba
 ·rename_i op op' b c d d' e
  have:w b=d/\w c=d':=by simpa using e
  obtain⟨rfl,rfl⟩:=this
  split
  ·exact aa9 O.units op op' (h a) (h b) (h c) ‹_›
  ·exact Ba
 ·exact Ba
theorem ap0 (O:GOk X G) {w:Expr->DE} (h:∀ e,QE X e (w e)) (a:Expr) (ops:List l_) (bs:List Expr) (pos:Pos):QT X (.Compare a ops bs pos) (Ar (Ws G ops bs (w a) (bs.map w))):=by
 unfold Ws
 rw [<- O.K]
 split
 ·rename_i op b d e
  have:d=w b:=by simpa using e.symm
  subst this
  split
  ·exact a97 O.units op (h a) (h b) ‹_›
  ·exact fun _ _ _ _ _ _ _ _ h=>h.elim
 ·rename_i op op' b c d d' e
  have:w b=d/\w c=d':=by simpa using e
  obtain⟨rfl,rfl⟩:=this
  split
  ·exact ab8 O.units op op' (h a) (h b) (h c) ‹_›
  ·exact fun _ _ _ _ _ _ _ _ h=>h.elim
 ·exact fun _ _ _ _ _ _ _ _ h=>h.elim
theorem aa8 (O:GOk X G) {w:Expr->DE} (h:∀ e,QE X e (w e)) (x:Str) (es:List Expr) (p pos:Pos):QE X (.Call (.Name x p) es [] pos) (af8 G x es (es.map w)):=by
 unfold af8
 split
 ·rename_i hh
  obtain⟨hg,_,hs⟩:=hh
  have dd:=Io hg
  split
  ·rename_i i e
   obtain⟨hm,F⟩:=O.fn x i e
   split
   ·rename_i hl
    cases es with
    | nil=>exact aa7 F (by have:=hl.1;omega) (O.gl hg) hm dd.1
    | cons e es=>exact an7 F (by have:=hl.1;omega) (O.gl hg) hm (Bn h hs) hs dd.1
   ·exact Ba
  ·rename_i C oi e
   obtain⟨hm,kp,c,hi⟩:=O.exc x C oi e
   split
   ·cases es with
    | nil=>exact Tq (j:=0) c hi (fun i z=>nomatch z) kp (O.gl hg) hm dd.1
    | cons e es=>exact Qs (j:=0) c hi (fun i z=>nomatch z) kp (O.gl hg) hm (Bn h hs) hs dd.1
   ·rename_i i
    split
    ·rename_i hl
     cases es with
     | nil=>exact Tq c hi (fun i z=>by cases z;have:=hl.1;omega) kp (O.gl hg) hm dd.1
     | cons e es=>exact Qs c hi (fun i z=>by cases z;have:=hl.1;omega) kp (O.gl hg) hm (Bn h hs) hs dd.1
    ·exact Ba
  ·rename_i C oi e
   obtain⟨hm,kp,hi⟩:=O.cls x C oi e
   split
   ·cases es with
    | nil=>exact Tp (j:=0) hi (fun i z=>nomatch z) kp (O.gl hg) hm dd.1
    | cons e es=>exact Ba
   ·rename_i i
    split
    ·rename_i hl
     cases es with
     | nil=>exact Tp hi (fun i z=>by cases z;have:=hl.1;omega) kp (O.gl hg) hm dd.1
     | cons e es=>exact a79 hi (fun i z=>by cases z;have:=hl.1;omega) kp (O.gl hg) hm (Bn h hs) hs dd.1
    ·exact Ba
  ·exact Ba
  ·rename_i e
   split
   ·rename_i hb
    split
    ·rename_i f r er
     split
     ·exact Ba
     ·rename_i hne
      cases es with
      | nil=>exact absurd rfl hne
      | cons e es=>
       rw [<- O.K] at er
       obtain⟨b1,b2⟩:=ah7 O.units er O.calm
       exact a74 b2 (O.gl hg) (O.bl x hb) b1 (Bn h hs) hs dd.2.2 dd.1
    ·exact Ba
   ·exact Ba
 ·exact Ba
theorem ab0 (O:GOk X G) {w:Expr->DE} (h:∀ e,QE X e (w e)) (o:Expr) (m:Str) (es:List Expr) (ap cp:Pos):QE X (.Call (.Attribute o m ap) es [] cp) (ag0 G o m es ap cp (w o) (es.map w)):=by
 unfold ag0
 rw [<- O.K]
 split
 ·rename_i hh
  obtain⟨h1,h2,h3,h4⟩:=hh
  split
  ·cases es with
   | nil=>exact a80 (fun b hb=>Zn O.units hb) (h o) h1 h4
   | cons e es=>exact bn1 (fun b hb=>Zn O.units hb) (h o) (Bn h h2) h1 h2 h3 h4
  ·rename_i l e
   cases es with
   | nil=>exact ao4 (O.met m l e) (h o) h1 h4
   | cons e es=>exact a84 (O.met m l ‹_›) (h o) (Bn h h2) h1 h2 h3 h4
 ·exact Ba
end
theorem A4 {X:Cx} {G:Sg} (O:GOk X G) {x:Str} (h:Il G x=true):Gl X x/\X.mg x=none:=by
 unfold Il at h
 rw [ak,ak] at h
 exact⟨O.gl h.1.1,O.bl _ h.2⟩
theorem ao1 {X:Cx} {G:Sg} (O:GOk X G) {w:Expr->DE} (h:∀ e,QE X e (w e)) {x:Str} {es:List Expr} {p pos:Pos} {z:Fz} (e:P6 G x es=some z) :
  QE X (.Call (.Name x p) es [] pos) (fzD G.K w z):=by
 unfold P6 at e
 split at e
 ·split at e
  ·rename_i hh
   obtain⟨rfl,rfl,h1,h2,h3,h4⟩:=hh
   cases e
   rw [<- O.K]
   exact V9 (O.calm▸h4) (A4 O h1).1 (A4 O h1).2 (A4 O h2).1 (A4 O h2).2 (h _) h3
  ·split at e
   ·rename_i hh
    obtain⟨rfl,rfl,h1,h2,h3,h4⟩:=hh
    cases e
    rw [<- O.K]
    exact Qt (O.calm▸h4) (A4 O h1).1 (A4 O h1).2 (A4 O h2).1 (A4 O h2).2 (h _) h3
   ·split at e
    ·rename_i hh
     obtain⟨rfl,rfl,h1,h2,h3,h4⟩:=hh
     cases e
     exact Qu (O.calm▸h4) (A4 O h1).1 (A4 O h1).2 (A4 O h2).1 (A4 O h2).2 (h _) h3
    ·cases e
 ·split at e
  ·rename_i hh
   obtain⟨rfl,rfl,h1,h2,h3,h4⟩:=hh
   cases e
   exact Qv (O.calm▸h4) (A4 O h1).1 (A4 O h1).2 (A4 O h2).1 (A4 O h2).2 (Bn h h3) h3
  ·cases e
 ·split at e
  ·rename_i hh
   obtain⟨rfl,rfl,h1,h2,h3,h4⟩:=hh
   cases e
   rw [<- O.K]
   exact Mr (O.calm▸h4) (A4 O h1).1 (A4 O h1).2 (h _) h2 h3
  ·cases e
 ·cases e
theorem Ny {α:Type}:∀ {ks:List (Option α)},ks.all (·.isSome)=true->(ks.filterMap id).map some=ks
 | [],_=>rfl
 | none::_,h=>by simp at h
 | some k::ks,h=>by
  rw [bw,ak] at h
  show some k::(ks.filterMap id).map some=_
  rw [Ny h.2]
theorem bf7:∀ (n:Nat) (X:Cx) (G:Sg),GOk X G->(∀ e,QE X e (wE n G e))/\(∀ e,QT X e (wT n G e))/\(∀ tg e,QI X tg e (wI n G tg e)):=by
 intro n
 induction n with
 | zero=>
  intro X G O
  refine⟨fun e=>?_,fun e=>?_,fun tg e=>?_⟩
  ·unfold wE;exact Ba
  ·unfold wT;exact au5
  ·unfold wI;exact ab2
 | succ n ih=>
  intro X G O
  obtain⟨hE,hT,hI⟩:=ih X G O
  have hv:∀ tg e,QI X tg e (Cp G.K (wE n G e)):=fun tg e=>by rw [<- O.K];exact a87 (hE e)
  refine⟨fun e=>?_,fun e=>?_,fun tg e=>?_⟩
  ·unfold wE
   split
   ·exact Oy _ _ _
   ·exact ao3 O _ _
   ·rw [<- O.K];exact a73 _ (hE _) (hE _)
   ·exact a81 (hE _)
   ·rw [<- O.K];exact a82 (hE _)
   ·exact a77 (hE _)
   ·rw [<- O.K];exact Mq hE
   ·exact an8 O hE _ _ _ _
   ·exact bm9 (hT _) (hE _) (hE _)
   ·split
    ·exact a78 (Bn hE ‹_›)
    ·exact Ba
   ·split
    ·exact a85 (Bn hE ‹_›)
    ·exact Ba
   ·rw [<- O.K]
    refine ab1 (hE _) ?_ ?_
    ·split
     ·exact Tr
     ·exact Tt (hE _)
    ·split
     ·exact Tr
     ·exact Tt (hE _)
   ·split
    ·rw [<- O.K];exact bn0 O.units (hE _) (hE _) ‹_›
    ·exact Ba
   ·split
    ·rw [<- O.K];exact an6 (hE _) (C7 ‹_› _ X.env _)
    ·exact Ba
   ·exact ao2 hE _
   ·exact a76 (hE _)
   ·split
    ·exact ao1 O hE ‹_›
    ·exact aa8 O hE _ _ _ _
   ·rename_i ks vs p0
    split
    ·rename_i hh
     have e1:ks=[]:=by simpa using hh.1
     have e2:vs=[]:=by simpa using hh.2
     subst e1 e2
     exact ao0
    ·split
     ·rename_i hh
      obtain⟨h1,h2,h3,h4⟩:=hh
      have e:=Ny h1
      have hl:(ks.filterMap id).length=ks.length:=by rw [<- al (f:=some),e]
      have q:=an9 (X:=X) (pos:=p0) hE (ks:=ks.filterMap id) (vs:=vs) (by rw [hl];exact h2) (fun z=>by rw [z] at e;rw [<- e] at h4;simp at h4) (by rw [hl];exact h3)
      rw [e] at q
      exact q
     ·exact Ba
   ·exact ab0 O hE _ _ _ _ _
   ·split
    ·rename_i hh
     obtain⟨h1,h2,h3⟩:=hh
     refine To O (O.calm▸h1) h2 h3 (hI _ _) (fun X' O'=>Pj n X' _ O' _) (fun X' O'=>?_) (fun X' O'=>(ih X' _ O').1 _)
     split
     ·exact Oz
     ·exact O0 ((ih X' _ O').2.1 _)
     ·exact fun _ _ _ _ _ _ _ _ h=>h.elim
    ·exact Ba
   ·exact Ba
  ·unfold wT
   split
   ·exact a98 (hT _)
   ·exact fun Ex m=>PW.pt (Ms hT Ex m)
   ·exact ap0 O hE _ _ _ _
   ·exact au5
   ·rename_i h1 h2 h3 h4
    rw [<- O.K]
    refine a99 (hE _) ?_
    cases e with
    | UnaryOp op a p=>cases op <;> first|rfl|exact absurd rfl (h1 _ _)
    | BoolOp op es p=>exact absurd rfl (h2 _ _ _)
    | Compare a b c p=>exact absurd rfl (h3 _ _ _ _)
    | IfExp a b c p=>exact absurd rfl (h4 _ _ _ _)
    | _=>rfl
  ·unfold wI
   split
   ·split
    ·rename_i hh
     obtain⟨rfl,h1,_,h2,h3⟩:=hh
     exact ab3 (O.gl h1) (O.bl _ h2) (Bn hE h3) h3
    ·split
     ·rename_i hh
      obtain⟨rfl,h1,_,h2,h3⟩:=hh
      split
      ·rw [<- O.K];exact a88 (O.gl h1) (O.bl _ h2) (Bn hE h3) h3
      ·exact ab2
     ·split
      ·rename_i hh
       obtain⟨rfl,h1,_,h2,h3⟩:=hh
       split
       ·rw [<- O.K];exact ao5 (O.gl h1) (O.bl _ h2) (Bn hE h3) h3
       ·exact ab2
      ·exact hv _ _
   ·exact hv _ _
noncomputable def Cx.tr (X:Cx) (pn:List (Addr×Obj)) (xe:Value->ag->Prop):Cx:={ X with pn:=pn,xe:=xe }
noncomputable def Cx.hd (X:Cx) (a:Addr):Cx:={ X with A:=X.A.mark (some (.ref a)),calm:=false,xe:=fun _ _=>False }
section
variable {X:Cx} {pins pins':List (Addr×Obj)} {σ:St} {H:Hp} {s:ag} {a C:Addr} {dx:Option Addr} {xe:Value->ag->Prop}
theorem bj4 {pn:List (Addr×Obj)} (o:X.Ok):(X.tr pn xe).Ok:=⟨o.mod,o.kind,o.glob,o.blt,o.above,o.inj,o.has,o.cab,o.hd,o.frames,o.stk,o.exf,o.bs,o.bsz,o.noex,o.exfs,o.funs,o.frf,o.tk⟩
theorem al4 {pn:List (Addr×Obj)} (o:(X.tr pn xe).Ok):X.Ok:=⟨o.mod,o.kind,o.glob,o.blt,o.above,o.inj,o.has,o.cab,o.hd,o.frames,o.stk,o.exf,o.bs,o.bsz,o.noex,o.exfs,o.funs,o.frf,o.tk⟩
theorem a21 (I:Inv X pins σ H s):Inv (X.tr (X.pn++pins) xe) [] σ H s:=
 ⟨bj4 I.ok,I.os,I.bare,I.base,I.loc,I.cell,I.free,I.freeC,fun p hp=>I.pin p (by rw [dG] at hp;exact hp),I.hok,I.len⟩
theorem Eg (I:Inv (X.tr (X.pn++pins) xe) pins' σ H s):Inv X pins σ H s:=
 ⟨al4 I.ok,I.os,I.bare,I.base,I.loc,I.cell,I.free,I.freeC,fun p hp=>I.pin p (fg _ hp),I.hok,I.len⟩
theorem Yw (F:E4 (X.tr (X.pn++pins) xe) pins' H a s):E4 X pins H a s:=by
 obtain⟨C,dx,vs,h1,h2,h3,h4⟩:=F
 refine⟨C,dx,vs,h1,h2,h3,h4.imp id fun⟨T,oT,ts,q1,q2,q3,q4,q5,q6⟩=>⟨T,oT,ts,q1,q2,q3,q4,q5,?_⟩⟩
 obtain⟨r1,r2,r3,r4,r5,r6⟩:=q6
 exact⟨r1,r2,r3,r4,r5,fun p hp=>r6 p (fg _ hp)⟩
theorem aq6 {D:J5} {f:Flow} (h:SP (X.tr (X.pn++pins) xe) pins' D f s):SP X pins D f s:=by
 cases f with
 | next=>obtain⟨σ',H',I,q⟩:=h;exact⟨σ',H',Eg I,q⟩
 | brk=>obtain⟨σ',H',I,q⟩:=h;exact⟨σ',H',Eg I,q⟩
 | cont=>obtain⟨σ',H',I,q⟩:=h;exact⟨σ',H',Eg I,q⟩
 | ret u=>obtain⟨v,σ',H',I,r,q⟩:=h;exact⟨v,σ',H',Eg I,r,q⟩
theorem Ge (I:Inv X pins σ H s):Inv (X.hd a) pins σ H s:=
 ⟨⟨I.ok.mod,I.ok.kind,I.ok.glob,I.ok.blt,I.ok.above,I.ok.inj,I.ok.has,I.ok.cab,(fun z=>by cases z),I.ok.frames,I.ok.stk,I.ok.exf,I.ok.bs,I.ok.bsz,I.ok.noex,I.ok.exfs,I.ok.funs,I.ok.frf,I.ok.tk⟩,I.os,I.bare,I.base,I.loc,I.cell,I.free,I.freeC,I.pin,I.hok,I.len⟩
theorem Dj (o:X.Ok) (I:Inv (X.hd a) pins σ H s):Inv X pins σ H s:=⟨o,I.os,I.bare,I.base,I.loc,I.cell,I.free,I.freeC,I.pin,I.hok,I.len⟩
theorem T9 {D:J5} {f:Flow} (o:X.Ok) (h:SP (X.hd a) pins D f s):SP X pins D f s:=by
 cases f with
 | next=>obtain⟨σ',H',I,q⟩:=h;exact⟨σ',H',Dj o I,q⟩
 | brk=>obtain⟨σ',H',I,q⟩:=h;exact⟨σ',H',Dj o I,q⟩
 | cont=>obtain⟨σ',H',I,q⟩:=h;exact⟨σ',H',Dj o I,q⟩
 | ret u=>obtain⟨v,σ',H',I,r,q⟩:=h;exact⟨v,σ',H',Dj o I,r,q⟩
end
inductive HK where
 | no
 | as (i:Nat)
 | up (T:Addr)
noncomputable def asD (a:Addr) (u:DS):HK->DS
 | .no=>fun D σ H=>u { D with ex:=fun _ _ _=>False } σ H
 | .up T=>fun D σ H=>(∃ C dx,H a=some (flO a C dx)) /\ ∀ b,H b=none->D.ex σ b (upd H b (fcO b T none))
 | .as i=>fun D σ H=>u ⟨fun σ' H'=>D.nx (σ'.set i none) H',D.rt,fun σ' H'=>D.bk (σ'.set i none) H',fun σ' H'=>D.ct (σ'.set i none) H',fun _ _ _=>False⟩ (σ.set i (some (.ref a))) H
noncomputable def Lz (K:aa) (C a:Addr):List (Addr×HK×DS)->Pn->St->Hp->Prop
 | [],_,_,_=>False
 | (T,oi,u)::r,D,σ,H=>∃ b,b8 K C (.ref T)=some b/\(if b=true then asD a u oi D σ H else Lz K C a r D σ H)
noncomputable def bg8 (K:aa) (tb:DS) (us:List (Addr×HK×DS)):DS:=fun D σ H=>tb { D with ex:=fun σ' a H'=>∃ C dx,FlO H' a C dx/\ECls K C/\Lz K C a us D σ' H' } σ H
inductive Ww (X:Cx):Option Str->HK->Prop where
 | no:Ww X none .no
 | as {n:Str} {i:Nat} (hN:X.N.Nodup) (hi:X.N[i]? = some n) (hl:X.env.scope.names.lookup n=some .local):Ww X (some n) (.as i)
inductive Nj (X:Cx):List ExceptHandler->List (Addr×HK×DS)->Prop where
 | nil:Nj X [] []
 | cons {x:Str} {p pos:Pos} {nm:Option Str} {oi:HK} {b:Stmt} {suite:List Stmt} {rest:List ExceptHandler} {T:Addr} {u:DS} {us:List (Addr×HK×DS)} (hg:Gl X x) (hm:X.mg x=some (.ref T)) (hd:(x==("__debug__" : Str))=false) (ec:ECls X.K T) (ha:Ww X nm oi) (hs:∀ a,QSs (X.hd a) (b::suite) u) (r:Nj X rest us) :
   Nj X (.ExceptHandler (some (.Name x p)) nm (b::suite) pos::rest) ((T,oi,u)::us)
 | up {x y z:Str} {p p1 p2 p3 p4 p5 pos:Pos} {k k2:Nat} {rest:List ExceptHandler} {T T':Addr} {u:DS} {us:List (Addr×HK×DS)} (hg:Gl X x) (hm:X.mg x=some (.ref T)) (hd:(x==("__debug__" : Str))=false) (ec:ECls X.K T)
   (hgy:Gl X y) (hmy:X.mg y=some (.ref T')) (hdy:(y==("__debug__" : Str))=false) (ecy:ECls X.K T') (kpy:aU X.K (.ref T')=true) (iny:F7 X T' none) (r:Nj X rest us) :
   Nj X (.ExceptHandler (some (.Name x p)) none [.Raise (some (.Call (.Name y p1) [.Constant (.str z) k p2] [] p3)) (some (.Constant .none k2 p4)) p5] pos::rest) ((T,.up T',u)::us)
theorem Kb:entryFor table "proto.unchain" = some ar.«proto.unchain»:=entryFor_of_fast (by kernel_rfl)
theorem O3 {prog:aO} {w:bM} {A:aX} {E:Value->ag->Prop} {s:ag} {Q:Flow->ag->Prop} {e a:Addr} {oa oe:Obj} {va ve:Array Value} (hh:A.handled=some (.ref a)) (ne:a≠e) (ha:s.heap.get? a=some oa) (hda:oa.data=.fields va) (h2:va[2]? = some .none)
  (he:s.heap.get? e=some oe) (hde:oe.data=.fields ve) (hz:2<ve.size) (h:E (.ref e) { s with heap:=s.heap.update e (bS (·.setIfInBounds 2 (.ref a))) }):ay (model prog w) A (ml (.ref e):Sem Flow) Q E s:=by
 unfold ml
 refine ac (k8 ?_)
 rw [hh]
 have hne:(aH a != aH e)=true:=by simpa using ne
 simp only [hne,if_true]
 refine ac (bb (wpAny_runValue (bY Kb ?_)))
 unfold ar.«proto.unchain»
 refine ac (aZ ha hda h2 ?_)
 rw [if_pos (by rfl)]
 refine ai ?_
 show ay (model prog w) A (i9 (.ref e) 2 (.ref a) >>= fun _=>throw (.ref e)) Q E s
 refine ac (eG he hde hz ?_)
 exact kF h
section
variable {X:Cx} {pins:List (Addr×Obj)}
theorem ad0 {σ:St} {H:Hp} {s1:ag} {a C1 T':Addr} {dx1:Option Addr} {y z:Str} {p1 p2 p3 p4 p5:Pos} {k k2:Nat} {Qf:Flow->ag->Prop} {Ee:Value->ag->Prop} (I1:Inv X pins σ H s1) (ea:H a=some (flO a C1 dx1))
  (hgy:Gl X y) (hmy:X.mg y=some (.ref T')) (hdy:(y==("__debug__" : Str))=false) (ecy:ECls X.K T') (kpy:aU X.K (.ref T')=true) (iny:F7 X T' none)
  (hE:∀ b s',H b=none->Inv X pins σ (upd H b (fcO b T' none)) s'->E4 X pins (upd H b (fcO b T' none)) b s'->Ee (.ref b) s') :
  ay (model X.prog X.w) (X.A.mark (some (.ref a))) (exec (.Raise (some (.Call (.Name y p1) [.Constant (.str z) k p2] [] p3)) (some (.Constant .none k2 p4)) p5) X.env) Qf Ee s1:=by
 have he:QE (X.hd a) (.Call (.Name y p1) [.Constant (.str z) k p2] [] p3) _:=Qs (X:=X.hd a) (oi:=none) (j:=0) (r:=Aa (dC (.str z)) Ag) ecy iny (fun i h=>by cases h) kpy hgy hmy (Tn (Oy (.str z) k p2) aa6 rfl) rfl hdy
 rw [arm_exec_Raise]
 show ay _ _ (do ls p5;lY X.env (some (do let v <- eval (.Call (.Name y p1) [.Constant (.str z) k p2] [] p3) X.env;ls p5;pure v)) (some (do let v <- eval (.Constant .none k2 p4) X.env;ls p5;pure v))) _ _ _
 refine ac (eC ?_)
 unfold lY
 refine ac (ac (cA (he _ Ek pins s1 σ H (fun x H1=>∃ b,x=.ref b/\H b=none/\H1=upd H b (E1 b T' none)) (Ge I1) ⟨by simp,fun b hb=>⟨b,rfl,hb,rfl⟩⟩) (fun v s2 ⟨x,H1,I2,r1,b,e1,hb,e2⟩=>ac (eC (ai ?_))) fun _ _ z=>z.elim))
 subst e1 e2
 cases r1
 have I2:=Dj I1.ok I2
 obtain⟨vs,g1,g2,g3,g4⟩:=Ie I2 Ad
 obtain⟨nm,qn,N,bs,bm,hdct,sn,sub,ab,col,dd,k0,k1,k2',k3,k5,hl,ht,hd⟩:=ecy.obj
 have hC:=I2.kIn _ _ hl
 have hb0:bm.contains (.type "BaseException")=true:=Bg ht (by decide +kernel)
 have hcB:(aH T'::bm).contains (.type "BaseException")=true:=by rw [b7,hb0,fC]
 have nab:a≠b:=fun z=>by rw [z,hb] at ea;cases ea
 obtain⟨va,ga1,ga2,ga3⟩:=Yu I2 (a:=a) (C:=C1) (dx:=dx1) (by rw [Ae nab];exact ea)
 obtain⟨hp,g,d,tk,os⟩:=s2
 repeat (first|with_reducible refine aZ g1 rfl g3 ?_|with_reducible refine bo g1 ?_|with_reducible refine bo hC ?_|(with_reducible refine ce hC ?_;rw [hcB])|wp_step)
 have nTb:T'≠b:=fun z=>by
  rw [z] at hC
  rw [hC] at g1
  have:=congrArg (fun o=>o.map Obj.data) g1
  simp [fB] at this
 have q3:(hp.update b (bS fun x=>x.setIfInBounds 3 be)).get? b=some (Am T' none (vs.setIfInBounds 3 .none)):=aL _ g1 (dj (vs:=vs.setIfInBounds 3 .none) rfl)
 have q4:((hp.update b (bS fun x=>x.setIfInBounds 3 be)).update b (bS fun x=>x.setIfInBounds 4 (eE true))).get? b=some (Am T' none ((vs.setIfInBounds 3 .none).setIfInBounds 4 (.bool true))):=aL _ q3 (dj (vs:=(vs.setIfInBounds 3 .none).setIfInBounds 4 (.bool true)) rfl)
 have keep:∀ c u,c≠b->hp.get? c=some u->((hp.update b (bS fun x=>x.setIfInBounds 3 be)).update b (bS fun x=>x.setIfInBounds 4 (eE true))).get? c=some u:=fun c u ne e=>(aG _ _ ne.symm).trans ((aG _ _ ne.symm).trans e)
 have hC2:=keep _ _ nTb hC
 have ga':=keep _ _ nab ga1
 have w1:((vs.setIfInBounds 3 .none).setIfInBounds 4 (.bool true))[1]? = some be:=by rw [cX (by decide),cX (by decide)];exact g3
 have wz:((vs.setIfInBounds 3 .none).setIfInBounds 4 (.bool true)).size=6:=by rw [d6,d6];exact g2
 generalize ((vs.setIfInBounds 3 .none).setIfInBounds 4 (.bool true))=v2 at q4 w1 wz
 generalize (hp.update b (bS fun x=>x.setIfInBounds 3 be)).update b (bS fun x=>x.setIfInBounds 4 (eE true))=hp2 at q4 keep hC2 ga' ⊢
 repeat (first|with_reducible refine aZ q4 rfl w1 ?_|with_reducible refine bo q4 ?_|with_reducible refine bo hC2 ?_|wp_step)
 have q5:(hp2.update b (bS fun x=>x.setIfInBounds 2 (.ref a))).get? b=some (Am T' none (v2.setIfInBounds 2 (.ref a))):=aL _ q4 (dj (vs:=v2.setIfInBounds 2 (.ref a)) rfl)
 have wz5:(v2.setIfInBounds 2 (.ref a)).size=6:=by rw [d6];exact wz
 have w5:(v2.setIfInBounds 2 (.ref a))[1]? = some be:=by rw [cX (by decide)];exact w1
 refine O3 rfl nab ga' rfl ga3 q4 rfl (by rw [wz];decide) ?_
 have I3:Inv X pins σ (upd H b (fcO b T' none)) { heap:=hp2.update b (bS fun x=>x.setIfInBounds 2 (.ref a)),gens:=g,drawn:=d,toks:=tk,os:=os }:=by
  have:=I2.write (x:=b) (e:=b) (h':=hp2.update b (bS fun x=>x.setIfInBounds 2 (.ref a))) (t':=tk) (o:=fcO b T' none) (by rw [Ad];exact aY) (.inl rfl) (fun c u ne z=>(aG _ _ ne.symm).trans (keep c u ne z)) ⟨_,q5⟩ (Yq q5 wz5)
  rw [Ug] at this
  exact this
 exact hE b _ hb I3 ⟨T',none,_,.inr Ad,q5,wz5,.inl w5⟩
theorem Ey {M:mw} {A:aX} {E:Value->ag->Prop} {σ:St} {H:Hp} {s:ag} {i:Nat} {x:Str} {pos:Pos} {Q:Unit->ag->Prop} (I:Inv X pins σ H s) (hN:X.N.Nodup) (hi:X.N[i]? = some x) (hk:X.env.scope.names.lookup x=some .local)
  (h:∀ s',Inv X pins (σ.set i none) H s'->Q () s'):ay M A (do bindName X.env x .none;unbindBehindTheSuite X.env x pos) Q E s:=by
 obtain⟨m,hn,hl⟩:=id I.loc
 refine wpAny_nameGoes_keeps hk hn (by rw [I.ok.kind];rfl) fun h' v hn' sb=>h _ ?_
 have old:∀ {b o},X.s₀.heap.get? b=some o->h'.get? b=s.heap.get? b:=fun {b o} e=>sb.2 b (aA (av (au e) I.ok.above))
 exact {
  ok:=I.ok
  os:=⟨I.os.1,Nat.le_succ_of_le I.os.2⟩
  bare:=I.bare
  base:={ I.base with
   keep:=fun b o e n hb hx=>by show h'.get? b=_;rw [old e];exact I.base.keep b o e n hb hx
   slot:=fun b o e n hb hx=>by show ∃ sl,h'.get? b=_;rw [old e];exact I.base.slot b o e n hb hx
   there:=fun b o e hx=>by show ∃ o',h'.get? b=_;rw [old e];exact I.base.there b o e hx }
  loc:=⟨_,hn',fun j y w e1 e2 e3=>by
   have hj:j≠i:=fun z=>by
    have lt:i<σ.length:=by rw [I.len];exact (List.getElem?_eq_some_iff.mp hi).1
    rw [z,fW lt] at e2
    cases e2
   rw [gA (cx hj)] at e2
   obtain⟨u,r,q⟩:=hl j y w e1 e2 e3
   have ny:y≠x:=fun z=>hj (Jb hN e1 (z▸hi))
   refine⟨u,r,q.imp (fun⟨k,e⟩=>⟨k,(if_neg ny).trans e⟩) fun⟨k,c,e,z⟩=>⟨k,c,e,z.sameBut sb (I.cne y c e)⟩⟩⟩
  cell:=fun y c e=>let ⟨w,z⟩:=I.cell y c e;⟨w,z.sameBut sb (I.cne y c e)⟩
  free:=I.free
  freeC:=I.freeC
  pin:=fun p hp=>let ⟨e,n,ne,nf,d⟩:=I.pin p hp;⟨(sb.2 p.1 ne).trans e,n,ne,nf,d⟩
  hok:=fun b ob e=>(I.hok b ob e).stay (fun c w hc q=>(sb.2 c (by
   rintro rfl
   have f:=I.free
   rcases hc with rfl|hc
   ·rw [f] at e;cases e
   ·rw [f] at hc;cases hc)).trans q) (fun _ q=>q) fun _ _ q=>q
  len:=by rw [b6];exact I.len }
theorem Vf (hst:X.stack=X.env::X.outer) (hfr:X.env.frame=some X.env.locals) {Ex:St->EK} (mt:Meets X Ex) {D:J5} {hl:List ExceptHandler} {us:List (Addr×HK×DS)} (K:Nj X hl us):∀ {σ:St} {H:Hp} {s:ag} {a C:Addr} {dx:Option Addr},Inv X pins σ H s->E4 X pins H a s->FlO H a C dx->ECls X.K C->Lz X.K C a us (am2 Ex D) σ H ->
  ay (model X.prog X.w) X.A (handleBy (.ref a) X.env hl) (SP X pins D) X.xe s:=by
 induction K with
 | nil=>intro σ H s a C dx I F e ec h;exact h.elim
 | @cons x p pos nm oi b suite rest T u us hg hm hd ecT ha hs r ih=>
  intro σ H s a C dx I F e ec h
  obtain⟨m,hm2,h⟩:=h
  have hx:∃ vs:Array Value,s.heap.get? a=some (Am C dx vs):=by
   obtain⟨vs,z,_⟩:=Tc I (.inr e)
   exact⟨vs,z⟩
  obtain⟨vs,hx⟩:=hx
  refine kE (jR (Cw (X:=X.hd a) (Ge I) hg hm ?_ hd)) (by intro q;cases q)
  refine Iw (A:=(X.hd a).A) I.kIn ec ecT hx hm2 ?_
  cases m with
  | false=>exact ih I F e ec h
  | true=>
   cases ha with
   | no=>
    refine jt (Gd (A:=(X.hd a).A) I F fun s1 I1 F1=>?_)
    exact cA (hs a (fun _ _ _=>False) Ek pins s1 σ H D (Ge I1) h) (fun f s2 q=>T9 I.ok q) fun _ _ z=>z.elim
   | @as n i hN hi hlo=>
    refine codeAny_handlers_suite_as (Gd (A:=(X.hd a).A) I F fun s1 I1 F1=>?_)
    refine Ft (i:=i) (v:=.ref a) I1 hN hi (.inl hlo) rfl (fun s2 I2=>?_) (.inr hlo)
    refine cA (hs a (fun _ _ _=>False) Ek pins s2 (σ.set i (some (.ref a))) H ⟨fun σ' H'=>D.nx (σ'.set i none) H',D.rt,fun σ' H'=>D.bk (σ'.set i none) H',fun σ' H'=>D.ct (σ'.set i none) H'⟩ (Ge I2) h) (fun f s3 q=>?_) fun _ _ z=>z.elim
    have q:=T9 I.ok q
    cases f with
    | next=>obtain⟨σ',H',I',q⟩:=q;exact Ey I' hN hi hlo fun s4 I4=>⟨_,H',I4,q⟩
    | brk=>obtain⟨σ',H',I',q⟩:=q;exact Ey I' hN hi hlo fun s4 I4=>⟨_,H',I4,q⟩
    | cont=>obtain⟨σ',H',I',q⟩:=q;exact Ey I' hN hi hlo fun s4 I4=>⟨_,H',I4,q⟩
    | ret w=>obtain⟨v,σ',H',I',r,q⟩:=q;exact Ey I' hN hi hlo fun s4 I4=>⟨v,_,H',I4,r,q⟩
 | @up x y z p p1 p2 p3 p4 p5 pos k k2 rest T T' u us hg hm hd ecT hgy hmy hdy ecy kpy iny r ih=>
  intro σ H s a C dx I F e ec h
  obtain⟨m,hm2,h⟩:=h
  obtain⟨vs,hx,_⟩:=Tc I (.inr e)
  refine kE (jR (Cw (X:=X.hd a) (Ge I) hg hm ?_ hd)) (by intro q;cases q)
  refine Iw (A:=(X.hd a).A) I.kIn ec ecT hx hm2 ?_
  cases m with
  | false=>exact ih I F e ec h
  | true=>
   refine jt (Gd (A:=(X.hd a).A) I F fun s1 I1 F1=>?_)
   obtain⟨⟨C1,dx1,ea⟩,hE⟩:=h
   refine wpAny_execs_cons (ad0 I1 ea hgy hmy hdy ecy kpy iny fun b s2 hb I2 F2=>?_)
   refine Zw (X:=X.hd a) (Ge I2) hst hfr hfr F2 fun s3 z I3 F3=>?_
   have I3:=Dj I.ok I3
   have F3:FlyT X pins (upd H b (fcO b T' none)) b s3 z:=F3
   obtain⟨Cb,dxb,vb,Tb,oT,ts,h1,h2,h3,q1,q2,q3,q4,q5,q6⟩:=id F3
   refine ac (aZ h2 rfl q1 ?_)
   rw [if_neg (by simp)]
   refine Tz I3 F3 fun s4 I4 F4=>?_
   exact mt pins σ _ s4 b I4 F4.at (hE b hb)
theorem a96 {Y:Cx} {body:List Stmt} {h0:ExceptHandler} {hs:List ExceptHandler} {pos:Pos} {tb:DS} {us:List (Addr×HK×DS)} (hst:Y.stack=Y.env::Y.outer) (hfr:Y.env.frame=some Y.env.locals)
  (hb:∀ pn xe,gT (model Y.prog Y.w) Y.A Y.env xe->QSs (Y.tr pn xe) body tb) (hh:Nj Y (h0::hs) us):QS Y (.Try body (h0::hs) [] [] pos) (bg8 Y.K tb us):=by
 intro Ex m pins s σ H D I hw
 refine wpAny_Try_except ?_
 refine cA (hb (Y.pn++pins) (fun e s1=>ay (model Y.prog Y.w) Y.A (kW e Y.env) (fun _ s2=>ay (model Y.prog Y.w) Y.A (jT e none) (fun _ s3=>ay (model Y.prog Y.w) Y.A (handleBy e Y.env (h0::hs)) (SP Y pins D) Y.xe s3) Y.xe s2) Y.xe s1) PassesOwn.looking
  (fun σ' a H'=>∃ C dx,FlO H' a C dx/\ECls Y.K C/\Lz Y.K C a us (am2 Ex D) σ' H') ?_ [] s σ H D (a21 I) hw) (fun f s1 q=>?_) fun _ _ z=>z
 ·intro pins' σ' H' s' a I' F' ⟨C,dx,e,ec,h⟩
  exact al0 (Eg I') hst hfr (Yw F') fun s2 I2 F2=>Vf hst hfr m hh I2 F2.at e ec h
 ·have q:=aq6 q
  cases f with
  | next=>exact g7 q
  | _=>exact q
end
noncomputable def Gk:Expr->Bool
 | .ListComp _ _ _ _=>false
 | .SetComp _ _ _ _=>false
 | .DictComp _ _ _ _ _=>false
 | _=>true
theorem Gm {e:Expr} (h:Gk e=true) (t:Option Expr) (l:Nat) (env:Env):iL e t l env=pure false:=by
 cases e with
 | ListComp _ _ _ _=>cases h
 | SetComp _ _ _ _=>cases h
 | DictComp _ _ _ _ _=>cases h
 | _=>rfl
section
variable {X:Cx} {G:Sg} {st:Stmt} {rest:List Stmt} {t u:DS} {e:Expr} {de:DE} {pos p':Pos}
theorem Bd:QS X st B0:=fun _ _ _ _ _ _ _ _ h=>h.elim
theorem ao9:QSs X [] Ah:=fun _ _=>an4
theorem ab7 (h1:QS X st t) (h2:QSs X rest u):QSs X (st::rest) (Ai t u):=fun Ex m=>aa5 (h1 Ex m) (h2 Ex m)
theorem ao7:QS X (.Pass pos) Ah:=fun _ _=>an2
theorem a90:QS X (.Break pos) bg4:=fun _ _=>aa2
theorem a91:QS X (.Continue pos) bg5:=fun _ _=>Ox
theorem a94 (h:QE X e de):QS X (.Return (some e) pos) (An de):=fun Ex m=>a66 (h Ex m)
theorem ao8:QS X (.Return none pos) as0:=fun _ _=>an3
theorem ao6 (h:QE X e de) (hn:Gk e=true):QS X (.Expr e pos) (D4 de):=fun Ex m=>an1 (h Ex m) (Gm hn _ _ _)
theorem bn3 {c:Expr} {a b:List Stmt} {tc:DT} (hc:QT X c tc) (ha:QSs X a t) (hb:QSs X b u):QS X (.If c a b pos) (dIf tc t u):=fun Ex m=>bm7 (hc Ex m) (ha Ex m) (hb Ex m)
theorem ab5 {i:Nat} {x:Str} (O:GOk X G) (hi:B4 G.N x 0=some i) (hx:Qn G x=true) (h:QE X e de) (hn:iL e (some (.Name x p')) pos.line X.env=pure false):QS X (.Assign [.Name x p'] e pos) (Au i de):=by
 obtain⟨h1,h2⟩:=Ml O hx
 exact fun Ex m=>a67 (by rw [O.N];exact O.nd) (by rw [O.N];exact Dr hi) h1 (h Ex m) hn h2
variable {tg iter elt:Expr} {ifs:List Expr} {sc:Scope} {wi:DI} {g:DG} {tc:DT}
theorem Qw {i:Nat} {x:Str} {cp:Pos} (O:GOk X G) (hi:B4 G.N x 0=some i) (hx:Qn G x=true) (hc:X.calm=true) (hk:Eb G sc=true) (hs:Iz iter=true) (hq:QI X tg iter wi) (hg:∀ X',GOk X' (Cg G sc.names)->PG X' tg g)
  (ht:∀ X',GOk X' (Cg G sc.names)->ah4 X' ifs tc) (he:∀ X',GOk X' (Cg G sc.names)->QE X' elt de) :
  QS X (.Assign [.Name x p'] (.ListComp elt [⟨tg,iter,ifs,0⟩] sc cp) pos) (Au i (Ch (Et G sc.names) wi g tc de)):=by
 obtain⟨h1,h2⟩:=Ml O hx
 have sw:iL (.ListComp elt [⟨tg,iter,ifs,0⟩] sc cp) (some (.Name x p')) pos.line X.env=pure (X.env.blockKind==.function&&X.env.kindOf x==some .local&&p'.line==(Expr.ListComp elt [⟨tg,iter,ifs,0⟩] sc cp).pos.line
   && !(sc.names.any fun (n,k)=>n==x&&(k==.local||k==.cell))):=rfl
 cases hb:(X.env.blockKind==.function&&X.env.kindOf x==some .local&&p'.line==(Expr.ListComp elt [⟨tg,iter,ifs,0⟩] sc cp).pos.line
   && !(sc.names.any fun (n,k)=>n==x&&(k==.local||k==.cell))) with
 | false=>
  rw [hb] at sw
  exact ab5 O hi hx (To O hc hk hs hq hg ht he) sw
 | true=>
  rw [hb] at sw
  simp only [ak] at hb
  have hl:X.env.scope.names.lookup x=some .local:=cO hb.1.1.2
  intro Ex m pins s σ H D I h
  exact X6 hc (by rw [O.N];exact O.nd) (by rw [O.N];exact Dr hi) hl (L6 O hk) (hq Ex m) (fun us Q2 fp C D s2 H2 I2 f2 hC=>
   have M:=Ix (N':=(Cg G sc.names).N) (cl:=Cf X.env.cells sc.names []) (us:=us) (Q2:=Q2) (D:=D) m O.fr I2 f2 hC
   have K:=Sw O hk fp C s2 H2 (Bb X sc (Cf X.env.cells sc.names []) us Q2 D C)
   ⟨hg _ K,ht _ K _ M,he _ K _ M⟩) I h sw (fun x=>Ja hs X.env x)
theorem a93 {body:List Stmt} (O:GOk X G) (ht:G.top=true) (hc:X.calm=true) (hi:QI X tg iter wi) (hg:PG X tg g) (hb:QSs X body t) (hs:Iz iter=true):QS X (.For tg iter body [] pos) (Dx wi g t):=by
 intro Ex m pins s σ H D I h
 refine cA (a65 (O.own ht) hc (hi Ex m) hg (hb Ex m) (fun x=>Ja hs X.env x) pins s σ H { D with nx:=fun σ' H'=>Thaw H H' (D.nx σ') } I h) (fun f s' q=>?_) fun _ _ z=>z
 cases f with
 | next=>
  obtain⟨σ',H',I',q⟩:=q
  obtain⟨H2,I2,q2⟩:=Thaw.inv I I' q
  exact⟨σ',H2,I2,q2⟩
 | _=>exact q
theorem ab6 {c:Expr} {body:List Stmt} (O:GOk X G) (ht:G.top=true) (hc:QT X c tc) (hb:QSs X body t):QS X (.While c body [] pos) (Pz tc t):=fun Ex m=>aa4 (O.own ht) (hc Ex m) (hb Ex m)
noncomputable def Yb (K:aa) (e:DE):DS:=fun D σ H=>e σ H (ac8 K (D.ex σ)) (D.ex σ)
theorem ab4 (O:GOk X G) (hc:X.A.handled=none) (h:QE X e de):QS X (.Raise (some e) none pos) (Yb X.K de):=fun Ex m=>aa3 m hc (h Ex m)
noncomputable def Zt:Expr->Bool
 | .Tuple _ _ _=>false
 | _=>true
theorem Zu {e:Expr} (h:Zt e=true) (tg:Expr) (env:Env):swappedStores [tg] e env=pure none:=by
 cases e with
 | Tuple _ _ _=>cases h
 | _=>cases tg <;> rfl
theorem a89 {ts:List Expr} {kt:Nat} {pt:Pos} {g:DG} (h:QE X e de) (hg:PG X (.Tuple ts kt pt) g) (hn:Gk e=true) (ht:Zt e=true):QS X (.Assign [.Tuple ts kt pt] e pos) (N3 de g):=
 fun Ex m=>aa1 (h Ex m) hg (show k4 [.Tuple ts kt pt] e pos.line X.env=pure false from Gm hn (some (.Tuple ts kt pt)) pos.line X.env) (Zu ht _ _)
noncomputable def Ii (K:aa) (o i:DE):DG:=fun v σ H Q=>o σ H (fun x H1=>i σ H1 (fun y H2=>av2 x y v H2 (Q σ)) fun _ _=>False) fun _ _=>False
theorem a95 {o i:Expr} {do' di:DE} (hu:X.A.units+64<cLine) (ho:QE X o do') (hi:QE X i di) (h:QE X e de) (hsl:Fp i=true):QS X (.Assign [.Subscript o i p'] e pos) (N3 de (Ii X.K do' di)):=by
 intro Ex m
 have hg:PG X (.Subscript o i p') (Ii X.K do' di):=a63 (ho _ Ek) (hi _ Ek) (bt8 hu) (by
  intro v
  cases i with
  | Slice _ _ _ _=>cases hsl
  | _=>rfl)
 exact aa1 (h Ex m) hg (show k4 [.Subscript o i p'] e pos.line X.env=pure false from by show iL e (some (.Subscript o i p')) pos.line X.env=pure false;cases e <;> rfl) (by cases e <;> rfl)
noncomputable def bg6 (K:aa) (f:Str) (o e:DE):DS:=fun D σ H=>e σ H (fun y H1=>o σ H1 (fun x H2=>av1 K f x y H2 (D.nx σ)) (D.ex σ)) (D.ex σ)
theorem a92 {o:Expr} {f:Str} {do':DE} (ho:QE X o do') (h:QE X e de):QS X (.Assign [.Attribute o f p'] e pos) (bg6 X.K f do' de):=by
 intro Ex m pins s σ H D I hw
 refine plainObj_wpAny_Assign_Attribute (thn (h Ex m pins s σ H _ I hw) fun u s1 ⟨y,H1,I1,ry,q⟩=>thn (ho Ex m pins s1 σ H1 _ I1 q) fun ov s2 ⟨x,H2,I2,rx,q2⟩=>?_) (by cases e <;> rfl)
 exact bt7 I2 rx ry q2 fun H' s' I' hN=>⟨σ,H',I',hN⟩
end
noncomputable def be5:GB->GB
 | .val v u=>.val v u
 | .exc C _=>.val (.ref C) (.ref C)
 | .cls C _=>.val (.ref C) (.ref C)
 | _=>.met "" []
noncomputable def Cr (gb:List (Str×GB)):List (Str×GB):=gb.map fun p=>(p.1,be5 p.2)
theorem Du (x:Str):∀ gb:List (Str×GB),(Cr gb).lookup x=(gb.lookup x).map be5
 | []=>rfl
 | (y,g)::r=>by
  show dZ x ((y,be5 g)::Cr r)=_
  rw [jf,jf]
  cases x==y with
  | true=>rfl
  | false=>exact Du x r
theorem J2 {m:Str} {l:List MI}:∀ {gb:List (Str×GB)},Bj (Cr gb) m=some l->l=[]
 | [],h=>by cases h
 | (y,g)::r,h=>by
  have go:Bj (Cr r) m=some l->l=[]:=J2
  cases g with
  | val v u=>exact go h
  | exc C i=>exact go h
  | cls C i=>exact go h
  | fn i=>
   have h:(if ("" : Str)=m then some [] else Bj (Cr r) m)=some l:=h
   split at h
   ·cases h;rfl
   ·exact go h
  | met m' l'=>
   have h:(if ("" : Str)=m then some [] else Bj (Cr r) m)=some l:=h
   split at h
   ·cases h;rfl
   ·exact go h
noncomputable def hdG (G:Sg):Sg:={ G with gb:=Cr G.gb,calm:=false }
noncomputable def Oc (gb:List (Str×GB)) (x:Str):Option Addr:=match gb.lookup x with
 | some (.exc T _)=>some T
 | _=>none
noncomputable def okH (G:Sg):ExceptHandler->Bool
 | .ExceptHandler (some (.Name x _)) nm (_::_) _=>Gf G x&&(Oc G.gb x).isSome&&(match nm with
  | none=>true
  | some n=>(B4 G.N n 0).isSome&&(G.sc.lookup n==some .local))
 | _=>false
noncomputable def bj1 (G:Sg):ExceptHandler->Option Nat
 | .ExceptHandler _ (some n) _ _=>B4 G.N n 0
 | _=>none
noncomputable def as3 (G:Sg) (y:Str):Option Addr:=match G.gb.lookup y with
 | some (.exc T none)=>if Gf G y=true then some T else none
 | _=>none
noncomputable def Zv:Expr->Bool
 | .Constant .none _ _=>true
 | _=>false
noncomputable def bd5:Expr->Bool
 | .Constant (.str _) _ _=>true
 | _=>false
theorem Qm {e:Expr} (h:Zv e=true):∃ k p,e=.Constant .none k p:=by
 unfold Zv at h
 split at h
 ·exact⟨_,_,rfl⟩
 ·cases h
theorem Wl {e:Expr} (h:bd5 e=true):∃ z k p,e=.Constant (.str z) k p:=by
 unfold bd5 at h
 split at h
 ·exact⟨_,_,_,rfl⟩
 ·cases h
noncomputable def ar6 (G:Sg):Expr->Option Addr
 | .Call (.Name y _) [a] [] _=>if bd5 a=true then as3 G y else none
 | _=>none
noncomputable def be4 (G:Sg):ExceptHandler->Option Addr
 | .ExceptHandler _ none [.Raise (some e) (some c) _] _=>if Zv c=true then ar6 G e else none
 | _=>none
noncomputable def Le (G:Sg) (h:ExceptHandler):HK:=match be4 G h with
 | some T=>.up T
 | none=>match bj1 G h with
  | some i=>.as i
  | none=>.no
noncomputable def a06 (G:Sg):ExceptHandler->Addr
 | .ExceptHandler (some (.Name x _)) _ _ _=>(Oc G.gb x).getD 0
 | _=>0
noncomputable def ar5:ExceptHandler->List Stmt
 | .ExceptHandler _ _ b _=>b
theorem a16 {X:Cx} {G:Sg} (O:GOk X G) (a:Addr):GOk (X.hd a) (hdG G) where
 K:=O.K
 kind:=O.kind
 own:=fun _=>PassesOwn.never
 N:=O.N
 nd:=O.nd
 sc:=O.sc
 vis:=O.vis
 top:=O.top
 calm:=rfl
 hd:=fun z=>by cases z
 units:=O.units
 cel:=O.cel
 fn:=fun x i e=>by
  have e:(Cr G.gb).lookup x=some (.fn i):=e
  rw [Du] at e
  obtain⟨g,_,z⟩:=Option.map_eq_some_iff.mp e
  cases g <;> cases z
 val:=fun x v u e=>by
  have e:(Cr G.gb).lookup x=some (.val v u):=e
  rw [Du] at e
  obtain⟨g,hg,z⟩:=Option.map_eq_some_iff.mp e
  cases g with
  | val v' u'=>cases z;exact O.val x v u hg
  | exc C i=>cases z;exact⟨(O.exc x C i hg).1,rfl⟩
  | cls C i=>cases z;exact⟨(O.cls x C i hg).1,rfl⟩
  | fn i=>cases z
  | met m l=>cases z
 bl:=O.bl
 exc:=fun x C oi e=>by
  have e:(Cr G.gb).lookup x=some (.exc C oi):=e
  rw [Du] at e
  obtain⟨g,_,z⟩:=Option.map_eq_some_iff.mp e
  cases g <;> cases z
 cls:=fun x C oi e=>by
  have e:(Cr G.gb).lookup x=some (.cls C oi):=e
  rw [Du] at e
  obtain⟨g,_,z⟩:=Option.map_eq_some_iff.mp e
  cases g <;> cases z
 met:=fun m l e mi hm=>by
  rw [J2 (show Bj (Cr G.gb) m=some l from e)] at hm
  cases hm
 frm:=O.frm
 fr:=O.fr
theorem Ue {X:Cx} {pn:List (Addr×Obj)} {xe:Value->ag->Prop} {i:FI} (F:Hl X i):Hl (X.tr pn xe) i:=⟨F.kp,F.ok,F.room,F.binds,F.vals⟩
theorem be1 {X:Cx} {G:Sg} (O:GOk X G) {pn:List (Addr×Obj)} {xe:Value->ag->Prop} (ho:gT (model X.prog X.w) X.A X.env xe):GOk (X.tr pn xe) G where
 K:=O.K
 kind:=O.kind
 own:=fun _=>ho
 N:=O.N
 nd:=O.nd
 sc:=O.sc
 vis:=O.vis
 top:=O.top
 calm:=O.calm
 hd:=O.hd
 units:=O.units
 cel:=O.cel
 fn:=fun x i e=>⟨(O.fn x i e).1,Ue (O.fn x i e).2⟩
 val:=O.val
 bl:=O.bl
 exc:=fun x C oi e=>by
  obtain⟨a,b,c,d⟩:=O.exc x C oi e
  refine⟨a,b,c,?_⟩
  cases oi with
  | none=>exact d
  | some i=>exact⟨d.1,d.2.1,Ue d.2.2.1,d.2.2.2⟩
 cls:=fun x C oi e=>by
  obtain⟨a,b,d⟩:=O.cls x C oi e
  refine⟨a,b,?_⟩
  cases oi with
  | none=>exact d
  | some i=>exact⟨d.1,d.2.1,d.2.2.1,Ue d.2.2.2.1,d.2.2.2.2⟩
 met:=fun m l e mi hm=>⟨(O.met m l e mi hm).1,(O.met m l e mi hm).2.1,Ue (O.met m l e mi hm).2.2⟩
 frm:=O.frm
 fr:=O.fr
theorem Zy {G:Sg} {h:ExceptHandler} (hh:okH G h=true):∃ x p nm b suite pos,h=.ExceptHandler (some (.Name x p)) nm (b::suite) pos/\Gf G x=true/\(Oc G.gb x).isSome=true /\ ∀ n,nm=some n->(B4 G.N n 0).isSome=true/\G.sc.lookup n=some .local:=by
 unfold okH at hh
 split at hh
 ·rw [ak,ak] at hh
  refine⟨_,_,_,_,_,_,rfl,hh.1.1,hh.1.2,fun n e=>?_⟩
  have h2:=hh.2
  rw [e] at h2
  have h2:((B4 G.N n 0).isSome&&(G.sc.lookup n==some .local))=true:=h2
  rw [ak] at h2
  exact⟨h2.1,cO h2.2⟩
 ·cases hh
theorem Y8 {X:Cx} {G:Sg} (O:GOk X G) {w:List Stmt->DS} (h:∀ a ss,QSs (X.hd a) ss (w ss)):∀ {hl:List ExceptHandler},hl.all (okH G)=true->Nj X hl (hl.map fun h=>(a06 G h,Le G h,w (ar5 h)))
 | [],_=>.nil
 | e0::r,hh=>by
  rw [bw,ak] at hh
  obtain⟨h1,h2⟩:=hh
  obtain⟨x,p,nm,b,suite,pos,rfl,hg,hs,hnm⟩:=Zy h1
  obtain⟨T,hT⟩:=Option.isSome_iff_exists.mp hs
  have hl:∃ oi,G.gb.lookup x=some (.exc T oi):=by
   unfold Oc at hT
   split at hT
   ·rename_i T' oi e;cases hT;exact⟨oi,e⟩
   ·cases hT
  obtain⟨oi,hl⟩:=hl
  obtain⟨m,kp,ec,_⟩:=O.exc x T oi hl
  have e:a06 G (.ExceptHandler (some (.Name x p)) nm (b::suite) pos)=T:=by show (Oc G.gb x).getD 0=T;rw [hT];rfl
  rw [aS,e]
  cases hu:be4 G (.ExceptHandler (some (.Name x p)) nm (b::suite) pos) with
  | some T'=>
   have ek:Le G (.ExceptHandler (some (.Name x p)) nm (b::suite) pos)=.up T':=by unfold Le;rw [hu]
   rw [ek]
   unfold be4 at hu
   split at hu
   ·rename_i heq
    cases heq
    split at hu
    ·rename_i hc
     obtain⟨k2,p4,rfl⟩:=Qm hc
     unfold ar6 at hu
     split at hu
     ·split at hu
      ·rename_i hs'
       obtain⟨z,k,p2,rfl⟩:=Wl hs'
       unfold as3 at hu
       split at hu
       ·rename_i T'' hy
        split at hu
        ·rename_i hgy
         cases hu
         obtain⟨my,kpy,ecy,iny⟩:=O.exc _ T' none hy
         exact .up (O.gl hg) m (Io hg).1 ec (O.gl hgy) my (Io hgy).1 ecy kpy iny (Y8 O h h2)
        ·cases hu
       ·cases hu
      ·cases hu
     ·cases hu
    ·cases hu
   ·cases hu
  | none=>
  have ao:Ww X nm (Le G (.ExceptHandler (some (.Name x p)) nm (b::suite) pos)):=by
   unfold Le
   rw [hu]
   cases nm with
   | none=>exact .no
   | some n=>
    obtain⟨z1,z2⟩:=hnm n rfl
    obtain⟨i,hi⟩:=Option.isSome_iff_exists.mp z1
    show Ww X (some n) (match B4 G.N n 0 with|some i=>HK.as i|none=>HK.no)
    rw [hi]
    exact .as (by rw [O.N];exact O.nd) (by rw [O.N];exact Dr hi) (by rw [O.sc];exact z2)
  exact .cons (O.gl hg) m (Io hg).1 ec ao (fun a=>h a _) (Y8 O h h2)
mutual
noncomputable def wS:Nat->Sg->Stmt->DS
 | 0,_,_=>B0
 | n+1,G,st=>match st with
  | .Pass _=>Ah
  | .Break _=>bg4
  | .Continue _=>bg5
  | .Return (some e) _=>An (wE n G e)
  | .Return none _=>as0
  | .Expr e _=>if Gk e=true then D4 (wE n G e) else B0
  | .If c a b _=>dIf (wT n G c) (wSs n G a) (wSs n G b)
  | .Assign [.Name x _] (.ListComp elt [⟨tg,iter,ifs,0⟩] sc _) _=>match B4 G.N x 0 with
   | some i=>if Qn G x=true/\G.calm=true/\Eb G sc=true/\Iz iter=true then
     Au i (Ch (Et G sc.names) (wI n G tg iter) (wG n (Cg G sc.names) tg) (match ifs with | []=>Df | [c]=>wT n (Cg G sc.names) c|_=>tNo) (wE n (Cg G sc.names) elt)) else B0
   | none=>B0
  | .Assign [.Name x _] e _=>match B4 G.N x 0 with
   | some i=>if Qn G x=true/\Gk e=true then Au i (wE n G e) else B0
   | none=>B0
  | .Assign [.Tuple ts kt pt] e _=>if Gk e=true/\Zt e=true then N3 (wE n G e) (wG n G (.Tuple ts kt pt)) else B0
  | .Assign [.Attribute o f _] e _=>bg6 G.K f (wE n G o) (wE n G e)
  | .Assign [.Subscript o i _] e _=>if Fp i=true then N3 (wE n G e) (Ii G.K (wE n G o) (wE n G i)) else B0
  | .Raise (some e) none _=>if G.calm=true then Yb G.K (wE n G e) else B0
  | .For tg iter body [] _=>if G.calm=true/\Iz iter=true/\G.top=true then Dx (wI n G tg iter) (wG n G tg) (wSs n G body) else B0
  | .While c body [] _=>if G.top=true then Pz (wT n G c) (wSs n G body) else B0
  | .Try body (h::hs) [] [] _=>if G.top=true/\(h::hs).all (okH G)=true then bg8 G.K (wSs n G body) ((h::hs).map fun h=>(a06 G h,Le G h,wSs n (hdG G) (ar5 h))) else B0
  | _=>B0
noncomputable def wSs:Nat->Sg->List Stmt->DS
 | 0,_,_=>B0
 | _+1,_,[]=>Ah
 | n+1,G,s::r=>Ai (wS n G s) (wSs n G r)
end
theorem by2:∀ (n:Nat) (X:Cx) (G:Sg),GOk X G->(∀ s,QS X s (wS n G s))/\(∀ ss,QSs X ss (wSs n G ss)):=by
 intro n
 induction n with
 | zero=>
  intro X G O
  refine⟨fun s=>?_,fun s=>?_⟩
  ·unfold wS;exact Bd
  ·unfold wSs;exact fun _ _ _ _ _ _ _ _ h=>h.elim
 | succ n ih=>
  intro X G O
  obtain⟨hS,hSs⟩:=ih X G O
  obtain⟨hE,hT,hI⟩:=bf7 n X G O
  refine⟨fun s=>?_,fun s=>?_⟩
  ·unfold wS
   split
   ·exact ao7
   ·exact a90
   ·exact a91
   ·exact a94 (hE _)
   ·exact ao8
   ·split
    ·exact ao6 (hE _) ‹_›
    ·exact Bd
   ·exact bn3 (hT _) (hSs _) (hSs _)
   ·split
    ·rename_i i e
     split
     ·rename_i hh
      obtain⟨h1,h2,h3,h4⟩:=hh
      refine Qw O e h1 (O.calm▸h2) h3 h4 (hI _ _) (fun X' O'=>Pj n X' _ O' _) (fun X' O'=>?_) (fun X' O'=>(bf7 n X' _ O').1 _)
      split
      ·exact Oz
      ·exact O0 ((bf7 n X' _ O').2.1 _)
      ·exact fun _ _ _ _ _ _ _ _ h=>h.elim
     ·exact Bd
    ·exact Bd
   ·split
    ·rename_i i e
     split
     ·rename_i hh
      exact ab5 O e hh.1 (hE _) (Gm hh.2 _ _ _)
     ·exact Bd
    ·exact Bd
   ·split
    ·rename_i hh
     exact a89 (hE _) (Pj n X G O _) hh.1 hh.2
    ·exact Bd
   ·rw [<- O.K];exact a92 (hE _) (hE _)
   ·split
    ·rename_i hh
     rw [<- O.K];exact a95 O.units (hE _) (hE _) (hE _) hh
    ·exact Bd
   ·split
    ·rename_i hcm
     rw [<- O.K];exact ab4 O (O.hd (O.calm▸hcm)) (hE _)
    ·exact Bd
   ·split
    ·rename_i hh
     exact a93 O hh.2.2 (O.calm▸hh.1) (hI _ _) (Pj n X G O _) (hSs _) hh.2.1
    ·exact Bd
   ·split
    ·rename_i hh
     exact ab6 O hh (hT _) (hSs _)
    ·exact Bd
   ·split
    ·rename_i hh
     rw [<- O.K]
     exact a96 (O.frm hh.1).1 (O.frm hh.1).2 (fun pn xe ho=>(ih _ _ (be1 O ho)).2 _) (Y8 O (fun a ss=>(ih _ _ (a16 O a)).2 ss) hh.2)
    ·exact Bd
   ·exact Bd
  ·cases s with
   | nil=>unfold wSs;exact ao9
   | cons a r=>unfold wSs;exact ab7 (hS a) (hSs r)
section
variable {P:aO} {w:bM} {K:aa} {mg:Str->Option Value} {base:Heap}
structure FnIn (P:aO) (w:bM) (K:aa) (mg:Str->Option Value) (base:Heap) (k:Nat) (x:Str) (i:FI):Prop where
 at_:mg x=some (.ref i.f)
 kp:aU K (.ref i.f)=true
 ok:∃ CX,(∀ X':Cx,X'.prog=P->X'.w=w->Nw CX X')/\FnOk P w K mg base CX i.k i.f i.fd i.ps i.sp
 le:i.k<=k
 binds:∀ j,j<=i.dfs.length->Binds K i.fd i.ps (i.ds.drop j)
 vals:Vals i.dfs i.ds
noncomputable def ax2 (P:aO) (w:bM) (K:aa) (mg:Str->Option Value) (base:Heap) (k:Nat) (C:Addr):Option FI->Prop
 | none=>aw K (.ref C) "__init__" = some (some (.builtin "ValueError.__init__"))
 | some i=>aw K (.ref C) "__init__" = some (some (.ref i.f))/\dU K (.ref i.f)=true/\aU K (.ref i.f)=true/\(∃ CX,(∀ X':Cx,X'.prog=P->X'.w=w->Nw CX X')/\FnOk P w K mg base CX i.k i.f i.fd i.ps i.sp) /\
   i.k+1<=k/\(∀ j,j<=i.dfs.length->Binds K i.fd i.ps (i.ds.drop j))/\Vals i.dfs i.ds
structure ExcIn (P:aO) (w:bM) (K:aa) (mg:Str->Option Value) (base:Heap) (k:Nat) (x:Str) (C:Addr) (oi:Option FI):Prop where
 at_:mg x=some (.ref C)
 kp:aU K (.ref C)=true
 cls:ECls K C
 init:ax2 P w K mg base k C oi
structure FiIn (P:aO) (w:bM) (K:aa) (mg:Str->Option Value) (base:Heap) (k:Nat) (i:FI):Prop where
 kp:aU K (.ref i.f)=true
 ok:∃ CX,(∀ X':Cx,X'.prog=P->X'.w=w->Nw CX X')/\FnOk P w K mg base CX i.k i.f i.fd i.ps i.sp
 le:i.k<=k
 binds:∀ j,j<=i.dfs.length->Binds K i.fd i.ps (i.ds.drop j)
 vals:Vals i.dfs i.ds
theorem FiIn.mono {k k':Nat} {i:FI} (F:FiIn P w K mg base k i) (h:k<=k'):FiIn P w K mg base k' i:=⟨F.kp,F.ok,aR F.le h,F.binds,F.vals⟩
noncomputable def by4 (P:aO) (w:bM) (K:aa) (mg:Str->Option Value) (base:Heap) (k:Nat) (C:Addr):Option FI->Prop
 | none=>bX K C=true/\aw K (.ref C) "__init__" = some (some (.builtin "object.__init__"))
 | some i=>bX K C=true/\aw K (.ref C) "__init__" = some (some (.ref i.f))/\dU K (.ref i.f)=true/\FiIn P w K mg base k i/\i.k+1<=k
structure ClsIn (P:aO) (w:bM) (K:aa) (mg:Str->Option Value) (base:Heap) (k:Nat) (x:Str) (C:Addr) (oi:Option FI):Prop where
 at_:mg x=some (.ref C)
 kp:aU K (.ref C)=true
 made:by4 P w K mg base k C oi
theorem ClsIn.mono {k k':Nat} {x:Str} {C:Addr} {oi:Option FI} (F:ClsIn P w K mg base k x C oi) (h:k<=k'):ClsIn P w K mg base k' x C oi:=by
 refine⟨F.at_,F.kp,?_⟩
 cases oi with
 | none=>exact F.made
 | some i=>obtain⟨a,b,c,d,e⟩:=F.made;exact⟨a,b,c,d.mono h,aR e h⟩
structure MetIn (P:aO) (w:bM) (K:aa) (mg:Str->Option Value) (base:Heap) (k:Nat) (m:Str) (mi:MI):Prop where
 cls:Cls K mi.C
 at_:Dh K mi.C m mi.i.f
 fi:FiIn P w K mg base k mi.i
theorem MetIn.mono {k k':Nat} {m:Str} {mi:MI} (F:MetIn P w K mg base k m mi) (h:k<=k'):MetIn P w K mg base k' m mi:=⟨F.cls,F.at_,F.fi.mono h⟩
theorem ExcIn.mono {P:aO} {w:bM} {K:aa} {mg:Str->Option Value} {base:Heap} {k k':Nat} {x:Str} {C:Addr} {oi:Option FI} (F:ExcIn P w K mg base k x C oi) (h:k<=k'):ExcIn P w K mg base k' x C oi:=by
 refine⟨F.at_,F.kp,F.cls,?_⟩
 cases oi with
 | none=>exact F.init
 | some i=>obtain⟨a,b,c,d,e,f⟩:=F.init;exact⟨a,b,c,d,aR e h,f⟩
structure Tab (P:aO) (w:bM) (K:aa) (mg:Str->Option Value) (base:Heap) (k:Nat) (gb:List (Str×GB)) (bl:List Str):Prop where
 fn:∀ x i,(x,GB.fn i)∈gb->FnIn P w K mg base k x i
 val:∀ x v u,(x,GB.val v u)∈gb->mg x=some u/\RelV v u
 bl:∀ x∈bl,mg x=none
 exc:∀ x C oi,(x,GB.exc C oi)∈gb->ExcIn P w K mg base k x C oi
 cls:∀ x C oi,(x,GB.cls C oi)∈gb->ClsIn P w K mg base k x C oi
 met:∀ x m l,(x,GB.met m l)∈gb -> ∀ mi∈l,MetIn P w K mg base k m mi
theorem FnIn.mono {k k':Nat} {x:Str} {i:FI} (F:FnIn P w K mg base k x i) (h:k<=k'):FnIn P w K mg base k' x i:=⟨F.at_,F.kp,F.ok,aR F.le h,F.binds,F.vals⟩
theorem Tab.nil {bl:List Str} (h:∀ x∈bl,mg x=none):Tab P w K mg base 0 [] bl:=⟨fun _ _ h=>(by cases h),fun _ _ _ h=>(by cases h),h,fun _ _ _ h=>(by cases h),fun _ _ _ h=>(by cases h),fun _ _ _ h=>(by cases h)⟩
theorem Tab.mono {k k':Nat} {gb:List (Str×GB)} {bl:List Str} (T:Tab P w K mg base k gb bl) (h:k<=k'):Tab P w K mg base k' gb bl:=⟨fun x i hx=>(T.fn x i hx).mono h,T.val,T.bl,fun x C oi hx=>(T.exc x C oi hx).mono h,fun x C oi hx=>(T.cls x C oi hx).mono h,fun x m l hx mi hm=>(T.met x m l hx mi hm).mono h⟩
theorem Tab.cons {k:Nat} {gb:List (Str×GB)} {bl:List Str} {x:Str} {i:FI} (T:Tab P w K mg base k gb bl) (F:FnIn P w K mg base k x i):Tab P w K mg base k ((x,.fn i)::gb) bl:=
 ⟨fun y j hy=>by
  rcases List.mem_cons.mp hy with e|e
  ·cases e;exact F
  ·exact T.fn y j e,fun y v' u' hy=>by
  rcases List.mem_cons.mp hy with e|e
  ·cases e
  ·exact T.val y v' u' e,T.bl,fun y C' oi' hy=>by
  rcases List.mem_cons.mp hy with e|e
  ·cases e
  ·exact T.exc y C' oi' e,fun y C' oi' hy=>by
  rcases List.mem_cons.mp hy with e|e
  ·cases e
  ·exact T.cls y C' oi' e,fun y m' l' hy=>by
  rcases List.mem_cons.mp hy with e|e
  ·cases e
  ·exact T.met y m' l' e⟩
theorem Tab.consV {k:Nat} {gb:List (Str×GB)} {bl:List Str} {x:Str} {v:V} {u:Value} (T:Tab P w K mg base k gb bl) (F:mg x=some u) (r:RelV v u):Tab P w K mg base k ((x,.val v u)::gb) bl:=
 ⟨fun y j hy=>by
  rcases List.mem_cons.mp hy with e|e
  ·cases e
  ·exact T.fn y j e,fun y v' u' hy=>by
  rcases List.mem_cons.mp hy with e|e
  ·cases e;exact⟨F,r⟩
  ·exact T.val y v' u' e,T.bl,fun y C' oi' hy=>by
  rcases List.mem_cons.mp hy with e|e
  ·cases e
  ·exact T.exc y C' oi' e,fun y C' oi' hy=>by
  rcases List.mem_cons.mp hy with e|e
  ·cases e
  ·exact T.cls y C' oi' e,fun y m' l' hy=>by
  rcases List.mem_cons.mp hy with e|e
  ·cases e
  ·exact T.met y m' l' e⟩
theorem Tab.consC {k:Nat} {gb:List (Str×GB)} {bl:List Str} {x:Str} {C:Addr} {oi:Option FI} (T:Tab P w K mg base k gb bl) (F:ClsIn P w K mg base k x C oi):Tab P w K mg base k ((x,.cls C oi)::gb) bl:=
 ⟨fun y j hy=>by
  rcases List.mem_cons.mp hy with e|e
  ·cases e
  ·exact T.fn y j e,fun y v' u' hy=>by
  rcases List.mem_cons.mp hy with e|e
  ·cases e
  ·exact T.val y v' u' e,T.bl,fun y C' oi' hy=>by
  rcases List.mem_cons.mp hy with e|e
  ·cases e
  ·exact T.exc y C' oi' e,fun y C' oi' hy=>by
  rcases List.mem_cons.mp hy with e|e
  ·cases e;exact F
  ·exact T.cls y C' oi' e,fun y m' l' hy=>by
  rcases List.mem_cons.mp hy with e|e
  ·cases e
  ·exact T.met y m' l' e⟩
theorem Tab.consM {k:Nat} {gb:List (Str×GB)} {bl:List Str} {x:Str} {m:Str} {l:List MI} (T:Tab P w K mg base k gb bl) (F:∀ mi∈l,MetIn P w K mg base k m mi):Tab P w K mg base k ((x,.met m l)::gb) bl:=
 ⟨fun y j hy=>by
  rcases List.mem_cons.mp hy with e|e
  ·cases e
  ·exact T.fn y j e,fun y v' u' hy=>by
  rcases List.mem_cons.mp hy with e|e
  ·cases e
  ·exact T.val y v' u' e,T.bl,fun y C' oi' hy=>by
  rcases List.mem_cons.mp hy with e|e
  ·cases e
  ·exact T.exc y C' oi' e,fun y C' oi' hy=>by
  rcases List.mem_cons.mp hy with e|e
  ·cases e
  ·exact T.cls y C' oi' e,fun y m' l' hy=>by
  rcases List.mem_cons.mp hy with e|e
  ·cases e;exact F
  ·exact T.met y m' l' e⟩
theorem Ov (X:Cx):Nw CX0 X:=fun _ _ _ _ _ _ _ _ _ h=>h.elim
noncomputable def Bi (K:aa) (N:List Str) (sc:Scope) (gb:List (Str×GB)) (bl:List Str):Sg:=⟨K,N,sc.names,gb,bl,true,true⟩
noncomputable def Ay (N:List Str) (sc:Scope):Bool:=N.all fun x=>(sc.names.lookup x==some .local)||(sc.names.lookup x==some .cell)
noncomputable def Yk (Q:VK) (E:EK):Pn:=⟨fun _ H'=>Q .non H',Q,fun _ _=>False,fun _ _=>False,fun _=>E⟩
structure FunD (K:aa) (x qual:Str) (st:Stmt) (f:Addr) (fd:aE) (dV:Value):Prop where
 ex:∃ (oc:Value) (od:Option Addr) (kV doc pm:Value) (an:Option Addr) (cdv ct:Value) (osl:Array (Option Value)),
  fd=cR x qual (B8 st) (Aj st) (Ab st) dV kV doc pm an cdv ct/\K.lookup f=some ⟨oc,od,.func fd,osl⟩/\eD K cdv qual=true
 kp:aU K (.ref f)=true
theorem Fun.toD {x qual:Str} {st:Stmt} {f:Addr} {fd:aE} (F:Fun K x qual st f fd):FunD K x qual st f fd .none:=⟨F.ex,F.kp⟩
theorem FunD.ok {x qual:Str} {st:Stmt} {f:Addr} {fd:aE} {dV:Value} {N ps:List Str} {k:Nat} {sp:Sp} (F:FunD K x qual st f fd dV) (S:Al N ps (Ab st)) (len:∀ vs H Q E,sp vs H Q E->vs.length=ps.length)
  (hbody:∀ (cdv:Value) (A:aX) (outer:List Env) (s:ag) (H:Hp) (vs:List V) (Q:VK) (E:XK),Room k (A.deeper (lG qual (Ab st) s.heap.objs.size f cdv))->sp vs H Q E ->
   ∃ t,PSs (Px CX0 P w K mg base N qual (Ab st) f cdv A outer s H E).nox (Aj st) t/\t { nx:=fun _ H'=>Q .non H',rt:=Q } (start N vs) H):FnOk P w K mg base CX0 (k+1) f fd ps sp:=by
 obtain⟨oc,od,kV,doc,pm,an,cdv,ct,osl,rfl,lk,hcd⟩:=F.ex
 refine bh0 lk hcd S len fun A outer s H vs Q E hr hsp=>?_
 obtain⟨t,h,q⟩:=hbody cdv A outer s H vs Q E hr hsp
 exact⟨t,h.nox,q⟩
theorem FunD.okW0 {x qual:Str} {st:Stmt} {f:Addr} {fd:aE} {N ps:List Str} {k n:Nat} {sp:Sp} {gb:List (Str×GB)} {bl:List Str} {t:DS} {dV:Value} (F:FunD K x qual st f fd dV) (S:Al N ps (Ab st)) (hv:Ay N (Ab st)=true)
  (T:Tab P w K mg base k gb bl) (rd:wSs n (Bi K N (Ab st) gb bl) (Aj st)=t) (len:∀ vs H Q E,sp vs H Q E->vs.length=ps.length)
  (hbody:∀ (vs:List V) (H:Hp) (Q:VK) (E:XK),sp vs H Q E->t (Yk Q fun _ _=>False) (start N vs) H):FnOk P w K mg base CX0 (k+1) f fd ps sp:=by
 refine F.ok S len fun cdv A outer s H vs Q E hr h=>?_
 have O:GOk (Px CX0 P w K mg base N qual (Ab st) f cdv A outer s H E).nox (Bi K N (Ab st) gb bl):=by
  refine⟨rfl,S.kind,(fun _=>PassesOwn.never),rfl,S.nd,fun x=>rfl,fun x hx=>?_,fun _ _=>rfl,rfl,(fun _=>hr.hd),hr.units,fun x hx=>?_,fun x i e=>?_,fun x v u e=>?_,fun x hx=>?_,fun x C oi e=>?_,fun x C oi e=>?_,fun m l e mi hm=>?_,(fun _=>⟨rfl,rfl⟩),⟨_,_,_,rfl,rfl,rfl⟩⟩
  ·have:=List.all_eq_true.mp hv x hx
   rw [eN] at this
   exact this.elim (fun z=>.inl (cO z)) fun z=>.inr (.inl (cO z))
  ·rcases hx with hx|hx
   ·exact Ht hx
   ·exact absurd rfl (S.nofree _ (bK hx))
  ·have FI:=T.fn x i (bK e)
   exact⟨FI.at_,FI.kp,FI.ok,hr.mono FI.le,FI.binds,FI.vals⟩
  ·exact T.val x v u (bK e)
  ·exact T.bl x (by have hx':bl.contains x=true:=hx;simpa using hx')
  ·have EI:=T.exc x C oi (bK e)
   refine⟨EI.at_,EI.kp,EI.cls,?_⟩
   cases oi with
   | none=>exact EI.init
   | some i=>obtain⟨a,b,c,d,e,f,g⟩:=EI.init;exact⟨a,b,⟨c,d,hr.mono (by omega),f,g⟩,hr.mono e⟩
  ·have CI:=T.cls x C oi (bK e)
   refine⟨CI.at_,CI.kp,?_⟩
   cases oi with
   | none=>exact CI.made
   | some i=>obtain⟨a,b,c,d,e⟩:=CI.made;exact⟨a,b,c,⟨d.kp,d.ok,hr.mono d.le,d.binds,d.vals⟩,hr.mono e⟩
  ·obtain⟨x,hx⟩:=B3 e
   have MI:=T.met x m l hx mi hm
   exact⟨MI.cls,MI.at_,⟨MI.fi.kp,MI.fi.ok,hr.mono MI.fi.le,MI.fi.binds,MI.fi.vals⟩⟩
 refine⟨_,(by2 n _ _ O).2 (Aj st) (fun _ _ _=>False) (fun _ _ _ _ _ _ _ h=>h.elim),?_⟩
 rw [rd]
 exact hbody vs H Q E h
end
theorem Same.upd {H:Hp} {a:Addr} {o:HO} (h:H a=none):Same H (upd H a o):=fun b u e=>by rw [Ae (Ak e h)];exact e
theorem Same.set {H H':Hp} {a:Addr} {o:HO} (s:Same H H') (h:H a=none):Same H (L2.upd H' a o):=fun b u e=>by rw [Ae (Ak e h)];exact s b u e
theorem Same.seqT {K:aa} {H H':Hp} {a:Addr} {xs:List V} (e:Same H H') (h:SqT K H a xs):SqT K H' a xs:=by
 rcases h with (h|⟨o,h⟩)|h
 ·exact .inl (.inl (e _ _ h))
 ·exact .inl (.inr ⟨o,e _ _ h⟩)
 ·exact .inr h
structure Cz (J:It) (its:List V) (ok:Hp->Prop):Prop where
 go:∀ i H,ok H->i<its.length->J.go i H
 stop:∀ H,ok H->J.stop its.length H
 yld:∀ i H x H',ok H->i<its.length->J.yld i H x H'->H'=H/\its[i]? = some x
structure So (J:It) (its:List (V×V)) (ok:Hp->Prop):Prop where
 go:∀ i H,ok H->i<its.length->J.go i H
 stop:∀ H,ok H->J.stop its.length H
 yld:∀ i H v H',ok H->i<its.length->J.yld i H v H' -> ∃ T x y,H T=none/\v=.ref T/\its[i]? = some (x,y)/\H'=upd H T (.tup [x,y])
noncomputable def Bx (z:Str):List V:=z.cps.toList.map fun c=>V.str ⟨#[c]⟩
theorem Ni (z:Str):Cz (Its z) (Bx z) (fun _=>True):=by
 have e:(Bx z).length=z.cps.size:=by unfold Bx;simp
 refine⟨fun i H _ h=>?_,fun H _=>?_,fun i H x H' _ _ h=>?_⟩
 ·show i<z.cps.size;omega
 ·show (Bx z).length=z.cps.size;exact e
 ·obtain⟨h1,c,h2,h3⟩:=h
  refine⟨h1,?_⟩
  unfold Bx
  rw [aI,gi,h2,h3]
  rfl
theorem Co {K:aa} {a:Addr} (xs:List V):Cz (Itl K a) xs (fun H=>SqL K H a xs):=by
 refine⟨fun i H q h=>⟨xs,xs[i],q,by simp [h]⟩,fun H q=>⟨xs,q,af _⟩,fun i H x H' q _ h=>?_⟩
 obtain⟨h1,h2⟩:=h
 exact⟨h1,h2 xs q⟩
theorem Ep {K:aa} {a:Addr} (xs:List V):Cz (Itt K a) xs (fun H=>SqT K H a xs):=by
 refine⟨fun i H q h=>⟨xs,xs[i],q,by simp [h]⟩,fun H q=>⟨xs,q,af _⟩,fun i H x H' q _ h=>?_⟩
 obtain⟨h1,h2⟩:=h
 exact⟨h1,h2 xs q⟩
noncomputable def Ra (lo:Int) (n:Nat):List V:=(bO n).map fun (i:Nat)=>V.int (lo+(i:Int))
theorem Bs (lo:Int) (n:Nat):(Ra lo n).length=n:=by unfold Ra;simp
theorem Pa {lo:Int} {n i:Nat} (h:i<n):(Ra lo n)[i]? = some (.int (lo+(i:Int))):=by unfold Ra;simp [h]
theorem Dv (lo:Int) (n:Nat):Cz (Itr lo n) (Ra lo n) (fun _=>True):=by
 refine⟨fun i H _ h=>?_,fun H _=>?_,fun i H x H' _ hi h=>?_⟩
 ·rw [Bs] at h;exact h
 ·show n<=(Ra lo n).length;rw [Bs];exact af _
 ·obtain⟨h1,h2⟩:=h
  rw [Bs] at hi
  exact⟨h1,by rw [Pa hi,h2]⟩
noncomputable def Q9 (lo st:Int) (n:Nat):List V:=(bO n).map fun (i:Nat)=>V.int (lo+(i:Int) * st)
theorem Jk (lo st:Int) (n:Nat):(Q9 lo st n).length=n:=by unfold Q9;simp
theorem ar1 (lo st:Int) (n:Nat):Cz (ah0 lo st n) (Q9 lo st n) (fun _=>True):=by
 refine⟨fun i H _ h=>?_,fun H _=>?_,fun i H x H' _ hi h=>?_⟩
 ·rw [Jk] at h;exact h
 ·show n<=(Q9 lo st n).length;rw [Jk];exact af _
 ·obtain⟨h1,h2⟩:=h
  rw [Jk] at hi
  exact⟨h1,by rw [h2];unfold Q9;simp [hi]⟩
noncomputable def Ib:Nat->List V->List (V×V)
 | _,[]=>[]
 | k,x::r=>(.int k,x)::Ib (k+1) r
theorem K1:∀ (k:Nat) (xs:List V),(Ib k xs).length=xs.length
 | _,[]=>rfl
 | k,_::r=>by rw [Ib,aQ,aQ,K1 (k+1) r]
theorem K0:∀ {k i:Nat} {xs:List V} {x:V},xs[i]? = some x->(Ib k xs)[i]? = some (.int ((k+i:Nat):Int),x)
 | _,_,[],_,h=>by simp at h
 | k,0,y::r,x,h=>by
  simp only [cN,f7] at h
  subst h
  rfl
 | k,i+1,y::r,x,h=>by
  rw [bA] at h
  rw [Ib,bA,K0 h]
  congr 4
  omega
theorem ar0 {K:aa} {a:Addr} (xs:List V):So (Ite K a) (Ib 0 xs) (fun H=>SqL K H a xs):=by
 have e:=K1 0 xs
 refine⟨fun i H q h=>⟨xs,xs[i]'(by omega),q,by simp⟩,fun H q=>⟨xs,q,by omega⟩,fun i H v H' q _ h=>?_⟩
 obtain⟨T,x,hT,h1,h2,h4⟩:=h
 refine⟨T,.int i,x,hT,h1,?_,h4⟩
 have:=K0 (k:=0) (h2 xs q)
 rw [jI] at this
 exact this
section
variable {J:It} {its:List V} {ok:Hp->Prop} {g:DG} {tb:DS} {D:Pn} {σ:St} {H:Hp}
theorem B1 (Y:Cz J its ok) (Pv:Nat->St->Hp->Prop) (h0:Pv 0 σ H) (hok:∀ i σ H,i<=its.length->Pv i σ H->ok H)
  (hs:∀ i x σ H,its[i]? = some x->Pv i σ H->g x σ H fun σ2 H2=>tb { D with nx:=Pv (i+1),ct:=Pv (i+1),bk:=D.nx } σ2 H2) (hd:∀ σ H,Pv its.length σ H->D.nx σ H):Wx J g tb D σ H:=by
 refine⟨fun i m σ H=>m=its.length - i/\i<=its.length/\Pv i σ H,⟨its.length,by simp,bJ _,h0⟩,?_⟩
 rintro i m σ H ⟨rfl,hi,p⟩
 by_cases hlt:i<its.length
 ·refine .inr ⟨Y.go i H (hok i σ H hi p) hlt,Pv (i+1),fun σ' H' p'=>⟨its.length - (i+1),by omega,rfl,hlt,p'⟩,fun x H' y=>?_⟩
  obtain⟨e,y2⟩:=Y.yld i H x H' (hok i σ H hi p) hlt y
  subst e
  exact hs i x σ _ y2 p
 ·have e:i=its.length:=by omega
  subst e
  exact .inl ⟨Y.stop H (hok _ σ H hi p),hd σ H p⟩
theorem aj1 {its:List (V×V)} (Y:So J its ok) (Pv:Nat->St->Hp->Prop) (h0:Pv 0 σ H) (hok:∀ i σ H,i<=its.length->Pv i σ H->ok H)
  (hs:∀ i x y T σ H,its[i]? = some (x,y)->H T=none->Pv i σ H->g (.ref T) σ (upd H T (.tup [x,y])) fun σ2 H2=>tb { D with nx:=Pv (i+1),ct:=Pv (i+1),bk:=D.nx } σ2 H2) (hd:∀ σ H,Pv its.length σ H->D.nx σ H):Wx J g tb D σ H:=by
 refine⟨fun i m σ H=>m=its.length - i/\i<=its.length/\Pv i σ H,⟨its.length,by simp,bJ _,h0⟩,?_⟩
 rintro i m σ H ⟨rfl,hi,p⟩
 by_cases hlt:i<its.length
 ·refine .inr ⟨Y.go i H (hok i σ H hi p) hlt,Pv (i+1),fun σ' H' p'=>⟨its.length - (i+1),by omega,rfl,hlt,p'⟩,fun x H' y=>?_⟩
  obtain⟨T,u,v,hT,e1,e2,e3⟩:=Y.yld i H x H' (hok i σ H hi p) hlt y
  subst e1 e3
  exact hs i u v T σ _ e2 hT p
 ·have e:i=its.length:=by omega
  subst e
  exact .inl ⟨Y.stop H (hok _ σ H hi p),hd σ H p⟩
variable {tc:DT} {te:DE} {L:Addr} {R:Hp->Prop} {E:EK}
theorem X5 (Y:Cz J its ok) (Pv:Nat->St->Hp->Prop) (h0:Pv 0 σ H) (hok:∀ i σ H,i<=its.length->Pv i σ H->ok H)
  (hs:∀ i x σ H,its[i]? = some x->Pv i σ H->g x σ H fun σ3 H3=>tc σ3 H3 (fun b H4=>if b=true then te σ3 H4 (fun v H5=>∃ ys,H5 L=some (.lst ys)/\ys.length<sizeLine/\Pv (i+1) σ3 (upd H5 L (.lst (ys++[v])))) E else Pv (i+1) σ3 H4) E)
  (hd:∀ σ H,Pv its.length σ H->R H):Uo J g tc te L R σ H E:=by
 refine⟨fun i m σ H=>m=its.length - i/\i<=its.length/\Pv i σ H,⟨its.length,by simp,bJ _,h0⟩,?_⟩
 rintro i m σ H ⟨rfl,hi,p⟩
 by_cases hlt:i<its.length
 ·refine .inr ⟨Y.go i H (hok i σ H hi p) hlt,Pv (i+1),fun σ' H' p'=>⟨its.length - (i+1),by omega,rfl,hlt,p'⟩,fun x H' y=>?_⟩
  obtain⟨e,y2⟩:=Y.yld i H x H' (hok i σ H hi p) hlt y
  subst e
  exact hs i x σ _ y2 p
 ·have e:i=its.length:=by omega
  subst e
  exact .inl ⟨Y.stop H (hok _ σ H hi p),hd σ H p⟩
end
section
variable {K:aa} {H H':Hp}
theorem Same.seqL {a:Addr} {xs:List V} (e:Same H H') (h:SqL K H a xs):SqL K H' a xs:=by
 rcases h with (h|⟨o,h⟩)|h
 ·exact .inl (.inl (e _ _ h))
 ·exact .inl (.inr ⟨o,e _ _ h⟩)
 ·exact .inr h
mutual
theorem E5 (S:Same H H'):∀ {d:Dt} {x:V},At K H d x->At K H' d x
 | .at_ v,x,h=>by unfold At at h ⊢;exact h
 | .lst l,x,h=>by unfold At at h ⊢;obtain⟨a,xs,e,q,h⟩:=h;exact⟨a,xs,e,S.seqL q,Bh S h⟩
 | .tup l,x,h=>by unfold At at h ⊢;obtain⟨a,xs,e,q,h⟩:=h;exact⟨a,xs,e,S.seqT q,Bh S h⟩
theorem Bh (S:Same H H'):∀ {ds:List Dt} {xs:List V},AtL K H ds xs->AtL K H' ds xs
 | [],xs,h=>by unfold AtL at h ⊢;exact h
 | d::ds,xs,h=>by unfold AtL at h ⊢;obtain⟨y,ys,e,h1,h2⟩:=h;exact⟨y,ys,e,E5 S h1,Bh S h2⟩
end
theorem Cu:∀ {ds:List Dt} {xs:List V} {i:Nat} {d:Dt},AtL K H ds xs->ds[i]? = some d -> ∃ y,xs[i]? = some y/\At K H d y
 | [],_,_,_,_,e=>by simp at e
 | c::ds,xs,0,d,h,e=>by
  unfold AtL at h
  obtain⟨y,ys,rfl,h1,h2⟩:=h
  rw [cN] at e
  cases e
  exact⟨y,rfl,h1⟩
 | c::ds,xs,i+1,d,h,e=>by
  unfold AtL at h
  obtain⟨y,ys,rfl,h1,h2⟩:=h
  rw [bA] at e
  obtain⟨z,e1,e2⟩:=Cu h2 e
  exact⟨z,by rw [bA];exact e1,e2⟩
theorem A7:AtL K H [] []:=by unfold AtL;rfl
theorem Bc {d:Dt} {ds:List Dt} {x:V} {xs:List V} (h:At K H d x) (t:AtL K H ds xs):AtL K H (d::ds) (x::xs):=by unfold AtL;exact⟨x,xs,rfl,h,t⟩
theorem Ck:∀ {ds:List Dt} {xs:List V} {es:List Dt} {ys:List V},AtL K H ds xs->AtL K H es ys->AtL K H (ds++es) (xs++ys)
 | [],_,_,_,h,g=>by unfold AtL at h;rw [h];exact g
 | c::ds,xs,es,ys,h,g=>by
  unfold AtL at h
  obtain⟨y,zs,rfl,h1,h2⟩:=h
  exact Bc h1 (Ck h2 g)
noncomputable def Bw (z:Str):Dt:=.at_ (.str z)
theorem Es {z:Str}:At K H (Bw z) (.str z):=by unfold Bw At;exact⟨rfl,rfl⟩
theorem Ho:∀ {r:List Str},AtL K H (r.map Bw) (r.map V.str)
 | []=>A7
 | _::_=>Bc Es Ho
theorem Er:∀ {r:List Str} {xs:List V},AtL K H (r.map Bw) xs->xs=r.map V.str
 | [],xs,h=>by unfold hY AtL at h;exact h
 | z::r,xs,h=>by
  rw [aS] at h
  unfold AtL at h
  obtain⟨y,ys,rfl,h1,h2⟩:=h
  unfold Bw At at h1
  rw [h1.1,Er h2]
  rfl
theorem Ff {a:Addr} {r:List Str} (h:SqT K H a (r.map V.str)):At K H (.tup (r.map Bw)) (.ref a):=by unfold At;exact⟨a,_,rfl,h,Ho⟩
theorem Hr {x:V} {r:List Str} (h:At K H (.tup (r.map Bw)) x):∃ a,x=.ref a/\SqT K H a (r.map V.str):=by
 unfold At at h
 obtain⟨a,xs,e,q,h⟩:=h
 rw [Er h] at q
 exact⟨a,e,q⟩
theorem Lu {a:Addr} {r:List Str} (h:SqL K H a (r.map V.str)):At K H (.lst (r.map Bw)) (.ref a):=by unfold At;exact⟨a,_,rfl,h,Ho⟩
theorem F8 {a:Addr} {ds:List Dt} {xs:List V} (h:SqT K H a xs) (g:AtL K H ds xs):At K H (.tup ds) (.ref a):=by unfold At;exact⟨a,xs,rfl,h,g⟩
theorem Hq {a:Addr} {ds:List Dt} {xs:List V} (h:SqL K H a xs) (g:AtL K H ds xs):At K H (.lst ds) (.ref a):=by unfold At;exact⟨a,xs,rfl,h,g⟩
theorem B7 {x:V} {ds:List Dt} (h:At K H (.tup ds) x):∃ a xs,x=.ref a/\SqT K H a xs/\AtL K H ds xs:=by unfold At at h;exact h
theorem Sr {v:V} (f:A8 v=true):At K H (.at_ v) v:=by unfold At;exact⟨rfl,f⟩
end
theorem Yg (a b:Str):deq (Bw a) (Bw b)=decide (a=b):=by
 unfold Bw deq
 show (a==b)=_
 rw [cH]
theorem Hz {α:Type} [DecidableEq α] {f:α->Dt} (h:∀ a b,deq (f a) (f b)=decide (a=b)):∀ (l l':List α),C3 (l.map f) (l'.map f)=decide (l=l')
 | [],[]=>by unfold hY C3;rfl
 | [],_::_=>by unfold hY C3;rfl
 | _::_,[]=>by unfold hY C3;rfl
 | a::l,b::l'=>by
  rw [aS,aS]
  unfold C3
  rw [h,Hz h l l',cK,ak,decide_eq_true_iff,decide_eq_true_iff,decide_eq_true_iff,List.cons.injEq]
theorem Hy {α:Type} {f:α->Dt} {n:Nat} (h:∀ a,dep (f a)<=n):∀ (l:List α),Cj (l.map f)<=n
 | []=>by unfold hY Cj;exact bJ _
 | a::l=>by
  rw [aS]
  unfold Cj
  exact Nat.max_le.mpr ⟨h a,Hy h l⟩
theorem Yd (z:Str):dep (Bw z)<=0:=by unfold Bw dep;exact af _
noncomputable def TKeep (K:aa) (H H':Hp):Prop:=∀ a xs,SqT K H a xs->SqT K H' a xs
section
variable {K:aa} {H H':Hp}
theorem TKeep.of (S:Same H H'):TKeep K H H':=fun _ _ h=>S.seqT h
theorem TKeep.lst {l:Addr} {ys zs:List V} (h:H l=some (.lst ys)):TKeep K H (upd H l (.lst zs)):=fun a xs q=>by
 rcases q with (q|⟨o,q⟩)|q
 ·have ne:a≠l:=fun e=>by subst e;rw [h] at q;cases q
  exact .inl (.inl (by rw [Ae ne];exact q))
 ·have ne:a≠l:=fun e=>by subst e;rw [h] at q;cases q
  exact .inl (.inr ⟨o,by rw [Ae ne];exact q⟩)
 ·exact .inr q
theorem Ll {x:V} {r:List Str} (h:At K H (.tup (r.map Bw)) x) (k:TKeep K H H'):At K H' (.tup (r.map Bw)) x:=by
 obtain⟨a,rfl,q⟩:=Hr h
 exact Ff (k _ _ q)
theorem Jl (k:TKeep K H H'):∀ {rs:List (List Str)} {xs:List V},AtL K H (rs.map fun r=>.tup (r.map Bw)) xs->AtL K H' (rs.map fun r=>.tup (r.map Bw)) xs
 | [],xs,h=>by rw [eU] at h ⊢;unfold AtL at h ⊢;exact h
 | r::rs,xs,h=>by
  rw [aS] at h ⊢
  unfold AtL at h
  obtain⟨y,ys,rfl,h1,h2⟩:=h
  exact Bc (Ll h1 k) (Jl k h2)
end
end L2
namespace L2
open PySem PySem.Spec PySem.W
end L2
namespace L2
open PySem PySem.Spec PyProof.Rows
open Sem (wp)
section
variable {X:Cx} {pins:List (Addr×Obj)} {σ:St} {H:Hp} {s:ag} {a C:Addr} {dx:Option Addr} {h':Heap}
end
section
variable {P:aO} {w:bM} {K:aa} {mg:Str->Option Value} {base:Heap}
end
end L2
namespace L2
open PySem PySem.Spec PyProof.Rows
section
variable {P:aO} {w:bM} {K:aa} {mg:Str->Option Value} {base:Heap} {x q:Str} {st:Stmt} {f:Addr} {d:aE} {ps:List Str}
noncomputable def bf9 (K:aa) (x q:Str) (st:Stmt) (f:Addr):Prop:=∃ d,Fun K x q st f d
structure TopD (K:aa) (q:Str) (st:Stmt) (f:Addr):Prop where
 at_:aW K aM q=some (some (.ref f))
 d:bf9 K q q st f
structure MetD (K:aa) (x q:Str) (st:Stmt) (f:Addr):Prop where
 fn:dU K (.ref f)=true
 d:bf9 K x q st f
theorem top_mk {oc:Value} {od an:Option Addr} {osl:Array (Option Value)} {kV doc pm cdv ct:Value} (a:aW K aM q=some (some (.ref f))) (l:K.lookup f=some ⟨oc,od,.func (cR q q (B8 st) (Aj st) (Ab st) .none kV doc pm an cdv ct),osl⟩)
  (c:eD K cdv q=true) (k:aU K (.ref f)=true):TopD K q st f:=⟨a,_,P5 l c k⟩
theorem met_mk {oc:Value} {od an:Option Addr} {osl:Array (Option Value)} {kV doc pm cdv ct:Value} (l:K.lookup f=some ⟨oc,od,.func (cR x q (B8 st) (Aj st) (Ab st) .none kV doc pm an cdv ct),osl⟩)
  (c:eD K cdv q=true) (k:aU K (.ref f)=true) (i:dU K (.ref f)=true):MetD K x q st f:=⟨i,_,P5 l c k⟩
structure DOk (K:aa) (mg:Str->Option Value) (q:Str) (st:Stmt) (f:Addr) (d:aE) (ps:List Str):Prop where
 F:FunD K q q st f d .none
 b:Binds K d ps []
 m:mg q=some (.ref f)
structure MOk (K:aa) (x q:Str) (st:Stmt) (f:Addr) (d:aE) (ps:List Str):Prop where
 F:FunD K x q st f d .none
 b:Binds K d ps []
 i:dU K (.ref f)=true
theorem TopD.ok {h:Heap} (D:TopD K q st f) (X:K.In h) (G:h.Ns aM mg) (hb:∀ (kV doc pm:Value) (an:Option Addr) (cdv ct:Value) (us:List Value),us.length=ps.length->mh (cR q q (B8 st) (Aj st) (Ab st) .none kV doc pm an cdv ct) ⟨us,[]⟩=pure (ps.zip us)):∃ d,DOk K mg q st f d ps:=by
 obtain⟨a,d,F⟩:=D
 exact⟨d,F.toD,F.binds hb,cu X G a⟩
theorem MetD.ok (D:MetD K x q st f) (hb:∀ (kV doc pm:Value) (an:Option Addr) (cdv ct:Value) (us:List Value),us.length=ps.length->mh (cR x q (B8 st) (Aj st) (Ab st) .none kV doc pm an cdv ct) ⟨us,[]⟩=pure (ps.zip us)):∃ d,MOk K x q st f d ps:=by
 obtain⟨a,d,F⟩:=D
 exact⟨d,F.toD,F.binds hb,a⟩
theorem bj2 {i:FI} (h2:i.ds=[]) (b:Binds K i.fd i.ps []):∀ j,j<=i.dfs.length->Binds K i.fd i.ps (i.ds.drop j):=fun j _=>by
 rw [h2,List.drop_nil];exact b
theorem Tab.con {k:Nat} {gb:List (Str×GB)} {bl:List Str} (T:Tab P w K mg base k gb bl) (i:FI) (g:DOk K mg q st i.f i.fd i.ps) (ok:FnOk P w K mg base CX0 i.k i.f i.fd i.ps i.sp) (hk:i.k<=k:=by exact af _) (h1:i.dfs=[]:=by rfl) (h2:i.ds=[]:=by rfl):Tab P w K mg base k ((q,.fn i)::gb) bl:=
 T.cons ⟨g.m,g.F.kp,⟨CX0,fun X' _ _=>Ov X',ok⟩,hk,bj2 h2 g.b,by rw [h1,h2];exact .nil⟩
theorem MOk.fi {k:Nat} (i:FI) (g:MOk K x q st i.f i.fd i.ps) (ok:FnOk P w K mg base CX0 i.k i.f i.fd i.ps i.sp) (hk:i.k<=k:=by exact eV rfl) (h1:i.dfs=[]:=by rfl) (h2:i.ds=[]:=by rfl):FiIn P w K mg base k i:=
 ⟨g.F.kp,⟨CX0,fun X' _ _=>Ov X',ok⟩,hk,bj2 h2 g.b,by rw [h1,h2];exact .nil⟩
end
end L2
namespace Att
open PySem PySem.Spec PyProof.Rows PySem.W PySem.W.X
open L2 (Ko Room FnOk CXT Sp Hp V SqL ah3)
theorem Tm:∀ ns:List Int,ofPys (ns.map PyData.int)=ns.map lU
 | []=>by simp [ofPys]
 | m::ns=>by simp only [aS,ofPys,ofPy,Tm ns]
theorem a71 (ns:List Int):WData.list (ns.map lU)=ofPy (PyData.list (ns.map PyData.int)):=by simp only [ofPy,Tm]
noncomputable def b40 (n:Nat):Value->Bool
 | .str _ t=>decide (t<n)
 | _=>true
theorem tok_mk {K:aa} {n v:Nat} {c:Value} {d:Option Addr} {es:Array DictEntry} {sl:Array (Option Value)} (h:K.lookup aM=some ⟨c,d,.dict es v,sl⟩) (e:es.toList.all (fun x=>b40 n x.val)=true):Ko K n:=by
 intro x y t q
 unfold nsIn at q
 rw [h] at q
 dsimp only at q
 split at q
 ·rename_i en hf
  have hm:=List.mem_of_find?_eq_some hf
  have:=List.all_eq_true.mp e en hm
  have hv:en.val=.str y t:=by injection q with q;injection q
  rw [hv] at this
  exact of_decide_eq_true this
 ·split at q
  ·cases q
  ·cases q
theorem walk_z {l:OpenLaw} {n k t:Nat} {q:aO} {loose:List Str} {XP:(Str->Option Value)->Heap->Prop} {d:DefRec} {K:aa} {w:bM} {s₀ s₁:ag} {mg mb:Str->Option Value} {CX:CXT} {sp:aa->Sp} {x:Str}
  {fa:Addr} {dV kV:Value} {args:List mx} {vals:List Value} {as:List Addr}
  (hn:l.most=some n) (hn2:n<=sizeLine) (hdf:d.params.defaults=[]) (hr:Room k ll)
  (G:Ground q loose [] XP w s₀ mg mb s₁.heap) (KX:K.In s₁.heap) (hD:Dflts mg s₁.heap d.params [] dV kV) (hmg:mg d.name=some (.ref fa)) (hg:s₁.gens = #[])
  (L:PySem.W.Laid l.row.toRowW.records w s₀ s₁ args vals as) (hpre:l.row.toRowW.claim.pre args=true) (hwl:WellAll w.params s₁.heap vals args) (ZT:s₀.toks=t) (tk:Ko K t)
  (F:∃ fd:aE,(∀ (s:ag) (u:Value),lf s fd ⟨[u],[]⟩ [(x,u)]) /\ ∀ base:Heap,K.In base->base.Ns aM mg->FnOk l.prog w K mg base CX k fa fd [x] (sp K))
  (hsp:∀ (H:Hp) (a:Addr) (ns:List Int),ns.length<=n->ah3 H->SqL K H a (ns.map V.int)->sp K [.ref a] H (fun v _=>v=.bl true) fun _ _ _=>False)
  (hCX:∀ (H:Hp) (s:ag) (e:Value) (s':ag),CX [] H s (fun _ _ _=>False) e s'->False) :
  ay (model l.row.toRowW.prog w) ll (PySem.call (.ref fa) vals) (fun v s'=>GoodWG l.row.toRowW.claim (classAt s₀.heap) (ExcName.means s₀.heap) args s₁ (.ok (.ret v)) s')
   (fun e s'=>GoodWG l.row.toRowW.claim (classAt s₀.heap) (ExcName.means s₀.heap) args s₁ (.error e) s') s₁:=by
 obtain⟨a,vs,ns,rfl,rfl,hobj,hints,hlen⟩:=Wg hn hpre hwl
 rw [a71] at L
 have htk:t<=s₁.toks:=script_toks L ZT
 obtain⟨fd,hb,hF⟩:=F
 refine enter_call (eY (L2.law_call KX G.T.g G.T.b G.T.builtins (fun x y u e=>av (tk x y u e) htk) G.T.nolimit hg hobj hints (aR hlen hn2) hr hF hb (fun H hO hS=>hsp H a ns hlen hO hS) fun H e s'=>hCX H s₁ e s') fun r s' z=>?_)
 obtain⟨rfl,h2,h3,h4⟩:=z
 exact⟨.inl ⟨.bool true,.bool true,[],rfl,fun _=>rfl,.bool true,V8 l _,fun _=>⟨List.Pairwise.nil,fun _ hm=>(nomatch hm)⟩⟩,h2,h3,h4⟩
end Att
noncomputable def PySem.W.Fast.tw12283442468108306000:Unit:=()
noncomputable def PySem.W.Fast.tw127667474604767494:Unit:=()
noncomputable def PySem.W.Fast.tw12997888174811664597:Unit:=()
noncomputable def PySem.W.Fast.tw1460549929401281595:Unit:=()
noncomputable def PySem.W.Fast.tw15144154548025426718:Unit:=()
noncomputable def PySem.W.Fast.tw17428751979107037148:Unit:=()
noncomputable def PySem.W.Fast.tw17447534139074395658:Unit:=()
noncomputable def PySem.W.Fast.tw1825478838714114482:Unit:=()
noncomputable def PySem.W.Fast.tw3082543425739421559:Unit:=()
noncomputable def PySem.W.Fast.tw3209392028597309011:Unit:=()
noncomputable def PySem.W.Fast.tw4520462945595182216:Unit:=()
noncomputable def PySem.W.Fast.tw7056569717613072981:Unit:=()
noncomputable def PySem.W.Fast.tw7521155383643295265:Unit:=()
noncomputable def PySem.W.Fast.tw8797796706767354196:Unit:=()
noncomputable def PySem.W.Fast.tw902847313559996831:Unit:=()
noncomputable def PySem.W.Fast.tw9666636755586777312:Unit:=()
noncomputable def PySem.W.Fast.tw9753700099692971278:Unit:=()
namespace K21
open PySem L2
set_option genInjectivity false in
set_option genSizeOfSpec false in
structure Adr where
 f_zs:Addr
 d_zs:aE
 f_zi:Addr
 d_zi:aE
 f_zah:Addr
 d_zah:aE
 f_zy:Addr
 d_zy:aE
 f_zp:Addr
 d_zp:aE
 f_zm:Addr
 d_zm:aE
 f_zaj:Addr
 d_zaj:aE
 f_zq:Addr
 d_zq:aE
 f_zb:Addr
 d_zb:aE
 f_zx:Addr
 d_zx:aE
 f_zac:Addr
 d_zac:aE
 f_zl:Addr
 d_zl:aE
 f_zk:Addr
 d_zk:aE
 f_zw:Addr
 d_zw:aE
 f_za:Addr
 d_za:aE
 f_zh:Addr
 d_zh:aE
 f_zz:Addr
 d_zz:aE
 f_zr:Addr
 d_zr:aE
 f_zj:Addr
 d_zj:aE
 f_zad:Addr
 d_zad:aE
 f_zv:Addr
 d_zv:aE
 f_zag:Addr
 d_zag:aE
 f_zab:Addr
 d_zab:aE
 f_zae:Addr
 d_zae:aE
 f_zt:Addr
 d_zt:aE
 f_zn:Addr
 d_zn:aE
 f_zc:Addr
 d_zc:aE
 f_zaa:Addr
 d_zaa:aE
 f_zg:Addr
 d_zg:aE
 f_zf:Addr
 d_zf:aE
 f_zaf:Addr
 d_zaf:aE
 f_zu:Addr
 d_zu:aE
 f_zai:Addr
 d_zai:aE
 f_zo:Addr
 d_zo:aE
 f_ze:Addr
 d_ze:aE
 f_zd:Addr
 d_zd:aE
 f_zak:Addr
 d_zak:aE
 c_zar:Addr
 c_zau:Addr
 c_zat:Addr
 c_Kind:Addr
 u_zal:Value
 u_zam:Value
 u_zap:Value
 u_zan:Value
 u_zaq:Value
 u_zao:Value
 u_zas:Value
 n_zaq:Nat
 n_zao:Nat
 n_zas:Nat
noncomputable def B5 (c:Nat):Bool:=(decide (32<=c)&&decide (c<=126))&&c != 37
noncomputable def wfB (z:Str):Bool:=decide (z.length<=60)&&z.cps.toList.all B5
noncomputable def wfS (z:Str):Prop:=z.length<=60/\z.cps.toList.all B5=true
noncomputable abbrev Tb:=List (List Str)
noncomputable def wfR (m:Nat) (r:List Str):Prop:=r.length=m /\ ∀ z∈r,wfS z
noncomputable def wfT (t:Tb):Prop:=1<=t.length/\t.length<=6 /\ ∃ m,1<=m/\m<=6 /\ ∀ r∈t,wfR m r
inductive Ct where
 | txt (z:Str)
 | tab (t:Tb)
 deriving DecidableEq
noncomputable def Cd (r:List Str):Dt:=.tup (r.map Bw)
noncomputable def Bt (t:Tb):Dt:=.tup (t.map Cd)
noncomputable def CtAt (K:aa) (H:Hp):Ct->V->Prop
 | .txt z,x=>x=.str z
 | .tab t,x=>At K H (Bt t) x
noncomputable def Ct.wf:Ct->Prop
 | .txt z=>wfS z
 | .tab t=>wfT t
noncomputable def Fm:Ct->Bool
 | .txt _=>false
 | .tab _=>true
noncomputable def Pm (K:aa) (H:Hp):Option Ct->V->Prop
 | none,x=>x=.non
 | some c,x=>CtAt K H c x
noncomputable def C6 (w:Str):Prop:=w = "chapter" \/ w = "para" \/ w = "table"
noncomputable def Cq (w:Str):Bool:=decide (w = "table")
noncomputable def AtO (K:aa) (H:Hp):Option Dt->V->Prop
 | some d,x=>At K H d x
 | none,x=>∃ a,x=.ref a/\H a=some (.dK [])
noncomputable def txD:Dt->Bool
 | .at_ (.str z)=>wfB z
 | _=>false
noncomputable def in6 (n:Nat):Bool:=decide (1<=n)&&decide (n<=6)
noncomputable def rwD:Dt->Bool
 | .tup ds=>in6 ds.length&&ds.all txD
 | _=>false
noncomputable def Gg:Dt->Nat
 | .tup ds=>ds.length
 | _=>0
noncomputable def E2:Dt->Bool
 | .tup ds=>in6 ds.length&&(ds.all rwD&&ds.all fun d=>decide (Gg d=Gg (ds.headD (.tup []))))
 | _=>false
noncomputable def txO:Option Dt->Bool
 | some d=>txD d
 | none=>false
noncomputable def Yr:Option Dt->Bool
 | some d=>E2 d
 | none=>false
noncomputable def stD:Dt->Prop
 | .at_ (.str z)=>z.length<=10000
 | _=>True
noncomputable def st1:Dt->Prop
 | .tup ds=>∀ d∈ds,stD d
 | _=>True
noncomputable def st2:Dt->Prop
 | .tup ds=>ds.length<=10000 /\ ∀ d∈ds,st1 d
 | _=>True
noncomputable def stO:Option Dt->Prop
 | some d=>stD d
 | none=>True
noncomputable def Wj:Option Dt->Prop
 | some d=>st2 d
 | none=>True
noncomputable def Kc (c:Nat):List Nat:=if c=92\/c=124\/c=47 then [92,c] else [c]
noncomputable def D5 (l:List Nat):List Nat:=l.flatMap Kc
noncomputable def ofC (l:List Nat):Str:=⟨l.toArray⟩
noncomputable def E0 (z:Str):Str:=ofC (D5 z.cps.toList)
noncomputable def shR (r:List Str):Str:=i3 "|" (r.map E0)
noncomputable def shT (t:Tb):Str:=i3 "/" (t.map shR)
noncomputable def shC:Ct->Str
 | .txt z=>z
 | .tab t=>shT t
noncomputable abbrev Rw:=List (List Nat)
noncomputable def rd:List Nat->Bool->List Rw->Rw->List Nat->Option (List Rw)
 | [],b,rs,cs,g=>if b=true then none else some (rs++[cs++[g]])
 | c::l,b,rs,cs,g=>if b=true then (if c=92\/c=124\/c=47 then rd l false rs cs (g++[c]) else none)
  else if c=92 then rd l true rs cs g else if c=124 then rd l false rs (cs++[g]) [] else if c=47 then rd l false (rs++[cs++[g]]) [] [] else rd l false rs cs (g++[c])
noncomputable def Ds (t:List Rw):Tb:=t.map fun r=>r.map ofC
noncomputable def rdT (z:Str):Option Tb:=(rd z.cps.toList false [] [] []).map Ds
noncomputable def E8 (z:Str):Option Tb:=(rdT z).filter fun t=>E2 (Bt t)
noncomputable def E7 (tab:Bool) (z:Str):Option Ct:=if tab=true then (E8 z).map .tab else if wfB z=true then some (.txt z) else none
noncomputable def Jw (l:List Nat):Dt:=.lst (l.map fun c=>Bw ⟨#[c]⟩)
noncomputable def Kk (r:Rw):Dt:=.lst (r.map Jw)
noncomputable def bv5 (t:List Rw):Dt:=.lst (t.map Kk)
noncomputable def M3 (r:List Str):Dt:=.lst (r.map Bw)
noncomputable def bd9 (t:Tb):Dt:=.lst (t.map M3)
noncomputable def big (z:Str):Prop:=z.length<=9000
structure Aw (K:aa) (t:Adr):Prop where
 nS:aW K aM "STROKE" = some (some (.str "\\" t.n_zas))
 nC:aW K aM "CELL_SIGN" = some (some (.str "|" t.n_zao))
 nR:aW K aM "ROW_SIGN" = some (some (.str "/" t.n_zaq))
 pS:0<t.n_zas
 pC:0<t.n_zao
 pR:0<t.n_zaq
 cl:∀ C,C=t.c_zar\/C=t.c_zau\/C=t.c_zat->Cls K C/\aw K (.ref C) "__class__" = some (some (.builtin "object.__class__"))/\b8 K C (.type "object")=some true/\b8 K C (.ref t.c_Kind)=some true
 hn:iJ K (.builtin "object.__class__") "__get__" = some (some (.builtin "getset_descriptor.__get__"))
 htk:jN K (.builtin "object.__class__")=some true
 ty:j8 K (.ref t.c_Kind)=some (.type "type")
 mr:b8 K t.c_Kind (.ref t.c_Kind)=some true
section
noncomputable def ae5 (K:aa) (t:Adr):Sp:=fun vs H Q _=>∃ (x:V) (o:Option Dt),vs=[x,.int 0,.int 60]/\AtO K H o x/\stO o/\Q (.bl (match o with|some (.at_ (.str z))=>decide (z.length<=60)|_=>false)) H
noncomputable def ae2 (K:aa) (t:Adr):Sp:=fun vs H Q _=>∃ c,vs=[.str ⟨#[c]⟩]/\Q (.bl (B5 c)) H
noncomputable def Nd (K:aa) (t:Adr):Sp:=fun vs H Q _=>∃ x o,vs=[x]/\AtO K H o x/\stO o /\ ∀ H',Same H H'->Q (.bl (txO o)) H'
noncomputable def aw5 (K:aa) (t:Adr):Sp:=fun vs H Q _=>∃ s x o,vs=[s,x]/\AtO K H o x/\stO o /\ ∀ H',Same H H'->Q (.bl (txO o)) H'
noncomputable def aw2 (K:aa) (t:Adr):Sp:=fun vs H Q _=>∃ s x,vs=[s,x]/\Q x H
noncomputable def Ub (K:aa) (t:Adr):Sp:=fun vs H Q _=>∃ (x:V) (o:Option Dt),vs=[x,.int 6]/\AtO K H o x/\Q (.bl (match o with|some (.tup ds)=>in6 ds.length|_=>false)) H
noncomputable def Sb (K:aa) (t:Adr):Sp:=fun vs H Q _=>∃ x d,vs=[x]/\At K H d x/\st1 d /\ ∀ H',Same H H'->Q (.bl (rwD d)) H'
noncomputable def aw3 (K:aa) (t:Adr):Sp:=fun vs H Q _=>∃ s x o,vs=[s,x]/\AtO K H o x/\Wj o /\ ∀ H',Same H H'->Q (.bl (Yr o)) H'
noncomputable def av7 (K:aa) (t:Adr):Sp:=fun vs H Q _=>∃ (s dx:Addr) (C:Addr) (z:Str),vs=[.ref s,.str z]/\H s=some (.ins C dx [])/\(C=t.c_zar\/C=t.c_zau)/\big z /\ ∀ H',Same H H'->Q (if wfB z=true then .str z else .non) H'
noncomputable def ae7 (K:aa) (t:Adr):Sp:=fun vs H Q _=>∃ z,vs=[.str z]/\z.length<=60 /\ ∀ H',Same H H'->Q (.str (E0 z)) H'
noncomputable def R8 (K:aa) (t:Adr):Sp:=fun vs H Q _=>∃ x r m,vs=[x]/\At K H (Cd r) x/\m<=6/\wfR m r /\ ∀ H',Same H H'->Q (.str (shR r)) H'
noncomputable def aw0 (K:aa) (t:Adr):Sp:=fun vs H Q _=>∃ s x c,vs=[s,x]/\At K H (Bt c) x/\wfT c /\ ∀ H',Same H H'->Q (.str (shT c)) H'
noncomputable def ae3 (K:aa) (t:Adr):Sp:=fun vs H Q _=>∃ x r,vs=[x]/\At K H (Kk r) x/\r.length<=10000/\(∀ c∈r,c.length<=10000) /\ ∀ H' y,Same H H'->At K H' (Cd (r.map ofC)) y->Q y H'
noncomputable def ae6 (K:aa) (t:Adr):Sp:=fun vs H Q _=>∃ z,vs=[.str z]/\big z /\ ∀ H' x,Same H H'->Pm K H' ((rdT z).map .tab) x->Q x H'
noncomputable def av6 (K:aa) (t:Adr):Sp:=fun vs H Q _=>∃ (s dx:Addr) (z:Str),vs=[.ref s,.str z]/\H s=some (.ins t.c_zat dx [])/\big z /\ ∀ H' x,Same H H'->Pm K H' ((E8 z).map .tab) x->Q x H'
noncomputable def M8 (w:Str):Sp:=fun vs H Q _=>∃ s,vs=[s]/\Q (.str w) H
noncomputable def av9 (K:aa) (t:Adr):Sp:=M8 "chapter"
noncomputable def aw6 (K:aa) (t:Adr):Sp:=M8 "para"
noncomputable def aw4 (K:aa) (t:Adr):Sp:=M8 "table"
noncomputable def Bm (t:Adr) (w:Str):Addr:=if w = "chapter" then t.c_zar else if w = "para" then t.c_zau else t.c_zat
noncomputable def Pe (K:aa) (t:Adr):Sp:=fun vs H Q _=>∃ w,vs=[.str w]/\(C6 w -> ∀ H' a dx,Same H H'->H' a=some (.ins (Bm t w) dx [])->Q (.ref a) H')/\(¬ C6 w -> ∀ H',Same H H'->Q .non H')
noncomputable def Dg (K:aa) (t:Adr):Sp:=fun vs H Q _=>∃ (a:Addr) (ns:List Int) (k:Nat),vs=[.ref a,.int k]/\SqL K H a (ns.map V.int) /\ ∀ r:Int,Q (.int r) H
noncomputable def Pg (K:aa) (t:Adr):Sp:=fun vs H Q _=>∃ (c:Int) (n:Nat),vs=[.int c,.int n]/\n<=100 /\ ∀ H' l (ns:List Int),Same H H'->H l=none->H' l=some (.lst (ns.map V.int))->ns.length=n->(∀ i∈ns,0<=i/\i<2147483648)->Q (.ref l) H'
noncomputable def Gx (K:aa) (t:Adr):Sp:=fun vs H Q _=>∃ c:Int,vs=[.int c] /\ ∀ z H',Same H H'->wfS z->Q (.str z) H'
noncomputable def Jz (K:aa) (t:Adr):Sp:=fun vs H Q _=>∃ c:Int,vs=[.int c] /\ ∀ c H' x,Same H H'->wfT c->At K H' (Bt c) x->Q x H'
noncomputable def Na (K:aa) (t:Adr):Sp:=fun vs H Q _=>∃ (a:Addr) (x y:Int) (n:Nat),vs=[.ref a,.int n]/\H a=some (.lst [.int x,.int y])/\1<=n/\n<=100/\0<=y/\y<4294967296 /\ ∀ (d:Nat) (x' y':Int),d<n->0<=y'->y'<4294967296->Q (.int d) (upd H a (.lst [.int x',.int y']))
noncomputable def Pf (K:aa) (t:Adr):Sp:=fun vs H Q _=>∃ (c:Int) (n:Nat),vs=[.int c,.int n]/\n<=36 /\ ∀ H' l (zs:List Str),Same H H'->H' l=some (.lst (zs.map V.str))->zs.length=n->(∀ z∈zs,wfS z)->Q (.ref l) H'
noncomputable def ae4 (K:aa) (t:Adr):Sp:=fun vs H Q _=>∃ (w:Str) (c:Int),vs=[.str w,.int c] /\ ∀ ct H' x,Same H H'->ct.wf->Fm ct=Cq w->CtAt K H' ct x->Q x H'
noncomputable def ad9 (K:aa) (t:Adr):Sp:=fun vs H Q _=>∃ z,vs=[.str z]/\z.length<=60/\Q (.str (E0 z)) H
noncomputable def M9 (K:aa) (t:Adr):Sp:=fun vs H Q _=>∃ w x c,vs=[.str w,x]/\CtAt K H c x/\c.wf/\Fm c=Cq w /\ ∀ H',Same H H'->Q (.str (shC c)) H'
noncomputable def Ua (K:aa) (t:Adr):Sp:=fun vs H Q _=>∃ z,vs=[.str z]/\z.length<=10000/\Q (.bl (wfB z)) H
noncomputable def ae1 (K:aa) (t:Adr):Sp:=fun vs H Q _=>∃ z,vs=[.str z]/\big z/\(rdT z=none -> ∀ H',Same H H'->Q .non H') /\ ∀ c,rdT z=some c -> ∀ H' x,Same H H'->At K H' (bd9 c) x->Q x H'
noncomputable def Nc (K:aa) (t:Adr):Sp:=fun vs H Q _=>∃ w z,vs=[.str w,.str z]/\big z /\ ∀ H' x,Same H H'->Pm K H' (E7 (Cq w) z) x->Q x H'
noncomputable def Uc (K:aa) (t:Adr):Sp:=fun vs H Q _=>∃ (z:Str) (c o:Int),vs=[.str z,.int c,.int o]/\z.length<=4400 /\ ∀ H' z',Same H H'->big z'->Q (.str z') H'
noncomputable def R9 (K:aa) (t:Adr):Sp:=fun vs H Q _=>∃ (c:Int),vs=[.int c] /\ ∀ H' x o,Same H H'->AtO K H' o x->stO o->Wj o->txO o=false->Yr o=false->Q x H'
noncomputable def aw1 (K:aa) (t:Adr):Sp:=fun vs H Q _=>∃ s,vs=[s]/\Q (.bl false) H
noncomputable def av8 (K:aa) (t:Adr):Sp:=fun vs H Q _=>∃ s,vs=[s]/\Q (.bl true) H
noncomputable def ae0 (K:aa) (t:Adr):Sp:=fun vs H Q _=>vs=[] /\ ∀ H',Same H H'->Q (.bl true) H'
noncomputable def Nf (K:aa) (t:Adr):Sp:=fun vs H Q _=>∃ (a:Addr) (ns:List Int),vs=[.ref a]/\SqL K H a (ns.map V.int)/\ns.length<=63 /\ ∀ H',Q (.bl true) H'
end
noncomputable def top (i:Nat):Stmt:=PySem.Challenge.pw_manyleaf_k21_contents_shown_and_read.main.body.getD i (.Pass ⟨0,0,0,0⟩)
noncomputable def bl:List Str:=["all", "bool", "enumerate", "int", "isinstance", "len", "max", "min", "ord", "range", "str", "tuple"]
section
variable (K:aa) (t:Adr)
noncomputable abbrev Rv:Stmt:=top 5
noncomputable abbrev az2:List Str:=["thing", "least", "greatest"]
noncomputable abbrev Xr:List Str:=["thing", "least", "greatest"]
noncomputable def bi3:FI:=⟨t.f_zs,t.d_zs,Xr,1,ae5 K t,[],[]⟩
noncomputable abbrev Rl:Stmt:=top 6
noncomputable abbrev ay3:List Str:=["sign"]
noncomputable abbrev Xh:List Str:=["sign"]
noncomputable def bh8:FI:=⟨t.f_zi,t.d_zi,Xh,1,ae2 K t,[],[]⟩
noncomputable abbrev Jt:Stmt:=top 4
noncomputable abbrev W5:List Str:=["thing"]
noncomputable abbrev Nr:List Str:=["thing"]
noncomputable def at5:FI:=⟨t.f_zah,t.d_zah,Nr,2,Nd K t,[],[]⟩
noncomputable abbrev R5:Stmt:=Ca (top 13) 1
noncomputable abbrev az8:List Str:=["self", "content"]
noncomputable abbrev Xx:List Str:=["self", "content"]
noncomputable def Oe:FI:=⟨t.f_zy,t.d_zy,Xx,3,aw5 K t,[],[]⟩
noncomputable abbrev Rs:Stmt:=Ca (top 13) 2
noncomputable abbrev ay9:List Str:=["self", "content"]
noncomputable abbrev Xo:List Str:=["self", "content"]
noncomputable def Vj:FI:=⟨t.f_zp,t.d_zp,Xo,1,aw2 K t,[],[]⟩
noncomputable abbrev Rp:Stmt:=top 18
noncomputable abbrev ay7:List Str:=["thing", "most"]
noncomputable abbrev Xl:List Str:=["thing", "most"]
noncomputable def bi1:FI:=⟨t.f_zm,t.d_zm,Xl,1,Ub K t,[],[]⟩
noncomputable abbrev Jv:Stmt:=top 19
noncomputable abbrev W7:List Str:=["thing"]
noncomputable abbrev Nu:List Str:=["thing"]
noncomputable def at7:FI:=⟨t.f_zaj,t.d_zaj,Nu,3,Sb K t,[],[]⟩
noncomputable abbrev Rt:Stmt:=Ca (top 16) 1
noncomputable abbrev az0:List Str:=["self", "content"]
noncomputable abbrev Xp:List Str:=["self", "content"]
noncomputable def Y9:FI:=⟨t.f_zq,t.d_zq,Xp,4,aw3 K t,[],[]⟩
noncomputable abbrev Re:Stmt:=Ca (top 13) 3
noncomputable abbrev ax6:List Str:=["self", "text"]
noncomputable abbrev Xa:List Str:=["self", "text"]
noncomputable def Vh:FI:=⟨t.f_zb,t.d_zb,Xa,5,av7 K t,[],[]⟩
noncomputable abbrev R3:Stmt:=top 21
noncomputable abbrev az7:List Str:=["cell", "shown", "sign"]
noncomputable abbrev Xw:List Str:=["cell"]
noncomputable def bi8:FI:=⟨t.f_zx,t.d_zx,Xw,1,ae7 K t,[],[]⟩
noncomputable abbrev Jo:Stmt:=top 20
noncomputable abbrev W0:List Str:=["row"]
noncomputable abbrev Nm:List Str:=["row"]
noncomputable def as7:FI:=⟨t.f_zac,t.d_zac,Nm,2,R8 K t,[],[]⟩
noncomputable abbrev Ro:Stmt:=Ca (top 16) 2
noncomputable abbrev ay6:List Str:=["self", "content"]
noncomputable abbrev Xk:List Str:=["self", "content"]
noncomputable def a19:FI:=⟨t.f_zl,t.d_zl,Xk,3,aw0 K t,[],[]⟩
noncomputable abbrev Rn:Stmt:=top 23
noncomputable abbrev ay5:List Str:=["row"]
noncomputable abbrev Xj:List Str:=["row"]
noncomputable def bi0:FI:=⟨t.f_zk,t.d_zk,Xj,1,ae3 K t,[],[]⟩
noncomputable abbrev R1:Stmt:=top 22
noncomputable abbrev az6:List Str:=["text", "rows", "is_behind_stroke", "sign"]
noncomputable abbrev Xv:List Str:=["text"]
noncomputable def bi7:FI:=⟨t.f_zw,t.d_zw,Xv,2,ae6 K t,[],[]⟩
noncomputable abbrev Rc:Stmt:=Ca (top 16) 3
noncomputable abbrev ax5:List Str:=["self", "text", "content"]
noncomputable abbrev W9:List Str:=["self", "text"]
noncomputable def a17:FI:=⟨t.f_za,t.d_za,W9,5,av6 K t,[],[]⟩
noncomputable abbrev Rk:Stmt:=Ca (top 14) 0
noncomputable abbrev ay2:List Str:=["self"]
noncomputable abbrev Xg:List Str:=["self"]
noncomputable def aj5:FI:=⟨t.f_zh,t.d_zh,Xg,1,av9 K t,[],[]⟩
noncomputable abbrev R6:Stmt:=Ca (top 15) 0
noncomputable abbrev az9:List Str:=["self"]
noncomputable abbrev Xy:List Str:=["self"]
noncomputable def aj7:FI:=⟨t.f_zz,t.d_zz,Xy,1,aw6 K t,[],[]⟩
noncomputable abbrev Ru:Stmt:=Ca (top 16) 0
noncomputable abbrev az1:List Str:=["self"]
noncomputable abbrev Xq:List Str:=["self"]
noncomputable def aj6:FI:=⟨t.f_zr,t.d_zr,Xq,1,aw4 K t,[],[]⟩
noncomputable abbrev Rm:Stmt:=top 17
noncomputable abbrev ay4:List Str:=["word", "kind"]
noncomputable abbrev Xi:List Str:=["word"]
noncomputable def bh9:FI:=⟨t.f_zj,t.d_zj,Xi,2,Pe K t,[],[]⟩
noncomputable abbrev Jp:Stmt:=top 25
noncomputable abbrev W1:List Str:=["_law_script", "_law_k"]
noncomputable abbrev Nn:List Str:=["_law_script", "_law_k"]
noncomputable def as8:FI:=⟨t.f_zad,t.d_zad,Nn,1,Dg K t,[],[]⟩
noncomputable abbrev Rz:Stmt:=top 26
noncomputable abbrev az5:List Str:=["_law_cell_here", "_law_many", "_law_found", "_law_left", "_law_number", "_law_k"]
noncomputable abbrev Xu:List Str:=["_law_cell_here", "_law_many"]
noncomputable def bi6:FI:=⟨t.f_zv,t.d_zv,Xu,1,Pg K t,[],[]⟩
noncomputable abbrev Js:Stmt:=top 27
noncomputable abbrev W4:List Str:=["_law_cell_here", "_law_signs", "_law_xs", "_law_size", "_law_text_here", "_law_x"]
noncomputable abbrev Nq:List Str:=["_law_cell_here"]
noncomputable def at4:FI:=⟨t.f_zag,t.d_zag,Nq,2,Gx K t,[],[]⟩
noncomputable abbrev Jn:Stmt:=top 28
noncomputable abbrev Wz:List Str:=["_law_cell_here", "_law_xs", "_law_many", "_law_wide", "_law_rows", "_law_j"]
noncomputable abbrev Nl:List Str:=["_law_cell_here"]
noncomputable def as6:FI:=⟨t.f_zab,t.d_zab,Nl,3,Jz K t,[],[]⟩
noncomputable abbrev Jq:Stmt:=top 29
noncomputable abbrev W2:List Str:=["_law_state", "_law_by", "_law_digit"]
noncomputable abbrev No:List Str:=["_law_state", "_law_by"]
noncomputable def as9:FI:=⟨t.f_zae,t.d_zae,No,1,Na K t,[],[]⟩
noncomputable abbrev Rx:Stmt:=top 30
noncomputable abbrev az3:List Str:=["_law_left", "_law_many", "_law_state", "_law_signs", "_law_texts", "_law_k", "_law_text_here", "_law_j"]
noncomputable abbrev Xs:List Str:=["_law_left", "_law_many"]
noncomputable def bi4:FI:=⟨t.f_zt,t.d_zt,Xs,2,Pf K t,[],[]⟩
noncomputable abbrev Rq:Stmt:=top 31
noncomputable abbrev ah2:List Str:=["_law_kind", "_law_cell_here", "_law_many", "_law_wide", "_law_texts"]
noncomputable abbrev Xm:List Str:=["_law_kind", "_law_cell_here"]
noncomputable def bi2:FI:=⟨t.f_zn,t.d_zn,Xm,4,ae4 K t,[],[]⟩
noncomputable abbrev Rf:Stmt:=top 32
noncomputable abbrev ax7:List Str:=["_law_text_here", "_law_found", "_law_sign"]
noncomputable abbrev Xb:List Str:=["_law_text_here"]
noncomputable def bh4:FI:=⟨t.f_zc,t.d_zc,Xb,1,ad9 K t,[],[]⟩
noncomputable abbrev Jm:Stmt:=top 33
noncomputable abbrev Wy:List Str:=["_law_kind", "_law_content_here"]
noncomputable abbrev Nk:List Str:=["_law_kind", "_law_content_here"]
noncomputable def as5:FI:=⟨t.f_zaa,t.d_zaa,Nk,2,M9 K t,[],[]⟩
noncomputable abbrev Rj:Stmt:=top 34
noncomputable abbrev ay1:List Str:=["_law_text_here", "_law_sign"]
noncomputable abbrev Xf:List Str:=["_law_text_here"]
noncomputable def bh7:FI:=⟨t.f_zg,t.d_zg,Xf,1,Ua K t,[],[]⟩
noncomputable abbrev Ri:Stmt:=top 35
noncomputable abbrev ay0:List Str:=["_law_text_here", "_law_rows", "_law_at", "_law_sign"]
noncomputable abbrev Xe:List Str:=["_law_text_here"]
noncomputable def bh6:FI:=⟨t.f_zf,t.d_zf,Xe,1,ae1 K t,[],[]⟩
noncomputable abbrev Jr:Stmt:=top 36
noncomputable abbrev W3:List Str:=["_law_kind", "_law_text_here", "_law_rows", "_law_row"]
noncomputable abbrev Np:List Str:=["_law_kind", "_law_text_here"]
noncomputable def at0:FI:=⟨t.f_zaf,t.d_zaf,Np,2,Nc K t,[],[]⟩
noncomputable abbrev Ry:Stmt:=top 37
noncomputable abbrev az4:List Str:=["_law_text_here", "_law_cell_here", "_law_other", "_law_at", "_law_sign"]
noncomputable abbrev Xt:List Str:=["_law_text_here", "_law_cell_here", "_law_other"]
noncomputable def bi5:FI:=⟨t.f_zu,t.d_zu,Xt,1,Uc K t,[],[]⟩
noncomputable abbrev Ju:Stmt:=top 38
noncomputable abbrev W6:List Str:=["_law_cell_here", "_law_some", "_law_great"]
noncomputable abbrev Nt:List Str:=["_law_cell_here"]
noncomputable def at6:FI:=⟨t.f_zai,t.d_zai,Nt,1,R9 K t,[],[]⟩
noncomputable abbrev Rr:Stmt:=Ca (top 13) 0
noncomputable abbrev ay8:List Str:=["self"]
noncomputable abbrev Xn:List Str:=["self"]
noncomputable def Vi:FI:=⟨t.f_zo,t.d_zo,Xn,1,aw1 K t,[],[]⟩
noncomputable abbrev Rh:Stmt:=Ca (top 14) 1
noncomputable abbrev ax9:List Str:=["self"]
noncomputable abbrev Xd:List Str:=["self"]
noncomputable def a18:FI:=⟨t.f_ze,t.d_ze,Xd,1,av8 K t,[],[]⟩
noncomputable abbrev Rg:Stmt:=top 39
noncomputable abbrev ax8:List Str:=["_law_word", "_law_kind", "_law_told"]
noncomputable abbrev Xc:List Str:=[]
noncomputable def bh5:FI:=⟨t.f_zd,t.d_zd,Xc,3,ae0 K t,[],[]⟩
noncomputable abbrev Dq:Stmt:=top 40
noncomputable abbrev W8:List Str:=["_law_script", "_law_k", "_law_word", "_law_kind", "_law_content_here", "_law_odd_here", "_law_other", "_law_text_here", "_law_j", "_law_spoilt_here", "_law_due", "_law_found"]
noncomputable abbrev Nv:List Str:=["_law_script"]
noncomputable def Bz:List MI:=[⟨t.c_zar,Oe K t⟩,⟨t.c_zau,Oe K t⟩,⟨t.c_zat,Y9 K t⟩]
noncomputable def Dn:List MI:=[⟨t.c_zar,a18 K t⟩,⟨t.c_zau,Vi K t⟩,⟨t.c_zat,Vi K t⟩]
noncomputable def A3:List MI:=[⟨t.c_zar,Vh K t⟩,⟨t.c_zau,Vh K t⟩,⟨t.c_zat,a17 K t⟩]
noncomputable def Do:List MI:=[⟨t.c_zar,Vj K t⟩,⟨t.c_zau,Vj K t⟩,⟨t.c_zat,a19 K t⟩]
noncomputable def Ew:List MI:=[⟨t.c_zar,aj5 K t⟩,⟨t.c_zau,aj7 K t⟩,⟨t.c_zat,aj6 K t⟩]
noncomputable def Bk (K:aa) (t:Adr):List (Str×GB):=[("Chapter", .cls t.c_zar none),("Para", .cls t.c_zau none),("Table", .cls t.c_zat none),("Kind", .val (.ref t.c_Kind) (.ref t.c_Kind)),("LONGEST_TEXT", .val (.int 60) t.u_zal),("PERCENT_SIGN", .val (.int 37) t.u_zam),("MOST_ROWS", .val (.int 6) t.u_zap),("MOST_CELLS", .val (.int 6) t.u_zan),("ROW_SIGN", .val (.str "/") t.u_zaq),("CELL_SIGN", .val (.str "|") t.u_zao),("STROKE", .val (.str "\\") t.u_zas)]
noncomputable def D6:List (Str×GB):=("", .met "holds" (Dn K t))::("", .met "word" (Ew K t))::("has_length", .fn (bi3 K t))::("is_text_sign", .fn (bh8 K t))::("is_tuple_of", .fn (bi1 K t))::("shown_cell", .fn (bi8 K t))::("row_of_signs", .fn (bi0 K t))::("_law_cell", .fn (as8 K t))::("_law_stream", .fn (bi6 K t))::("_law_next", .fn (as9 K t))::("_law_cell_shown", .fn (bh4 K t))::("_law_texts_fit", .fn (bh7 K t))::("_law_read_rows", .fn (bh6 K t))::("_law_spoilt", .fn (bi5 K t))::("_law_odd", .fn (at6 K t))::Bk K t
noncomputable def G7:List (Str×GB):=("is_text", .fn (at5 K t))::("shown_row", .fn (as7 K t))::("read_table", .fn (bi7 K t))::("kind_of_word", .fn (bh9 K t))::("_law_text", .fn (at4 K t))::("_law_digits", .fn (bi4 K t))::("_law_shown", .fn (as5 K t))::("_law_read", .fn (at0 K t))::D6 K t
noncomputable def Vb:List (Str×GB):=("", .met "shown" (Do K t))::("is_row", .fn (at7 K t))::("_law_table", .fn (as6 K t))::("_law_kinds_good", .fn (bh5 K t))::G7 K t
noncomputable def Vc:List (Str×GB):=("", .met "fits" (Bz K t))::("_law_content", .fn (bi2 K t))::Vb K t
noncomputable def a15:List (Str×GB):=("", .met "read_shown" (A3 K t))::Vc K t
noncomputable def as4:List (Str×GB):=("STROKE", .val (.stk "\\" t.n_zas true) t.u_zas)::("CELL_SIGN", .val (.stk "|" t.n_zao true) t.u_zao)::("ROW_SIGN", .val (.stk "/" t.n_zaq true) t.u_zaq)::Bk K t
end
noncomputable def b32 (K:aa) (t:Adr):DS:=
 (Ai (An (Gz K (dFn (fun vs H Q _=>(Kj K) vs H Q) (Aa (Ac 0) (Aa (dC (.ty "str")) Ag))) (Dw Je Je (Ac 1) (dFn (fun vs H Q _=>(D9 K) vs H Q) (Aa (Ac 0) Ag)) (Ac 2))))
 Ah)
theorem bq2 (K:aa) (t:Adr):wSs 40 (Bi K az2 (Ab Rv) (Bk K t) bl) (Aj Rv)=b32 K t:=by kernel_rfl
theorem bs8:Al az2 Xr (Ab Rv):=⟨rfl,rfl,rfl,by decide +kernel,rfl,by decide +kernel,by decide +kernel⟩
theorem bx4:Ay az2 (Ab Rv)=true:=by decide +kernel
noncomputable def bv4 (K:aa) (t:Adr):DS:=
 (Ai (An (Gz K (Dw Je Je (dC (.str " ")) (Ac 0) (dC (.str "~"))) (Af (A6 K true) (dFn (fun vs H Q _=>Wa vs H Q) (Aa (Ac 0) Ag)) (dC (.int 37)))))
 Ah)
theorem bp2 (K:aa) (t:Adr):wSs 40 (Bi K ay3 (Ab Rl) (Bk K t) bl) (Aj Rl)=bv4 K t:=by kernel_rfl
theorem br8:Al ay3 Xh (Ab Rl):=⟨rfl,rfl,rfl,by decide +kernel,rfl,by decide +kernel,by decide +kernel⟩
theorem bw4:Ay ay3 (Ab Rl)=true:=by decide +kernel
noncomputable def bv1 (K:aa) (t:Adr):DS:=
 (Ai (An (Gz K (dFn (spE (ae5 K t) []) (Aa (Ac 0) (Aa (dC (.int 0)) (Aa (dC (.int 60)) Ag)))) (dFn (fun vs H Q _=>(Qx K) vs H Q) (Aa (Ch [none] (Cp K (Ac 0)) (gdN 0) Df (dFn (spE (ae2 K t) []) (Aa (Ac 0) Ag))) Ag))))
 Ah)
theorem bb3 (K:aa) (t:Adr):wSs 40 (Bi K W5 (Ab Jt) (D6 K t) bl) (Aj Jt)=bv1 K t:=by kernel_rfl
theorem bc8:Al W5 Nr (Ab Jt):=⟨rfl,rfl,rfl,by decide +kernel,rfl,by decide +kernel,by decide +kernel⟩
theorem bf3:Ay W5 (Ab Jt)=true:=by decide +kernel
noncomputable def b38 (K:aa) (t:Adr):DS:=
 (Ai (An (dFn (spE (Nd K t) []) (Aa (Ac 1) Ag)))
 Ah)
theorem bq8 (K:aa) (t:Adr):wSs 40 (Bi K az8 (Ab R5) (G7 K t) bl) (Aj R5)=b38 K t:=by kernel_rfl
theorem bt4:Al az8 Xx (Ab R5):=⟨rfl,rfl,rfl,by decide +kernel,rfl,by decide +kernel,by decide +kernel⟩
theorem by0:Ay az8 (Ab R5)=true:=by decide +kernel
noncomputable def b29 (K:aa) (t:Adr):DS:=
 (Ai (An (Ac 1))
 Ah)
theorem bp9 (K:aa) (t:Adr):wSs 40 (Bi K ay9 (Ab Rs) (Bk K t) bl) (Aj Rs)=b29 K t:=by kernel_rfl
theorem bs5:Al ay9 Xo (Ab Rs):=⟨rfl,rfl,rfl,by decide +kernel,rfl,by decide +kernel,by decide +kernel⟩
theorem bx1:Ay ay9 (Ab Rs)=true:=by decide +kernel
noncomputable def b26 (K:aa) (t:Adr):DS:=
 (Ai (An (Gz K (dFn (fun vs H Q _=>(Kj K) vs H Q) (Aa (Ac 0) (Aa (dC (.ty "tuple")) Ag))) (Dw Je Je (dC (.int 1)) (dFn (fun vs H Q _=>(D9 K) vs H Q) (Aa (Ac 0) Ag)) (Ac 1))))
 Ah)
theorem bp6 (K:aa) (t:Adr):wSs 40 (Bi K ay7 (Ab Rp) (Bk K t) bl) (Aj Rp)=b26 K t:=by kernel_rfl
theorem bs2:Al ay7 Xl (Ab Rp):=⟨rfl,rfl,rfl,by decide +kernel,rfl,by decide +kernel,by decide +kernel⟩
theorem bw8:Ay ay7 (Ab Rp)=true:=by decide +kernel
noncomputable def bv2 (K:aa) (t:Adr):DS:=
 (Ai (An (Gz K (dFn (spE (Ub K t) []) (Aa (Ac 0) (Aa (dC (.int 6)) Ag))) (dFn (fun vs H Q _=>(Qx K) vs H Q) (Aa (Ch [none] (Cp K (Ac 0)) (gdN 0) Df (dFn (spE (Nd K t) []) (Aa (Ac 0) Ag))) Ag))))
 Ah)
theorem bb5 (K:aa) (t:Adr):wSs 40 (Bi K W7 (Ab Jv) (G7 K t) bl) (Aj Jv)=bv2 K t:=by kernel_rfl
theorem bd0:Al W7 Nu (Ab Jv):=⟨rfl,rfl,rfl,by decide +kernel,rfl,by decide +kernel,by decide +kernel⟩
theorem bf5:Ay W7 (Ab Jv)=true:=by decide +kernel
noncomputable def b30 (K:aa) (t:Adr):DS:=
 (Ai (dIf (dOr (Hx (Fh K (dFn (spE (Ub K t) []) (Aa (Ac 1) (Aa (dC (.int 6)) Ag))))) (Hx (Fh K (dFn (fun vs H Q _=>(Qx K) vs H Q) (Aa (Ch [none] (Cp K (Ac 1)) (gdN 0) Df (dFn (spE (Sb K t) []) (Aa (Ac 0) Ag))) Ag))))) (Ai (An (dC (.bl false)))
  Ah) Ah)
 (Ai (An (dFn (fun vs H Q _=>(Qx K) vs H Q) (Aa (Ch [none,some 1] (Cp K (Ac 1)) (gdN 0) Df (Af (A6 K false) (dFn (fun vs H Q _=>(D9 K) vs H Q) (Aa (Ac 0) Ag)) (dFn (fun vs H Q _=>(D9 K) vs H Q) (Aa (Af (A2 K) (Ac 1) (dC (.int 0))) Ag)))) Ag)))
 Ah))
theorem bq0 (K:aa) (t:Adr):wSs 40 (Bi K az0 (Ab Rt) (Vb K t) bl) (Aj Rt)=b30 K t:=by kernel_rfl
theorem bs6:Al az0 Xp (Ab Rt):=⟨rfl,rfl,rfl,by decide +kernel,rfl,by decide +kernel,by decide +kernel⟩
theorem bx2:Ay az0 (Ab Rt)=true:=by decide +kernel
noncomputable def b16 (K:aa) (t:Adr):DS:=
 (Ai (An (ai0 (Fh K (De "fits" 1 (Bz K t) (Ac 0) (Aa (Ac 1) Ag))) (Ac 1) (dC .non)))
 Ah)
theorem bo5 (K:aa) (t:Adr):wSs 40 (Bi K ax6 (Ab Re) (Vc K t) bl) (Aj Re)=b16 K t:=by kernel_rfl
theorem br1:Al ax6 Xa (Ab Re):=⟨rfl,rfl,rfl,by decide +kernel,rfl,by decide +kernel,by decide +kernel⟩
theorem bv7:Ay ax6 (Ab Re)=true:=by decide +kernel
noncomputable def b37 (K:aa) (t:Adr):DS:=
 (Ai (Au 1 (Ac 0))
 (Ai (Dx (Cp K (Az (Aa (dC (.stk "\\" t.n_zas true)) (Aa (dC (.stk "|" t.n_zao true)) (Aa (dC (.stk "/" t.n_zaq true)) Ag))))) (gdN 2) (Ai (Au 1 (dMt (rMt K [⟨"str", "str.replace", Jg⟩]) (Ac 1) (Aa (Ac 2) (Aa (Af (As K) (dC (.stk "\\" t.n_zas true)) (Ac 2)) Ag))))
  Ah))
 (Ai (An (Ac 1))
 Ah)))
theorem bq7 (K:aa) (t:Adr):wSs 40 (Bi K az7 (Ab R3) (as4 K t) bl) (Aj R3)=b37 K t:=by kernel_rfl
theorem bt3:Al az7 Xw (Ab R3):=⟨rfl,rfl,rfl,by decide +kernel,rfl,by decide +kernel,by decide +kernel⟩
theorem bx9:Ay az7 (Ab R3)=true:=by decide +kernel
noncomputable def bu6 (K:aa) (t:Adr):DS:=
 (Ai (An (dMt (rMt K [⟨"str", "str.join", Jd K⟩]) (dC (.str "|")) (Aa (Ch [none] (Cp K (Ac 0)) (gdN 0) Df (dFn (spE (ae7 K t) []) (Aa (Ac 0) Ag))) Ag)))
 Ah)
theorem ba8 (K:aa) (t:Adr):wSs 40 (Bi K W0 (Ab Jo) (D6 K t) bl) (Aj Jo)=bu6 K t:=by kernel_rfl
theorem bc3:Al W0 Nm (Ab Jo):=⟨rfl,rfl,rfl,by decide +kernel,rfl,by decide +kernel,by decide +kernel⟩
theorem be8:Ay W0 (Ab Jo)=true:=by decide +kernel
noncomputable def b25 (K:aa) (t:Adr):DS:=
 (Ai (An (dMt (rMt K [⟨"str", "str.join", Jd K⟩]) (dC (.str "/")) (Aa (Ch [none] (Cp K (Ac 1)) (gdN 0) Df (dFn (spE (R8 K t) []) (Aa (Ac 0) Ag))) Ag)))
 Ah)
theorem bp5 (K:aa) (t:Adr):wSs 40 (Bi K ay6 (Ab Ro) (G7 K t) bl) (Aj Ro)=b25 K t:=by kernel_rfl
theorem bs1:Al ay6 Xk (Ab Ro):=⟨rfl,rfl,rfl,by decide +kernel,rfl,by decide +kernel,by decide +kernel⟩
theorem bw7:Ay ay6 (Ab Ro)=true:=by decide +kernel
noncomputable def b24 (K:aa) (t:Adr):DS:=
 (Ai (An (dFn (fun vs H Q _=>(C8 K) vs H Q) (Aa (Ch [none] (Cp K (Ac 0)) (gdN 0) Df (dMt (rMt K [⟨"str", "str.join", Jd K⟩]) (dC (.str "")) (Aa (Ac 0) Ag))) Ag)))
 Ah)
theorem bp4 (K:aa) (t:Adr):wSs 40 (Bi K ay5 (Ab Rn) (Bk K t) bl) (Aj Rn)=b24 K t:=by kernel_rfl
theorem bs0:Al ay5 Xj (Ab Rn):=⟨rfl,rfl,rfl,by decide +kernel,rfl,by decide +kernel,by decide +kernel⟩
theorem bw6:Ay ay5 (Ab Rn)=true:=by decide +kernel
noncomputable def b36 (K:aa) (t:Adr):DS:=
 (Ai (Au 1 (Bq (Aa (Bq (Aa (Bq Ag) Ag)) Ag)))
 (Ai (Au 2 (dC (.bl false)))
 (Ai (Dx (Cp K (Ac 0)) (gdN 3) (Ai (dIf (Fh K (Ac 2)) (Ai (dIf (Ar (Af (ac3 K true) (Ac 3) (Az (Aa (dC (.str "\\")) (Aa (dC (.str "|")) (Aa (dC (.str "/")) Ag)))))) (Ai (An (dC .non))
    Ah) Ah)
   (Ai (D4 (dMt (rMt K [⟨"list", "list.append", Bv⟩]) (Af (A2 K) (Af (A2 K) (Ac 1) (dUn Cc (dC (.int 1)))) (dUn Cc (dC (.int 1)))) (Aa (Ac 3) Ag)))
   (Ai (Au 2 (dC (.bl false)))
   Ah))) (Ai (dIf (Ar (Af (A6 K false) (Ac 3) (dC (.str "\\")))) (Ai (Au 2 (dC (.bl true)))
    Ah) (Ai (dIf (Ar (Af (A6 K false) (Ac 3) (dC (.str "|")))) (Ai (D4 (dMt (rMt K [⟨"list", "list.append", Bv⟩]) (Af (A2 K) (Ac 1) (dUn Cc (dC (.int 1)))) (Aa (Bq Ag) Ag)))
     Ah) (Ai (dIf (Ar (Af (A6 K false) (Ac 3) (dC (.str "/")))) (Ai (D4 (dMt (rMt K [⟨"list", "list.append", Bv⟩]) (Ac 1) (Aa (Bq (Aa (Bq Ag) Ag)) Ag)))
      Ah) (Ai (D4 (dMt (rMt K [⟨"list", "list.append", Bv⟩]) (Af (A2 K) (Af (A2 K) (Ac 1) (dUn Cc (dC (.int 1)))) (dUn Cc (dC (.int 1)))) (Aa (Ac 3) Ag)))
      Ah))
     Ah))
    Ah))
   Ah))
  Ah))
 (Ai (dIf (Fh K (Ac 2)) (Ai (An (dC .non))
  Ah) Ah)
 (Ai (An (dFn (fun vs H Q _=>(C8 K) vs H Q) (Aa (Ch [none] (Cp K (Ac 1)) (gdN 0) Df (dFn (spE (ae3 K t) []) (Aa (Ac 0) Ag))) Ag)))
 Ah)))))
theorem bq6 (K:aa) (t:Adr):wSs 40 (Bi K az6 (Ab R1) (D6 K t) bl) (Aj R1)=b36 K t:=by kernel_rfl
theorem bt2:Al az6 Xv (Ab R1):=⟨rfl,rfl,rfl,by decide +kernel,rfl,by decide +kernel,by decide +kernel⟩
theorem bx8:Ay az6 (Ab R1)=true:=by decide +kernel
noncomputable def b15 (K:aa) (t:Adr):DS:=
 (Ai (Au 2 (dFn (spE (ae6 K t) []) (Aa (Ac 1) Ag)))
 (Ai (An (ai0 (Fh K (De "fits" 1 (Bz K t) (Ac 0) (Aa (Ac 2) Ag))) (Ac 2) (dC .non)))
 Ah))
theorem bo4 (K:aa) (t:Adr):wSs 40 (Bi K ax5 (Ab Rc) (Vc K t) bl) (Aj Rc)=b15 K t:=by kernel_rfl
theorem br0:Al ax5 W9 (Ab Rc):=⟨rfl,rfl,rfl,by decide +kernel,rfl,by decide +kernel,by decide +kernel⟩
theorem bv6:Ay ax5 (Ab Rc)=true:=by decide +kernel
noncomputable def b22 (K:aa) (t:Adr):DS:=
 (Ai (An (dC (.str "chapter")))
 Ah)
theorem bp1 (K:aa) (t:Adr):wSs 40 (Bi K ay2 (Ab Rk) (Bk K t) bl) (Aj Rk)=b22 K t:=by kernel_rfl
theorem br7:Al ay2 Xg (Ab Rk):=⟨rfl,rfl,rfl,by decide +kernel,rfl,by decide +kernel,by decide +kernel⟩
theorem bw3:Ay ay2 (Ab Rk)=true:=by decide +kernel
noncomputable def b39 (K:aa) (t:Adr):DS:=
 (Ai (An (dC (.str "para")))
 Ah)
theorem bq9 (K:aa) (t:Adr):wSs 40 (Bi K az9 (Ab R6) (Bk K t) bl) (Aj R6)=b39 K t:=by kernel_rfl
theorem bt5:Al az9 Xy (Ab R6):=⟨rfl,rfl,rfl,by decide +kernel,rfl,by decide +kernel,by decide +kernel⟩
theorem by1:Ay az9 (Ab R6)=true:=by decide +kernel
noncomputable def b31 (K:aa) (t:Adr):DS:=
 (Ai (An (dC (.str "table")))
 Ah)
theorem bq1 (K:aa) (t:Adr):wSs 40 (Bi K az1 (Ab Ru) (Bk K t) bl) (Aj Ru)=b31 K t:=by kernel_rfl
theorem bs7:Al az1 Xq (Ab Ru):=⟨rfl,rfl,rfl,by decide +kernel,rfl,by decide +kernel,by decide +kernel⟩
theorem bx3:Ay az1 (Ab Ru)=true:=by decide +kernel
noncomputable def b23 (K:aa) (t:Adr):DS:=
 (Ai (dIf (Hx (Fh K (dFn (fun vs H Q _=>(Kj K) vs H Q) (Aa (Ac 0) (Aa (dC (.ty "str")) Ag))))) (Ai (An (dC .non))
  Ah) Ah)
 (Ai (Dx (Cp K (Bq (Aa (dFn (mkC t.c_zar none 0) Ag) (Aa (dFn (mkC t.c_zau none 0) Ag) (Aa (dFn (mkC t.c_zat none 0) Ag) Ag))))) (gdN 1) (Ai (dIf (Ar (Af (A6 K false) (De "word" 0 (Ew K t) (Ac 1) Ag) (Ac 0))) (Ai (An (Ac 1))
   Ah) Ah)
  Ah))
 (Ai (An (dC .non))
 Ah)))
theorem bp3 (K:aa) (t:Adr):wSs 40 (Bi K ay4 (Ab Rm) (D6 K t) bl) (Aj Rm)=b23 K t:=by kernel_rfl
theorem br9:Al ay4 Xi (Ab Rm):=⟨rfl,rfl,rfl,by decide +kernel,rfl,by decide +kernel,by decide +kernel⟩
theorem bw5:Ay ay4 (Ab Rm)=true:=by decide +kernel
noncomputable def bu7 (K:aa) (t:Adr):DS:=
 (Ai (dIf (Ar (Af ba4 (Ac 1) (dFn (fun vs H Q _=>(D9 K) vs H Q) (Aa (Ac 0) Ag)))) (Ai (An (Af (A2 K) (Ac 0) (Ac 1)))
  Ah) Ah)
 (Ai (An (Af (Bf K) (Af (As K) (Ac 1) (dC (.int 3))) (dC (.int 7919))))
 Ah))
theorem ba9 (K:aa) (t:Adr):wSs 40 (Bi K W1 (Ab Jp) (Bk K t) bl) (Aj Jp)=bu7 K t:=by kernel_rfl
theorem bc4:Al W1 Nn (Ab Jp):=⟨rfl,rfl,rfl,by decide +kernel,rfl,by decide +kernel,by decide +kernel⟩
theorem be9:Ay W1 (Ab Jp)=true:=by decide +kernel
noncomputable def b35 (K:aa) (t:Adr):DS:=
 (Ai (Au 2 (Bq Ag))
 (Ai (Au 3 (Af Be (Ac 0) (dC (.int 2))))
 (Ai (Au 4 (Af (As K) (Af Ax (Ac 0) (dC (.int 2147483629))) (dC (.int 17))))
 (Ai (Dx (Ke (Aa (Ac 1) Ag)) (gdN 5) (Ai (Au 4 (Af Ax (Af (As K) (Af (As K) (Af (Bf K) (Ac 4) (dC (.int 48271))) (Af (Bf K) (dC (.int 7919)) (Ac 5))) (dC (.int 1))) (dC (.int 2147483647))))
  (Ai (dIf (Hw (Ar (Af (A6 K false) (Af Ax (Ac 0) (dC (.int 2))) (dC (.int 1)))) (Hw (Ar (Af (A6 K true) (Ac 3) (dC (.int 0)))) (Ar (Af (A6 K true) (Ac 3) (dUn Cc (dC (.int 1))))))) (Ai (D4 (dMt (rMt K [⟨"list", "list.append", Bv⟩]) (Ac 2) (Aa (Af Ax (Ac 3) (dC (.int 268435456))) Ag)))
   (Ai (Au 3 (Af Be (Ac 3) (dC (.int 268435456))))
   Ah)) (Ai (D4 (dMt (rMt K [⟨"list", "list.append", Bv⟩]) (Ac 2) (Aa (Af Be (Af Ax (Af (As K) (Af (Bf K) (Af Ax (Af (Bf K) (Ac 4) (Ac 4)) (dC (.int 2147483629))) (dC (.int 16807))) (Ac 5)) (dC (.int 2147483587))) (dC (.int 8))) Ag)))
   Ah))
  Ah)))
 (Ai (An (Ac 2))
 Ah)))))
theorem bq5 (K:aa) (t:Adr):wSs 40 (Bi K az5 (Ab Rz) (Bk K t) bl) (Aj Rz)=b35 K t:=by kernel_rfl
theorem bt1:Al az5 Xu (Ab Rz):=⟨rfl,rfl,rfl,by decide +kernel,rfl,by decide +kernel,by decide +kernel⟩
theorem bx7:Ay az5 (Ab Rz)=true:=by decide +kernel
noncomputable def bv0 (K:aa) (t:Adr):DS:=
 (Ai (Au 1 (Af (As K) (dC (.str " !#$&'()*+,-./0123456789:;<=>?@ABCDEFGHIJKLMNOPQRSTUVWXYZ[\\]^_`abcdefghijklmnopqrstuvwxyz{|}~")) (dC (.str "\""))))
 (Ai (Au 2 (dFn (spE (Pg K t) []) (Aa (Ac 0) (Aa (dC (.int 4)) Ag))))
 (Ai (Au 3 (Af (A2 K) (Bq (Aa (dC (.int 0)) (Aa (Af Ax (Af (A2 K) (Ac 2) (dC (.int 1))) (dC (.int 4))) (Aa (Af Ax (Af (A2 K) (Ac 2) (dC (.int 1))) (dC (.int 12))) (Aa (Af Ax (Af (A2 K) (Ac 2) (dC (.int 1))) (dC (.int 61))) Ag))))) (Af Ax (Af (A2 K) (Ac 2) (dC (.int 0))) (dC (.int 4)))))
 (Ai (Au 4 (dC (.str "")))
 (Ai (Dx (Cp K (dFn (spE (Pg K t) []) (Aa (Af (As K) (Ac 0) (dC (.int 1))) (Aa (Ac 3) Ag)))) (gdN 5) (Ai (dIf (Ar (Af (A6 K false) (Af Ax (Af (A2 K) (Ac 2) (dC (.int 2))) (dC (.int 2))) (dC (.int 0)))) (Ai (Au 4 (Af (As K) (Ac 4) (Af (A2 K) (dC (.str "|/\\a ")) (Af Ax (Ac 5) (dC (.int 5))))))
   Ah) (Ai (Au 4 (Af (As K) (Ac 4) (Af (A2 K) (Ac 1) (Af Ax (Ac 5) (dC (.int 94))))))
   Ah))
  Ah))
 (Ai (An (Ac 4))
 Ah))))))
theorem bb2 (K:aa) (t:Adr):wSs 40 (Bi K W4 (Ab Js) (D6 K t) bl) (Aj Js)=bv0 K t:=by kernel_rfl
theorem bc7:Al W4 Nq (Ab Js):=⟨rfl,rfl,rfl,by decide +kernel,rfl,by decide +kernel,by decide +kernel⟩
theorem bf2:Ay W4 (Ab Js)=true:=by decide +kernel
noncomputable def bu5 (K:aa) (t:Adr):DS:=
 (Ai (Au 1 (dFn (spE (Pg K t) []) (Aa (Ac 0) (Aa (dC (.int 3)) Ag))))
 (Ai (Au 2 (Af (A2 K) (Bq (Aa (Af (As K) (dC (.int 1)) (Af Ax (Af Be (Af (A2 K) (Ac 1) (dC (.int 0))) (dC (.int 3))) (dC (.int 3)))) (Aa (Af (As K) (dC (.int 1)) (Af Ax (Af Be (Af (A2 K) (Ac 1) (dC (.int 0))) (dC (.int 3))) (dC (.int 6)))) (Aa (dC (.int 6)) Ag)))) (Af Ax (Af (A2 K) (Ac 1) (dC (.int 0))) (dC (.int 3)))))
 (Ai (Au 3 (Af (A2 K) (Bq (Aa (Af (As K) (dC (.int 1)) (Af Ax (Af Be (Af (A2 K) (Ac 1) (dC (.int 1))) (dC (.int 3))) (dC (.int 3)))) (Aa (Af (As K) (dC (.int 1)) (Af Ax (Af Be (Af (A2 K) (Ac 1) (dC (.int 1))) (dC (.int 3))) (dC (.int 6)))) (Aa (dC (.int 6)) Ag)))) (Af Ax (Af (A2 K) (Ac 1) (dC (.int 1))) (dC (.int 3)))))
 (Ai (Au 4 (Bq Ag))
 (Ai (Dx (Ke (Aa (Ac 2) Ag)) (gdN 5) (Ai (D4 (dMt (rMt K [⟨"list", "list.append", Bv⟩]) (Ac 4) (Aa (dFn (fun vs H Q _=>(C8 K) vs H Q) (Aa (Ch [none,some 0,some 5] (Ke (Aa (Ac 3) Ag)) (gdN 0) Df (dFn (spE (Gx K t) []) (Aa (Af (As K) (Af (As K) (Af (As K) (Ac 1) (Af (Bf K) (dC (.int 101)) (Ac 2))) (Af (Bf K) (dC (.int 1009)) (Ac 0))) (dC (.int 7))) Ag))) Ag)) Ag)))
  Ah))
 (Ai (An (dFn (fun vs H Q _=>(C8 K) vs H Q) (Aa (Ac 4) Ag)))
 Ah))))))
theorem ba7 (K:aa) (t:Adr):wSs 40 (Bi K Wz (Ab Jn) (G7 K t) bl) (Aj Jn)=bu5 K t:=by kernel_rfl
theorem bc2:Al Wz Nl (Ab Jn):=⟨rfl,rfl,rfl,by decide +kernel,rfl,by decide +kernel,by decide +kernel⟩
theorem be7:Ay Wz (Ab Jn)=true:=by decide +kernel
noncomputable def bu8 (K:aa) (t:Adr):DS:=
 (Ai (N3 (Af Ax (Af (As K) (Af (Bf K) (Af (A2 K) (Ac 0) (dC (.int 1))) (dC (.int 48271))) (dC (.int 1))) (dC (.int 2147483647))) (Ii K (Ac 0) (dC (.int 1))))
 (Ai (dIf (dOr (Ar (Af (A6 K false) (Af (A2 K) (Ac 0) (dC (.int 0))) (dC (.int 0)))) (Ar (Af (A6 K false) (Af (A2 K) (Ac 0) (dC (.int 0))) (dUn Cc (dC (.int 1)))))) (Ai (An (Af Ax (Af Be (Af Ax (Af (Bf K) (Af (A2 K) (Ac 0) (dC (.int 1))) (Af (A2 K) (Ac 0) (dC (.int 1)))) (dC (.int 2147483629))) (dC (.int 8))) (Ac 1)))
  Ah) Ah)
 (Ai (Au 2 (Af Ax (Af (A2 K) (Ac 0) (dC (.int 0))) (Ac 1)))
 (Ai (N3 (Af Be (Af (A2 K) (Ac 0) (dC (.int 0))) (Ac 1)) (Ii K (Ac 0) (dC (.int 0))))
 (Ai (An (Ac 2))
 Ah)))))
theorem bb0 (K:aa) (t:Adr):wSs 40 (Bi K W2 (Ab Jq) (Bk K t) bl) (Aj Jq)=bu8 K t:=by kernel_rfl
theorem bc5:Al W2 No (Ab Jq):=⟨rfl,rfl,rfl,by decide +kernel,rfl,by decide +kernel,by decide +kernel⟩
theorem bf0:Ay W2 (Ab Jq)=true:=by decide +kernel
noncomputable def b33 (K:aa) (t:Adr):DS:=
 (Ai (Au 2 (Bq (Aa (Ac 0) (Aa (Af (As K) (Af Ax (Ac 0) (dC (.int 2147483629))) (dC (.int 17))) Ag))))
 (Ai (Au 3 (Af (As K) (dC (.str " !#$&'()*+,-./0123456789:;<=>?@ABCDEFGHIJKLMNOPQRSTUVWXYZ[\\]^_`abcdefghijklmnopqrstuvwxyz{|}~")) (dC (.str "\""))))
 (Ai (Au 4 (Bq Ag))
 (Ai (Dx (Ke (Aa (Ac 1) Ag)) (gdN 5) (Ai (Au 6 (dC (.str "")))
  (Ai (Dx (Ke (Aa (dFn (spE (Na K t) []) (Aa (Ac 2) (Aa (dC (.int 61)) Ag))) Ag)) (gdN 7) (Ai (Au 6 (Af (As K) (Ac 6) (Af (A2 K) (Ac 3) (dFn (spE (Na K t) []) (Aa (Ac 2) (Aa (dC (.int 94)) Ag))))))
   Ah))
  (Ai (D4 (dMt (rMt K [⟨"list", "list.append", Bv⟩]) (Ac 4) (Aa (Ac 6) Ag)))
  Ah))))
 (Ai (An (Ac 4))
 Ah)))))
theorem bq3 (K:aa) (t:Adr):wSs 40 (Bi K az3 (Ab Rx) (D6 K t) bl) (Aj Rx)=b33 K t:=by kernel_rfl
theorem bs9:Al az3 Xs (Ab Rx):=⟨rfl,rfl,rfl,by decide +kernel,rfl,by decide +kernel,by decide +kernel⟩
theorem bx5:Ay az3 (Ab Rx)=true:=by decide +kernel
noncomputable def b27 (K:aa) (t:Adr):DS:=
 (Ai (dIf (Hw (Ar (Af (A6 K false) (Af Ax (Ac 1) (dC (.int 2))) (dC (.int 1)))) (Ar (Af (A6 K false) (Ac 0) (dC (.str "table"))))) (Ai (Au 2 (Af (As K) (dC (.int 1)) (Af Ax (Af Be (Ac 1) (dC (.int 2))) (dC (.int 6)))))
  (Ai (Au 3 (Af (As K) (dC (.int 1)) (Af Ax (Af Be (Ac 1) (dC (.int 12))) (dC (.int 6)))))
  (Ai (Au 4 (dFn (spE (Pf K t) []) (Aa (Af Be (Ac 1) (dC (.int 72))) (Aa (Af (Bf K) (Ac 2) (Ac 3)) Ag))))
  (Ai (An (dFn (fun vs H Q _=>(C8 K) vs H Q) (Aa (Ch [none,some 4,some 3] (Ke (Aa (Ac 2) Ag)) (gdN 0) Df (dFn (fun vs H Q _=>(C8 K) vs H Q) (Aa (dSl K (Ac 1) (Ec (Af (Bf K) (Ac 0) (Ac 2))) (Ec (Af (As K) (Af (Bf K) (Ac 0) (Ac 2)) (Ac 2)))) Ag))) Ag)))
  Ah)))) Ah)
 (Ai (dIf (Ar (Af (A6 K false) (Af Ax (Ac 1) (dC (.int 2))) (dC (.int 1)))) (Ai (An (Af (A2 K) (dFn (spE (Pf K t) []) (Aa (Af Be (Ac 1) (dC (.int 2))) (Aa (dC (.int 1)) Ag))) (dC (.int 0))))
  Ah) Ah)
 (Ai (dIf (Ar (Af (A6 K false) (Ac 0) (dC (.str "table")))) (Ai (An (dFn (spE (Jz K t) []) (Aa (Af Be (Ac 1) (dC (.int 2))) Ag)))
  Ah) Ah)
 (Ai (An (dFn (spE (Gx K t) []) (Aa (Af Be (Ac 1) (dC (.int 2))) Ag)))
 Ah))))
theorem bp7 (K:aa) (t:Adr):wSs 40 (Bi K ah2 (Ab Rq) (Vb K t) bl) (Aj Rq)=b27 K t:=by kernel_rfl
theorem bs3:Al ah2 Xm (Ab Rq):=⟨rfl,rfl,rfl,by decide +kernel,rfl,by decide +kernel,by decide +kernel⟩
theorem bw9:Ay ah2 (Ab Rq)=true:=by decide +kernel
noncomputable def b17 (K:aa) (t:Adr):DS:=
 (Ai (Au 1 (dC (.str "")))
 (Ai (Dx (Cp K (Ac 0)) (gdN 2) (Ai (dIf (dOr (Ar (Af (A6 K false) (Ac 2) (dC (.str "|")))) (dOr (Ar (Af (A6 K false) (Ac 2) (dC (.str "/")))) (Ar (Af (A6 K false) (Ac 2) (dC (.str "\\")))))) (Ai (Au 1 (Af (As K) (Ac 1) (dC (.str "\\"))))
   Ah) Ah)
  (Ai (Au 1 (Af (As K) (Ac 1) (Ac 2)))
  Ah)))
 (Ai (An (Ac 1))
 Ah)))
theorem bo6 (K:aa) (t:Adr):wSs 40 (Bi K ax7 (Ab Rf) (Bk K t) bl) (Aj Rf)=b17 K t:=by kernel_rfl
theorem br2:Al ax7 Xb (Ab Rf):=⟨rfl,rfl,rfl,by decide +kernel,rfl,by decide +kernel,by decide +kernel⟩
theorem bv8:Ay ax7 (Ab Rf)=true:=by decide +kernel
noncomputable def bu4 (K:aa) (t:Adr):DS:=
 (Ai (dIf (Ar (Af (A6 K false) (Ac 0) (dC (.str "table")))) (Ai (An (dMt (rMt K [⟨"str", "str.join", Jd K⟩]) (dC (.str "/")) (Aa (Ch [none] (Cp K (Ac 1)) (gdN 0) Df (dMt (rMt K [⟨"str", "str.join", Jd K⟩]) (dC (.str "|")) (Aa (Ch [none] (Cp K (Ac 0)) (gdN 0) Df (dFn (spE (ad9 K t) []) (Aa (Ac 0) Ag))) Ag))) Ag)))
  Ah) Ah)
 (Ai (An (Ac 1))
 Ah))
theorem ba6 (K:aa) (t:Adr):wSs 40 (Bi K Wy (Ab Jm) (D6 K t) bl) (Aj Jm)=bu4 K t:=by kernel_rfl
theorem bc1:Al Wy Nk (Ab Jm):=⟨rfl,rfl,rfl,by decide +kernel,rfl,by decide +kernel,by decide +kernel⟩
theorem be6:Ay Wy (Ab Jm)=true:=by decide +kernel
noncomputable def b21 (K:aa) (t:Adr):DS:=
 (Ai (dIf (Ar (Af ap2 (dFn (fun vs H Q _=>(D9 K) vs H Q) (Aa (Ac 0) Ag)) (dC (.int 60)))) (Ai (An (dC (.bl false)))
  Ah) Ah)
 (Ai (Dx (Cp K (Ac 0)) (gdN 1) (Ai (dIf (dOr (Hx (Ar (Dw Je Je (dC (.int 32)) (dFn (fun vs H Q _=>Wa vs H Q) (Aa (Ac 1) Ag)) (dC (.int 126))))) (Ar (Af (A6 K false) (dFn (fun vs H Q _=>Wa vs H Q) (Aa (Ac 1) Ag)) (dC (.int 37))))) (Ai (An (dC (.bl false)))
   Ah) Ah)
  Ah))
 (Ai (An (dC (.bl true)))
 Ah)))
theorem bp0 (K:aa) (t:Adr):wSs 40 (Bi K ay1 (Ab Rj) (Bk K t) bl) (Aj Rj)=b21 K t:=by kernel_rfl
theorem br6:Al ay1 Xf (Ab Rj):=⟨rfl,rfl,rfl,by decide +kernel,rfl,by decide +kernel,by decide +kernel⟩
theorem bw2:Ay ay1 (Ab Rj)=true:=by decide +kernel
noncomputable def b20 (K:aa) (t:Adr):DS:=
 (Ai (Au 1 (Bq (Aa (Bq (Aa (dC (.str "")) Ag)) Ag)))
 (Ai (Au 2 (dC (.int 0)))
 (Ai (Pz (Ar (Af ba4 (Ac 2) (dFn (fun vs H Q _=>(D9 K) vs H Q) (Aa (Ac 0) Ag)))) (Ai (Au 3 (Af (A2 K) (Ac 0) (Ac 2)))
  (Ai (dIf (Ar (Af (A6 K false) (Ac 3) (dC (.str "\\")))) (Ai (Au 2 (Af (As K) (Ac 2) (dC (.int 1))))
   (Ai (dIf (dOr (Ar (Af (A6 K false) (Ac 2) (dFn (fun vs H Q _=>(D9 K) vs H Q) (Aa (Ac 0) Ag)))) (Ar (Af (ac3 K true) (Af (A2 K) (Ac 0) (Ac 2)) (Az (Aa (dC (.str "|")) (Aa (dC (.str "/")) (Aa (dC (.str "\\")) Ag))))))) (Ai (An (dC .non))
    Ah) Ah)
   (Ai (N3 (Af (As K) (Af (A2 K) (Af (A2 K) (Ac 1) (dUn Cc (dC (.int 1)))) (dUn Cc (dC (.int 1)))) (Af (A2 K) (Ac 0) (Ac 2))) (Ii K (Af (A2 K) (Ac 1) (dUn Cc (dC (.int 1)))) (dUn Cc (dC (.int 1)))))
   Ah))) (Ai (dIf (Ar (Af (A6 K false) (Ac 3) (dC (.str "|")))) (Ai (D4 (dMt (rMt K [⟨"list", "list.append", Bv⟩]) (Af (A2 K) (Ac 1) (dUn Cc (dC (.int 1)))) (Aa (dC (.str "")) Ag)))
    Ah) (Ai (dIf (Ar (Af (A6 K false) (Ac 3) (dC (.str "/")))) (Ai (D4 (dMt (rMt K [⟨"list", "list.append", Bv⟩]) (Ac 1) (Aa (Bq (Aa (dC (.str "")) Ag)) Ag)))
     Ah) (Ai (N3 (Af (As K) (Af (A2 K) (Af (A2 K) (Ac 1) (dUn Cc (dC (.int 1)))) (dUn Cc (dC (.int 1)))) (Ac 3)) (Ii K (Af (A2 K) (Ac 1) (dUn Cc (dC (.int 1)))) (dUn Cc (dC (.int 1)))))
     Ah))
    Ah))
   Ah))
  (Ai (Au 2 (Af (As K) (Ac 2) (dC (.int 1))))
  Ah))))
 (Ai (An (Ac 1))
 Ah))))
theorem bo9 (K:aa) (t:Adr):wSs 40 (Bi K ay0 (Ab Ri) (Bk K t) bl) (Aj Ri)=b20 K t:=by kernel_rfl
theorem br5:Al ay0 Xe (Ab Ri):=⟨rfl,rfl,rfl,by decide +kernel,rfl,by decide +kernel,by decide +kernel⟩
theorem bw1:Ay ay0 (Ab Ri)=true:=by decide +kernel
noncomputable def bu9 (K:aa) (t:Adr):DS:=
 (Ai (dIf (Ar (Af (A6 K true) (Ac 0) (dC (.str "table")))) (Ai (An (Af (A2 K) (Bq (Aa (dC .non) (Aa (Ac 1) Ag))) (dFn (fun vs H Q _=>ap3 vs H Q) (Aa (dFn (spE (Ua K t) []) (Aa (Ac 1) Ag)) Ag))))
  Ah) Ah)
 (Ai (Au 2 (dFn (spE (ae1 K t) []) (Aa (Ac 1) Ag)))
 (Ai (dIf (dOr (Ar (Af (D8 false) (Ac 2) (dC .non))) (dOr (Ar (Af ap2 (dFn (fun vs H Q _=>(D9 K) vs H Q) (Aa (Ac 2) Ag)) (dC (.int 6)))) (Ar (Af ap2 (dFn (fun vs H Q _=>(D9 K) vs H Q) (Aa (Af (A2 K) (Ac 2) (dC (.int 0))) Ag)) (dC (.int 6)))))) (Ai (An (dC .non))
  Ah) Ah)
 (Ai (Dx (Cp K (Ac 2)) (gdN 3) (Ai (dIf (dOr (Ar (Af (A6 K true) (dFn (fun vs H Q _=>(D9 K) vs H Q) (Aa (Ac 3) Ag)) (dFn (fun vs H Q _=>(D9 K) vs H Q) (Aa (Af (A2 K) (Ac 2) (dC (.int 0))) Ag)))) (Ar (Af (ac3 K false) (dC (.bl false)) (Ch [none] (Cp K (Ac 3)) (gdN 0) Df (dFn (spE (Ua K t) []) (Aa (Ac 0) Ag)))))) (Ai (An (dC .non))
   Ah) Ah)
  Ah))
 (Ai (An (dFn (fun vs H Q _=>(C8 K) vs H Q) (Aa (Ch [none] (Cp K (Ac 2)) (gdN 0) Df (dFn (fun vs H Q _=>(C8 K) vs H Q) (Aa (Ac 0) Ag))) Ag)))
 Ah)))))
theorem bb1 (K:aa) (t:Adr):wSs 40 (Bi K W3 (Ab Jr) (D6 K t) bl) (Aj Jr)=bu9 K t:=by kernel_rfl
theorem bc6:Al W3 Np (Ab Jr):=⟨rfl,rfl,rfl,by decide +kernel,rfl,by decide +kernel,by decide +kernel⟩
theorem bf1:Ay W3 (Ab Jr)=true:=by decide +kernel
noncomputable def b34 (K:aa) (t:Adr):DS:=
 (Ai (Au 3 (Af Ax (Af Be (Ac 1) (dC (.int 5))) (Af (As K) (dFn (fun vs H Q _=>(D9 K) vs H Q) (Aa (Ac 0) Ag)) (dC (.int 1)))))
 (Ai (Au 4 (Af (A2 K) (dC (.str "|/\\a ~!#$")) (Af Ax (Ac 2) (dC (.int 9)))))
 (Ai (dIf (Ar (Af (A6 K false) (Af Ax (Ac 1) (dC (.int 5))) (dC (.int 1)))) (Ai (An (Af (As K) (Af (As K) (dSl K (Ac 0) Dy (Ec (Ac 3))) (Ac 4)) (dSl K (Ac 0) (Ec (Ac 3)) Dy)))
  Ah) Ah)
 (Ai (dIf (Ar (Af (A6 K false) (Af Ax (Ac 1) (dC (.int 5))) (dC (.int 2)))) (Ai (An (Af (As K) (dSl K (Ac 0) Dy (Ec (Ac 3))) (dSl K (Ac 0) (Ec (Af (As K) (Ac 3) (dC (.int 1)))) Dy)))
  Ah) Ah)
 (Ai (dIf (Ar (Af (A6 K false) (Af Ax (Ac 1) (dC (.int 5))) (dC (.int 3)))) (Ai (An (Af (As K) (Af (As K) (dSl K (Ac 0) Dy (Ec (Ac 3))) (Ac 4)) (dSl K (Ac 0) (Ec (Af (As K) (Ac 3) (dC (.int 1)))) Dy)))
  Ah) Ah)
 (Ai (dIf (Ar (Af (A6 K false) (Af Ax (Ac 1) (dC (.int 5))) (dC (.int 4)))) (Ai (An (Af (A2 K) (Bq (Aa (dC (.str "")) (Aa (dC (.str "|")) (Aa (dC (.str "/")) (Aa (dC (.str "\\")) (Aa (dC (.str "||")) (Aa (dC (.str "a/b|c")) (Aa (Af (Bf K) (dC (.str "|")) (dC (.int 6))) (Aa (Af (Bf K) (dC (.str "/")) (dC (.int 6))) (Aa (Af (Bf K) (dC (.str "a")) (dC (.int 61))) (Aa (Af (Bf K) (dC (.str "b")) (dC (.int 60))) Ag))))))))))) (Af Ax (Ac 2) (dC (.int 10)))))
  Ah) Ah)
 (Ai (An (Ac 0))
 Ah)))))))
theorem bq4 (K:aa) (t:Adr):wSs 40 (Bi K az4 (Ab Ry) (Bk K t) bl) (Aj Ry)=b34 K t:=by kernel_rfl
theorem bt0:Al az4 Xt (Ab Ry):=⟨rfl,rfl,rfl,by decide +kernel,rfl,by decide +kernel,by decide +kernel⟩
theorem bx6:Ay az4 (Ab Ry)=true:=by decide +kernel
noncomputable def aw8 (K:aa) (t:Adr):DS:=
  (Ai (Au 1 (Bq (Aa (dC .non) (Aa (dC (.int 7)) (Aa (dC (.bl true)) (Aa (Bq (Aa (dC (.str "a")) Ag)) (Aa N4 (Aa (Az Ag) (Aa (Az (Aa (Az Ag) Ag)) (Aa (Az (Aa (Az (Aa (dC (.str "a")) Ag)) (Aa (Az (Aa (dC (.str "a")) (Aa (dC (.str "b")) Ag))) Ag))) (Aa (Az (Aa (Bq (Aa (dC (.str "a")) Ag)) Ag)) (Aa (Bq (Aa (Az (Aa (dC (.str "a")) Ag)) Ag)) (Aa (Az (Aa (Az (Aa (dC (.str "a")) (Aa (dC (.int 7)) Ag))) Ag)) (Aa (Az (Aa (dC (.str "a")) Ag)) Ag))))))))))))))
  (Ai (Au 2 (Bq (Aa (Af (Bf K) (Az (Aa (Az (Aa (dC (.str "")) Ag)) Ag)) (dC (.int 7))) (Aa (Az (Aa (Af (Bf K) (Az (Aa (dC (.str "")) Ag)) (dC (.int 7))) Ag)) (Aa (Af (Bf K) (dC (.str "a")) (dC (.int 61))) (Aa (dC (.str "a\n")) (Aa (Az (Aa (Az (Aa (dC (.str "a\n")) Ag)) Ag)) (Aa (Az (Aa (Az (Aa (Af (Bf K) (dC (.str "a")) (dC (.int 61))) Ag)) Ag)) (Aa (Az (Aa (Az (Aa (dC .non) Ag)) Ag)) (Aa (Az (Aa (dC (.str "")) Ag)) Ag))))))))))
  (Ai (An (Af (A2 K) (Af (As K) (Ac 1) (Ac 2)) (Af Ax (Ac 0) (dC (.int 20)))))
  Ah)))
theorem bb4 (K:aa) (t:Adr):wSs 40 (Bi K W6 (Ab Ju) (Bk K t) bl) (Aj Ju)=aw8 K t:=by kernel_rfl
theorem bc9:Al W6 Nt (Ab Ju):=⟨rfl,rfl,rfl,by decide +kernel,rfl,by decide +kernel,by decide +kernel⟩
theorem bf4:Ay W6 (Ab Ju)=true:=by decide +kernel
noncomputable def b28 (K:aa) (t:Adr):DS:=
 (Ai (An (dC (.bl false)))
 Ah)
theorem bp8 (K:aa) (t:Adr):wSs 40 (Bi K ay8 (Ab Rr) (Bk K t) bl) (Aj Rr)=b28 K t:=by kernel_rfl
theorem bs4:Al ay8 Xn (Ab Rr):=⟨rfl,rfl,rfl,by decide +kernel,rfl,by decide +kernel,by decide +kernel⟩
theorem bx0:Ay ay8 (Ab Rr)=true:=by decide +kernel
noncomputable def b19 (K:aa) (t:Adr):DS:=
 (Ai (An (dC (.bl true)))
 Ah)
theorem bo8 (K:aa) (t:Adr):wSs 40 (Bi K ax9 (Ab Rh) (Bk K t) bl) (Aj Rh)=b19 K t:=by kernel_rfl
theorem br4:Al ax9 Xd (Ab Rh):=⟨rfl,rfl,rfl,by decide +kernel,rfl,by decide +kernel,by decide +kernel⟩
theorem bw0:Ay ax9 (Ab Rh)=true:=by decide +kernel
noncomputable def b18 (K:aa) (t:Adr):DS:=
 (Ai (Dx (Cp K (Bq (Aa (Az (Aa (dC (.str "chapter")) (Aa (dFn (mkC t.c_zar none 0) Ag) Ag))) (Aa (Az (Aa (dC (.str "para")) (Aa (dFn (mkC t.c_zau none 0) Ag) Ag))) (Aa (Az (Aa (dC (.str "table")) (Aa (dFn (mkC t.c_zat none 0) Ag) Ag))) Ag))))) (gdT K 2 [(gdN 0),(gdN 1)]) (Ai (Dx (Cp K (Bq (Aa (Ac 1) (Aa (dFn (spE (Pe K t) []) (Aa (Ac 0) Ag)) Ag)))) (gdN 2) (Ai (dIf (dOr (Hx (Fh K (dFn (fun vs H Q _=>(Kj K) vs H Q) (Aa (Ac 2) (Aa (dC (.ref t.c_Kind)) Ag))))) (dOr (Ar (Af (A6 K true) (De "word" 0 (Ew K t) (Ac 2) Ag) (Ac 0))) (Hx (Fh K (dFn (fun vs H Q _=>(Kj K) vs H Q) (Aa (De "holds" 0 (Dn K t) (Ac 2) Ag) (Aa (dC (.ty "bool")) Ag))))))) (Ai (An (dC (.bl false)))
    Ah) Ah)
   (Ai (dIf (Ar (Af (A6 K true) (De "holds" 0 (Dn K t) (Ac 2) Ag) (Af (A6 K false) (Ac 0) (dC (.str "chapter"))))) (Ai (An (dC (.bl false)))
    Ah) Ah)
   Ah)))
  Ah))
 (Ai (An (dC (.bl true)))
 Ah))
theorem bo7 (K:aa) (t:Adr):wSs 40 (Bi K ax8 (Ab Rg) (G7 K t) bl) (Aj Rg)=b18 K t:=by kernel_rfl
theorem br3:Al ax8 Xc (Ab Rg):=⟨rfl,rfl,rfl,by decide +kernel,rfl,by decide +kernel,by decide +kernel⟩
theorem bv9:Ay ax8 (Ab Rg)=true:=by decide +kernel
noncomputable def bv3 (K:aa) (t:Adr):DS:=
 (Ai (dIf (Hx (Fh K (dFn (spE (ae0 K t) []) Ag))) (Ai (An (dC (.bl false)))
  Ah) Ah)
 (Ai (Dx (iEn K (Aa (Bq (Aa (dC (.str "chapter")) (Aa (dC (.str "para")) (Aa (dC (.str "table")) Ag)))) Ag)) (gdT K 2 [(gdN 1),(gdN 2)]) (Ai (Au 3 (dFn (spE (Pe K t) []) (Aa (Ac 2) Ag)))
  (Ai (Au 4 (dFn (spE (ae4 K t) []) (Aa (Ac 2) (Aa (dFn (spE (Dg K t) []) (Aa (Ac 0) (Aa (Ac 1) Ag))) Ag))))
  (Ai (Au 5 (dFn (spE (R9 K t) []) (Aa (dFn (spE (Dg K t) []) (Aa (Ac 0) (Aa (Af (As K) (dC (.int 3)) (Ac 1)) Ag))) Ag)))
  (Ai (dIf (dOr (Ar (Af (D8 true) (De "fits" 1 (Bz K t) (Ac 3) (Aa (Ac 4) Ag)) (dC (.bl true)))) (Ar (Af (D8 true) (De "fits" 1 (Bz K t) (Ac 3) (Aa (Ac 5) Ag)) (dC (.bl false))))) (Ai (An (dC (.bl false)))
   Ah) Ah)
  (Ai (Au 6 (dFn (spE (Jz K t) []) (Aa (dFn (spE (Dg K t) []) (Aa (Ac 0) (Aa (dC (.int 6)) Ag))) Ag)))
  (Ai (dIf (Ar (Af (A6 K false) (Ac 2) (dC (.str "table")))) (Ai (Au 6 (dFn (spE (Gx K t) []) (Aa (dFn (spE (Dg K t) []) (Aa (Ac 0) (Aa (dC (.int 6)) Ag))) Ag)))
   Ah) Ah)
  (Ai (dIf (Ar (Af (D8 true) (De "fits" 1 (Bz K t) (Ac 3) (Aa (Ac 6) Ag)) (dC (.bl false)))) (Ai (An (dC (.bl false)))
   Ah) Ah)
  (Ai (Au 7 (De "shown" 1 (Do K t) (Ac 3) (Aa (Ac 4) Ag)))
  (Ai (dIf (dOr (Hx (Fh K (dFn (fun vs H Q _=>(Kj K) vs H Q) (Aa (Ac 7) (Aa (dC (.ty "str")) Ag))))) (dOr (Ar (Af (A6 K true) (Ac 7) (dFn (spE (M9 K t) []) (Aa (Ac 2) (Aa (Ac 4) Ag))))) (Ar (Af (A6 K true) (De "read_shown" 1 (A3 K t) (Ac 3) (Aa (Ac 7) Ag)) (Ac 4))))) (Ai (An (dC (.bl false)))
   Ah) Ah)
  (Ai (Dx (Ke (Aa (dC (.int 7)) (Aa (dFn (fun vs H Q _=>ac5 vs H Q) (Aa (dC (.int 9)) (Aa (dFn (fun vs H Q _=>ac6 vs H Q) (Aa (Af ac9 (dFn (fun vs H Q _=>(D9 K) vs H Q) (Aa (Ac 0) Ag)) (dC (.int 1))) (Aa (dC (.int 37)) Ag))) Ag))) (Aa (dC (.int 2)) Ag)))) (gdN 8) (Ai (Au 9 (dFn (spE (Uc K t) []) (Aa (Ac 7) (Aa (dFn (spE (Dg K t) []) (Aa (Ac 0) (Aa (Ac 8) Ag))) (Aa (dFn (spE (Dg K t) []) (Aa (Ac 0) (Aa (Af (As K) (Ac 8) (dC (.int 1))) Ag))) Ag)))))
   (Ai (Au 10 (dFn (spE (Nc K t) []) (Aa (Ac 2) (Aa (Ac 9) Ag))))
   (Ai (Au 11 (De "read_shown" 1 (A3 K t) (Ac 3) (Aa (Ac 9) Ag)))
   (Ai (dIf (dOr (Hw (Ar (Af (D8 false) (Ac 10) (dC .non))) (Ar (Af (D8 true) (Ac 11) (dC .non)))) (Hw (Ar (Af (D8 true) (Ac 10) (dC .non))) (Ar (Af (A6 K true) (Ac 11) (Ac 10))))) (Ai (An (dC (.bl false)))
    Ah) Ah)
   (Ai (dIf (Hw (Ar (Af (D8 true) (Ac 11) (dC .non))) (Ar (Af (D8 true) (De "fits" 1 (Bz K t) (Ac 3) (Aa (Ac 11) Ag)) (dC (.bl true))))) (Ai (An (dC (.bl false)))
    Ah) Ah)
   Ah))))))
  Ah)))))))))))
 (Ai (Dx (Cp K (Bq (Aa (dC (.str "")) (Aa (dC (.str "chapters")) (Aa (dC (.str "Para")) (Aa (dC (.str "kind")) (Aa (dC (.str " table")) Ag))))))) (gdN 2) (Ai (dIf (Ar (Af (D8 true) (dFn (spE (Pe K t) []) (Aa (Ac 2) Ag)) (dC .non))) (Ai (An (dC (.bl false)))
   Ah) Ah)
  Ah))
 (Ai (An (dC (.bl true)))
 Ah))))
theorem bb6 (K:aa) (t:Adr):wSs 40 (Bi K W8 (Ab Dq) (a15 K t) bl) (Aj Dq)=bv3 K t:=by kernel_rfl
theorem bd1:Al W8 Nv (Ab Dq):=⟨rfl,rfl,rfl,by decide +kernel,rfl,by decide +kernel,by decide +kernel⟩
theorem bf6:Ay W8 (Ab Dq)=true:=by decide +kernel
section
variable {K:aa} {H H':Hp}
theorem La {b:Bool} {A B:Prop} (e:b=false) (h:B):if b=true then A else B:=by subst e;exact Kf h
theorem at8 {b:Bool} {A B:Prop} (e:b=true) (h:A):if b=true then A else B:=by subst e;exact Kg h
theorem Yf (a b:List Str):deq (Cd a) (Cd b)=decide (a=b):=by unfold Cd deq;exact Hz Yg a b
theorem Yh (a b:Tb):deq (Bt a) (Bt b)=decide (a=b):=by unfold Bt deq;exact Hz Yf a b
theorem Yc (a:List Str):dep (Cd a)<=1:=by
 unfold Cd dep
 exact dO (Hy Yd a)
theorem Ye (a:Tb):dep (Bt a)<=2:=by
 unfold Bt dep
 exact dO (Hy Yc a)
theorem CtAt.up {c:Ct} {x:V} (h:CtAt K H c x) (S:Same H H'):CtAt K H' c x:=by
 cases c with
 | txt z=>exact h
 | tab t=>exact E5 S h
theorem AtO.up {o:Option Dt} {x:V} (h:AtO K H o x) (S:Same H H'):AtO K H' o x:=by
 cases o with
 | some d=>exact E5 S h
 | none=>obtain⟨a,e,q⟩:=h;exact⟨a,e,S _ _ q⟩
theorem ai5 (a b:Str):decide (Ct.txt a=Ct.txt b)=decide (a=b):=decide_eq_decide.mpr ⟨fun e=>by cases e;rfl,fun e=>by rw [e]⟩
theorem ai4 (a b:Tb):decide (Ct.tab a=Ct.tab b)=decide (a=b):=decide_eq_decide.mpr ⟨fun e=>by cases e;rfl,fun e=>by rw [e]⟩
theorem as2 {neg:Bool} {c d:Ct} {x y:V} {Q:VK} (h:CtAt K H c x) (h':CtAt K H d y) (k:Fm c=Fm d) (q:Q (.bl (if neg then !decide (c=d) else decide (c=d))) H):A6 K neg x y H Q:=by
 cases c with
 | txt a=>
  cases d with
  | txt b=>cases h;cases h';rw [ai5] at q;exact q
  | tab b=>cases k
 | tab a=>
  cases d with
  | txt b=>cases k
  | tab b=>
   rw [ai4,<- Yh] at q
   have h2:At K H (Bt a) x:=h
   have h2':At K H (Bt b) y:=h'
   obtain⟨p,_,rfl,_⟩:=B7 (show At K H (.tup (a.map Cd)) x from h2)
   obtain⟨p',_,rfl,_⟩:=B7 (show At K H (.tup (b.map Cd)) y from h2')
   exact .inr (.inl ⟨Bt a,Bt b,h2,h2',aR (Ye a) (by decide),q⟩)
theorem Fe {xs:List V} {i:Nat} {v:V} (h:xs[i]? = some v):atI xs (i:Int)=some v:=by
 have hl:i<xs.length:=(List.getElem?_eq_some_iff.mp h).1
 unfold atI ixN
 have h1:¬ ((i:Int)<0):=by omega
 have h2:(i:Int)<(xs.length:Int):=by omega
 simp [h1,h2]
 exact h
end
theorem wfB_iff {z:Str}:wfB z=true ↔ wfS z:=by unfold wfB wfS;rw [ak,decide_eq_true_iff]
theorem Hg (l:List Nat):(ofC l).length=l.length:=by unfold ofC Str.length;simp
theorem L7 (l:List Nat):(ofC l).cps.toList=l:=by unfold ofC;simp
theorem Bo (z:Str):z.cps.toList.length=z.length:=by simp [Str.length]
theorem Hh (z:Str):ofC z.cps.toList=z:=by
 apply Str.ext'
 unfold ofC
 simp
theorem Bu (a b:Str):(a++b).cps.toList=a.cps.toList++b.cps.toList:=by
 show (a.cps++b.cps).toList=_
 simp
theorem al2 (a b:List Nat):ofC (a++b)=ofC a++ofC b:=by
 rw [<- Hh (ofC a++ofC b),Bu,L7,L7]
noncomputable def rep (c:Nat) (z l:List Nat):List Nat:=l.flatMap fun k=>if k=c then z else [k]
theorem Hi (c:Nat) (z a b:List Nat):rep c z (a++b)=rep c z a++rep c z b:=by unfold rep;rw [km]
theorem Fs (c k:Nat) (z r:List Nat):rep c z (k::r)=(if k=c then z else [k])++rep c z r:=by unfold rep;rw [List.flatMap_cons]
theorem Ji (c:Nat) (z:List Nat):∀ l:List Nat,c∉l->rep c z l=l
 | [],_=>rfl
 | k::r,h=>by
  have h1:¬ k=c:=fun e=>h (e▸bC ..)
  rw [Fs,if_neg h1,Ji c z r fun m=>h (aJ _ m)]
  rfl
theorem O8 (c:Nat) (z:Str):∀ parts:List Str,(∀ p∈parts,c∉p.cps.toList)->rep c z.cps.toList (i3 ⟨#[c]⟩ parts).cps.toList=(i3 z parts).cps.toList
 | [],_=>rfl
 | [p],h=>Ji c _ _ (h p (List.mem_singleton.mpr rfl))
 | p::q::r,h=>by
  have ih:=O8 c z (q::r) fun a ha=>h a (aJ _ ha)
  show rep c z.cps.toList (p++⟨#[c]⟩++i3 ⟨#[c]⟩ (q::r)).cps.toList=(p++z++i3 z (q::r)).cps.toList
  rw [Bu,Bu,Bu,Bu,Hi,Hi,ih,Ji c _ _ (h p (bC ..))]
  congr 2
  show rep c z.cps.toList [c]=_
  rw [Fs,if_pos rfl]
  exact dG _
theorem O9 (x z:Str) (c:Nat):(kA x ⟨#[c]⟩ z).cps.toList=rep c z.cps.toList x.cps.toList:=by
 rw [StrLaws.replace_one,<- O8 c z _ (StrLaws.split_free x c),StrLaws.join_split]
theorem Gc (c:Nat) (l:List Nat):D5 (c::l)=Kc c++D5 l:=by unfold D5;rw [List.flatMap_cons]
theorem Ob (a b:List Nat):D5 (a++b)=D5 a++D5 b:=by unfold D5;rw [km]
theorem Ta:∀ l:List Nat,rep 47 [92,47] (rep 124 [92,124] (rep 92 [92,92] l))=D5 l
 | []=>rfl
 | c::l=>by
  rw [Fs,Hi,Hi,Ta l,Gc]
  congr 1
  unfold Kc
  by_cases h1:c=92
  ·subst h1;rfl
  ·rw [if_neg h1]
   by_cases h2:c=124
   ·subst h2;rfl
   ·by_cases h3:c=47
    ·subst h3;rfl
    ·simp [h1,h2,h3,rep]
theorem Mb:∀ l:List Nat,(D5 l).length<=2 * l.length
 | []=>af _
 | c::l=>by
  rw [Gc,ax,aQ]
  have:=Mb l
  have:(Kc c).length<=2:=by unfold Kc;split <;> simp
  omega
theorem Id (z:Str):(E0 z).length<=2 * z.length:=by
 unfold E0
 rw [Hg,<- Bo]
 exact Mb _
theorem Oh {sep:Str} {ps:List Str} {B n:Nat} (h1:sep.length=1) (hB:∀ p∈ps,p.length<=B) (hn:ps.length<=n):(i3 sep ps).length<=n * (B+1):=by
 have h:=StrLaws.join_length_le sep ps
 have h2:=StrLaws.sumLen_le ps hB
 rw [h1,lQ] at h
 have h3:ps.length * (B+1)<=n * (B+1):=fh _ hn
 rw [Nat.mul_add,lQ] at h3
 omega
theorem Dk {sep:Str} {ps:List Str} {B n:Nat} (h1:sep.length<=1) (hB:∀ p∈ps,p.length<=B) (hn:ps.length<=n) (hb:n * (B+1)<=16777216):(ps.map (·.length)).sum+ps.length * sep.length<=16777216:=by
 have h2:=StrLaws.sumLen_le ps hB
 have h3:ps.length * (B+1)<=n * (B+1):=fh _ hn
 have h4:ps.length * sep.length<=ps.length * 1:=Nat.mul_le_mul_left _ h1
 rw [Nat.mul_add,lQ] at h3
 omega
theorem Fu (sep:Str) (ps:List Str):me sep ps=i3 sep ps:=jQ sep ps
theorem M5 {r:List Str} {m:Nat} (h:wfR m r) (hm:m<=6):(shR r).length<=726:=by
 refine aR (Oh (B:=120) (n:=6) (by decide +kernel) (fun p hp=>?_) (by rw [al,h.1];exact hm)) (by decide)
 obtain⟨z,hz,rfl⟩:=List.mem_map.mp hp
 have:=Id z
 have:=(h.2 z hz).1
 omega
theorem aq4 {c:Tb} (h:wfT c):(shT c).length<=4400:=by
 obtain⟨_,h2,m,_,m6,hr⟩:=h
 refine aR (Oh (B:=726) (n:=6) (by decide +kernel) (fun p hp=>?_) (by rw [al];exact h2)) (by decide)
 obtain⟨r,hz,rfl⟩:=List.mem_map.mp hp
 exact M5 (hr r hz) m6
theorem Gr (b:Bool) (rs:List Rw) (cs:Rw) (g:List Nat):rd [] b rs cs g=if b=true then none else some (rs++[cs++[g]]):=by unfold rd;rfl
theorem O5 (c:Nat) (l:List Nat) (rs:List Rw) (cs:Rw) (g:List Nat):rd (c::l) true rs cs g=if c=92\/c=124\/c=47 then rd l false rs cs (g++[c]) else none:=by
 conv=>lhs;unfold rd
 rw [if_pos rfl]
theorem G5 (c:Nat) (l:List Nat) (rs:List Rw) (cs:Rw) (g:List Nat):rd (c::l) false rs cs g=if c=92 then rd l true rs cs g else if c=124 then rd l false rs (cs++[g]) [] else if c=47 then rd l false (rs++[cs++[g]]) [] [] else rd l false rs cs (g++[c]):=by
 conv=>lhs;unfold rd
 rw [if_neg aj]
theorem Q5:∀ (u l:List Nat) (rs:List Rw) (cs:Rw) (g:List Nat),rd (D5 u++l) false rs cs g=rd l false rs cs (g++u)
 | [],l,rs,cs,g=>by rw [dG];rfl
 | c::u,l,rs,cs,g=>by
  rw [Gc,c5]
  have e:g++c::u=g++[c]++u:=by simp
  rw [e,<- Q5 u l rs cs (g++[c])]
  unfold Kc
  by_cases h:c=92\/c=124\/c=47
  ·rw [if_pos h]
   show rd (92::c::(D5 u++l)) false rs cs g=_
   rw [G5,if_pos rfl,O5,if_pos h]
  ·rw [if_neg h]
   show rd (c::(D5 u++l)) false rs cs g=_
   rw [G5,if_neg (fun e=>h (.inl e)),if_neg (fun e=>h (.inr (.inl e))),if_neg (fun e=>h (.inr (.inr e)))]
theorem Sz (z:Str):(E0 z).cps.toList=D5 z.cps.toList:=L7 _
theorem Q6:∀ (r:List Str) (z:Str) (l:List Nat) (rs:List Rw) (cs:Rw),∃ ds g,ds++[g]=(z::r).map (fun z=>z.cps.toList)/\rd ((shR (z::r)).cps.toList++l) false rs cs []=rd l false rs (cs++ds) g
 | [],z,l,rs,cs=>by
  refine⟨[],z.cps.toList,rfl,?_⟩
  rw [dG]
  show rd ((E0 z).cps.toList++l) false rs cs []=_
  rw [Sz,Q5,dI]
 | y::r,z,l,rs,cs=>by
  obtain⟨ds,g,e,q⟩:=Q6 r y l rs (cs++[z.cps.toList])
  refine⟨z.cps.toList::ds,g,by rw [gr,e];rfl,?_⟩
  have e1:shR (z::y::r)=E0 z++ba "|" ++ shR (y::r):=rfl
  have e2:(ba "|").cps.toList=[124]:=by decide +kernel
  rw [e1,Bu,Bu,e2,Sz,c5,c5,Q5,dI]
  show rd (124::((shR (y::r)).cps.toList++l)) false rs cs z.cps.toList=_
  rw [G5,if_neg (by decide),if_pos rfl,q,c5]
  rfl
theorem ad3:∀ (t:Tb) (r:List Str) (rs:List Rw),r≠[]->(∀ r∈t,r≠[])->rd ((shT (r::t)).cps.toList) false rs [] []=some (rs++(r::t).map fun r=>r.map fun z=>z.cps.toList)
 | [],r,rs,hr,_=>by
  cases r with
  | nil=>exact absurd rfl hr
  | cons z r=>
   obtain⟨ds,g,e,q⟩:=Q6 r z [] rs []
   show rd ((shR (z::r)).cps.toList) false rs [] []=_
   rw [dG] at q
   rw [q,Gr,if_neg aj,dI,e]
   rfl
 | r2::t,r,rs,hr,ht=>by
  cases r with
  | nil=>exact absurd rfl hr
  | cons z r=>
   have e1:shT ((z::r)::r2::t)=shR (z::r)++ba "/" ++ shT (r2::t):=rfl
   have e2:(ba "/").cps.toList=[47]:=by decide +kernel
   rw [e1,Bu,Bu,e2,c5]
   obtain⟨ds,g,e,q⟩:=Q6 r z ([47]++(shT (r2::t)).cps.toList) rs []
   rw [q]
   show rd (47::(shT (r2::t)).cps.toList) false rs ([]++ds) g=_
   rw [G5,if_neg (by decide),if_neg (by decide),if_pos rfl,dI,e,ad3 t r2 _ (ht r2 (bC ..)) fun r hr=>ht r (aJ _ hr),c5]
   rfl
theorem ae9 (t:Tb):Ds (t.map fun r=>r.map fun z=>z.cps.toList)=t:=by
 unfold Ds
 rw [eR]
 refine (gS fun r _=>?_).trans (List.map_id t)
 show (r.map fun z=>z.cps.toList).map ofC=r
 rw [eR]
 exact (gS fun z _=>Hh z).trans (List.map_id r)
theorem ap4 {t:Tb} (h1:1<=t.length) (h2:∀ r∈t,r≠[]):rdT (shT t)=some t:=by
 cases t with
 | nil=>exact absurd h1 (by decide)
 | cons r t=>
  unfold rdT
  rw [ad3 t r [] (h2 r (bC ..)) fun r hr=>h2 r (aJ _ hr),dI]
  exact congrArg some (ae9 (r::t))
noncomputable def okR (n:Nat) (rs:List Rw):Prop:=rs.length+n<=10000 /\ ∀ r∈rs,1<=r.length/\r.length+n<=10000 /\ ∀ c∈r,c.length+n<=10000
theorem Gq:∀ (l:List Nat) (b:Bool) (rs:List Rw) (cs:Rw) (g:List Nat) (t:List Rw),okR l.length (rs++[cs++[g]])->rd l b rs cs g=some t->okR 0 t
 | [],b,rs,cs,g,t,h,e=>by
  rw [Gr] at e
  split at e
  ·cases e
  ·cases e;exact h
 | c::l,b,rs,cs,g,t,h,e=>by
  rw [aQ] at h
  have push:okR l.length (rs++[cs++[g++[c]]]):=by
   refine⟨by have:=h.1;simp at this ⊢;omega,fun r hr=>?_⟩
   rcases List.mem_append.mp hr with q|q
   ·obtain⟨h1,h2,h3⟩:=h.2 r (List.mem_append.mpr (.inl q))
    exact⟨h1,by omega,fun c hc=>by have:=h3 c hc;omega⟩
   ·have:r=cs++[g++[c]]:=by simpa using q
    subst this
    obtain⟨h1,h2,h3⟩:=h.2 (cs++[g]) (List.mem_append.mpr (.inr (List.mem_singleton.mpr rfl)))
    refine⟨by simp,by simp at h2 ⊢;omega,fun d hd=>?_⟩
    rcases List.mem_append.mp hd with q2|q2
    ·have:=h3 d (List.mem_append.mpr (.inl q2));omega
    ·have:d=g++[c]:=by simpa using q2
     subst this
     have:=h3 g (List.mem_append.mpr (.inr (List.mem_singleton.mpr rfl)))
     rw [ax]
     simp
     omega
  cases b with
  | true=>
   rw [O5] at e
   split at e
   ·exact Gq l false rs cs _ t push e
   ·cases e
  | false=>
   rw [G5] at e
   have keep:okR l.length (rs++[cs++[g]]):=⟨by have:=h.1;omega,fun r hr=>by
    obtain⟨h1,h2,h3⟩:=h.2 r hr
    exact⟨h1,by omega,fun c hc=>by have:=h3 c hc;omega⟩⟩
   split at e
   ·exact Gq l true rs cs g t keep e
   ·split at e
    ·refine Gq l false rs _ [] t ⟨by have:=h.1;simp at this ⊢;omega,fun r hr=>?_⟩ e
     rcases List.mem_append.mp hr with q|q
     ·exact keep.2 r (List.mem_append.mpr (.inl q))
     ·have:r=cs++[g]++[[]]:=by simpa using q
      subst this
      obtain⟨h1,h2,h3⟩:=h.2 (cs++[g]) (List.mem_append.mpr (.inr (List.mem_singleton.mpr rfl)))
      refine⟨by simp,by simp at h2 ⊢;omega,fun d hd=>?_⟩
      rcases List.mem_append.mp hd with q2|q2
      ·have:=h3 d q2;omega
      ·have:d=[]:=by simpa using q2
       subst this
       have:=h.1
       simp at this ⊢
       omega
    ·split at e
     ·refine Gq l false _ [] [] t ⟨by have:=h.1;simp at this ⊢;omega,fun r hr=>?_⟩ e
      rcases List.mem_append.mp hr with q|q
      ·exact keep.2 r q
      ·have:r=[[]]:=by simpa using q
       subst this
       have:=h.1
       refine⟨by simp,by simp at this ⊢;omega,fun d hd=>?_⟩
       have:d=[]:=by simpa using hd
       subst this
       have:=h.1
       simp at this ⊢
       omega
     ·exact Gq l false rs cs _ t push e
theorem ad2 {z:Str} (h:big z) {t:List Rw} (e:rd z.cps.toList false [] [] []=some t):okR 0 t:=by
 refine Gq _ _ _ _ _ t ?_ e
 have hl:z.cps.toList.length<=9000:=by rw [Bo];exact h
 generalize z.cps.toList=l at hl
 refine⟨by simp;omega,fun r hr=>?_⟩
 have:r=[[]]:=by simpa using hr
 subst this
 refine⟨by simp,by simp;omega,fun c hc=>?_⟩
 have:c=[]:=by simpa using hc
 subst this
 simp
 omega
theorem a03 (r:List Str):(r.map Bw).all txD=r.all wfB:=by rw [gk];rfl
theorem aq0 (r:List Str):rwD (Cd r)=(in6 r.length&&r.all wfB):=by
 show (in6 (r.map Bw).length&&(r.map Bw).all txD)=_
 rw [al,a03]
theorem Y4 (t:Tb):Gg ((t.map Cd).headD (.tup []))=(t.headD []).length:=by
 cases t with
 | nil=>rfl
 | cons r t=>show (r.map Bw).length=r.length;rw [al]
theorem Md (t:Tb):E2 (Bt t)=(in6 t.length&&(t.all (fun r=>in6 r.length&&r.all wfB)&&t.all fun r=>decide (r.length=(t.headD []).length))):=by
 show (in6 (t.map Cd).length&&((t.map Cd).all rwD&&(t.map Cd).all fun d=>decide (Gg d=Gg ((t.map Cd).headD (.tup [])))))=_
 rw [al,gk,gk,Y4]
 congr 2
 ·congr 1;funext r;exact aq0 r
 ·congr 1;funext r
  show decide ((r.map Bw).length=_)=_
  rw [al]
theorem in6_iff {n:Nat}:in6 n=true ↔ 1<=n/\n<=6:=by unfold in6;rw [ak,decide_eq_true_iff,decide_eq_true_iff]
theorem Uj {t:Tb} (h:wfT t):E2 (Bt t)=true:=by
 obtain⟨h1,h2,m,m1,m6,hr⟩:=h
 rw [Md,ak,ak]
 refine⟨in6_iff.mpr ⟨h1,h2⟩,List.all_eq_true.mpr fun r q=>?_,List.all_eq_true.mpr fun r q=>?_⟩
 ·rw [ak,(hr r q).1]
  exact⟨in6_iff.mpr ⟨m1,m6⟩,List.all_eq_true.mpr fun z hz=>wfB_iff.mpr ((hr r q).2 z hz)⟩
 ·refine decide_eq_true ?_
  cases t with
  | nil=>cases q
  | cons r0 t=>rw [(hr r q).1];exact (hr r0 (bC ..)).1.symm
theorem ai9 {t:Tb} (h:E2 (Bt t)=true):wfT t:=by
 rw [Md,ak,ak] at h
 obtain⟨h1,h2,h3⟩:=h
 have h1:=in6_iff.mp h1
 have h2:=List.all_eq_true.mp h2
 have h3:=List.all_eq_true.mp h3
 cases t with
 | nil=>exact absurd h1.1 (by decide)
 | cons r0 t=>
  have g0:=h2 r0 (bC ..)
  rw [ak] at g0
  have g1:=in6_iff.mp g0.1
  refine⟨h1.1,h1.2,r0.length,g1.1,g1.2,fun r q=>⟨of_decide_eq_true (h3 r q),fun z hz=>?_⟩⟩
  have g:=h2 r q
  rw [ak] at g
  exact wfB_iff.mp (List.all_eq_true.mp g.2 z hz)
theorem ag2 {t:Tb} (h:wfT t):st2 (Bt t):=by
 obtain⟨h1,h2,m,m1,m6,hr⟩:=h
 refine⟨by rw [al];omega,fun d hd=>?_⟩
 obtain⟨r,hr',rfl⟩:=List.mem_map.mp hd
 intro d hd
 obtain⟨z,hz,rfl⟩:=List.mem_map.mp hd
 exact aR ((hr r hr').2 z hz).1 (by decide)
theorem a11 {t:List Rw} (h:okR 0 t):st2 (Bt (Ds t)):=by
 refine⟨by have:=h.1;simp [Ds];omega,fun d hd=>?_⟩
 obtain⟨r,hr',rfl⟩:=List.mem_map.mp hd
 obtain⟨r0,hr0,rfl⟩:=List.mem_map.mp hr'
 intro d hd
 obtain⟨z,hz,rfl⟩:=List.mem_map.mp hd
 obtain⟨c,hc,rfl⟩:=List.mem_map.mp hz
 show (ofC c).length<=10000
 rw [Hg]
 exact (h.2 r0 hr0).2.2 c hc
theorem Wd {t:Tb} (h:wfT t):E8 (shT t)=some t:=by
 have hn:∀ r∈t,r≠[]:=fun r hr e=>by
  obtain⟨_,_,m,m1,_,q⟩:=h
  have:=(q r hr).1
  rw [e] at this
  simp at this
  omega
 unfold E8
 rw [ap4 h.1 hn]
 show (if E2 (Bt t)=true then some t else none)=_
 rw [if_pos (Uj h)]
theorem Wc {c:Ct} (h:c.wf):E7 (Fm c) (shC c)=some c:=by
 cases c with
 | txt z=>show (if false=true then _ else if wfB z=true then some (Ct.txt z) else none)=_;rw [if_neg aj,if_pos (wfB_iff.mpr h)]
 | tab t=>show (if true=true then (E8 (shT t)).map Ct.tab else _)=_;rw [if_pos rfl,Wd h];rfl
end K21
set_option maxHeartbeats 400000
namespace K21
open PySem L2
theorem Z0 (a c:Nat):decide ([c]<[a])=decide (c<a):=by
 rw [cK,decide_eq_true_iff,decide_eq_true_iff,List.cons_lt_cons_iff]
 simp
theorem leL {s:Str} {a c:Nat} (h:s.cps.toList=[a]):(!decide ((⟨#[c]⟩:Str).cps.toList<s.cps.toList))=decide (a<=c):=by
 rw [h]
 show (!decide ([c]<[a]))=_
 rw [Z0,<- decide_not]
 exact decide_eq_decide.mpr Nat.not_lt
theorem leR {s:Str} {a c:Nat} (h:s.cps.toList=[a]):(!decide (s.cps.toList<(⟨#[c]⟩:Str).cps.toList))=decide (c<=a):=by
 rw [h]
 show (!decide ([a]<[c]))=_
 rw [Z0,<- decide_not]
 exact decide_eq_decide.mpr Nat.not_lt
theorem U4 {s1 s2:Str} {a b c:Nat} {Q:VK} {H:Hp} (h1:s1.cps.toList=[a]) (h2:s2.cps.toList=[b]) (k:Q (.bl (decide (a<=c)&&decide (c<=b))) H) :
  if (!decide ((⟨#[c]⟩:Str).cps.toList<s1.cps.toList))=true then Q (.bl (!decide (s2.cps.toList<(⟨#[c]⟩:Str).cps.toList))) H else Q (.bl false) H:=by
 rw [leL h1,leR h2]
 cases e:decide (a<=c) with
 | true=>rw [e,cL] at k;exact Kg k
 | false=>rw [e,ck] at k;exact Kf k
theorem Ku {a b c:Int} {Q:VK} {H:Hp} (k:Q (.bl (decide (a<=c)&&decide (c<=b))) H):if decide (a<=c)=true then Q (.bl (decide (c<=b))) H else Q (.bl false) H:=by
 cases e:decide (a<=c) with
 | true=>rw [e,cL] at k;exact Kg k
 | false=>rw [e,ck] at k;exact Kf k
theorem ai3 {s1 s2:Str} {a b c i:Nat} {Q:VK} {E:EK} {H:Hp} {σ:St} (h1:s1.cps.toList=[a]) (h2:s2.cps.toList=[b]) (hv:σ[i]? = some (some (.str ⟨#[c]⟩))) (k:Q (.bl (decide (a<=c)&&decide (c<=b))) H) :
  Dw Je Je (dC (.str s1)) (Ac i) (dC (.str s2)) σ H Q E:=by
 unfold Dw dC Ac
 rw [hv]
 exact U4 h1 h2 k
section
variable {P:aO} {w:bM} {K:aa} {mg:Str->Option Value} {base:Heap} {t:Adr}
theorem bl0 {f:Addr} {fd:aE} (Z:Aw K t) (F:FunD K "has_length" "has_length" Rv f fd .none) (T:Tab P w K mg base 0 (Bk K t) bl):FnOk P w K mg base CX0 1 f fd Xr (ae5 K t):=by
 refine F.okW0 bs8 bx4 T (bq2 K t) (fun vs H Q E h=>?_) (fun vs H Q E h=>?_)
 ·obtain⟨x,o,rfl,_⟩:=h;rfl
 ·obtain⟨x,o,rfl,hx,hs,k⟩:=h
  match o,hx,hs,k with
  | none,hx,hs,k=>obtain⟨a,rfl,e⟩:=hx;exact⟨.type "dict", false,.of (.dK e),rfl,k⟩
  | some (.lst l),hx,hs,k=>
   have hx:At K H (.lst l) x:=hx
   unfold At at hx
   obtain⟨a,xs,rfl,q,_⟩:=hx
   exact⟨.type "list", false,.sqL rfl q rfl,rfl,k⟩
  | some (.tup l),hx,hs,k=>
   obtain⟨a,xs,rfl,q,_⟩:=B7 (show At K H (.tup l) x from hx)
   exact⟨.type "tuple", false,.sqT rfl q rfl,rfl,k⟩
  | some (.at_ v),hx,hs,k=>
   have hx:At K H (.at_ v) x:=hx
   unfold At at hx
   obtain⟨rfl,f⟩:=hx
   cases x with
   | str z=>
    refine⟨rfl,aR hs (by decide),?_⟩
    have e:(decide (0<=(z.length:Int))&&decide ((z.length:Int)<=60))=decide (z.length<=60):=by
     rw [decide_eq_true (show (0:Int)<=(z.length:Int) by omega),cL]
     exact decide_eq_decide.mpr (by omega)
    exact Ku (a:=0) (b:=60) (c:=(z.length:Int)) (Q:=Q) (H:=H) (by rw [e];exact k)
   | _=>first|exact⟨rfl,k⟩|cases f
theorem bk2 {f:Addr} {fd:aE} (Z:Aw K t) (F:FunD K "is_text_sign" "is_text_sign" Rl f fd .none) (T:Tab P w K mg base 0 (Bk K t) bl):FnOk P w K mg base CX0 1 f fd Xh (ae2 K t):=by
 refine F.okW0 br8 bw4 T (bp2 K t) (fun vs H Q E h=>?_) (fun vs H Q E h=>?_)
 ·obtain⟨x,rfl,_⟩:=h;rfl
 ·obtain⟨c,rfl,k⟩:=h
  unfold B5 at k
  dsimp only [bv4,Ai,An,Gz]
  refine ai3 (s1 := " ") (s2 := "~") (c:=c) (i:=0) (a:=32) (b:=126) (by decide +kernel) (by decide +kernel) (by rfl) ?_
  refine A5 (c:=(decide (32<=c)&&decide (c<=126))=true) (fun e2=>?_) (fun e2=>?_)
  ·rw [e2,cL] at k
   refine⟨rfl,?_⟩
   have e3:(!decide (((c:Nat):Int)=37))=(c != 37):=by
    rw [bne,cH]
    congr 1
    exact decide_eq_decide.mpr (by omega)
   show Q (.bl (!decide (((c:Nat):Int)=37))) H
   rw [e3]
   exact k
  ·have e2':(decide (32<=c)&&decide (c<=126))=false:=by simpa using e2
   rw [e2',ck] at k
   show Q (.bl (decide (32<=c)&&decide (c<=126))) H
   rw [e2']
   exact k
theorem Pt {J:It} {its:List V} {ok:Hp->Prop} {te:DE} {σ:St} {H:Hp} {L:Addr} {R:Hp->Prop} {E:EK} (Y:Cz J its ok) (Sg:St->Prop) (Pr:Nat->V->Hp->Prop) (hL:H L=none) (hok:∀ H1,Same H H1->ok H1) (hn:its.length<sizeLine) (hσ:Sg σ) (hS:∀ σ x,Sg σ->Sg (σ.set 0 (some x)))
  (mono:∀ i v H1 H2,TKeep K H1 H2->Pr i v H1->Pr i v H2)
  (he:∀ (i:Nat) x σ H1 Q1,its[i]? = some x->Sg σ->Same H H1->(∀ v H2,Same H1 H2->Pr i v H2->Q1 v H2)->te (σ.set 0 (some x)) H1 Q1 E)
  (hd:∀ H' ys,Same H H'->H' L=some (.lst ys)->ys.length=its.length->(∀ (i:Nat) (v:V),ys[i]? = some v->Pr i v H')->R H'):Uo J (gdN 0) Df te L R σ (upd H L (.lst [])) E:=by
 refine X5 Y (fun i σ' H'=>Sg σ'/\Same H H' /\ ∃ ys,H' L=some (.lst ys)/\ys.length=i /\ ∀ (j:Nat) (v:V),ys[j]? = some v->Pr j v H') ⟨hσ,Same.upd hL,[],Ad,rfl,fun j v e=>by simp at e⟩ (fun i σ' H' _ q=>hok H' q.2.1) ?_ ?_
 ·rintro i x σ' H' hx ⟨q1,q2,ys,q3,q4,q5⟩
  have hi:i<its.length:=(List.getElem?_eq_some_iff.mp hx).1
  refine he i x σ' H' _ hx q1 q2 fun v H2 S2 hp=>⟨ys,S2 _ _ q3,by omega,hS _ _ q1,(q2.trans S2).set hL,ys++[v],Ad,by rw [ax,q4];rfl,fun j u hu=>?_⟩
  have kp:TKeep K H2 (upd H2 L (.lst (ys++[v]))):=TKeep.lst (S2 _ _ q3)
  by_cases hj:j<ys.length
  ·rw [c9 hj] at hu
   exact mono _ _ _ _ kp (mono _ _ _ _ (TKeep.of S2) (q5 j u hu))
  ·rw [cw (by omega)] at hu
   have hj0:j - ys.length=0:=by
    rcases Nat.eq_zero_or_pos (j - ys.length) with h|h
    ·exact h
    ·rw [dg (by simp;omega)] at hu;cases hu
   rw [hj0] at hu
   cases hu
   have:j=i:=by omega
   subst this
   exact mono _ _ _ _ kp hp
 ·rintro σ' H' ⟨_,q2,ys,q3,q4,q5⟩
  exact hd H' ys q2 q3 q4 q5
theorem Yp {α:Type} {ys:List V} {ds:List α} {f:α->V} (hl:ys.length=ds.length) (h:∀ (i:Nat) (v:V),ys[i]? = some v -> ∀ d,ds[i]? = some d->v=f d):ys=ds.map f:=by
 apply List.ext_getElem?
 intro i
 rw [aI]
 by_cases hi:i<ys.length
 ·have e1:=ah hi
  have e2:=ah (show i<ds.length by omega)
  rw [e1,e2,h i _ e1 _ e2]
  rfl
 ·rw [dg (by omega),dg (by omega)]
  rfl
theorem Hu {α:Type} {J:It} {its:List V} {ds:List α} {f:α->Bool} {ok:Hp->Prop} {te:DE} {σ:St} {H:Hp} {L:Addr} {R:Hp->Prop} {E:EK} (Y:Cz J its ok) (Sg:St->Prop) (hL:H L=none) (hok:∀ H1,Same H H1->ok H1) (hn:its.length<sizeLine) (hl:its.length=ds.length) (hσ:Sg σ) (hS:∀ σ x,Sg σ->Sg (σ.set 0 (some x)))
  (he:∀ (i:Nat) x d σ H1 Q1,its[i]? = some x->ds[i]? = some d->Sg σ->Same H H1->(∀ H2,Same H1 H2->Q1 (.bl (f d)) H2)->te (σ.set 0 (some x)) H1 Q1 E)
  (hd:∀ H',Same H H'->SqL K H' L ((ds.map f).map V.bl)->R H'):Uo J (gdN 0) Df te L R σ (upd H L (.lst [])) E:=by
 refine Pt (K:=K) Y Sg (fun (i:Nat) v _=>∀ d,ds[i]? = some d->v=.bl (f d)) hL hok hn hσ hS (fun _ _ _ _ _ h=>h) ?_ ?_
 ·intro i x σ H1 Q1 hx hg S hk
  have hi:i<its.length:=(List.getElem?_eq_some_iff.mp hx).1
  have e:=ah (show i<ds.length by omega)
  exact he i x _ σ H1 Q1 hx e hg S fun H2 S2=>hk _ H2 S2 fun d hd'=>by rw [e] at hd';cases hd';rfl
 ·intro H' ys S e hy hp
  refine hd H' S (SqL.of (e.trans ?_))
  rw [Yp (f:=fun d=>V.bl (f d)) (by omega) hp,eR]
  rfl
theorem Lo {α:Type} (ds:List α) (f:α->Bool):((ds.map f).all fun b=>b)=ds.all f:=by rw [gk];rfl
theorem a37 {f:Addr} {fd:aE} (Z:Aw K t) (F:FunD K "is_text" "is_text" Jt f fd .none) (T:Tab P w K mg base 1 (D6 K t) bl):FnOk P w K mg base CX0 2 f fd Nr (Nd K t):=by
 refine F.okW0 bc8 bf3 T (bb3 K t) (fun vs H Q E h=>?_) (fun vs H Q E h=>?_)
 ·obtain⟨x,o,rfl,_⟩:=h;rfl
 ·obtain⟨x,o,rfl,hx,hs,k⟩:=h
  refine⟨x,o,rfl,hx,hs,?_⟩
  match o,hx,hs,k with
  | none,hx,hs,k=>exact k H (Same.refl _)
  | some (.lst l),hx,hs,k=>exact k H (Same.refl _)
  | some (.tup l),hx,hs,k=>exact k H (Same.refl _)
  | some (.at_ v),hx,hs,k=>
   cases v with
   | str z=>
    have hx:At K H (.at_ (.str z)) x:=hx
    unfold At at hx
    obtain⟨rfl,_⟩:=hx
    have k:∀ H',Same H H'->Q (.bl (decide (z.length<=60)&&z.cps.toList.all B5)) H':=k
    refine A5 (c:=decide (z.length<=60)=true) (fun e=>?_) (fun e=>?_)
    ·rw [e,cL] at k
     have hl:z.length<=60:=of_decide_eq_true e
     refine fun D hD=>Hu (K:=K) (ds:=z.cps.toList) (f:=B5) (Ni z) (fun σ=>σ.length=1) hD (fun _ _=>aY) ?_ ?_ rfl (fun σ x hσ=>by rw [b6];exact hσ) ?_ ?_
     ·unfold Bx
      rw [al,Bo]
      exact bI hl (by decide)
     ·unfold Bx
      rw [al]
     ·intro i x d σ H1 Q1 hx hd hσ S hk
      unfold Bx at hx
      rw [aI,hd] at hx
      cases hx
      match σ,hσ with
      | [_],_=>exact⟨d,rfl,hk H1 (Same.refl _)⟩
     ·intro H' S q
      exact⟨_,q,by rw [Lo];exact k H' S⟩
    ·have e':decide (z.length<=60)=false:=by simpa using e
     rw [e',ck] at k
     have:=k H (Same.refl _)
     show Q (.bl (decide (z.length<=60))) H
     rw [e']
     exact this
   | _=>exact k H (Same.refl _)
theorem au3 {f:Addr} {fd:aE} (Z:Aw K t) (F:FunD K "fits" "Kind.fits" R5 f fd .none) (T:Tab P w K mg base 2 (G7 K t) bl):FnOk P w K mg base CX0 3 f fd Xx (aw5 K t):=by
 refine F.okW0 bt4 by0 T (bq8 K t) (fun vs H Q E h=>?_) (fun vs H Q E h=>?_)
 ·obtain⟨s,x,o,rfl,_⟩:=h;rfl
 ·obtain⟨s,x,o,rfl,hx,hs,k⟩:=h
  exact⟨x,o,rfl,hx,hs,k⟩
theorem au2 {f:Addr} {fd:aE} (Z:Aw K t) (F:FunD K "shown" "Kind.shown" Rs f fd .none) (T:Tab P w K mg base 0 (Bk K t) bl):FnOk P w K mg base CX0 1 f fd Xo (aw2 K t):=by
 refine F.okW0 bs5 bx1 T (bp9 K t) (fun vs H Q E h=>?_) (fun vs H Q E h=>?_)
 ·obtain⟨s,x,rfl,_⟩:=h;rfl
 ·obtain⟨s,x,rfl,k⟩:=h
  exact k
theorem bz0 (n:Nat):(decide (1<=(n:Int))&&decide ((n:Int)<=6))=in6 n:=by
 unfold in6
 congr 1 <;> exact decide_eq_decide.mpr (by omega)
theorem bk6 {f:Addr} {fd:aE} (Z:Aw K t) (F:FunD K "is_tuple_of" "is_tuple_of" Rp f fd .none) (T:Tab P w K mg base 0 (Bk K t) bl):FnOk P w K mg base CX0 1 f fd Xl (Ub K t):=by
 refine F.okW0 bs2 bw8 T (bp6 K t) (fun vs H Q E h=>?_) (fun vs H Q E h=>?_)
 ·obtain⟨x,o,rfl,_⟩:=h;rfl
 ·obtain⟨x,o,rfl,hx,k⟩:=h
  match o,hx,k with
  | none,hx,k=>obtain⟨a,rfl,e⟩:=hx;exact⟨.type "dict", false,.of (.dK e),rfl,k⟩
  | some (.lst l),hx,k=>
   have hx:At K H (.lst l) x:=hx
   unfold At at hx
   obtain⟨a,xs,rfl,q,_⟩:=hx
   exact⟨.type "list", false,.sqL rfl q rfl,rfl,k⟩
  | some (.at_ v),hx,k=>
   have hx:At K H (.at_ v) x:=hx
   unfold At at hx
   obtain⟨rfl,f⟩:=hx
   cases x <;> first|exact⟨rfl,k⟩|cases f
  | some (.tup ds),hx,k=>
   obtain⟨a,xs,rfl,q,g⟩:=B7 (show At K H (.tup ds) x from hx)
   refine⟨.type "tuple", true,.sqT rfl q rfl,rfl,.inl ⟨xs,.inr q,?_⟩⟩
   refine Ku ?_
   rw [g.length,bz0]
   exact k
theorem a39 {f:Addr} {fd:aE} (Z:Aw K t) (F:FunD K "is_row" "is_row" Jv f fd .none) (T:Tab P w K mg base 2 (G7 K t) bl):FnOk P w K mg base CX0 3 f fd Nu (Sb K t):=by
 refine F.okW0 bd0 bf5 T (bb5 K t) (fun vs H Q E h=>?_) (fun vs H Q E h=>?_)
 ·obtain⟨x,d,rfl,_⟩:=h;rfl
 ·obtain⟨x,d,rfl,hx,hs,k⟩:=h
  refine⟨x,some d,rfl,hx,?_⟩
  match d,hx,hs,k with
  | .lst l,hx,hs,k=>exact k H (Same.refl _)
  | .at_ v,hx,hs,k=>exact k H (Same.refl _)
  | .tup ds,hx,hs,k=>
   have k:∀ H',Same H H'->Q (.bl (in6 ds.length&&ds.all txD)) H':=k
   obtain⟨a,xs,rfl,q,g⟩:=B7 hx
   refine A5 (c:=in6 ds.length=true) (fun e=>?_) (fun e=>?_)
   ·rw [e,cL] at k
    have e6:=in6_iff.mp e
    have gl:=g.length
    refine .inr (.inl ⟨⟨_,q⟩,?_⟩)
    refine fun D hD=>Hu (K:=K) (ds:=ds) (f:=txD) (Ep xs) (fun σ=>σ.length=1) hD (fun H1 S=>S.seqT q) ?_ gl rfl (fun σ x hσ=>by rw [b6];exact hσ) ?_ ?_
    ·rw [gl];exact bI e6.2 (by decide)
    ·intro i x d σ H1 Q1 hx hd hσ S hk
     obtain⟨y,hy,ha⟩:=Cu g hd
     rw [hx] at hy
     cases hy
     match σ,hσ with
     | [_],_=>exact⟨x,some d,rfl,E5 S ha,hs d (bd hd),hk⟩
    ·intro H' S q
     exact⟨_,q,by rw [Lo];exact k H' S⟩
   ·have e':in6 ds.length=false:=by simpa using e
    rw [e',ck] at k
    have:=k H (Same.refl _)
    show Q (.bl (in6 ds.length)) H
    rw [e']
    exact this
theorem bb7 {H:Hp} {d:Dt} {x:V} (ha:At K H d x) (h:rwD d=true):∃ b ys,x=.ref b/\SqT K H b ys/\ys.length=Gg d:=by
 cases d with
 | tup es=>
  obtain⟨b,ys,rfl,q2,g2⟩:=B7 ha
  exact⟨b,ys,rfl,q2,g2.length⟩
 | at_ v=>exact absurd (show false=true from h) aj
 | lst l=>exact absurd (show false=true from h) aj
theorem bk8 {f:Addr} {fd:aE} (Z:Aw K t) (F:FunD K "fits" "Table.fits" Rt f fd .none) (T:Tab P w K mg base 3 (Vb K t) bl):FnOk P w K mg base CX0 4 f fd Xp (aw3 K t):=by
 refine F.okW0 bs6 bx2 T (bq0 K t) (fun vs H Q E h=>?_) (fun vs H Q E h=>?_)
 ·obtain⟨s,x,o,rfl,_⟩:=h;rfl
 ·obtain⟨s,x,o,rfl,hx,hs,k⟩:=h
  refine⟨x,o,rfl,hx,?_⟩
  match o,hx,hs,k with
  | none,hx,hs,k=>exact k H (Same.refl _)
  | some (.lst l),hx,hs,k=>exact k H (Same.refl _)
  | some (.at_ v),hx,hs,k=>exact k H (Same.refl _)
  | some (.tup ds),hx,hs,k=>
   have k:∀ H',Same H H'->Q (.bl (in6 ds.length&&(ds.all rwD&&ds.all fun d=>decide (Gg d=Gg (ds.headD (.tup [])))))) H':=k
   obtain⟨a,xs,rfl,q,g⟩:=B7 (show At K H (.tup ds) x from hx)
   refine A5 (c:=(!in6 ds.length)=true) (fun e=>?_) (fun e=>?_)
   ·have e':in6 ds.length=false:=by simpa using e
    rw [e',ck] at k
    exact k H (Same.refl _)
   ·have e':in6 ds.length=true:=by simpa using e
    rw [e',cL] at k
    have e6:=in6_iff.mp e'
    have gl:=g.length
    have hlt:xs.length<sizeLine:=by rw [gl];exact bI e6.2 (by decide)
    refine .inr (.inl ⟨⟨_,q⟩,?_⟩)
    refine fun D hD=>Hu (K:=K) (ds:=ds) (f:=rwD) (Ep xs) (fun σ=>σ.length=1) hD (fun H1 S=>S.seqT q) hlt gl rfl (fun σ x hσ=>by rw [b6];exact hσ) ?_ ?_
    ·intro i x d σ H1 Q1 hx hd hσ S hk
     obtain⟨y,hy,ha⟩:=Cu g hd
     rw [hx] at hy
     cases hy
     match σ,hσ with
     | [_],_=>exact⟨x,d,rfl,E5 S ha,hs.2 d (bd hd),hk⟩
    ·intro H1 S1 q1
     refine⟨_,q1,?_⟩
     rw [Lo]
     refine A5 (c:=(!ds.all rwD)=true) (fun e=>?_) (fun e=>?_)
     ·have e':ds.all rwD=false:=by simpa using e
      rw [e',ck] at k
      exact k H1 S1
     ·have e':ds.all rwD=true:=by simpa using e
      rw [e',cL] at k
      have er:=List.all_eq_true.mp e'
      have tp:∀ (i:Nat) (d:Dt),ds[i]? = some d -> ∃ (b:Addr) (ys:List V),xs[i]? = some (.ref b)/\SqT K H b ys/\ys.length=Gg d:=fun i d hd=>by
       obtain⟨y,hy,ha⟩:=Cu g hd
       obtain⟨b,ys,rfl,q2,g2⟩:=bb7 ha (er d (bd hd))
       exact⟨b,ys,hy,q2,g2⟩
      have h0:ds[0]? = some (ds.headD (.tup [])):=by
       cases ds with
       | nil=>exact absurd e6.1 (by decide)
       | cons d ds=>rfl
      obtain⟨b0,ys0,hb0,q0,l0⟩:=tp 0 _ h0
      refine .inr (.inl ⟨⟨_,S1.seqT q⟩,?_⟩)
      refine fun D2 hD2=>Hu (K:=K) (ds:=ds) (f:=fun d=>decide (Gg d=Gg (ds.headD (.tup [])))) (Ep xs) (fun σ=>∃ v,σ=[v,some (.ref a)]) hD2 (fun H2 S=>S.seqT (S1.seqT q)) hlt gl ⟨_,rfl⟩ (fun σ x hσ=>by obtain⟨v,rfl⟩:=hσ;exact⟨_,rfl⟩) ?_ ?_
      ·intro i x d σ H2 Q1 hx hd hσ S hk
       obtain⟨b,ys,hb,q2,l2⟩:=tp i d hd
       rw [hx] at hb
       cases hb
       obtain⟨v,rfl⟩:=hσ
       have S2:=S1.trans S
       refine .inl ⟨ys,.inr (S2.seqT q2),?_⟩
       refine⟨_,_,.inr (S2.seqT q),Fe (i:=0) hb0,?_⟩
       refine .inl ⟨ys0,.inr (S2.seqT q0),?_⟩
       have e:decide ((ys.length:Int)=(ys0.length:Int))=decide (Gg d=Gg (ds.headD (.tup []))):=by
        rw [l2,l0]
        exact decide_eq_decide.mpr (by omega)
       show Q1 (.bl (decide ((ys.length:Int)=(ys0.length:Int)))) H2
       rw [e]
       exact hk H2 (Same.refl _)
      ·intro H2 S2 q2
       exact⟨_,q2,by rw [Lo];exact k H2 (S1.trans S2)⟩
theorem Tw (c d e:Nat):∀ l:List Nat,(rep c [d,e] l).length<=2 * l.length
 | []=>af _
 | k::r=>by
  rw [Fs,ax,aQ]
  have:=Tw c d e r
  split <;> simp <;> omega
theorem ae8 {u y z:Str} {c m:Nat} (hy:y=⟨#[c]⟩) (hz:z.cps.toList=[92,c]) (hu:u.length<=m):(kA u y z).cps.toList=rep c [92,c] u.cps.toList/\(kA u y z).length<=2 * m:=by
 subst hy
 have e:=O9 u z c
 rw [hz] at e
 refine⟨e,?_⟩
 rw [<- Bo,e]
 have:=Tw c 92 c u.cps.toList
 rw [Bo] at this
 omega
theorem Ig {u:Str} {n:Nat} (hu:u.length<=1000) (hn:n=2):u.length+(u.length+1) * n<=16777216:=by subst hn;omega
theorem bl5 {f:Addr} {fd:aE} (Z:Aw K t) (F:FunD K "shown_cell" "shown_cell" R3 f fd .none) (T:Tab P w K mg base 0 (as4 K t) bl):FnOk P w K mg base CX0 1 f fd Xw (ae7 K t):=by
 refine F.okW0 bt3 bx9 T (bq7 K t) (fun vs H Q E h=>?_) (fun vs H Q E h=>?_)
 ·obtain⟨z,rfl,_⟩:=h;rfl
 ·obtain⟨z,rfl,hz,k⟩:=h
  refine⟨(show 3<=sizeLine by decide),fun p hp=>.inr (.inl ⟨⟨_,SqT.of Ad⟩,?_⟩)⟩
  have S:=Same.upd (o:=.tup [.stk "\\" t.n_zas true,.stk "|" t.n_zao true,.stk "/" t.n_zaq true]) hp
  have ep:upd H p (.tup [.stk "\\" t.n_zas true,.stk "|" t.n_zao true,.stk "/" t.n_zaq true]) p=some (.tup [.stk "\\" t.n_zas true,.stk "|" t.n_zao true,.stk "/" t.n_zaq true]):=Ad
  generalize upd H p (.tup [.stk "\\" t.n_zas true,.stk "|" t.n_zao true,.stk "/" t.n_zaq true])=H1 at S ep ⊢
  refine B1 (Ep [.stk "\\" t.n_zas true,.stk "|" t.n_zao true,.stk "/" t.n_zaq true]) (fun i σ H'=>H'=H1 /\ ∃ u v,σ=[some (.str z),some (.str u),v]/\(i=0->u=z)/\(i=1->u.cps.toList=rep 92 [92,92] z.cps.toList/\u.length<=120)/\(i=2->u.cps.toList=rep 124 [92,124] (rep 92 [92,92] z.cps.toList)/\u.length<=240)/\(i=3->u.cps.toList=D5 z.cps.toList))
   ⟨rfl,_,_,rfl,fun _=>rfl,(fun h=>by omega),(fun h=>by omega),(fun h=>by omega)⟩ (fun i σ H' _ q=>q.1▸SqT.of ep) ?_ ?_
  ·rintro i x σ H' hx ⟨rfl,u,v,rfl,g0,g1,g2,g3⟩
   match i,hx with
   | 0,hx=>
    cases hx
    have e0:=g0 rfl
    subst e0
    have st:=ae8 (u:=u) (y := "\\") (z := "\\" ++ "\\") (c:=92) (by decide +kernel) (by decide +kernel) hz
    exact⟨rfl,by decide +kernel,by decide +kernel,by decide +kernel,⟨"STROKE", Z.nS⟩,Z.pS,cm _,by decide +kernel,Ig (by omega) (by decide +kernel),rfl,_,_,rfl,(fun h=>by omega),fun _=>st,(fun h=>by omega),(fun h=>by omega)⟩
   | 1,hx=>
    cases hx
    obtain⟨e1,l1⟩:=g1 rfl
    have st:=ae8 (u:=u) (y := "|") (z := "\\" ++ "|") (c:=124) (by decide +kernel) (by decide +kernel) l1
    rw [e1] at st
    exact⟨rfl,by decide +kernel,by decide +kernel,by decide +kernel,⟨"CELL_SIGN", Z.nC⟩,Z.pC,cm _,by decide +kernel,Ig (by omega) (by decide +kernel),rfl,_,_,rfl,(fun h=>by omega),(fun h=>by omega),fun _=>st,(fun h=>by omega)⟩
   | 2,hx=>
    cases hx
    obtain⟨e1,l1⟩:=g2 rfl
    have st:=ae8 (u:=u) (y := "/") (z := "\\" ++ "/") (c:=47) (by decide +kernel) (by decide +kernel) l1
    rw [e1,Ta] at st
    exact⟨rfl,by decide +kernel,by decide +kernel,by decide +kernel,⟨"ROW_SIGN", Z.nR⟩,Z.pR,cm _,by decide +kernel,Ig (by omega) (by decide +kernel),rfl,_,_,rfl,(fun h=>by omega),(fun h=>by omega),(fun h=>by omega),fun _=>st.1⟩
   | n+3,hx=>cases hx
  ·rintro σ H' ⟨rfl,u,v,rfl,_,_,_,g3⟩
   have e:u=E0 z:=by
    unfold E0
    rw [<- g3 rfl,Hh]
   subst e
   exact .inl (k _ S)
theorem Hv {α:Type} {J:It} {its:List V} {ds:List α} {f:α->Str} {ok:Hp->Prop} {te:DE} {σ:St} {H:Hp} {L:Addr} {R:Hp->Prop} {E:EK} (Y:Cz J its ok) (Sg:St->Prop) (hL:H L=none) (hok:∀ H1,Same H H1->ok H1) (hn:its.length<sizeLine) (hl:its.length=ds.length) (hσ:Sg σ) (hS:∀ σ x,Sg σ->Sg (σ.set 0 (some x)))
  (he:∀ (i:Nat) x d σ H1 Q1,its[i]? = some x->ds[i]? = some d->Sg σ->Same H H1->(∀ H2,Same H1 H2->Q1 (.str (f d)) H2)->te (σ.set 0 (some x)) H1 Q1 E)
  (hd:∀ H',Same H H'->SqL K H' L ((ds.map f).map V.str)->R H'):Uo J (gdN 0) Df te L R σ (upd H L (.lst [])) E:=by
 refine Pt (K:=K) Y Sg (fun (i:Nat) v _=>∀ d,ds[i]? = some d->v=.str (f d)) hL hok hn hσ hS (fun _ _ _ _ _ h=>h) ?_ ?_
 ·intro i x σ H1 Q1 hx hg S hk
  have hi:i<its.length:=(List.getElem?_eq_some_iff.mp hx).1
  have e:=ah (show i<ds.length by omega)
  exact he i x _ σ H1 Q1 hx e hg S fun H2 S2=>hk _ H2 S2 fun d hd'=>by rw [e] at hd';cases hd';rfl
 ·intro H' ys S e hy hp
  refine hd H' S (SqL.of (e.trans ?_))
  rw [Yp (f:=fun d=>V.str (f d)) (by omega) hp,eR]
  rfl
theorem Pu {α:Type} {J:It} {its:List V} {ds:List α} {f:α->List Str} {ok:Hp->Prop} {te:DE} {σ:St} {H:Hp} {L:Addr} {R:Hp->Prop} {E:EK} (Y:Cz J its ok) (Sg:St->Prop) (hL:H L=none) (hok:∀ H1,Same H H1->ok H1) (hn:its.length<sizeLine) (hl:its.length=ds.length) (hσ:Sg σ) (hS:∀ σ x,Sg σ->Sg (σ.set 0 (some x)))
  (he:∀ (i:Nat) x d σ H1 Q1,its[i]? = some x->ds[i]? = some d->Sg σ->Same H H1->(∀ y H2,Same H1 H2->At K H2 (Cd (f d)) y->Q1 y H2)->te (σ.set 0 (some x)) H1 Q1 E)
  (hd:∀ H' ys,Same H H'->H' L=some (.lst ys)->AtL K H' (ds.map fun d=>Cd (f d)) ys->R H'):Uo J (gdN 0) Df te L R σ (upd H L (.lst [])) E:=by
 refine Pt (K:=K) Y Sg (fun (i:Nat) v H'=>∀ d,ds[i]? = some d->At K H' (Cd (f d)) v) hL hok hn hσ hS (fun _ _ _ _ kp h d hd'=>Ll (h d hd') kp) ?_ ?_
 ·intro i x σ H1 Q1 hx hg S hk
  have hi:i<its.length:=(List.getElem?_eq_some_iff.mp hx).1
  have e:=ah (show i<ds.length by omega)
  exact he i x _ σ H1 Q1 hx e hg S fun y H2 S2 ha=>hk _ H2 S2 fun d hd'=>by rw [e] at hd';cases hd';exact ha
 ·intro H' ys S e hy hp
  refine hd H' ys S e ?_
  have go:∀ (ds:List α) (ys:List V),ys.length=ds.length->(∀ (i:Nat) v,ys[i]? = some v -> ∀ d,ds[i]? = some d->At K H' (Cd (f d)) v)->AtL K H' (ds.map fun d=>Cd (f d)) ys:=by
   intro ds
   induction ds with
   | nil=>intro ys hl _;cases ys with
    | nil=>exact A7
    | cons y ys=>simp at hl
   | cons d ds ih=>intro ys hl h;cases ys with
    | nil=>simp at hl
    | cons y ys=>exact Bc (h 0 y rfl d rfl) (ih ys (by simpa using hl) fun i v hv d' hd'=>h (i+1) v hv d' hd')
  exact go ds ys (by omega) hp
theorem a32 {f:Addr} {fd:aE} (Z:Aw K t) (F:FunD K "shown_row" "shown_row" Jo f fd .none) (T:Tab P w K mg base 1 (D6 K t) bl):FnOk P w K mg base CX0 2 f fd Nm (R8 K t):=by
 refine F.okW0 bc3 be8 T (ba8 K t) (fun vs H Q E h=>?_) (fun vs H Q E h=>?_)
 ·obtain⟨x,r,m,rfl,_⟩:=h;rfl
 ·obtain⟨x,r,m,rfl,hx,hm,hw,k⟩:=h
  obtain⟨a,rfl,q⟩:=Hr (show At K H (.tup (r.map Bw)) x from hx)
  refine⟨rfl,.inr (.inl ⟨⟨_,q⟩,?_⟩)⟩
  refine fun D hD=>Hv (K:=K) (ds:=r) (f:=E0) (Ep (r.map V.str)) (fun σ=>σ.length=1) hD (fun H1 S=>S.seqT q) ?_ (al _) rfl (fun σ x hσ=>by rw [b6];exact hσ) ?_ ?_
  ·rw [al,hw.1];exact bI hm (by decide)
  ·intro i x d σ H1 Q1 hx hd hσ S hk
   rw [aI,hd] at hx
   cases hx
   match σ,hσ with
   | [_],_=>exact⟨d,rfl,(hw.2 d (bd hd)).1,hk⟩
  ·intro H' S q'
   refine⟨_,D,r.map E0,rfl,rfl,q',?_,?_⟩
   ·refine Dk (B:=120) (n:=6) (by decide +kernel) (fun p hp=>?_) (by rw [al,hw.1];exact hm) (by decide)
    obtain⟨z,hz,rfl⟩:=List.mem_map.mp hp
    have:=Id z
    have:=(hw.2 z hz).1
    omega
   ·rw [Fu]
    exact k H' S
theorem bk5 {f:Addr} {fd:aE} (Z:Aw K t) (F:FunD K "shown" "Table.shown" Ro f fd .none) (T:Tab P w K mg base 2 (G7 K t) bl):FnOk P w K mg base CX0 3 f fd Xk (aw0 K t):=by
 refine F.okW0 bs1 bw7 T (bp5 K t) (fun vs H Q E h=>?_) (fun vs H Q E h=>?_)
 ·obtain⟨s,x,c,rfl,_⟩:=h;rfl
 ·obtain⟨s,x,c,rfl,hx,hw,k⟩:=h
  obtain⟨a,xs,rfl,q,g⟩:=B7 (show At K H (.tup (c.map Cd)) x from hx)
  have gl:=g.length
  rw [al] at gl
  obtain⟨h1,h2,m,m1,m6,hr⟩:=id hw
  refine⟨rfl,.inr (.inl ⟨⟨_,q⟩,?_⟩)⟩
  refine fun D hD=>Hv (K:=K) (ds:=c) (f:=shR) (Ep xs) (fun σ=>σ.length=1) hD (fun H1 S=>S.seqT q) ?_ gl rfl (fun σ x hσ=>by rw [b6];exact hσ) ?_ ?_
  ·rw [gl];exact bI h2 (by decide)
  ·intro i x d σ H1 Q1 hx hd hσ S hk
   obtain⟨y,hy,ha⟩:=Cu g (i:=i) (d:=Cd d) (by rw [aI,hd];rfl)
   rw [hx] at hy
   cases hy
   match σ,hσ with
   | [_],_=>exact⟨x,d,m,rfl,E5 S ha,m6,hr d (bd hd),hk⟩
  ·intro H' S q'
   refine⟨_,D,c.map shR,rfl,rfl,q',?_,?_⟩
   ·refine Dk (B:=726) (n:=6) (by decide +kernel) (fun p hp=>?_) (by rw [al];exact h2) (by decide)
    obtain⟨r,hr',rfl⟩:=List.mem_map.mp hp
    exact M5 (hr r hr') m6
   ·rw [Fu]
    exact k H' S
theorem au0 {f:Addr} {fd:aE} (Z:Aw K t) (F:FunD K "read_shown" "Kind.read_shown" Re f fd .none) (T:Tab P w K mg base 4 (Vc K t) bl):FnOk P w K mg base CX0 5 f fd Xa (av7 K t):=by
 refine F.okW0 br1 bv7 T (bo5 K t) (fun vs H Q E h=>?_) (fun vs H Q E h=>?_)
 ·obtain⟨s,dx,C,z,rfl,_⟩:=h;rfl
 ·obtain⟨s,dx,C,z,rfl,hs,hC,hz,k⟩:=h
  have go:∀ H',Same H H'->(if wfB z=true then Q (.str z) H' else Q .non H'):=fun H' S=>by
   have:=k H' S
   cases e:wfB z with
   | true=>rw [e,if_pos rfl] at this;exact Kg this
   | false=>rw [e,if_neg aj] at this;exact Kf this
  rcases hC with rfl|rfl
  ·exact⟨s,dx,[],⟨t.c_zar,Oe K t⟩,rfl,.head _,hs,rfl,⟨af 2,af 2⟩,.ref s,.str z,some (Bw z),rfl,Es (K:=K) (H:=H),aR hz (by decide),go⟩
  ·exact⟨s,dx,[],⟨t.c_zau,Oe K t⟩,rfl,.tail _ (.head _),hs,rfl,⟨af 2,af 2⟩,.ref s,.str z,some (Bw z),rfl,Es (K:=K) (H:=H),aR hz (by decide),go⟩
theorem bk1 {f:Addr} {fd:aE} (Z:Aw K t) (F:FunD K "word" "Chapter.word" Rk f fd .none) (T:Tab P w K mg base 0 (Bk K t) bl):FnOk P w K mg base CX0 1 f fd Xg (av9 K t):=by
 refine F.okW0 br7 bw3 T (bp1 K t) (fun vs H Q E h=>?_) (fun vs H Q E h=>?_)
 ·obtain⟨s,rfl,_⟩:=h;rfl
 ·obtain⟨s,rfl,k⟩:=h;exact k
theorem bl6 {f:Addr} {fd:aE} (Z:Aw K t) (F:FunD K "word" "Para.word" R6 f fd .none) (T:Tab P w K mg base 0 (Bk K t) bl):FnOk P w K mg base CX0 1 f fd Xy (aw6 K t):=by
 refine F.okW0 bt5 by1 T (bq9 K t) (fun vs H Q E h=>?_) (fun vs H Q E h=>?_)
 ·obtain⟨s,rfl,_⟩:=h;rfl
 ·obtain⟨s,rfl,k⟩:=h;exact k
theorem bk9 {f:Addr} {fd:aE} (Z:Aw K t) (F:FunD K "word" "Table.word" Ru f fd .none) (T:Tab P w K mg base 0 (Bk K t) bl):FnOk P w K mg base CX0 1 f fd Xq (aw4 K t):=by
 refine F.okW0 bs7 bx3 T (bq1 K t) (fun vs H Q E h=>?_) (fun vs H Q E h=>?_)
 ·obtain⟨s,rfl,_⟩:=h;rfl
 ·obtain⟨s,rfl,k⟩:=h;exact k
theorem au1 {f:Addr} {fd:aE} (Z:Aw K t) (F:FunD K "holds" "Kind.holds" Rr f fd .none) (T:Tab P w K mg base 0 (Bk K t) bl):FnOk P w K mg base CX0 1 f fd Xn (aw1 K t):=by
 refine F.okW0 bs4 bx0 T (bp8 K t) (fun vs H Q E h=>?_) (fun vs H Q E h=>?_)
 ·obtain⟨s,rfl,_⟩:=h;rfl
 ·obtain⟨s,rfl,k⟩:=h;exact k
theorem bj8 {f:Addr} {fd:aE} (Z:Aw K t) (F:FunD K "holds" "Chapter.holds" Rh f fd .none) (T:Tab P w K mg base 0 (Bk K t) bl):FnOk P w K mg base CX0 1 f fd Xd (av8 K t):=by
 refine F.okW0 br4 bw0 T (bo8 K t) (fun vs H Q E h=>?_) (fun vs H Q E h=>?_)
 ·obtain⟨s,rfl,_⟩:=h;rfl
 ·obtain⟨s,rfl,k⟩:=h;exact k
noncomputable def one (c:Nat):Str:=⟨#[c]⟩
noncomputable def sg (c:Nat):V:=.str (one c)
theorem Mg (l:List Nat):me (ba "") (l.map one)=ofC l:=by
 show Builtin.Str.glued (ba "") _=_
 rw [jQ,show ba "" = (⟨#[]⟩:Str) from by decide +kernel]
 exact PyProof.Rows.join_ones l
theorem T6 (l:List Nat):Jw l=.lst ((l.map one).map Bw):=by unfold Jw;rw [eR];rfl
theorem bd3 {H:Hp} {l:List Nat} {x:V} (h:At K H (Jw l) x):∃ b,x=.ref b/\SqL K H b ((l.map one).map V.str):=by
 rw [T6] at h
 unfold At at h
 obtain⟨a,xs,rfl,q,g⟩:=h
 rw [Er g] at q
 exact⟨a,rfl,q⟩
theorem Pp {H:Hp} {l:List Nat} {b:Addr} (h:H b=some (.lst (l.map sg))):At K H (Jw l) (.ref b):=by
 rw [T6]
 exact Lu (SqL.of (h.trans (by rw [eR];rfl)))
theorem bk4 {f:Addr} {fd:aE} (Z:Aw K t) (F:FunD K "row_of_signs" "row_of_signs" Rn f fd .none) (T:Tab P w K mg base 0 (Bk K t) bl):FnOk P w K mg base CX0 1 f fd Xj (ae3 K t):=by
 refine F.okW0 bs0 bw6 T (bp4 K t) (fun vs H Q E h=>?_) (fun vs H Q E h=>?_)
 ·obtain⟨x,r,rfl,_⟩:=h;rfl
 ·obtain⟨x,r,rfl,hx,hl,hc,k⟩:=h
  have hx:At K H (.lst (r.map Jw)) x:=hx
  unfold At at hx
  obtain⟨a,xs,rfl,q,g⟩:=hx
  have gl:=g.length
  rw [al] at gl
  refine .inl ⟨⟨_,q⟩,?_⟩
  refine fun D hD=>Hv (K:=K) (ds:=r) (f:=ofC) (Co xs) (fun σ=>σ.length=1) hD (fun H1 S=>S.seqL q) ?_ gl rfl (fun σ x hσ=>by rw [b6];exact hσ) ?_ ?_
  ·rw [gl];exact bI hl (by decide)
  ·intro i x d σ H1 Q1 hx hd hσ S hk
   obtain⟨y,hy,ha⟩:=Cu g (i:=i) (d:=Jw d) (by rw [aI,hd];rfl)
   rw [hx] at hy
   cases hy
   obtain⟨b,rfl,qb⟩:=bd3 (E5 S ha)
   have lc:=hc d (bd hd)
   match σ,hσ with
   | [_],_=>
    refine⟨rfl,_,b,d.map one,rfl,rfl,qb,?_,?_⟩
    ·refine Dk (B:=1) (n:=10000) (by decide +kernel) (fun p hp=>?_) (by rw [al];exact lc) (by decide)
     obtain⟨c,_,rfl⟩:=List.mem_map.mp hp
     exact af 1
    ·rw [Mg]
     exact hk H1 (Same.refl _)
  ·intro H' S q'
   refine⟨_,.inl ⟨q',fun l hl=>?_⟩⟩
   exact k _ _ (S.trans (Same.upd hl)) (Ff (SqT.of Ad))
theorem Og (n:Nat):ixN (n+1) (-1)=some n:=by
 unfold ixN
 rw [if_neg (by omega),if_pos (by omega)]
 congr 1
 omega
theorem By {xs:List V} {v:V}:atI (xs++[v]) (-1)=some v:=by
 unfold atI
 rw [ax,bP,Og]
 simp
theorem Ir {xs:List V} {v w:V}:ixN (xs++[v]).length (-1)=some xs.length/\(xs++[v]).set xs.length w=xs++[w]:=by
 refine⟨?_,by simp⟩
 rw [ax,bP,Og]
noncomputable def NestAt (K:aa) (Hb H:Hp) (l0:Addr) (rs:List Rw) (cs:Rw) (g:List Nat):Prop:=
 ∃ H1 ra ca xs ys,Same Hb H1/\Same H1 H/\H1 l0=none/\H1 ra=none/\H1 ca=none/\AtL K H1 (rs.map Kk) xs/\AtL K H1 (cs.map Jw) ys/\H l0=some (.lst (xs++[.ref ra]))/\H ra=some (.lst (ys++[.ref ca]))/\H ca=some (.lst (g.map sg))/\l0≠ra/\l0≠ca/\ra≠ca
theorem NestAt.up {Hb H H':Hp} {l0:Addr} {rs:List Rw} {cs:Rw} {g:List Nat} (h:NestAt K Hb H l0 rs cs g) (S:Same H H'):NestAt K Hb H' l0 rs cs g:=by
 obtain⟨H1,ra,ca,xs,ys,h1,h2,h3,h4,h5,h6,h7,h8,h9,h10,h11⟩:=h
 exact⟨H1,ra,ca,xs,ys,h1,h2.trans S,h3,h4,h5,h6,h7,S _ _ h8,S _ _ h9,S _ _ h10,h11⟩
theorem NestAt.bs {Hb H:Hp} {l0:Addr} {rs:List Rw} {cs:Rw} {g:List Nat} (h:NestAt K Hb H l0 rs cs g):Same Hb H:=by
 obtain⟨H1,ra,ca,xs,ys,h1,h2,_⟩:=h
 exact h1.trans h2
theorem NestAt.tab {Hb H:Hp} {l0:Addr} {rs:List Rw} {cs:Rw} {g:List Nat} (h:NestAt K Hb H l0 rs cs g):At K H (bv5 (rs++[cs++[g]])) (.ref l0):=by
 obtain⟨H1,ra,ca,xs,ys,h1,h2,h3,h4,h5,h6,h7,h8,h9,h10,h11⟩:=h
 unfold bv5
 rw [bx]
 refine Hq (SqL.of h8) (Ck (Bh h2 h6) (Bc ?_ A7))
 unfold Kk
 rw [bx]
 exact Hq (SqL.of h9) (Ck (Bh h2 h7) (Bc (Pp h10) A7))
theorem one_inj {a c:Nat}:one c=one a ↔ c=a:=by
 refine⟨fun e=>?_,fun e=>by rw [e]⟩
 have:=congrArg (fun s:Str=>s.cps.toList) e
 simpa [one] using this
theorem Cv (s:Str) (a c:Nat) (h:s=one a):decide (one c=s)=decide (c=a):=by
 subst h
 exact decide_eq_decide.mpr one_inj
noncomputable def spc (c:Nat):Bool:=decide (c=92\/c=124\/c=47)
theorem K2 (s:Str) (a c:Nat) (h:s=one a):eqV (.str s) (sg c)=decide (c=a):=by
 subst h
 show (one a==one c)=_
 rw [cK,beq_iff_eq,decide_eq_true_iff]
 exact⟨fun e=>(one_inj.mp e).symm,fun e=>by rw [e]⟩
theorem a20 (c:Nat):inV (sg c) [.str "\\", .str "|", .str "/"]=spc c:=by
 unfold inV spc
 simp only [c8,List.any_nil]
 rw [K2 "\\" 92 c (by decide +kernel),K2 "|" 124 c (by decide +kernel),K2 "/" 47 c (by decide +kernel)]
 rw [cK]
 simp
theorem aj8 (c:Nat):inV (sg c) [.str "|", .str "/", .str "\\"]=spc c:=by
 unfold inV spc
 simp only [c8,List.any_nil]
 rw [K2 "\\" 92 c (by decide +kernel),K2 "|" 124 c (by decide +kernel),K2 "/" 47 c (by decide +kernel)]
 rw [cK]
 simp
 omega
theorem Jx {z:Str} {i:Nat} {x:V} (h:(Bx z)[i]? = some x):∃ c,x=sg c/\z.cps.toList.drop i=c::z.cps.toList.drop (i+1)/\i<z.length:=by
 unfold Bx at h
 rw [aI] at h
 obtain⟨c,hc,rfl⟩:=Option.map_eq_some_iff.mp h
 obtain⟨hi,e⟩:=List.getElem?_eq_some_iff.mp hc
 refine⟨c,rfl,?_,by rw [<- Bo];exact hi⟩
 rw [cC hi,e]
theorem NestAt.cell {Hb H H1:Hp} {l0 ra ca p:Addr} {rs:List Rw} {cs:Rw} {g:List Nat} {xs ys:List V} (h1:Same Hb H1) (h2:Same H1 H) (h3:H1 l0=none) (h4:H1 ra=none) (h5:H1 ca=none) (h6:AtL K H1 (rs.map Kk) xs) (h7:AtL K H1 (cs.map Jw) ys)
  (h8:H l0=some (.lst (xs++[.ref ra]))) (h9:H ra=some (.lst (ys++[.ref ca]))) (h10:H ca=some (.lst (g.map sg))) (n1:l0≠ra) (n2:l0≠ca) (n3:ra≠ca) (hp:H p=none):NestAt K Hb (upd (upd H p (.lst [])) ra (.lst (ys++[.ref ca]++[.ref p]))) l0 rs (cs++[g]) []:=by
 have q1:l0≠p:=Ak h8 hp
 have q2:ra≠p:=Ak h9 hp
 have q3:ca≠p:=Ak h10 hp
 have hp1:H1 p=none:=h2.free hp
 have S1:Same H1 (upd H1 ca (.lst (g.map sg))):=Same.upd h5
 refine⟨upd H1 ca (.lst (g.map sg)),ra,p,xs,ys++[.ref ca],h1.trans S1,fun b u e=>?_,by rw [Ae n2];exact h3,by rw [Ae n3];exact h4,by rw [Ae q3.symm];exact hp1,Bh S1 h6,?_,?_,Ad,?_,n1,q1,q2⟩
 ·by_cases hb:b=ca
  ·subst hb
   rw [Ad] at e
   rw [Ae n3.symm,Ae q3,h10]
   exact e
  ·rw [Ae hb] at e
   have hb1:b≠ra:=fun z=>by subst z;rw [h4] at e;cases e
   have hb2:b≠p:=fun z=>by subst z;rw [hp1] at e;cases e
   rw [Ae hb1,Ae hb2]
   exact h2 _ _ e
 ·rw [bx]
  exact Ck (Bh S1 h7) (Bc (Pp Ad) A7)
 ·rw [Ae n1,Ae q1];exact h8
 ·rw [Ae q2.symm,Ad];rfl
theorem NestAt.row {Hb H H1:Hp} {l0 ra ca p q:Addr} {rs:List Rw} {cs:Rw} {g:List Nat} {xs ys:List V} (h1:Same Hb H1) (h2:Same H1 H) (h3:H1 l0=none) (h4:H1 ra=none) (h5:H1 ca=none) (h6:AtL K H1 (rs.map Kk) xs) (h7:AtL K H1 (cs.map Jw) ys)
  (h8:H l0=some (.lst (xs++[.ref ra]))) (h9:H ra=some (.lst (ys++[.ref ca]))) (h10:H ca=some (.lst (g.map sg))) (n1:l0≠ra) (n2:l0≠ca) (n3:ra≠ca) (hp:H p=none) (hq:upd H p (.lst []) q=none) :
  NestAt K Hb (upd (upd (upd H p (.lst [])) q (.lst [.ref p])) l0 (.lst (xs++[.ref ra]++[.ref q]))) l0 (rs++[cs++[g]]) [] []:=by
 have qp:q≠p:=fun z=>by subst z;rw [Ad] at hq;cases hq
 rw [Ae qp] at hq
 have p1:l0≠p:=Ak h8 hp
 have p2:ra≠p:=Ak h9 hp
 have p3:ca≠p:=Ak h10 hp
 have q1:l0≠q:=Ak h8 hq
 have q2:ra≠q:=Ak h9 hq
 have q3:ca≠q:=Ak h10 hq
 have hp1:H1 p=none:=h2.free hp
 have hq1:H1 q=none:=h2.free hq
 have S1:Same H1 (upd H1 ca (.lst (g.map sg))):=Same.upd h5
 have e1:upd H1 ca (.lst (g.map sg)) ra=none:=by rw [Ae n3];exact h4
 have S2:Same (upd H1 ca (.lst (g.map sg))) (upd (upd H1 ca (.lst (g.map sg))) ra (.lst (ys++[.ref ca]))):=Same.upd e1
 have S12:=S1.trans S2
 refine⟨upd (upd H1 ca (.lst (g.map sg))) ra (.lst (ys++[.ref ca])),q,p,xs++[.ref ra],[],h1.trans S12,fun b u e=>?_,by rw [Ae n1,Ae n2];exact h3,by rw [Ae q2.symm,Ae q3.symm];exact hq1,by rw [Ae p2.symm,Ae p3.symm];exact hp1,?_,A7,Ad,?_,?_,q1,p1,qp⟩
 ·by_cases hb:b=ra
  ·subst hb
   rw [Ad] at e
   rw [Ae n1.symm,Ae q2,Ae p2,h9]
   exact e
  ·rw [Ae hb] at e
   by_cases hc:b=ca
   ·subst hc
    rw [Ad] at e
    rw [Ae n2.symm,Ae q3,Ae p3,h10]
    exact e
   ·rw [Ae hc] at e
    have b1:b≠l0:=fun z=>by subst z;rw [h3] at e;cases e
    have b2:b≠p:=fun z=>by subst z;rw [hp1] at e;cases e
    have b3:b≠q:=fun z=>by subst z;rw [hq1] at e;cases e
    rw [Ae b1,Ae b3,Ae b2]
    exact h2 _ _ e
 ·rw [bx]
  refine Ck (Bh S12 h6) (Bc ?_ A7)
  unfold Kk
  rw [bx]
  exact Hq (SqL.of Ad) (Ck (Bh S12 h7) (Bc (Pp (S2 _ _ Ad)) A7))
 ·rw [Ae q1.symm,Ad];rfl
 ·rw [Ae p1.symm,Ae qp.symm,Ad];rfl
theorem NestAt.push {Hb H H1:Hp} {l0 ra ca:Addr} {rs:List Rw} {cs:Rw} {g:List Nat} {xs ys:List V} {c:Nat} (h1:Same Hb H1) (h2:Same H1 H) (h3:H1 l0=none) (h4:H1 ra=none) (h5:H1 ca=none) (h6:AtL K H1 (rs.map Kk) xs) (h7:AtL K H1 (cs.map Jw) ys)
  (h8:H l0=some (.lst (xs++[.ref ra]))) (h9:H ra=some (.lst (ys++[.ref ca]))) (n1:l0≠ra) (n2:l0≠ca) (n3:ra≠ca):NestAt K Hb (upd H ca (.lst (g.map sg++[sg c]))) l0 rs cs (g++[c]):=
 ⟨H1,ra,ca,xs,ys,h1,h2.set h5,h3,h4,h5,h6,h7,by rw [Ae n2];exact h8,by rw [Ae n3];exact h9,by rw [Ad,bx];rfl,n1,n2,n3⟩
theorem sz {α:Type} {l:List α} {i n:Nat} (h:l.length<=i) (hi:i<n) (hn:n<=9000):l.length<sizeLine:=av (show l.length<9000 by omega) (by decide)
theorem ai7:("\\" : Str)=one 92:=by decide +kernel
theorem Ym:("|" : Str)=one 124:=by decide +kernel
theorem a09:("/" : Str)=one 47:=by decide +kernel
structure bg0 (K:aa) (z:Str) (Hb H:Hp) (l0:Addr) (i:Nat) (b:Bool) (rs:List Rw) (cs:Rw) (g:List Nat):Prop where
 nest:NestAt K Hb H l0 rs cs g
 eq:rd (z.cps.toList.drop i) b rs cs g=rd z.cps.toList false [] [] []
 l1:rs.length<=i
 l2:cs.length<=i
 l3:g.length<=i
theorem bl4 {f:Addr} {fd:aE} (Z:Aw K t) (F:FunD K "read_table" "read_table" R1 f fd .none) (T:Tab P w K mg base 1 (D6 K t) bl):FnOk P w K mg base CX0 2 f fd Xv (ae6 K t):=by
 refine F.okW0 bt2 bx8 T (bq6 K t) (fun vs H Q E h=>?_) (fun vs H Q E h=>?_)
 ·obtain⟨z,rfl,_⟩:=h;rfl
 ·obtain⟨z,rfl,hz,k⟩:=h
  refine⟨(show 0<=sizeLine by decide),fun ca hca=>⟨(show 1<=sizeLine by decide),fun ra hra=>⟨(show 1<=sizeLine by decide),fun l0 hl0=>?_⟩⟩⟩
  have N0:NestAt K H (upd (upd (upd H ca (.lst [])) ra (.lst [.ref ca])) l0 (.lst [.ref ra])) l0 [] [] []:=by
   have n3:ra≠ca:=fun z=>by subst z;rw [Ad] at hra;cases hra
   have n1:l0≠ra:=fun z=>by subst z;rw [Ad] at hl0;cases hl0
   rw [Ae n1] at hl0
   have n2:l0≠ca:=fun z=>by subst z;rw [Ad] at hl0;cases hl0
   rw [Ae n2] at hl0
   rw [Ae n3] at hra
   exact⟨H,ra,ca,[],[],Same.refl _,(((Same.upd hca).set hra).set hl0),hl0,hra,hca,A7,A7,Ad,by rw [Ae n1.symm,Ad];rfl,by rw [Ae n2.symm,Ae n3.symm,Ad];rfl,n1,n2,n3⟩
  generalize upd (upd (upd H ca (.lst [])) ra (.lst [.ref ca])) l0 (.lst [.ref ra])=H0 at N0 ⊢
  refine B1 (Ni z) (fun i σ H'=>∃ b rs cs g v,σ=[some (.str z),some (.ref l0),some (.bl b),v]/\bg0 K z H H' l0 i b rs cs g)
   ⟨false,[],[],[],_,rfl,N0,rfl,af _,af _,af _⟩ (fun _ _ _ _ _=>aY) ?_ ?_
  ·rintro i x σ H' hx ⟨b,rs,cs,g,v,rfl,N,eq,l1,l2,l3⟩
   obtain⟨c,rfl,ed,hi⟩:=Jx hx
   rw [ed] at eq
   have hz:z.length<=9000:=hz
   have push:∀ H2,NestAt K H H2 l0 rs cs g->rd (c::z.cps.toList.drop (i+1)) b rs cs g=rd (z.cps.toList.drop (i+1)) false rs cs (g++[c]) -> ∃ H1 ra ca xs ys,H2 l0=some (.lst (xs++[.ref ra]))/\H2 ra=some (.lst (ys++[.ref ca]))/\H2 ca=some (.lst (g.map sg))/\(g.map sg).length<sizeLine/\H1=upd H2 ca (.lst (g.map sg++[sg c]))/\bg0 K z H H1 l0 (i+1) false rs cs (g++[c]):=fun H2 N2 e2=>by
    obtain⟨H1,ra,ca,xs,ys,h1,h2,h3,h4,h5,h6,h7,h8,h9,h10,n1,n2,n3⟩:=N2
    refine⟨_,ra,ca,xs,ys,h8,h9,h10,by rw [al];exact sz l3 hi hz,rfl,NestAt.push h1 h2 h3 h4 h5 h6 h7 h8 h9 n1 n2 n3,?_,by omega,by omega,by rw [ax];exact dO l3⟩
    rw [<- eq,<- e2]
   cases b with
   | true=>
    rw [O5] at eq push
    refine⟨(show 3<=sizeLine by decide),fun p hp=>?_⟩
    refine .inl ⟨p,_,rfl,.inr (SqT.of Ad),rfl,rfl,?_⟩
    have S:=Same.upd (o:=.tup [.str "\\", .str "|", .str "/"]) hp
    have N':=N.up S
    generalize upd H' p (.tup [.str "\\", .str "|", .str "/"])=H2 at S N' ⊢
    show if (!inV (sg c) [.str "\\", .str "|", .str "/"])=true then _ else _
    rw [a20]
    refine A5 (c:=(!spc c)=true) (fun e=>?_) (fun e=>?_)
    ·have e':¬ (c=92\/c=124\/c=47):=by
      have:spc c=false:=by simpa using e
      exact of_decide_eq_false this
     rw [if_neg e'] at eq
     refine k _ _ N'.bs ?_
     unfold rdT
     rw [<- eq]
     rfl
    ·have e':c=92\/c=124\/c=47:=by
      have:spc c=true:=by simpa using e
      exact of_decide_eq_true this
     obtain⟨H1,ra,ca,xs,ys,g1,g2,g3,g4,rfl,R⟩:=push H2 N' (if_pos e')
     exact⟨_,_,.inl (SqL.of g1),By,_,_,.inl (SqL.of g2),By,.inl ⟨rfl,_,SqL.of g3⟩,ca,_,_,rfl,rfl,g3,g4,_,_,_,_,_,rfl,R⟩
   | false=>
    rw [G5] at eq push
    show if decide (one c = "\\")=true then _ else _
    rw [Cv _ 92 c ai7]
    refine A5 (c:=decide (c=92)=true) (fun e=>?_) (fun e=>?_)
    ·rw [if_pos (of_decide_eq_true e)] at eq
     exact⟨true,rs,cs,g,_,rfl,N,eq,by omega,by omega,by omega⟩
    ·have n92:¬ c=92:=fun z=>e (decide_eq_true z)
     rw [if_neg n92] at eq push
     show if decide (one c = "|")=true then _ else _
     rw [Cv _ 124 c Ym]
     refine A5 (c:=decide (c=124)=true) (fun e=>?_) (fun e=>?_)
     ·rw [if_pos (of_decide_eq_true e)] at eq
      obtain⟨H1,ra,ca,xs,ys,h1,h2,h3,h4,h5,h6,h7,h8,h9,h10,n1,n2,n3⟩:=N
      refine⟨_,_,.inl (SqL.of h8),By,.inl ⟨rfl,_,SqL.of h9⟩,(show 0<=sizeLine by decide),fun p hp=>?_⟩
      have hra:upd H' p (.lst []) ra=some (.lst (ys++[.ref ca])):=by rw [Ae (Ak h9 hp)];exact h9
      have yl:ys.length=cs.length:=by rw [h7.length,al]
      refine⟨ra,_,_,rfl,rfl,hra,?_,false,rs,cs++[g],[],_,rfl,NestAt.cell h1 h2 h3 h4 h5 h6 h7 h8 h9 h10 n1 n2 n3 hp,eq,by omega,?_,bJ _⟩
      ·rw [ax,yl];exact av (show cs.length+1<9002 by omega) (by decide)
      ·rw [ax];exact dO l2
     ·have n124:¬ c=124:=fun z=>e (decide_eq_true z)
      rw [if_neg n124] at eq push
      show if decide (one c = "/")=true then _ else _
      rw [Cv _ 47 c a09]
      refine A5 (c:=decide (c=47)=true) (fun e=>?_) (fun e=>?_)
      ·rw [if_pos (of_decide_eq_true e)] at eq
       obtain⟨H1,ra,ca,xs,ys,h1,h2,h3,h4,h5,h6,h7,h8,h9,h10,n1,n2,n3⟩:=N
       refine⟨.inl ⟨rfl,_,SqL.of h8⟩,(show 0<=sizeLine by decide),fun p hp=>⟨(show 1<=sizeLine by decide),fun q hq=>?_⟩⟩
       have hl:upd (upd H' p (.lst [])) q (.lst [.ref p]) l0=some (.lst (xs++[.ref ra])):=by
        have e0:upd H' p (.lst []) l0=some (.lst (xs++[.ref ra])):=by rw [Ae (Ak h8 hp)];exact h8
        rw [Ae (Ak e0 hq)];exact e0
       have xl:xs.length=rs.length:=by rw [h6.length,al]
       refine⟨l0,_,_,rfl,rfl,hl,?_,false,rs++[cs++[g]],[],[],_,rfl,NestAt.row h1 h2 h3 h4 h5 h6 h7 h8 h9 h10 n1 n2 n3 hp hq,eq,?_,bJ _,bJ _⟩
       ·rw [ax,xl];exact av (show rs.length+1<9002 by omega) (by decide)
       ·rw [ax];exact dO l1
      ·have n47:¬ c=47:=fun z=>e (decide_eq_true z)
       obtain⟨H1,ra,ca,xs,ys,g1,g2,g3,g4,rfl,R⟩:=push H' N (if_neg n47)
       exact⟨_,_,.inl (SqL.of g1),By,_,_,.inl (SqL.of g2),By,.inl ⟨rfl,_,SqL.of g3⟩,ca,_,_,rfl,rfl,g3,g4,_,_,_,_,_,rfl,R⟩
  ·rintro σ H' ⟨b,rs,cs,g,v,rfl,N,eq,_⟩
   have e0:(Bx z).length=z.cps.toList.length:=by unfold Bx;rw [al]
   rw [e0,je,Gr] at eq
   refine .inl ?_
   cases b with
   | true=>
    refine k _ _ N.bs ?_
    unfold rdT
    rw [<- eq]
    rfl
   | false=>
    rw [if_neg aj] at eq
    have few:=ad2 hz eq.symm
    have er:rdT z=some (Ds (rs++[cs++[g]])):=by unfold rdT;rw [<- eq];rfl
    rw [er] at k
    have Nb:=N.bs
    have ha:=N.tab
    generalize rs++[cs++[g]]=T at few ha k
    have ha:At K H' (.lst (T.map Kk)) (.ref l0):=ha
    unfold At at ha
    obtain⟨a,xs,e,q,gL⟩:=ha
    cases e
    have gl:=gL.length
    rw [al] at gl
    refine .inl ⟨⟨_,q⟩,?_⟩
    refine fun D hD=>Pu (K:=K) (ds:=T) (f:=fun r=>r.map ofC) (Co xs) (fun σ=>σ.length=1) hD (fun H1 S=>S.seqL q) ?_ gl rfl (fun σ x hσ=>by rw [b6];exact hσ) ?_ ?_
    ·rw [gl];exact bI few.1 (by decide)
    ·intro i x d σ H1 Q1 hx hd hσ S hk
     obtain⟨y,hy,hy2⟩:=Cu gL (i:=i) (d:=Kk d) (by rw [aI,hd];rfl)
     rw [hx] at hy
     cases hy
     obtain⟨f1,f2,f3⟩:=few.2 d (bd hd)
     match σ,hσ with
     | [_],_=>exact⟨x,d,rfl,E5 S hy2,f2,f3,fun H2 y S2 h2=>hk y H2 S2 h2⟩
    ·intro H1 ys S1 e1 g1
     refine⟨ys,.inl ⟨SqL.of e1,fun l hl=>?_⟩⟩
     refine k _ _ ((Nb.trans S1).trans (Same.upd hl)) ?_
     show At K _ (.tup ((T.map fun r=>r.map ofC).map Cd)) _
     rw [eR]
     exact F8 (SqT.of Ad) (Bh (Same.upd hl) g1)
theorem bj5 {f:Addr} {fd:aE} (Z:Aw K t) (F:FunD K "read_shown" "Table.read_shown" Rc f fd .none) (T:Tab P w K mg base 4 (Vc K t) bl):FnOk P w K mg base CX0 5 f fd W9 (av6 K t):=by
 refine F.okW0 br0 bv6 T (bo4 K t) (fun vs H Q E h=>?_) (fun vs H Q E h=>?_)
 ·obtain⟨s,dx,z,rfl,_⟩:=h;rfl
 ·obtain⟨s,dx,z,rfl,hs,hz,k⟩:=h
  refine⟨z,rfl,hz,fun H1 x S1 hx=>?_⟩
  have hs1:=S1 _ _ hs
  cases e:rdT z with
  | none=>
   rw [e] at hx
   cases (show x=V.non from hx)
   refine⟨s,dx,[],⟨t.c_zat,Y9 K t⟩,rfl,.tail _ (.tail _ (.head _)),hs1,rfl,⟨af 2,af 2⟩,.ref s,.non,some (.at_ .non),rfl,Sr (K:=K) (H:=H1) rfl,aY,fun H2 S2=>?_⟩
   refine k _ _ (S1.trans S2) ?_
   unfold E8
   rw [e]
   rfl
  | some c=>
   rw [e] at hx
   have hx:At K H1 (Bt c) x:=hx
   have st:st2 (Bt c):=by
    unfold rdT at e
    obtain⟨T,eT,rfl⟩:=Option.map_eq_some_iff.mp e
    exact a11 (ad2 hz eT)
   refine⟨s,dx,[],⟨t.c_zat,Y9 K t⟩,rfl,.tail _ (.tail _ (.head _)),hs1,rfl,⟨af 2,af 2⟩,.ref s,x,some (Bt c),rfl,hx,st,fun H2 S2=>?_⟩
   have er:E8 z=if E2 (Bt c)=true then some c else none:=by
    unfold E8
    rw [e]
    rfl
   refine A5 (c:=E2 (Bt c)=true) (fun e2=>?_) (fun e2=>?_)
   ·refine k _ _ (S1.trans S2) ?_
    rw [er,if_pos e2]
    exact E5 S2 hx
   ·refine k _ _ (S1.trans S2) ?_
    rw [er,if_neg e2]
    rfl
theorem Ez {H:Hp} {a dx C:Addr} (ha:H a=none) (hd:H dx=none):Same H (upd (upd H dx (.own a)) a (.ins C dx [])):=(Same.upd hd).set ha
theorem kw0:¬ (("para" : Str) = "chapter"):=by decide
theorem kw1:¬ (("table" : Str) = "chapter"):=by decide
theorem kw2:¬ (("table" : Str) = "para"):=by decide
theorem bk3 {f:Addr} {fd:aE} (Z:Aw K t) (F:FunD K "kind_of_word" "kind_of_word" Rm f fd .none) (T:Tab P w K mg base 1 (D6 K t) bl):FnOk P w K mg base CX0 2 f fd Xi (Pe K t):=by
 refine F.okW0 br9 bw5 T (bp3 K t) (fun vs H Q E h=>?_) (fun vs H Q E h=>?_)
 ·obtain⟨w,rfl,_⟩:=h;rfl
 ·obtain⟨w,rfl,k0,kn⟩:=h
  have k:C6 w -> ∀ H' a dx,Same H H'->H' a=some (.ins (Bm t w) dx [])->Q (.ref a) H':=k0
  refine⟨rfl,?_⟩
  refine⟨rfl,fun a1 d1 ha1 hd1 n1=>?_⟩
  have S1:=Ez (C:=t.c_zar) ha1 hd1
  have e1:upd (upd H d1 (.own a1)) a1 (.ins t.c_zar d1 []) a1=some (.ins t.c_zar d1 []):=Ad
  generalize upd (upd H d1 (.own a1)) a1 (.ins t.c_zar d1 [])=H1 at S1 e1 ⊢
  refine⟨rfl,fun a2 d2 ha2 hd2 n2=>?_⟩
  have S2:=Ez (C:=t.c_zau) ha2 hd2
  have e2:upd (upd H1 d2 (.own a2)) a2 (.ins t.c_zau d2 []) a2=some (.ins t.c_zau d2 []):=Ad
  generalize upd (upd H1 d2 (.own a2)) a2 (.ins t.c_zau d2 [])=H2 at S2 e2 ⊢
  refine⟨rfl,fun a3 d3 ha3 hd3 n3=>?_⟩
  have S3:=Ez (C:=t.c_zat) ha3 hd3
  have e3:upd (upd H2 d3 (.own a3)) a3 (.ins t.c_zat d3 []) a3=some (.ins t.c_zat d3 []):=Ad
  generalize upd (upd H2 d3 (.own a3)) a3 (.ins t.c_zat d3 [])=H3 at S3 e3 ⊢
  refine⟨(show 3<=sizeLine by decide),fun l hl=>.inl ⟨⟨_,SqL.of Ad⟩,?_⟩⟩
  have S4:=Same.upd (o:=.lst [.ref a1,.ref a2,.ref a3]) hl
  have e4:upd H3 l (.lst [.ref a1,.ref a2,.ref a3]) l=some (.lst [.ref a1,.ref a2,.ref a3]):=Ad
  generalize upd H3 l (.lst [.ref a1,.ref a2,.ref a3])=H4 at S4 e4 ⊢
  have f1:=S4 _ _ (S3 _ _ (S2 _ _ e1))
  have f2:=S4 _ _ (S3 _ _ e2)
  have f3:=S4 _ _ e3
  have S:=((S1.trans S2).trans S3).trans S4
  refine B1 (Co [.ref a1,.ref a2,.ref a3]) (fun i σ H'=>H'=H4/\(∃ v,σ=[some (.str w),v])/\(1<=i->w ≠ "chapter")/\(2<=i->w ≠ "para")/\(3<=i->w ≠ "table")) ⟨rfl,⟨_,rfl⟩,(fun h=>by omega),(fun h=>by omega),(fun h=>by omega)⟩ (fun i σ H' _ q=>q.1▸SqL.of e4) ?_ ?_
  ·rintro i x σ H' hx ⟨rfl,⟨v,rfl⟩,g1,g2,g3⟩
   match i,hx with
   | 0,hx=>
    cases hx
    refine⟨a1,d1,[],⟨t.c_zar,aj5 K t⟩,rfl,.head _,f1,rfl,⟨af 1,af 1⟩,_,rfl,?_⟩
    refine A5 (c:=decide (("chapter" : Str)=w)=true) (fun e=>?_) (fun e=>⟨rfl,⟨_,rfl⟩,fun _ z=>e (decide_eq_true z.symm),(fun h=>by omega),(fun h=>by omega)⟩)
    have e:=of_decide_eq_true e
    subst e
    refine k (.inl rfl) _ a1 d1 S ?_
    rw [f1]
    unfold Bm
    rw [if_pos rfl]
   | 1,hx=>
    cases hx
    refine⟨a2,d2,[],⟨t.c_zau,aj7 K t⟩,rfl,.tail _ (.head _),f2,rfl,⟨af 1,af 1⟩,_,rfl,?_⟩
    refine A5 (c:=decide (("para" : Str)=w)=true) (fun e=>?_) (fun e=>⟨rfl,⟨_,rfl⟩,fun _=>g1 (by omega),fun _ z=>e (decide_eq_true z.symm),(fun h=>by omega)⟩)
    have e:=of_decide_eq_true e
    subst e
    refine k (.inr (.inl rfl)) _ a2 d2 S ?_
    rw [f2]
    unfold Bm
    rw [if_neg kw0,if_pos rfl]
   | 2,hx=>
    cases hx
    refine⟨a3,d3,[],⟨t.c_zat,aj6 K t⟩,rfl,.tail _ (.tail _ (.head _)),f3,rfl,⟨af 1,af 1⟩,_,rfl,?_⟩
    refine A5 (c:=decide (("table" : Str)=w)=true) (fun e=>?_) (fun e=>⟨rfl,⟨_,rfl⟩,fun _=>g1 (by omega),fun _=>g2 (by omega),fun _ z=>e (decide_eq_true z.symm)⟩)
    have e:=of_decide_eq_true e
    subst e
    refine k (.inr (.inr rfl)) _ a3 d3 S ?_
    rw [f3]
    unfold Bm
    rw [if_neg kw1,if_neg kw2]
   | n+3,hx=>cases hx
  ·rintro σ H' ⟨rfl,_,g1,g2,g3⟩
   refine .inl (kn (fun hw=>?_) _ S)
   rcases hw with h|h|h
   ·exact g1 (show 1<=3 by decide) h
   ·exact g2 (show 2<=3 by decide) h
   ·exact g3 (show 3<=3 by decide) h
theorem Gu {n i:Nat} {x:V} (h:(Ra 0 n)[i]? = some x):i<n/\x=.int (i:Int):=by
 have hi:i<n:=by
  have:=(List.getElem?_eq_some_iff.mp h).1
  rw [Bs] at this
  exact this
 rw [Pa hi] at h
 have:=aK h
 rw [Int.zero_add] at this
 exact⟨hi,this.symm⟩
theorem by5 {c1 c2 c3:Bool} {A B:Prop} (a:A) (b:B):if c1=true then (if c2=true then (if c3=true then A else B) else (if false=true then A else B)) else (if false=true then A else B):=by
 cases c1 <;> cases c2 <;> cases c3 <;> first|exact Kf (Kf b)|exact Kf b|exact Kg (Kf (Kf b))|exact Kg (Kg (Kf b))|exact Kg (Kg (Kg a))
theorem atM {α:Type} {xs:List α} (c:Int) (m:Int) (hm:(xs.length:Int)=m) (h:0<m):∃ v,v∈xs/\atI xs (c % m)=some v:=by
 have h1:=dF c (show m≠0 by omega)
 have h2:=cM c h
 have hl:(c % m).toNat<xs.length:=by omega
 refine⟨xs[(c % m).toNat],dM hl,?_⟩
 unfold atI ixN
 have a1:¬ (c % m<0):=by omega
 have a2:c % m<(xs.length:Int):=by omega
 simp [a1,a2]
 rw [if_pos h1]
 exact ah hl
theorem Di (c:Int) {m:Nat} (h:0<m):∃ j:Nat,c % (m:Int)=(j:Int)/\j<m:=by
 have h1:=dF c (show (m:Int)≠0 by omega)
 have h2:=cM c (show (0:Int)<(m:Int) by omega)
 exact⟨(c % (m:Int)).toNat,by omega,by omega⟩
theorem a33 {f:Addr} {fd:aE} (Z:Aw K t) (F:FunD K "_law_cell" "_law_cell" Jp f fd .none) (T:Tab P w K mg base 0 (Bk K t) bl):FnOk P w K mg base CX0 1 f fd Nn (Dg K t):=by
 refine F.okW0 bc4 be9 T (ba9 K t) (fun vs H Q E h=>?_) (fun vs H Q E h=>?_)
 ·obtain⟨a,ns,k,rfl,_⟩:=h;rfl
 ·obtain⟨a,ns,k,rfl,hS,q⟩:=h
  refine .inl ⟨_,.inl hS,A5 (fun hlt=>?_) (fun _=>⟨.inr ⟨by decide,by decide⟩,q _⟩)⟩
  have hlt:(k:Int)<((ns.map V.int).length:Int):=of_decide_eq_true hlt
  have hk:k<ns.length:=by rw [al] at hlt;omega
  refine⟨_,.int ns[k],.inl hS,?_,q _⟩
  exact Fe (by rw [aI,ah hk];rfl)
theorem bl3 {f:Addr} {fd:aE} (Z:Aw K t) (F:FunD K "_law_stream" "_law_stream" Rz f fd .none) (T:Tab P w K mg base 0 (Bk K t) bl):FnOk P w K mg base CX0 1 f fd Xu (Pg K t):=by
 refine F.okW0 bt1 bx7 T (bq5 K t) (fun vs H Q E h=>?_) (fun vs H Q E h=>?_)
 ·obtain⟨c,n,rfl,_⟩:=h;rfl
 ·obtain⟨c,n,rfl,hn,k⟩:=h
  refine⟨by decide,fun l hl=>⟨⟨by decide,by decide⟩,by decide,⟨by omega,by omega⟩,?_⟩⟩
  rw [bt]
  have m1:=dF c (show (2147483629:Int)≠0 by decide)
  have m2:=cM c (show (0:Int)<2147483629 by decide)
  refine B1 (Dv 0 n) (fun i σ H'=>(∃ left num v,σ=[some (.int c),some (.int n),some (.ref l),some (.int left),some (.int num),v]/\0<=num/\num<4294967296)/\Same H H' /\ ∃ ns:List Int,ns.length=i/\H' l=some (.lst (ns.map V.int)) /\ ∀ z∈ns,0<=z/\z<2147483648)
   ⟨⟨_,_,_,rfl,by omega,by omega⟩,Same.upd hl,[],rfl,Ad,(fun z hz=>by cases hz)⟩ (fun _ _ _ _ _=>aY) ?_ ?_
  ·rintro i x σ H' hx ⟨⟨left,num,v,rfl,u1,u2⟩,S,ns,e1,e2,e3⟩
   obtain⟨hi,rfl⟩:=Gu hx
   refine⟨.inr ⟨by decide,by decide⟩,.inl ⟨by decide,by decide⟩,by decide,by decide,?_⟩
   have w1:=dF (num * 48271+7919 * (i:Int)+1) (show (2147483647:Int)≠0 by decide)
   have w2:=cM (num * 48271+7919 * (i:Int)+1) (show (0:Int)<2147483647 by decide)
   generalize (num * 48271+7919 * (i:Int)+1) % 2147483647=nu at w1 w2 ⊢
   have put:∀ y:Int,0<=y->y<2147483648->Same H (upd H' l (.lst (ns.map V.int++[.int y]))) /\ ∃ ns2:List Int,ns2.length=i+1/\upd H' l (.lst (ns.map V.int++[.int y])) l=some (.lst (ns2.map V.int)) /\ ∀ z∈ns2,0<=z/\z<2147483648:=fun y y1 y2=>
    ⟨S.set hl,ns++[y],by rw [ax,e1];rfl,by rw [Ad,bx];rfl,fun z hz=>by
     rcases List.mem_append.mp hz with h|h
     ·exact e3 z h
     ·have:z=y:=by simpa using h
      subst this;exact⟨y1,y2⟩⟩
   have hsz:(ns.map V.int).length<sizeLine:=by rw [al,e1];exact av (show i<100 by omega) (by decide)
   refine by5 ?_ ?_
   ·have y1:=dF left (show (268435456:Int)≠0 by decide)
    have y2:=cM left (show (0:Int)<268435456 by decide)
    exact⟨.inl ⟨rfl,_,SqL.of e2⟩,by decide,l,_,_,rfl,rfl,e2,hsz,⟨by decide,by decide⟩,⟨_,_,_,rfl,by omega,by omega⟩,put _ y1 (by omega)⟩
   ·have y1:=dF (nu * nu % 2147483629 * 16807+(i:Int)) (show (2147483587:Int)≠0 by decide)
    have y2:=cM (nu * nu % 2147483629 * 16807+(i:Int)) (show (0:Int)<2147483587 by decide)
    exact⟨.inl ⟨rfl,_,SqL.of e2⟩,.inl ⟨by omega,by omega⟩,by decide,.inr ⟨by decide,by decide⟩,by decide,⟨by decide,by decide⟩,l,_,_,rfl,rfl,e2,hsz,⟨_,_,_,rfl,by omega,by omega⟩,put _ (by omega) (by omega)⟩
  ·rintro σ H' ⟨⟨left,num,v,rfl,_⟩,S,ns,e1,e2,e3⟩
   rw [Bs] at e1
   exact .inl (k _ l ns S hl e2 e1 e3)
theorem in4 {a b c d:Nat} {v:V} (ha:a<=60) (hb:b<=60) (hc:c<=60) (hd:d<=60) (h:v∈[V.int a,.int b,.int c,.int d]):∃ m:Nat,v=.int (m:Int)/\m<=60:=by
 simp only [aC,bT,or_false] at h
 rcases h with rfl|rfl|rfl|rfl
 ·exact⟨a,rfl,ha⟩
 ·exact⟨b,rfl,hb⟩
 ·exact⟨c,rfl,hc⟩
 ·exact⟨d,rfl,hd⟩
noncomputable def signsS:Str:=ba " !#$&'()*+,-./0123456789:;<=>?@ABCDEFGHIJKLMNOPQRSTUVWXYZ[\\]^_`abcdefghijklmnopqrstuvwxyz{|}~" ++ ba "\""
theorem Em:signsS.cps.toList.length=94/\signsS.cps.toList.all B5=true:=by decide +kernel
theorem Td:(ba "|/\\a ").cps.toList.length=5/\(ba "|/\\a ").cps.toList.all B5=true:=by decide +kernel
theorem Da (a b:Str):(a++b).length=a.length+b.length:=PySem.strLen_append a b
theorem Sk {z:Str} {c:Nat} (h:z.cps.toList.all B5=true) (hc:B5 c=true):(z++⟨#[c]⟩).cps.toList.all B5=true:=by
 rw [Bu,List.all_append,h]
 simpa using hc
theorem a36 {f:Addr} {fd:aE} (Z:Aw K t) (F:FunD K "_law_text" "_law_text" Js f fd .none) (T:Tab P w K mg base 1 (D6 K t) bl):FnOk P w K mg base CX0 2 f fd Nq (Gx K t):=by
 refine F.okW0 bc7 bf2 T (bb2 K t) (fun vs H Q E h=>?_) (fun vs H Q E h=>?_)
 ·obtain⟨c,rfl,_⟩:=h;rfl
 ·obtain⟨c,rfl,k⟩:=h
  refine⟨by decide +kernel,c,4,rfl,by decide,fun H1 l ns S1 hl el en eb=>?_⟩
  match ns,en with
  | [n0,n1,n2,n3],_=>
   have q:SqL K H1 l [.int n0,.int n1,.int n2,.int n3]:=SqL.of el
   refine⟨_,_,.inl q,rfl,by decide,_,_,.inl q,rfl,by decide,_,_,.inl q,rfl,by decide,(show 4<=sizeLine by decide),fun p hp=>?_⟩
   have q1:=(Same.upd (o:=.lst [.int 0,.int (n1 % 4),.int (n1 % 12),.int (n1 % 61)]) hp).seqL q
   have S2:=S1.trans (Same.upd (o:=.lst [.int 0,.int (n1 % 4),.int (n1 % 12),.int (n1 % 61)]) hp)
   have ep:upd H1 p (.lst [.int 0,.int (n1 % 4),.int (n1 % 12),.int (n1 % 61)]) p=some (.lst [.int 0,.int (n1 % 4),.int (n1 % 12),.int (n1 % 61)]):=Ad
   generalize upd H1 p (.lst [.int 0,.int (n1 % 4),.int (n1 % 12),.int (n1 % 61)])=H2 at q1 S2 ep ⊢
   refine⟨_,_,.inl q1,rfl,by decide,?_⟩
   obtain⟨v,hv,ev⟩:=atM (xs:=[V.int 0,.int (n1 % 4),.int (n1 % 12),.int (n1 % 61)]) n0 4 rfl (by decide)
   obtain⟨j1,e1,g1⟩:=Di n1 (m:=4) (by decide)
   obtain⟨j2,e2,g2⟩:=Di n1 (m:=12) (by decide)
   obtain⟨j3,e3,g3⟩:=Di n1 (m:=61) (by decide)
   have hv2:v∈[V.int ((0:Nat):Int),.int j1,.int j2,.int j3]:=by
    rw [<- e1,<- e2,<- e3]
    exact hv
   obtain⟨m,rfl,hm⟩:=in4 (by omega) (by omega) (by omega) (by omega) hv2
   refine⟨_,_,.inl (SqL.of ep),ev,?_⟩
   refine⟨c+1,m,rfl,by omega,fun H3 l2 ns2 S3 hl2 el2 en2 _=>.inl ⟨⟨_,SqL.of el2⟩,?_⟩⟩
   have q3:=S3.seqL q1
   have S4:=S2.trans S3
   refine B1 (Co (ns2.map V.int)) (fun i σ H'=>H'=H3 /\ ∃ z v,σ=[some (.int c),some (.str signsS),some (.ref l),some (.int m),some (.str z),v]/\z.length=i/\z.cps.toList.all B5=true)
    ⟨rfl,_,_,rfl,by decide +kernel,by decide +kernel⟩ (fun i σ H' _ h=>h.1▸SqL.of el2) ?_ ?_
   ·rintro i x σ H' hx ⟨rfl,z,v,rfl,lz,az⟩
    have hi:i<m:=by
     have:=(List.getElem?_eq_some_iff.mp hx).1
     rw [al,en2] at this
     exact this
    rw [aI] at hx
    obtain⟨y,_,rfl⟩:=Option.map_eq_some_iff.mp hx
    have big:1000<=sizeLine:=by decide
    refine⟨_,_,.inl q3,rfl,by decide,?_⟩
    refine A5 (fun _=>?_) (fun _=>?_)
    ·obtain⟨ch,hc,ec⟩:=atM (xs:=(ba "|/\\a ").cps.toList) y 5 (by rw [Td.1];rfl) (by decide)
     refine⟨by decide,by decide +kernel,ch,ec,?_,rfl,_,_,rfl,?_,Sk az (List.all_eq_true.mp Td.2 ch hc)⟩
     ·show z.length+1<=sizeLine;omega
     ·rw [Da,lz];rfl
    ·obtain⟨ch,hc,ec⟩:=atM (xs:=signsS.cps.toList) y 94 (by rw [Em.1];rfl) (by decide)
     refine⟨by decide,?_,ch,ec,?_,rfl,_,_,rfl,?_,Sk az (List.all_eq_true.mp Em.2 ch hc)⟩
     ·have:=Em.1;rw [Bo] at this;omega
     ·show z.length+1<=sizeLine;omega
     ·rw [Da,lz];rfl
   ·rintro σ H' ⟨rfl,z,v,rfl,lz,az⟩
    rw [al,en2] at lz
    exact .inl (k z _ S4 ⟨by omega,az⟩)
theorem in3 {a b c:Int} {v:V} (ha:1<=a/\a<=6) (hb:1<=b/\b<=6) (hc:1<=c/\c<=6) (h:v∈[V.int a,.int b,.int c]):∃ m:Nat,v=.int (m:Int)/\1<=m/\m<=6:=by
 have go:∀ d:Int,1<=d/\d<=6 -> ∃ m:Nat,V.int d=.int (m:Int)/\1<=m/\m<=6:=fun d hd=>⟨d.toNat,by rw [gP (by omega)],by omega,by omega⟩
 simp only [aC,bT,or_false] at h
 rcases h with rfl|rfl|rfl
 ·exact go _ ha
 ·exact go _ hb
 ·exact go _ hc
noncomputable def RowsAt (K:aa) (H':Hp) (lr n i:Nat):Prop:=∃ (ys:List V) (rs:Tb),H' lr=some (.lst ys)/\ys.length=i/\rs.length=i/\(∀ r∈rs,wfR n r)/\AtL K H' (rs.map Cd) ys
theorem RowsAt.same {H H':Hp} {lr n i:Nat} (h:RowsAt K H lr n i) (S:Same H H'):RowsAt K H' lr n i:=by
 obtain⟨ys,rs,h1,h2,h3,h4,h5⟩:=h
 exact⟨ys,rs,S _ _ h1,h2,h3,h4,Bh S h5⟩
theorem RowsAt.row {H:Hp} {lr n i r:Nat} {row:List Str} {ys:List V} (h:RowsAt K H lr n i) (e:H lr=some (.lst ys)) (hr:H r=some (.tup (row.map V.str))) (hw:wfR n row):RowsAt K (upd H lr (.lst (ys++[.ref r]))) lr n (i+1):=by
 obtain⟨ys',rs,h1,h2,h3,h4,h5⟩:=h
 rw [h1] at e
 cases e
 refine⟨_,rs++[row],Ad,by rw [ax,h2];rfl,by rw [ax,h3];rfl,fun r' hr'=>?_,?_⟩
 ·rcases List.mem_append.mp hr' with q|q
  ·exact h4 r' q
  ·have:r'=row:=by simpa using q
   subst this;exact hw
 ·rw [bx]
  exact Ck (Jl (TKeep.lst h1) h5) (Bc (Ff (TKeep.lst h1 _ _ (SqT.of hr))) A7)
theorem RowsAt.done {H H0:Hp} {lr n i:Nat} (h:RowsAt K H lr n i) (i1:1<=i) (i6:i<=6) (n1:1<=n) (n6:n<=6) {Q:VK} (S:Same H0 H) (k:∀ c H' x,Same H0 H'->wfT c->At K H' (Bt c) x->Q x H') :
  ∃ ys,(SqL K H lr ys /\ ∀ l,H l=none->Q (.ref l) (upd H l (.tup ys)))\/(SqT K H lr ys/\Q (.ref lr) H):=by
 obtain⟨ys,rs,h1,h2,h3,h4,h5⟩:=h
 refine⟨ys,.inl ⟨SqL.of h1,fun l hl=>?_⟩⟩
 exact k rs _ _ (S.trans (Same.upd hl)) ⟨by omega,by omega,n,n1,n6,h4⟩ (F8 (SqT.of Ad) (Bh (Same.upd hl) h5))
theorem a31 {f:Addr} {fd:aE} (Z:Aw K t) (F:FunD K "_law_table" "_law_table" Jn f fd .none) (T:Tab P w K mg base 2 (G7 K t) bl):FnOk P w K mg base CX0 3 f fd Nl (Jz K t):=by
 refine F.okW0 bc2 be7 T (ba7 K t) (fun vs H Q E h=>?_) (fun vs H Q E h=>?_)
 ·obtain⟨c,rfl,_⟩:=h;rfl
 ·obtain⟨c,rfl,k⟩:=h
  refine⟨c,3,rfl,by decide,fun H1 l ns S1 hl el en eb=>?_⟩
  match ns,en,eb with
  | [n0,n1,n2],_,eb=>
   have q:SqL K H1 l [.int n0,.int n1,.int n2]:=SqL.of el
   have pick:∀ y:Int,∃ m:Nat,atI [V.int (1+y / 3 % 3),.int (1+y / 3 % 6),.int 6] (y % 3)=some (.int (m:Int))/\1<=m/\m<=6:=fun y=>by
    obtain⟨v,hv,ev⟩:=atM (xs:=[V.int (1+y / 3 % 3),.int (1+y / 3 % 6),.int 6]) y 3 rfl (by decide)
    obtain⟨m,rfl,hm⟩:=in3 (by omega) (by omega) (by decide) hv
    exact⟨m,ev,hm⟩
   obtain⟨m,em,m1,m6⟩:=pick n0
   obtain⟨n,en',n1',n6⟩:=pick n1
   refine⟨_,_,.inl q,rfl,⟨by decide,by decide⟩,by decide,_,_,.inl q,rfl,⟨by decide,by decide⟩,by decide,(show 3<=sizeLine by decide),fun p hp=>?_⟩
   have Sp:=Same.upd (o:=.lst [.int (1+n0 / 3 % 3),.int (1+n0 / 3 % 6),.int 6]) hp
   have ep:upd H1 p (.lst [.int (1+n0 / 3 % 3),.int (1+n0 / 3 % 6),.int 6]) p=some (.lst [.int (1+n0 / 3 % 3),.int (1+n0 / 3 % 6),.int 6]):=Ad
   generalize upd H1 p (.lst [.int (1+n0 / 3 % 3),.int (1+n0 / 3 % 6),.int 6])=H2 at Sp ep ⊢
   have q2:=Sp.seqL q
   refine⟨_,_,.inl q2,rfl,by decide,_,_,.inl (SqL.of ep),em,?_⟩
   refine⟨_,_,.inl q2,rfl,⟨by decide,by decide⟩,by decide,_,_,.inl q2,rfl,⟨by decide,by decide⟩,by decide,(show 3<=sizeLine by decide),fun p2 hp2=>?_⟩
   have Sp2:=Same.upd (o:=.lst [.int (1+n1 / 3 % 3),.int (1+n1 / 3 % 6),.int 6]) hp2
   have ep2:upd H2 p2 (.lst [.int (1+n1 / 3 % 3),.int (1+n1 / 3 % 6),.int 6]) p2=some (.lst [.int (1+n1 / 3 % 3),.int (1+n1 / 3 % 6),.int 6]):=Ad
   generalize upd H2 p2 (.lst [.int (1+n1 / 3 % 3),.int (1+n1 / 3 % 6),.int 6])=H3 at Sp2 ep2 ⊢
   have q3:=Sp2.seqL q2
   refine⟨_,_,.inl q3,rfl,by decide,_,_,.inl (SqL.of ep2),en',?_⟩
   have S3:=(S1.trans Sp).trans Sp2
   refine⟨by decide,fun lr hlr=>⟨⟨by omega,by omega⟩,?_⟩⟩
   rw [bt]
   have hlr0:H lr=none:=S3.free hlr
   refine B1 (Dv 0 m) (fun i σ H'=>(∃ v,σ=[some (.int c),some (.ref l),some (.int m),some (.int n),some (.ref lr),v])/\Same H H'/\RowsAt K H' lr n i)
    ⟨⟨_,rfl⟩,S3.trans (Same.upd hlr),[],[],Ad,rfl,rfl,(fun r hr=>by cases hr),A7⟩ (fun _ _ _ _ _=>aY) ?_ ?_
   ·rintro i x σ H4 hx ⟨⟨v,rfl⟩,S4,R4⟩
    obtain⟨hi,rfl⟩:=Gu hx
    have hys:∃ ys,H4 lr=some (.lst ys)/\ys.length=i:=by obtain⟨ys,_,h1,h2,_⟩:=R4;exact⟨ys,h1,h2⟩
    obtain⟨ys,ey,ly⟩:=hys
    refine⟨.inl ⟨rfl,_,SqL.of ey⟩,⟨by omega,by omega⟩,fun D hD=>?_⟩
    rw [bt]
    refine X5 (Dv 0 n) (fun j σ' H'=>(∃ v,σ'=[v,some (.int c),some (.int (i:Int))])/\Same H4 H' /\ ∃ zs:List Str,zs.length=j/\(∀ z∈zs,wfS z)/\H' D=some (.lst (zs.map V.str)))
     ⟨⟨_,rfl⟩,Same.upd hD,[],rfl,(fun z hz=>by cases hz),Ad⟩ (fun _ _ _ _ _=>aY) ?_ ?_
    ·rintro j xj σ' H5 hxj ⟨⟨v,rfl⟩,S5,zs,e1,e2,e3⟩
     obtain⟨hj,rfl⟩:=Gu hxj
     refine⟨.inl ⟨by decide,by decide⟩,.inl ⟨by decide,by decide⟩,_,rfl,fun z H6 S6 hz=>?_⟩
     refine⟨_,S6 _ _ e3,?_,⟨_,rfl⟩,(S5.trans S6).set hD,zs++[z],by rw [ax,e1];rfl,fun z' hz'=>?_,by rw [Ad,bx];rfl⟩
     ·rw [al,e1];exact av (show j<6 by omega) (by decide)
     ·rcases List.mem_append.mp hz' with q|q
      ·exact e2 z' q
      ·have:z'=z:=by simpa using q
       subst this;exact hz
    ·rintro σ' H5 ⟨_,S5,zs,e1,e2,e3⟩
     rw [Bs] at e1
     refine⟨_,.inl ⟨SqL.of e3,fun rt hrt=>?_⟩⟩
     have S6:=S5.trans (Same.upd (o:=.tup (zs.map V.str)) hrt)
     have er:upd H5 rt (.tup (zs.map V.str)) rt=some (.tup (zs.map V.str)):=Ad
     generalize upd H5 rt (.tup (zs.map V.str))=H6 at S6 er ⊢
     exact⟨lr,_,_,rfl,rfl,S6 _ _ ey,by rw [ly];exact av (show i<6 by omega) (by decide),⟨_,rfl⟩,(S4.trans S6).set hlr0,(R4.same S6).row (S6 _ _ ey) er ⟨e1,e2⟩⟩
   ·rintro σ H4 ⟨⟨v,rfl⟩,S4,R4⟩
    rw [Bs] at R4
    exact .inl (R4.done m1 m6 n1' n6 S4 k)
theorem a34 {f:Addr} {fd:aE} (Z:Aw K t) (F:FunD K "_law_next" "_law_next" Jq f fd .none) (T:Tab P w K mg base 0 (Bk K t) bl):FnOk P w K mg base CX0 1 f fd No (Na K t):=by
 refine F.okW0 bc5 bf0 T (bb0 K t) (fun vs H Q E h=>?_) (fun vs H Q E h=>?_)
 ·obtain⟨a,x,y,n,rfl,_⟩:=h;rfl
 ·obtain⟨a,x,y,n,rfl,ha,n1,n2,y1,y2,k⟩:=h
  refine⟨_,_,.inl (SqL.of ha),rfl,.inr ⟨by decide,by decide⟩,by decide,.inl ⟨_,1,ha,rfl,?_⟩⟩
  have w1:=dF (y * 48271+1) (show (2147483647:Int)≠0 by decide)
  have w2:=cM (y * 48271+1) (show (0:Int)<2147483647 by decide)
  show Ai _ _ _ _ (upd H a (.lst [.int x,.int ((y * 48271+1) % 2147483647)]))
  generalize (y * 48271+1) % 2147483647=nu at w1 w2 ⊢
  have e1:upd H a (.lst [.int x,.int nu]) a=some (.lst [.int x,.int nu]):=Ad
  have kk:=k
  have q1:SqL K (upd H a (.lst [.int x,.int nu])) a [.int x,.int nu]:=SqL.of e1
  have hn:0<(n:Int):=by omega
  have fin:∀ y:Int,∃ d:Nat,y % (n:Int)=(d:Int)/\d<n:=fun y=>Di y n1
  have small:Q (.int (nu * nu % 2147483629 / 8 % (n:Int))) (upd H a (.lst [.int x,.int nu])):=by
   obtain⟨d,ed,hd⟩:=fin (nu * nu % 2147483629 / 8)
   rw [ed]
   exact k d x nu hd w1 (by omega)
  refine⟨_,_,.inl q1,rfl,?_⟩
  refine A5 (c:=decide (x=0)=true) (fun e=>?_) (fun e=>?_)
  ·exact⟨_,_,.inl q1,rfl,_,_,.inl q1,rfl,.inl ⟨by omega,by omega⟩,by decide,⟨by decide,by decide⟩,hn,small⟩
  ·refine⟨_,_,.inl q1,rfl,?_⟩
   refine A5 (c:=decide (x = -1)=true) (fun e=>?_) (fun e=>?_)
   ·exact⟨_,_,.inl q1,rfl,_,_,.inl q1,rfl,.inl ⟨by omega,by omega⟩,by decide,⟨by decide,by decide⟩,hn,small⟩
   ·refine⟨_,_,.inl q1,rfl,hn,_,_,.inl q1,rfl,⟨hn,by omega⟩,.inl ⟨_,0,e1,rfl,?_⟩⟩
    rw [Ug]
    obtain⟨d,ed,hd⟩:=fin x
    rw [ed]
    exact k d (x / (n:Int)) nu hd w1 (by omega)
theorem bl1 {f:Addr} {fd:aE} (Z:Aw K t) (F:FunD K "_law_digits" "_law_digits" Rx f fd .none) (T:Tab P w K mg base 1 (D6 K t) bl):FnOk P w K mg base CX0 2 f fd Xs (Pf K t):=by
 refine F.okW0 bs9 bx5 T (bq3 K t) (fun vs H Q E h=>?_) (fun vs H Q E h=>?_)
 ·obtain⟨c,n,rfl,_⟩:=h;rfl
 ·obtain⟨c,n,rfl,hn,k⟩:=h
  have m1:=dF c (show (2147483629:Int)≠0 by decide)
  have m2:=cM c (show (0:Int)<2147483629 by decide)
  refine⟨by decide,(show 2<=sizeLine by decide),fun a ha=>?_⟩
  show Ai _ _ _ _ (upd H a (.lst [.int c,.int (c % 2147483629+17)]))
  have y1:0<=c % 2147483629+17:=by omega
  have y2:c % 2147483629+17<4294967296:=by omega
  generalize c % 2147483629+17=y at y1 y2 ⊢
  refine⟨by decide +kernel,(show 0<=sizeLine by decide),fun l hl=>⟨⟨by omega,by omega⟩,?_⟩⟩
  rw [bt]
  have nl:l≠a:=fun z=>by subst z;rw [Ad] at hl;cases hl
  rw [Ae nl] at hl
  refine B1 (Dv 0 n) (fun i σ H'=>(∃ v5 v6 v7,σ=[some (.int c),some (.int n),some (.ref a),some (.str signsS),some (.ref l),v5,v6,v7])/\Same H H'/\(∃ x y:Int,H' a=some (.lst [.int x,.int y])/\0<=y/\y<4294967296) /\ ∃ zs:List Str,zs.length=i/\H' l=some (.lst (zs.map V.str)) /\ ∀ z∈zs,wfS z)
   ⟨⟨_,_,_,rfl⟩,(Same.upd ha).set hl,⟨c,y,by rw [Ae nl.symm,Ad],y1,y2⟩,[],rfl,Ad,(fun z hz=>by cases hz)⟩ (fun _ _ _ _ _=>aY) ?_ ?_
  ·rintro i x σ H' hx ⟨⟨v5,v6,v7,rfl⟩,S,⟨x1,y3,ea,y4,y5⟩,zs,e1,e2,e3⟩
   obtain⟨hi,rfl⟩:=Gu hx
   refine⟨a,x1,y3,61,rfl,ea,by decide,by decide,y4,y5,fun d x' y' hd h1 h2=>⟨⟨by omega,by omega⟩,?_⟩⟩
   rw [bt]
   refine B1 (Dv 0 d) (fun j σ H'=>(∃ v7 z,σ=[some (.int c),some (.int n),some (.ref a),some (.str signsS),some (.ref l),some (.int i),some (.str z),v7]/\z.length=j/\z.cps.toList.all B5=true)/\Same H H'/\(∃ x y:Int,H' a=some (.lst [.int x,.int y])/\0<=y/\y<4294967296)/\H' l=some (.lst (zs.map V.str)))
    ⟨⟨_,_,rfl,by decide +kernel,by decide +kernel⟩,S.set ha,⟨x',y',Ad,h1,h2⟩,by rw [Ae nl];exact e2⟩ (fun _ _ _ _ _=>aY) ?_ ?_
   ·rintro j x σ H2 hx ⟨⟨v7,z,rfl,lz,az⟩,S2,⟨x2,y6,ea2,y7,y8⟩,e4⟩
    obtain⟨hj,rfl⟩:=Gu hx
    refine⟨a,x2,y6,94,rfl,ea2,by decide,by decide,y7,y8,fun d2 x3 y9 hd2 h3 h4=>?_⟩
    have sl:signsS.cps.toList.length=94:=Em.1
    have hg:d2<signsS.cps.toList.length:=by rw [sl];exact hd2
    have ix:atI signsS.cps.toList (d2:Int)=some signsS.cps.toList[d2]:=by
     unfold atI ixN
     rw [if_pos (by omega),if_pos (by omega),bt,dP]
     exact ah hg
    have big:1000<=sizeLine:=by decide
    refine⟨by rw [<- Bo,sl];decide,_,ix,?_,⟨_,_,rfl,?_,Sk az (List.all_eq_true.mp Em.2 _ (dM hg))⟩,S2.set ha,⟨x3,y9,Ad,h3,h4⟩,by rw [Ae nl];exact e4⟩
    ·show z.length+1<=sizeLine;omega
    ·rw [Da,lz];rfl
   ·rintro σ H2 ⟨⟨v7,z,rfl,lz,az⟩,S2,st,e4⟩
    rw [Bs] at lz
    refine .inl ⟨.inl ⟨rfl,_,SqL.of e4⟩,l,_,_,rfl,rfl,e4,?_,⟨_,_,_,rfl⟩,S2.set hl,?_,zs++[z],by rw [ax,e1];rfl,by rw [Ad,bx];rfl,fun z' hz'=>?_⟩
    ·rw [al,e1];exact av (show i<36 by omega) (by decide)
    ·obtain⟨x2,y6,ea2,y7,y8⟩:=st
     exact⟨x2,y6,by rw [Ae nl.symm];exact ea2,y7,y8⟩
    ·rcases List.mem_append.mp hz' with q|q
     ·exact e3 z' q
     ·have:z'=z:=by simpa using q
      subst this
      exact⟨by omega,az⟩
  ·rintro σ H' ⟨⟨v5,v6,v7,rfl⟩,S,st,zs,e1,e2,e3⟩
   rw [Bs] at e1
   exact .inl (k H' l zs S e2 e1 e3)
theorem X9 (zs:List Str) (i n:Nat) (h:i+n<=zs.length):Ka (zs.map V.str) (some (i:Int)) (some ((i:Int)+(n:Int)))=((zs.drop i).take n).map V.str:=by
 have e:((i:Int)+(n:Int))=((i+n:Nat):Int):=by omega
 rw [e]
 unfold Ka
 rw [HT.sIx_nat,HT.sIx_nat,al,Nat.min_eq_left h,Nat.min_eq_left (show i<=zs.length by omega),List.map_take,List.map_drop,Nat.add_sub_cancel_left]
theorem bk7 {f:Addr} {fd:aE} (Z:Aw K t) (F:FunD K "_law_content" "_law_content" Rq f fd .none) (T:Tab P w K mg base 3 (Vb K t) bl):FnOk P w K mg base CX0 4 f fd Xm (ae4 K t):=by
 refine F.okW0 bs3 bw9 T (bp7 K t) (fun vs H Q E h=>?_) (fun vs H Q E h=>?_)
 ·obtain⟨w,c,rfl,_⟩:=h;rfl
 ·obtain⟨w,c,rfl,k⟩:=h
  have kT:w = "table" -> ∀ tb H' x,Same H H'->wfT tb->At K H' (Bt tb) x->Q x H':=fun e tb H' x S hw hx=>k (.tab tb) H' x S hw (by unfold Cq;rw [decide_eq_true e];rfl) hx
  have kS:¬ w = "table" -> ∀ z H',Same H H'->wfS z->Q (.str z) H':=fun e z H' S hw=>k (.txt z) H' _ S hw (by unfold Cq;rw [decide_eq_false e];rfl) rfl
  clear k
  have rest:¬ (decide (c % 2=1)=true/\decide (w = "table")=true)->Ai (dIf (Ar (Af (A6 K false) (Af Ax (Ac 1) (dC (.int 2))) (dC (.int 1)))) (Ai (An (Af (A2 K) (dFn (spE (Pf K t) []) (Aa (Af Be (Ac 1) (dC (.int 2))) (Aa (dC (.int 1)) Ag))) (dC (.int 0)))) Ah) Ah) (Ai (dIf (Ar (Af (A6 K false) (Ac 0) (dC (.str "table")))) (Ai (An (dFn (spE (Jz K t) []) (Aa (Af Be (Ac 1) (dC (.int 2))) Ag))) Ah) Ah) (Ai (An (dFn (spE (Gx K t) []) (Aa (Af Be (Ac 1) (dC (.int 2))) Ag))) Ah)) (Yk Q fun _ _=>False) (L2.start ah2 [.str w,.int c]) H:=fun hn=>by
   refine⟨by decide,?_⟩
   refine A5 (c:=decide (c % 2=1)=true) (fun e=>?_) (fun e=>?_)
   ·have ew:¬ w = "table" := fun z=>hn ⟨e,decide_eq_true z⟩
    refine⟨⟨by decide,by decide⟩,c / 2,1,rfl,by decide,fun H1 l zs S1 el ln hz=>?_⟩
    match zs,ln with
    | [z],_=>exact⟨_,_,.inl (SqL.of el),rfl,kS ew z H1 S1 (hz z (.head _))⟩
   ·refine A5 (c:=decide (w = "table")=true) (fun e2=>?_) (fun e2=>?_)
    ·exact⟨⟨by decide,by decide⟩,c / 2,rfl,fun tb H' x S hw hx=>kT (of_decide_eq_true e2) tb H' x S hw hx⟩
    ·exact⟨⟨by decide,by decide⟩,c / 2,rfl,fun z H' S hz=>kS (fun z=>e2 (decide_eq_true z)) z H' S hz⟩
  refine⟨by decide,?_⟩
  refine A5 (c:=decide (c % 2=1)=true) (fun e=>?_) (fun e=>rest fun z=>e z.1)
  refine A5 (c:=decide (w = "table")=true) (fun e2=>?_) (fun e2=>rest fun z=>e2 z.2)
  clear rest
  have kT:=kT (of_decide_eq_true e2)
  refine⟨⟨by decide,by decide⟩,by decide,⟨by decide,by decide⟩,by decide,⟨by decide,by decide⟩,?_⟩
  obtain⟨m0,em,hm⟩:=Di (c / 2) (m:=6) (by decide)
  obtain⟨n0,en,hn⟩:=Di (c / 12) (m:=6) (by decide)
  have em':1+c / 2 % 6=((m0+1:Nat):Int):=by rw [show c / 2 % 6=(m0:Int) from em];omega
  have en':1+c / 12 % 6=((n0+1:Nat):Int):=by rw [show c / 12 % 6=(n0:Int) from en];omega
  rw [em',en']
  have m1:1<=m0+1:=by omega
  have n1:1<=n0+1:=by omega
  have m6:m0+1<=6:=by omega
  have n6:n0+1<=6:=by omega
  clear em' en' em en hm hn
  generalize m0+1=m at m1 m6 ⊢
  generalize n0+1=n at n1 n6 ⊢
  have mn:m * n<=36:=il m6 n6
  refine⟨.inl ⟨by omega,by omega⟩,c / 72,m * n,by rw [gO];rfl,mn,fun H1 l zs S1 el ln hz=>⟨⟨by omega,by omega⟩,fun D hD=>?_⟩⟩
  rw [bt]
  have row:∀ i,i<m->wfR n ((zs.drop (i * n)).take n):=fun i hi=>by
   have h1:(i+1) * n<=m * n:=fh _ hi
   rw [lC] at h1
   refine⟨by rw [dN,gu,ln];omega,fun z hz'=>hz z (jZ (List.mem_of_mem_take hz'))⟩
  refine Pu (K:=K) (ds:=bO m) (f:=fun i=>(zs.drop (i * n)).take n) (Dv 0 m) (fun σ=>∃ v,σ=[v,some (.ref l),some (.int (n:Int))]) hD (fun _ _=>aY) ?_ ?_ ⟨_,rfl⟩ (fun σ x hσ=>by obtain⟨v,rfl⟩:=hσ;exact⟨_,rfl⟩) ?_ ?_
  ·rw [Bs];exact bI m6 (by decide)
  ·rw [Bs,iF]
  ·intro i x d σ H2 Q1 hx hd hσ S hk
   obtain⟨hi,rfl⟩:=Gu hx
   rw [ko hi] at hd
   cases hd
   obtain⟨v,rfl⟩:=hσ
   have h1:(i+1) * n<=m * n:=fh _ hi
   rw [lC] at h1
   refine⟨.inl ⟨by omega,by omega⟩,.inl ⟨by omega,by omega⟩,.inl ⟨_,SqL.of (S _ _ el),fun p hp=>?_⟩⟩
   have e:(i:Int) * (n:Int)=((i * n:Nat):Int):=by rw [gO]
   rw [e,X9 zs (i * n) n (by omega)]
   refine⟨_,.inl ⟨SqL.of Ad,fun l2 hl2=>?_⟩⟩
   exact hk _ _ ((Same.upd hp).trans (Same.upd hl2)) (Ff (SqT.of Ad))
  ·intro H2 ys S2 e2 g2
   refine⟨ys,.inl ⟨SqL.of e2,fun l2 hl2=>?_⟩⟩
   refine kT ((bO m).map fun i=>(zs.drop (i * n)).take n) _ _ ((S1.trans S2).trans (Same.upd hl2)) ⟨by simp;omega,by simp;omega,n,n1,n6,fun r hr=>?_⟩ ?_
   ·obtain⟨i,hi,rfl⟩:=List.mem_map.mp hr
    exact row i (List.mem_range.mp hi)
   ·unfold Bt
    rw [eR]
    exact F8 (SqT.of Ad) (Bh (Same.upd hl2) g2)
theorem bj6 {f:Addr} {fd:aE} (Z:Aw K t) (F:FunD K "_law_cell_shown" "_law_cell_shown" Rf f fd .none) (T:Tab P w K mg base 0 (Bk K t) bl):FnOk P w K mg base CX0 1 f fd Xb (ad9 K t):=by
 refine F.okW0 br2 bv8 T (bo6 K t) (fun vs H Q E h=>?_) (fun vs H Q E h=>?_)
 ·obtain⟨z,rfl,_⟩:=h;rfl
 ·obtain⟨z,rfl,hz,k⟩:=h
  refine B1 (Ni z) (fun i σ H'=>H'=H /\ ∃ u v,σ=[some (.str z),some (.str u),v]/\u.cps.toList=D5 (z.cps.toList.take i)) ⟨rfl,_,_,rfl,by rw [show (ba "").cps.toList=[] from by decide +kernel];rfl⟩ (fun _ _ _ _ _=>aY) ?_ ?_
  ·rintro i x σ H' hx ⟨rfl,u,v,rfl,eu⟩
   obtain⟨c,rfl,ed,hi⟩:=Jx hx
   have et:z.cps.toList.take (i+1)=z.cps.toList.take i++[c]:=by
    have hl:i<z.cps.toList.length:=by rw [Bo];exact hi
    rw [cC hl] at ed
    rw [fT hl]
    injection ed with ed _
    rw [ed]
   have lu:u.length<=120:=by
    rw [<- Bo,eu]
    have:=Mb (z.cps.toList.take i)
    have h2:=List.length_take_le i z.cps.toList
    rw [dN] at this h2
    omega
   have bg:1000<=sizeLine:=by decide
   have fin:spc c=true->H'=H' /\ ∃ u2 v,[some (.str z),some (.str (u ++ "\\" ++ one c)),some (sg c)]=[some (.str z),some (.str u2),v]/\u2.cps.toList=D5 (z.cps.toList.take (i+1)):=fun e=>by
    have e':c=92\/c=124\/c=47:=of_decide_eq_true e
    refine⟨rfl,_,_,rfl,?_⟩
    rw [et,Ob,Bu,Bu,eu,ai7]
    show _=_++(Kc c++[])
    unfold Kc
    rw [if_pos e',dG,c5]
    rfl
   have go:spc c=true->(u.length+("\\" : Str).length<=sizeLine/\(u ++ "\\").length+(one c).length<=sizeLine/\(H'=H' /\ ∃ u2 v,[some (.str z),some (.str (u ++ "\\" ++ one c)),some (sg c)]=[some (.str z),some (.str u2),v]/\u2.cps.toList=D5 (z.cps.toList.take (i+1)))):=fun e=>by
    have e1:("\\" : Str).length=1:=by decide +kernel
    have e2:(one c).length=1:=rfl
    refine⟨by rw [e1];omega,by rw [Da,e1,e2];omega,fin e⟩
   show if decide (one c = "|")=true then _ else _
   rw [Cv _ 124 c Ym]
   refine A5 (c:=decide (c=124)=true) (fun e=>go (decide_eq_true (.inr (.inl (of_decide_eq_true e))))) (fun e=>?_)
   show if decide (one c = "/")=true then _ else _
   rw [Cv _ 47 c a09]
   refine A5 (c:=decide (c=47)=true) (fun e=>go (decide_eq_true (.inr (.inr (of_decide_eq_true e))))) (fun e2=>?_)
   show if decide (one c = "\\")=true then _ else _
   rw [Cv _ 92 c ai7]
   refine A5 (c:=decide (c=92)=true) (fun e=>go (decide_eq_true (.inl (of_decide_eq_true e)))) (fun e3=>?_)
   have e':¬ (c=92\/c=124\/c=47):=fun z=>by
    rcases z with z|z|z
    ·exact e3 (decide_eq_true z)
    ·exact e (decide_eq_true z)
    ·exact e2 (decide_eq_true z)
   refine⟨?_,rfl,_,_,rfl,?_⟩
   ·show u.length+1<=sizeLine;omega
   ·rw [et,Ob,Bu,eu]
    show _=_++(Kc c++[])
    unfold Kc
    rw [if_neg e',dG]
    rfl
  ·rintro σ H' ⟨rfl,u,v,rfl,eu⟩
   have e0:(Bx z).length=z.cps.toList.length:=by unfold Bx;rw [al]
   rw [e0,gv] at eu
   have e:u=E0 z:=by
    unfold E0
    rw [<- eu,Hh]
   subst e
   exact .inl k
theorem bk0 {f:Addr} {fd:aE} (Z:Aw K t) (F:FunD K "_law_texts_fit" "_law_texts_fit" Rj f fd .none) (T:Tab P w K mg base 0 (Bk K t) bl):FnOk P w K mg base CX0 1 f fd Xf (Ua K t):=by
 refine F.okW0 br6 bw2 T (bp0 K t) (fun vs H Q E h=>?_) (fun vs H Q E h=>?_)
 ·obtain⟨z,rfl,_⟩:=h;rfl
 ·obtain⟨z,rfl,hz,k⟩:=h
  refine⟨aR hz (by decide),?_⟩
  unfold wfB at k
  refine A5 (c:=decide ((z.length:Int) > 60)=true) (fun e=>?_) (fun e=>?_)
  ·have e:(z.length:Int) > 60:=of_decide_eq_true e
   rw [decide_eq_false (show ¬ z.length<=60 by omega),ck] at k
   exact k
  ·have e:¬ (z.length:Int) > 60:=fun q=>e (decide_eq_true q)
   rw [decide_eq_true (show z.length<=60 by omega),cL] at k
   refine B1 (Ni z) (fun i σ H'=>H'=H/\(∃ v,σ=[some (.str z),v])/\(z.cps.toList.take i).all B5=true) ⟨rfl,⟨_,rfl⟩,rfl⟩ (fun _ _ _ _ _=>aY) ?_ ?_
   ·rintro i x σ H' hx ⟨rfl,⟨v,rfl⟩,az⟩
    obtain⟨c,rfl,ed,hi⟩:=Jx hx
    have et:z.cps.toList.take (i+1)=z.cps.toList.take i++[c]:=by
     have hl:i<z.cps.toList.length:=by rw [Bo];exact hi
     rw [cC hl] at ed
     rw [fT hl]
     injection ed with ed _
     rw [ed]
    have hm:c∈z.cps.toList:=by
     have:c∈z.cps.toList.drop i:=by rw [ed];exact .head _
     exact jZ this
    have bad:B5 c=false->Q (.bl false) H':=fun e=>by
     have:z.cps.toList.all B5=false:=by
      rw [Bool.eq_false_iff]
      intro q
      have:=List.all_eq_true.mp q c hm
      rw [e] at this
      cases this
     rw [this] at k
     exact k
    have good:B5 c=true->H'=H'/\(∃ v,[some (.str z),some (sg c)]=[some (.str z),v])/\(z.cps.toList.take (i+1)).all B5=true:=fun e=>by
     refine⟨rfl,⟨_,rfl⟩,?_⟩
     rw [et,List.all_append,az]
     simpa using e
    clear k
    have e1:B5 c=((decide (32<=(c:Int))&&decide ((c:Int)<=126)) && !decide ((c:Int)=37)):=by
     unfold B5
     rw [bne,cH]
     congr 1
     ·congr 1 <;> exact decide_eq_decide.mpr (by omega)
     ·congr 1;exact decide_eq_decide.mpr (by omega)
    rw [e1] at bad good
    refine⟨rfl,?_⟩
    show if decide (32<=(c:Int))=true then _ else _
    refine A5 (c:=decide (32<=(c:Int))=true) (fun q1=>?_) (fun q1=>?_)
    ·rw [q1,cL] at bad good
     refine A5 (c:=(!decide ((c:Int)<=126))=true) (fun q2=>?_) (fun q2=>?_)
     ·have q2:decide ((c:Int)<=126)=false:=by simpa using q2
      rw [q2,ck] at bad
      exact bad rfl
     ·have q2:decide ((c:Int)<=126)=true:=by simpa using q2
      rw [q2,cL] at bad good
      refine⟨rfl,?_⟩
      refine A5 (c:=decide ((c:Int)=37)=true) (fun q3=>?_) (fun q3=>?_)
      ·rw [q3] at bad
       exact bad rfl
      ·have q3:decide ((c:Int)=37)=false:=by simpa using q3
       rw [q3] at good
       exact good rfl
    ·have q1:decide (32<=(c:Int))=false:=by simpa using q1
     rw [q1,ck,ck] at bad
     exact bad rfl
   ·rintro σ H' ⟨rfl,⟨v,rfl⟩,az⟩
    have e0:(Bx z).length=z.cps.toList.length:=by unfold Bx;rw [al]
    rw [e0,gv] at az
    rw [az] at k
    exact .inl k
theorem a30 {f:Addr} {fd:aE} (Z:Aw K t) (F:FunD K "_law_shown" "_law_shown" Jm f fd .none) (T:Tab P w K mg base 1 (D6 K t) bl):FnOk P w K mg base CX0 2 f fd Nk (M9 K t):=by
 refine F.okW0 bc1 be6 T (ba6 K t) (fun vs H Q E h=>?_) (fun vs H Q E h=>?_)
 ·obtain⟨w,x,c,rfl,_⟩:=h;rfl
 ·obtain⟨w,x,c,rfl,hx,hw,ht,k⟩:=h
  cases c with
  | txt z=>
   have hx:x=.str z:=hx
   subst hx
   have e:decide (w = "table")=false:=ht.symm
   refine A5 (c:=decide (w = "table")=true) (fun e2=>?_) (fun _=>k H (Same.refl _))
   rw [e] at e2
   cases e2
  | tab c=>
   have e:decide (w = "table")=true:=ht.symm
   refine A5 (c:=decide (w = "table")=true) (fun _=>?_) (fun e2=>absurd e e2)
   obtain⟨a,xs,rfl,q,g⟩:=B7 (show At K H (.tup (c.map Cd)) x from hx)
   have gl:=g.length
   rw [al] at gl
   obtain⟨h1,h2,m,m1,m6,hr⟩:=id hw
   refine⟨rfl,.inr (.inl ⟨⟨_,q⟩,?_⟩)⟩
   refine fun D hD=>Hv (K:=K) (ds:=c) (f:=shR) (Ep xs) (fun σ=>σ.length=1) hD (fun H1 S=>S.seqT q) ?_ gl rfl (fun σ x hσ=>by rw [b6];exact hσ) ?_ ?_
   ·rw [gl];exact bI h2 (by decide)
   ·intro i x r σ H1 Q1 hx hd hσ S hk
    obtain⟨y,hy,ha⟩:=Cu g (i:=i) (d:=Cd r) (by rw [aI,hd];rfl)
    rw [hx] at hy
    cases hy
    obtain⟨b,rfl,qb⟩:=Hr (show At K H (.tup (r.map Bw)) x from ha)
    have qb:=S.seqT qb
    have hwr:=hr r (bd hd)
    match σ,hσ with
    | [_],_=>
     refine⟨rfl,.inr (.inl ⟨⟨_,qb⟩,?_⟩)⟩
     refine fun D2 hD2=>Hv (K:=K) (ds:=r) (f:=E0) (Ep (r.map V.str)) (fun σ=>σ.length=1) hD2 (fun H2 S=>S.seqT qb) ?_ (al _) rfl (fun σ x hσ=>by rw [b6];exact hσ) ?_ ?_
     ·rw [al,hwr.1];exact bI m6 (by decide)
     ·intro j x z σ H2 Q2 hx hz hσ S hk2
      rw [aI,hz] at hx
      cases hx
      match σ,hσ with
      | [_],_=>exact⟨z,rfl,(hwr.2 z (bd hz)).1,hk2 H2 (Same.refl _)⟩
     ·intro H2 S2 q2
      refine⟨_,D2,r.map E0,rfl,rfl,q2,?_,?_⟩
      ·refine Dk (B:=120) (n:=6) (by decide +kernel) (fun p hp=>?_) (by rw [al,hwr.1];exact m6) (by decide)
       obtain⟨z,hz,rfl⟩:=List.mem_map.mp hp
       have:=Id z
       have:=(hwr.2 z hz).1
       omega
      ·rw [Fu]
       exact hk H2 S2
   ·intro H' S q'
    refine⟨_,D,c.map shR,rfl,rfl,q',?_,?_⟩
    ·refine Dk (B:=726) (n:=6) (by decide +kernel) (fun p hp=>?_) (by rw [al];exact h2) (by decide)
     obtain⟨r,hr',rfl⟩:=List.mem_map.mp hp
     exact M5 (hr r hr') m6
    ·rw [Fu]
     exact k H' S
noncomputable def cst (cs:Rw):List V:=(cs.map ofC).map V.str
noncomputable def RowsS (K:aa) (Hb H:Hp) (l0:Addr) (rs:List Rw) (cs:Rw) (g:List Nat):Prop:=
 ∃ H1 ra xs,Same Hb H1/\Same H1 H/\H1 l0=none/\H1 ra=none/\AtL K H1 ((Ds rs).map M3) xs/\H l0=some (.lst (xs++[.ref ra]))/\H ra=some (.lst (cst cs++[.str (ofC g)]))/\l0≠ra
theorem RowsS.up {Hb H H':Hp} {l0:Addr} {rs:List Rw} {cs:Rw} {g:List Nat} (h:RowsS K Hb H l0 rs cs g) (S:Same H H'):RowsS K Hb H' l0 rs cs g:=by
 obtain⟨H1,ra,xs,h1,h2,h3,h4,h5,h6,h7,h8⟩:=h
 exact⟨H1,ra,xs,h1,h2.trans S,h3,h4,h5,S _ _ h6,S _ _ h7,h8⟩
theorem RowsS.bs {Hb H:Hp} {l0:Addr} {rs:List Rw} {cs:Rw} {g:List Nat} (h:RowsS K Hb H l0 rs cs g):Same Hb H:=by
 obtain⟨H1,ra,xs,h1,h2,_⟩:=h
 exact h1.trans h2
theorem L8 (cs:Rw) (g:List Nat):cst (cs++[g])=cst cs++[.str (ofC g)]:=by unfold cst;rw [bx,bx];rfl
theorem RowsS.tab {Hb H:Hp} {l0:Addr} {rs:List Rw} {cs:Rw} {g:List Nat} (h:RowsS K Hb H l0 rs cs g):At K H (bd9 (Ds (rs++[cs++[g]]))) (.ref l0):=by
 obtain⟨H1,ra,xs,h1,h2,h3,h4,h5,h6,h7,h8⟩:=h
 unfold bd9
 have e:Ds (rs++[cs++[g]])=Ds rs++[(cs++[g]).map ofC]:=by unfold Ds;rw [bx];rfl
 rw [e,bx]
 refine Hq (SqL.of h6) (Ck (Bh h2 h5) (Bc ?_ A7))
 rw [<- L8] at h7
 exact Lu (SqL.of h7)
theorem RowsS.push {Hb H H1:Hp} {l0 ra:Addr} {rs:List Rw} {cs:Rw} {g:List Nat} {xs:List V} {c:Nat} {u:V} (h1:Same Hb H1) (h2:Same H1 H) (h3:H1 l0=none) (h4:H1 ra=none) (h5:AtL K H1 ((Ds rs).map M3) xs) (h6:H l0=some (.lst (xs++[.ref ra]))) (n:l0≠ra) :
  RowsS K Hb (upd H ra (.lst ((cst cs++[u]).set (cst cs).length (.str (ofC g++one c))))) l0 rs cs (g++[c]):=
 ⟨H1,ra,xs,h1,h2.set h4,h3,h4,h5,by rw [Ae n];exact h6,by rw [Ad,Ir.2,al2];rfl,n⟩
theorem RowsS.cell {Hb H H1:Hp} {l0 ra:Addr} {rs:List Rw} {cs:Rw} {g:List Nat} {xs:List V} (h1:Same Hb H1) (h2:Same H1 H) (h3:H1 l0=none) (h4:H1 ra=none) (h5:AtL K H1 ((Ds rs).map M3) xs) (h6:H l0=some (.lst (xs++[.ref ra]))) (n:l0≠ra) :
  RowsS K Hb (upd H ra (.lst (cst cs++[.str (ofC g)]++[.str ""]))) l0 rs (cs++[g]) []:=
 ⟨H1,ra,xs,h1,h2.set h4,h3,h4,h5,by rw [Ae n];exact h6,by rw [Ad,L8,show ba "" = ofC [] from by decide +kernel],n⟩
theorem RowsS.row {Hb H H1:Hp} {l0 ra p:Addr} {rs:List Rw} {cs:Rw} {g:List Nat} {xs:List V} (h1:Same Hb H1) (h2:Same H1 H) (h3:H1 l0=none) (h4:H1 ra=none) (h5:AtL K H1 ((Ds rs).map M3) xs) (h6:H l0=some (.lst (xs++[.ref ra]))) (h7:H ra=some (.lst (cst cs++[.str (ofC g)]))) (n:l0≠ra) (hp:H p=none) :
  RowsS K Hb (upd (upd H p (.lst [.str ""])) l0 (.lst (xs++[.ref ra]++[.ref p]))) l0 (rs++[cs++[g]]) [] []:=by
 have q1:l0≠p:=Ak h6 hp
 have q2:ra≠p:=Ak h7 hp
 have hp1:H1 p=none:=h2.free hp
 have S1:Same H1 (upd H1 ra (.lst (cst cs++[.str (ofC g)]))):=Same.upd h4
 have e:Ds (rs++[cs++[g]])=Ds rs++[(cs++[g]).map ofC]:=by unfold Ds;rw [bx];rfl
 refine⟨upd H1 ra (.lst (cst cs++[.str (ofC g)])),p,xs++[.ref ra],h1.trans S1,fun b u e=>?_,by rw [Ae n];exact h3,by rw [Ae q2.symm];exact hp1,?_,Ad,?_,q1⟩
 ·by_cases hb:b=ra
  ·subst hb
   rw [Ad] at e
   rw [Ae n.symm,Ae q2,h7]
   exact e
  ·rw [Ae hb] at e
   have b1:b≠l0:=fun z=>by subst z;rw [h3] at e;cases e
   have b2:b≠p:=fun z=>by subst z;rw [hp1] at e;cases e
   rw [Ae b1,Ae b2]
   exact h2 _ _ e
 ·rw [e,bx]
  refine Ck (Bh S1 h5) (Bc ?_ A7)
  rw [<- L8]
  exact Lu (SqL.of Ad)
 ·rw [Ae q1.symm,Ad,show ba "" = ofC [] from by decide +kernel]
  rfl
structure ax4 (K:aa) (z:Str) (Hb:Hp) (l0:Addr) (i:Nat) (σ:St) (H:Hp):Prop where
 hi:i<=z.length
 st:∃ rs cs g v,σ=[some (.str z),some (.ref l0),some (.int (i:Int)),v]/\RowsS K Hb H l0 rs cs g/\rd (z.cps.toList.drop i) false rs cs g=rd z.cps.toList false [] [] []/\rs.length<=i/\cs.length<=i/\g.length<=i
theorem T7 {z:Str} {i:Nat} (hi:i<z.length):∃ c,atI z.cps.toList (i:Int)=some c/\z.cps.toList.drop i=c::z.cps.toList.drop (i+1):=by
 have hl:i<z.cps.toList.length:=by rw [Bo];exact hi
 refine⟨z.cps.toList[i],?_,cC hl⟩
 unfold atI ixN
 rw [if_pos (by omega),if_pos (by omega),bt,dP]
 exact ah hl
theorem ah9 (cs:Rw):(cst cs).length=cs.length:=by unfold cst;simp
theorem bj9 {f:Addr} {fd:aE} (Z:Aw K t) (F:FunD K "_law_read_rows" "_law_read_rows" Ri f fd .none) (T:Tab P w K mg base 0 (Bk K t) bl):FnOk P w K mg base CX0 1 f fd Xe (ae1 K t):=by
 refine F.okW0 br5 bw1 T (bo9 K t) (fun vs H Q E h=>?_) (fun vs H Q E h=>?_)
 ·obtain⟨z,rfl,_⟩:=h;rfl
 ·obtain⟨z,rfl,hz,kn,ks⟩:=h
  have hz':z.length<=9000:=hz
  have bg:20000<=sizeLine:=by decide
  refine⟨(show 1<=sizeLine by decide),fun ra hra=>⟨(show 1<=sizeLine by decide),fun l0 hl0=>?_⟩⟩
  have n1:l0≠ra:=fun z=>by subst z;rw [Ad] at hl0;cases hl0
  have R0:RowsS K H (upd (upd H ra (.lst [.str ""])) l0 (.lst [.ref ra])) l0 [] [] []:=by
   rw [Ae n1] at hl0
   exact⟨H,ra,[],Same.refl _,(Same.upd hra).set hl0,hl0,hra,A7,Ad,by rw [Ae n1.symm,Ad,show ba "" = ofC [] from by decide +kernel];rfl,n1⟩
  generalize upd (upd H ra (.lst [.str ""])) l0 (.lst [.ref ra])=H0 at R0 ⊢
  refine⟨fun m σ H'=>∃ i,m=z.length - i/\ax4 K z H l0 i σ H',⟨_,0,rfl,bJ _,[],[],[],_,rfl,R0,rfl,af _,af _,af _⟩,?_⟩
  rintro m σ H' ⟨i,rfl,hi,rs,cs,g,v,rfl,R,eq,l1,l2,l3⟩
  refine⟨by omega,?_⟩
  refine A5 (c:=decide ((i:Int)<(z.length:Int))=true) (fun e=>?_) (fun e=>?_)
  ·have hlt:i<z.length:=by have:=of_decide_eq_true e;omega
   obtain⟨c,hc,ed⟩:=T7 hlt
   rw [ed] at eq
   refine⟨fun σ' H'=>∃ i',i<i'/\ax4 K z H l0 i' σ' H',fun σ' H' ⟨i',h1,h2⟩=>⟨z.length - i',by have:=h2.hi;omega,i',rfl,h2⟩,?_⟩
   refine⟨by omega,c,hc,?_⟩
   rw [G5] at eq
   have e1:(one c).length=1:=rfl
   have pushes:∀ (c:Nat) (i':Nat) (v':Option V) (H2:Hp),RowsS K H H2 l0 rs cs g->i<i'->i'<=z.length->rd (z.cps.toList.drop i') false rs cs (g++[c])=rd z.cps.toList false [] [] [] -> ∃ ra xs,H2 l0=some (.lst (xs++[.ref ra]))/\H2 ra=some (.lst (cst cs++[.str (ofC g)]))/\(ofC g).length+(one c).length<=sizeLine /\ ∀ H3,H3=upd H2 ra (.lst ((cst cs++[V.str (ofC g)]).set (cst cs).length (V.str (ofC g++one c))))->ax4 K z H l0 i' [some (.str z),some (.ref l0),some (.int (i':Int)),v'] H3:=fun c i' v' H2 R2 hi1 hi2 eq2=>by
    obtain⟨H1,ra,xs,h1,h2,h3,h4,h5,h6,h7,h8⟩:=R2
    refine⟨ra,xs,h6,h7,?_,fun H3 e3=>⟨hi2,rs,cs,g++[c],v',rfl,?_,eq2,by omega,by omega,by rw [ax];simp;omega⟩⟩
    ·rw [Hg];show g.length+1<=sizeLine;omega
    ·subst e3;exact RowsS.push h1 h2 h3 h4 h5 h6 h8
   show if decide (one c = "\\")=true then _ else _
   rw [Cv _ 92 c ai7]
   refine A5 (c:=decide (c=92)=true) (fun e=>?_) (fun e=>?_)
   ·rw [if_pos (of_decide_eq_true e)] at eq
    refine⟨by omega,?_⟩
    have ei:((i:Int)+1)=((i+1:Nat):Int):=by omega
    show if decide ((i:Int)+1=(z.length:Int))=true then _ else _
    refine A5 (c:=decide ((i:Int)+1=(z.length:Int))=true) (fun e2=>?_) (fun e2=>?_)
    ·have e2:i+1=z.length:=by have:=of_decide_eq_true e2;omega
     rw [e2,<- Bo,je,Gr,if_pos rfl] at eq
     exact kn (by unfold rdT;rw [<- eq];rfl) _ R.bs
    ·have hlt2:i+1<z.length:=by
      have:¬ ((i:Int)+1=(z.length:Int)):=fun q=>e2 (decide_eq_true q)
      omega
     obtain⟨c2,hc2,ed2⟩:=T7 hlt2
     rw [ed2,O5] at eq
     rw [<- ei] at hc2
     refine⟨by omega,c2,hc2,(show 3<=sizeLine by decide),fun p hp=>.inl ⟨p,_,rfl,.inr (SqT.of Ad),rfl,rfl,?_⟩⟩
     have S:=Same.upd (o:=.tup [.str "|", .str "/", .str "\\"]) hp
     have R2:=R.up S
     generalize upd H' p (.tup [.str "|", .str "/", .str "\\"])=H2 at S R2 ⊢
     show if (!inV (sg c2) [.str "|", .str "/", .str "\\"])=true then _ else _
     rw [aj8]
     refine A5 (c:=(!spc c2)=true) (fun e3=>?_) (fun e3=>?_)
     ·have e':¬ (c2=92\/c2=124\/c2=47):=by
       have:spc c2=false:=by simpa using e3
       exact of_decide_eq_false this
      rw [if_neg e'] at eq
      exact kn (by unfold rdT;rw [<- eq];rfl) _ R2.bs
     ·have e':c2=92\/c2=124\/c2=47:=by
       have:spc c2=true:=by simpa using e3
       exact of_decide_eq_true this
      rw [if_pos e'] at eq
      obtain⟨ra,xs,g1,g2,g3,g4⟩:=pushes c2 (i+2) (some (sg c)) H2 R2 (by omega) (by omega) eq
      refine⟨_,_,.inl (SqL.of g1),By,_,_,.inl (SqL.of g2),By,by omega,c2,hc2,g3,_,_,.inl (SqL.of g1),By,.inl ⟨_,_,g2,(Ir (w:=V.non)).1,?_⟩⟩
      exact⟨i+2,by omega,g4 _ rfl⟩
   ·have n92:¬ c=92:=fun z=>e (decide_eq_true z)
    rw [if_neg n92] at eq
    show if decide (one c = "|")=true then _ else _
    rw [Cv _ 124 c Ym]
    refine A5 (c:=decide (c=124)=true) (fun e=>?_) (fun e=>?_)
    ·rw [if_pos (of_decide_eq_true e)] at eq
     obtain⟨H1,ra,xs,h1,h2,h3,h4,h5,h6,h7,h8⟩:=R
     refine⟨_,_,.inl (SqL.of h6),By,.inl ⟨rfl,_,SqL.of h7⟩,ra,_,_,rfl,rfl,h7,?_,i+1,by omega,by omega,rs,cs++[g],[],_,rfl,RowsS.cell h1 h2 h3 h4 h5 h6 h8,eq,by omega,?_,bJ _⟩
     ·rw [ax,ah9];simp;omega
     ·rw [ax];exact dO l2
    ·have n124:¬ c=124:=fun z=>e (decide_eq_true z)
     rw [if_neg n124] at eq
     show if decide (one c = "/")=true then _ else _
     rw [Cv _ 47 c a09]
     refine A5 (c:=decide (c=47)=true) (fun e=>?_) (fun e=>?_)
     ·rw [if_pos (of_decide_eq_true e)] at eq
      obtain⟨H1,ra,xs,h1,h2,h3,h4,h5,h6,h7,h8⟩:=R
      refine⟨.inl ⟨rfl,_,SqL.of h6⟩,(show 1<=sizeLine by decide),fun p hp=>?_⟩
      have hl:upd H' p (.lst [.str ""]) l0=some (.lst (xs++[.ref ra])):=by rw [Ae (Ak h6 hp)];exact h6
      have xl:xs.length=rs.length:=by rw [h5.length];simp [Ds]
      refine⟨l0,_,_,rfl,rfl,hl,?_,i+1,by omega,by omega,rs++[cs++[g]],[],[],_,rfl,RowsS.row h1 h2 h3 h4 h5 h6 h7 h8 hp,eq,?_,bJ _,bJ _⟩
      ·rw [ax,xl];simp;omega
      ·rw [ax];exact dO l1
     ·have n47:¬ c=47:=fun z=>e (decide_eq_true z)
      rw [if_neg n47] at eq
      obtain⟨ra,xs,g1,g2,g3,g4⟩:=pushes c (i+1) (some (sg c)) H' R (by omega) (by omega) eq
      refine⟨_,_,.inl (SqL.of g1),By,_,_,.inl (SqL.of g2),By,g3,_,_,.inl (SqL.of g1),By,.inl ⟨_,_,g2,(Ir (w:=V.non)).1,?_⟩⟩
      exact⟨i+1,by omega,g4 _ rfl⟩
  ·have hi:i=z.length:=by
    have:¬ (i:Int)<(z.length:Int):=fun q=>e (decide_eq_true q)
    omega
   rw [hi,<- Bo,je,Gr,if_neg aj] at eq
   exact ks _ (by unfold rdT;rw [<- eq];rfl) _ _ R.bs R.tab
end
theorem Lj:∀ (l:List Nat) (b:Bool) (rs:List Rw) (cs:Rw) (g:List Nat) (t:List Rw),rd l b rs cs g=some t->1<=t.length
 | [],b,rs,cs,g,t,e=>by
  rw [Gr] at e
  split at e
  ·cases e
  ·cases e;simp
 | c::l,b,rs,cs,g,t,e=>by
  cases b with
  | true=>
   rw [O5] at e
   split at e
   ·exact Lj l _ _ _ _ t e
   ·cases e
  | false=>
   rw [G5] at e
   split at e
   ·exact Lj l _ _ _ _ t e
   ·split at e
    ·exact Lj l _ _ _ _ t e
    ·split at e
     ·exact Lj l _ _ _ _ t e
     ·exact Lj l _ _ _ _ t e
theorem ba5 {z:Str} {c:Tb} (h:big z) (e:rdT z=some c):1<=c.length/\c.length<=10000 /\ ∀ r∈c,1<=r.length/\r.length<=10000 /\ ∀ z∈r,z.length<=10000:=by
 unfold rdT at e
 obtain⟨T,eT,rfl⟩:=Option.map_eq_some_iff.mp e
 have f:=ad2 h eT
 have l:=Lj _ _ _ _ _ T eT
 have f1:=f.1
 refine⟨by simp [Ds];omega,by simp [Ds];omega,fun r hr=>?_⟩
 obtain⟨r0,hr0,rfl⟩:=List.mem_map.mp hr
 obtain⟨g1,g2,g3⟩:=f.2 r0 hr0
 refine⟨by rw [al];exact g1,by rw [al];exact g2,fun z hz=>?_⟩
 obtain⟨k,hk,rfl⟩:=List.mem_map.mp hz
 rw [Hg]
 exact g3 k hk
noncomputable def Fq (n:Nat) (r:List Str):Bool:=decide (r.length=n)&&r.all wfB
theorem Ys {c:Tb} (h1:1<=c.length) (h2:∀ r∈c,1<=r.length):E2 (Bt c)=true ↔ c.length<=6/\(c.headD []).length<=6 /\ ∀ r∈c,Fq (c.headD []).length r=true:=by
 rw [Md,ak,ak,in6_iff,aP,aP]
 have hm:c.headD []∈c:=by
  cases c with
  | nil=>exact absurd h1 (by decide)
  | cons r c=>exact .head _
 constructor
 ·rintro⟨⟨_,a⟩,b,d⟩
  refine⟨a,?_,fun r hr=>?_⟩
  ·have:=b _ hm
   rw [ak] at this
   exact (in6_iff.mp this.1).2
  ·have:=b r hr
   rw [ak] at this
   unfold Fq
   rw [ak]
   exact⟨d r hr,this.2⟩
 ·rintro⟨a,b,d⟩
  refine⟨⟨h1,a⟩,fun r hr=>?_,fun r hr=>?_⟩
  ·have:=d r hr
   unfold Fq at this
   rw [ak,decide_eq_true_iff] at this
   rw [ak]
   exact⟨in6_iff.mpr ⟨h2 r hr,by omega⟩,this.2⟩
  ·have:=d r hr
   unfold Fq at this
   rw [ak] at this
   exact this.1
theorem Of {α:Type} (f:α->Bool):∀ ds:List α,inV (.bl false) ((ds.map f).map V.bl) = !ds.all f
 | []=>rfl
 | d::ds=>by
  have ih:=Of f ds
  unfold inV at ih ⊢
  rw [aS,aS,c8,bw,ih]
  cases f d <;> rfl
theorem Yv {α:Type} (f:α->Bool) (ds:List α):((ds.map f).map V.bl).all A8=true:=by
 rw [gk,aP]
 exact fun _ _=>rfl
section
variable {P:aO} {w:bM} {K:aa} {mg:Str->Option Value} {base:Heap} {t:Adr}
theorem ap8 {H:Hp} {r:List Str} {x:V} (h:At K H (M3 r) x):∃ b,x=.ref b/\SqL K H b (r.map V.str):=by
 unfold M3 At at h
 obtain⟨a,xs,rfl,q,g⟩:=h
 rw [Er g] at q
 exact⟨a,rfl,q⟩
theorem a35 {f:Addr} {fd:aE} (Z:Aw K t) (F:FunD K "_law_read" "_law_read" Jr f fd .none) (T:Tab P w K mg base 1 (D6 K t) bl):FnOk P w K mg base CX0 2 f fd Np (Nc K t):=by
 refine F.okW0 bc6 bf1 T (bb1 K t) (fun vs H Q E h=>?_) (fun vs H Q E h=>?_)
 ·obtain⟨w,z,rfl,_⟩:=h;rfl
 ·obtain⟨w,z,rfl,hz,k⟩:=h
  have hz':z.length<=9000:=hz
  refine A5 (c:=(!decide (w = "table"))=true) (fun e=>?_) (fun e=>?_)
  ·have e:Cq w=false:=by unfold Cq;simpa using e
   rw [e] at k
   refine⟨(show 2<=sizeLine by decide),fun p hp=>⟨z,rfl,by omega,?_⟩⟩
   unfold E7 at k
   rw [if_neg aj] at k
   cases ew:wfB z with
   | true=>
    rw [ew,if_pos rfl] at k
    exact⟨_,_,.inl (SqL.of Ad),rfl,k _ _ (Same.upd hp) rfl⟩
   | false=>
    rw [ew,if_neg aj] at k
    exact⟨_,_,.inl (SqL.of Ad),rfl,k _ _ (Same.upd hp) rfl⟩
  ·have e:Cq w=true:=by unfold Cq;simpa using e
   rw [e] at k
   unfold E7 E8 at k
   rw [if_pos rfl] at k
   refine⟨z,rfl,hz,fun er H1 S1=>?_,fun c er H1 x S1 hx=>?_⟩
   ·rw [er] at k
    exact k _ _ S1 rfl
   ·rw [er] at k
    have kN:¬ E2 (Bt c)=true -> ∀ H',Same H H'->Q .non H':=fun q H' S=>k H' _ S (by show Pm K H' ((if E2 (Bt c)=true then some c else none).map Ct.tab) _;rw [if_neg q];rfl)
    have kY:E2 (Bt c)=true -> ∀ H' x,Same H H'->At K H' (Bt c) x->Q x H':=fun q H' x S a=>k H' _ S (by show Pm K H' ((if E2 (Bt c)=true then some c else none).map Ct.tab) _;rw [if_pos q];exact a)
    clear k
    obtain⟨c1,c2,c3⟩:=ba5 hz er
    have fit:=Ys c1 fun r hr=>(c3 r hr).1
    have hx:At K H1 (.lst (c.map M3)) x:=hx
    unfold At at hx
    obtain⟨a,xs,rfl,q,g⟩:=hx
    have gl:=g.length
    rw [al] at gl
    have at_:∀ (i:Nat) (r:List Str),c[i]? = some r -> ∃ b,xs[i]? = some (.ref b)/\SqL K H1 b (r.map V.str):=fun i r hr=>by
     obtain⟨y,hy,ha⟩:=Cu g (i:=i) (d:=M3 r) (by rw [aI,hr];rfl)
     obtain⟨b,rfl,qb⟩:=ap8 ha
     exact⟨b,hy,qb⟩
    have h0:c[0]? = some (c.headD []):=by
     cases c with
     | nil=>exact absurd c1 (by decide)
     | cons r c=>rfl
    obtain⟨b0,hb0,q0⟩:=at_ 0 _ h0
    refine .inl ⟨xs,.inl q,?_⟩
    refine A5 (c:=decide ((xs.length:Int) > 6)=true) (fun e=>?_) (fun e=>?_)
    ·exact kN (fun q=>by have:=(fit.mp q).1;have:=of_decide_eq_true e;omega) _ S1
    ·refine⟨_,_,.inl q,Fe (i:=0) hb0,.inl ⟨_,.inl q0,?_⟩⟩
     refine A5 (c:=decide ((((c.headD []).map V.str).length:Int) > 6)=true) (fun e2=>?_) (fun e2=>?_)
     ·exact kN (fun q=>by have:=(fit.mp q).2.1;have:=of_decide_eq_true e2;rw [al] at this;omega) _ S1
     ·have f1:c.length<=6:=by
       have:¬ ((xs.length:Int) > 6):=fun q=>e (decide_eq_true q)
       omega
      have f2:(c.headD []).length<=6:=by
       have:¬ ((((c.headD []).map V.str).length:Int) > 6):=fun q=>e2 (decide_eq_true q)
       rw [al] at this
       omega
      refine .inl ⟨⟨_,q⟩,?_⟩
      refine B1 (Co xs) (fun i σ H'=>Same H1 H'/\(∃ v,σ=[some (.str w),some (.str z),some (.ref a),v]) /\ ∀ r∈c.take i,Fq (c.headD []).length r=true) ⟨Same.refl _,⟨_,rfl⟩,(fun r hr=>by simp at hr)⟩ (fun i σ H' _ h=>h.1.seqL q) ?_ ?_
      ·rintro i x σ H2 hx ⟨S2,⟨v,rfl⟩,ok⟩
       have hi:i<c.length:=by have:=(List.getElem?_eq_some_iff.mp hx).1;omega
       have hr:=ah hi
       generalize c[i]=r at hr
       obtain⟨b,hb,qb⟩:=at_ i r hr
       rw [hx] at hb
       cases hb
       have hm:r∈c:=bd hr
       have qb:=S2.seqL qb
       have bad:Fq (c.headD []).length r=false -> ∀ H',Same H1 H'->Q .non H':=fun q H' S=>kN (fun z=>by have:=(fit.mp z).2.2 r hm;rw [q] at this;cases this) H' (S1.trans S)
       have good:Fq (c.headD []).length r=true -> ∀ H',Same H1 H'->Same H1 H'/\(∃ v,[some (V.str w),some (V.str z),some (V.ref a),some (V.ref b)]=[some (.str w),some (.str z),some (.ref a),v]) /\ ∀ r∈c.take (i+1),Fq (c.headD []).length r=true:=fun q H' S=>⟨S,⟨_,rfl⟩,fun r' hr'=>by
        rw [List.take_add_one,hr] at hr'
        rcases List.mem_append.mp hr' with z|z
        ·exact ok r' z
        ·have:r'=r:=by simpa using z
         subst this;exact q⟩
       unfold Fq at bad good
       refine .inl ⟨_,.inl qb,_,_,.inl (S2.seqL q),Fe (i:=0) hb0,.inl ⟨_,.inl (S2.seqL q0),?_⟩⟩
       show if (!decide (((r.map V.str).length:Int)=(((c.headD []).map V.str).length:Int)))=true then _ else _
       have el:decide (((r.map V.str).length:Int)=(((c.headD []).map V.str).length:Int))=decide (r.length=(c.headD []).length):=by
        rw [al,al]
        exact decide_eq_decide.mpr (by omega)
       rw [el]
       refine A5 (c:=(!decide (r.length=(c.headD []).length))=true) (fun e=>?_) (fun e=>?_)
       ·have e:decide (r.length=(c.headD []).length)=false:=by simpa using e
        rw [e,ck] at bad
        exact bad rfl H2 S2
       ·have e:decide (r.length=(c.headD []).length)=true:=by simpa using e
        rw [e,cL] at bad good
        obtain⟨r1,r2,r3⟩:=c3 r hm
        refine .inl ⟨⟨_,qb⟩,?_⟩
        refine fun D hD=>Hu (K:=K) (ds:=r) (f:=wfB) (Co (r.map V.str)) (fun σ=>σ.length=1) hD (fun H1 S=>S.seqL qb) ?_ (al _) rfl (fun σ x hσ=>by rw [b6];exact hσ) ?_ ?_
        ·rw [al];exact bI r2 (by decide)
        ·intro j x u σ H3 Q3 hx hu hσ S hk
         rw [aI,hu] at hx
         cases hx
         match σ,hσ with
         | [_],_=>exact⟨u,rfl,r3 u (bd hu),hk H3 (Same.refl _)⟩
        ·intro H3 S3 q3
         refine .inl ⟨D,_,rfl,.inl q3,rfl,Yv _ _,?_⟩
         show if inV (.bl false) ((r.map wfB).map V.bl)=true then _ else _
         rw [Of]
         refine A5 (c:=(!r.all wfB)=true) (fun e=>?_) (fun e=>?_)
         ·have e:r.all wfB=false:=by simpa using e
          exact bad e H3 (S2.trans S3)
         ·have e:r.all wfB=true:=by simpa using e
          exact good e H3 (S2.trans S3)
      ·rintro σ H2 ⟨S2,⟨v,rfl⟩,ok⟩
       rw [gl,gv] at ok
       have kY:=kY (fit.mpr ⟨f1,f2,ok⟩)
       have q2:=S2.seqL q
       refine .inl (.inl ⟨⟨_,q2⟩,?_⟩)
       refine fun D hD=>Pu (K:=K) (ds:=c) (f:=fun r=>r) (Co xs) (fun σ=>σ.length=1) hD (fun H1 S=>S.seqL q2) ?_ gl rfl (fun σ x hσ=>by rw [b6];exact hσ) ?_ ?_
       ·rw [gl];exact bI c2 (by decide)
       ·intro i x r σ H3 Q3 hx hr hσ S hk
        obtain⟨b,hb,qb⟩:=at_ i r hr
        rw [hx] at hb
        cases hb
        match σ,hσ with
        | [_],_=>exact⟨_,.inl ⟨(S2.trans S).seqL qb,fun l hl=>hk _ _ (Same.upd hl) (Ff (SqT.of Ad))⟩⟩
       ·intro H3 ys S3 e3 g3
        refine⟨ys,.inl ⟨SqL.of e3,fun l hl=>?_⟩⟩
        exact kY _ _ (((S1.trans S2).trans S3).trans (Same.upd hl)) (F8 (SqT.of Ad) (Bh (Same.upd hl) g3))
theorem ak9:(ba "|/\\a ~!#$").cps.toList.length=9:=by decide +kernel
theorem be0 {v:V} (h:v∈[V.str "", .str "|", .str "/", .str "\\", .str "||", .str "a/b|c", .str (Gs "|" 6),.str (Gs "/" 6),.str (Gs "a" 61),.str (Gs "b" 60)]):∃ z,v=.str z/\z.length<=9000:=by
 simp only [aC,bT,or_false] at h
 rcases h with rfl|rfl|rfl|rfl|rfl|rfl|rfl|rfl|rfl|rfl <;> exact⟨_,rfl,by decide +kernel⟩
theorem bl2 {f:Addr} {fd:aE} (Z:Aw K t) (F:FunD K "_law_spoilt" "_law_spoilt" Ry f fd .none) (T:Tab P w K mg base 0 (Bk K t) bl):FnOk P w K mg base CX0 1 f fd Xt (Uc K t):=by
 refine F.okW0 bt0 bx6 T (bq4 K t) (fun vs H Q E h=>?_) (fun vs H Q E h=>?_)
 ·obtain⟨z,c,o,rfl,_⟩:=h;rfl
 ·obtain⟨z,c,o,rfl,hz,k⟩:=h
  have bg:20000<=sizeLine:=by decide
  have hs:z.length<=sizeLine:=by omega
  refine⟨⟨by decide,by decide⟩,hs,by omega,?_⟩
  obtain⟨ch,hc,ec⟩:=atM (xs:=(ba "|/\\a ~!#$").cps.toList) o 9 (by rw [ak9];rfl) (by decide)
  refine⟨by decide,by decide +kernel,ch,ec,?_⟩
  have e1:(one ch).length=1:=rfl
  have kk:∀ a b:Str,a.length<=4400->b.length<=4400->a.length+(one ch).length<=sizeLine/\z.length<=sizeLine/\(a++one ch).length+b.length<=sizeLine/\Q (.str (a++one ch++b)) H:=fun a b ha hb=>by
   refine⟨by omega,hs,by rw [Da];omega,k H _ (Same.refl _) ?_⟩
   show (a++one ch++b).length<=9000
   rw [Da,Da]
   omega
  have sl:∀ lo hi,(Txt.slice z lo hi).length<=4400:=fun lo hi=>aR (Txt.slice_le z lo hi) hz
  refine⟨by decide,?_⟩
  refine A5 (c:=decide (c % 5=1)=true) (fun e=>⟨hs,kk _ _ (sl _ _) (sl _ _)⟩) (fun e=>⟨by decide,?_⟩)
  refine A5 (c:=decide (c % 5=2)=true) (fun e=>⟨hs,hs,?_,?_⟩) (fun e=>⟨by decide,?_⟩)
  ·have:=sl none (some (c / 5 % ((z.length:Int)+1)))
   have:=sl (some (c / 5 % ((z.length:Int)+1)+1)) none
   omega
  ·refine k H _ (Same.refl _) ?_
   have:=sl none (some (c / 5 % ((z.length:Int)+1)))
   have:=sl (some (c / 5 % ((z.length:Int)+1)+1)) none
   show (_++_:Str).length<=9000
   rw [Da]
   omega
  refine A5 (c:=decide (c % 5=3)=true) (fun e=>⟨hs,kk _ _ (sl _ _) (sl _ _)⟩) (fun e=>⟨by decide,?_⟩)
  refine A5 (c:=decide (c % 5=4)=true) (fun e=>?_) (fun e=>k H z (Same.refl _) (show z.length<=9000 by omega))
  refine⟨by decide +kernel,by decide,by decide,by decide +kernel,by decide +kernel,by decide +kernel,by decide,by decide,by decide +kernel,by decide +kernel,by decide +kernel,by decide,by decide,by decide +kernel,by decide +kernel,by decide +kernel,by decide,by decide,by decide +kernel,by decide +kernel,(show 10<=sizeLine by decide),fun p hp=>⟨by decide,?_⟩⟩
  obtain⟨v,hv,ev⟩:=atM (xs:=[V.str "", .str "|", .str "/", .str "\\", .str "||", .str "a/b|c", .str (Gs "|" 6),.str (Gs "/" 6),.str (Gs "a" 61),.str (Gs "b" 60)]) o 10 rfl (by decide)
  obtain⟨z',rfl,hz'⟩:=be0 hv
  exact⟨_,_,.inl (SqL.of Ad),ev,k _ z' (Same.upd hp) hz'⟩
noncomputable def GD (K:aa) (σ:St) (E:EK) (de:DE) (d:Dt):Prop:=∀ H1 (Q:VK),(∀ x H2,Same H1 H2->At K H2 d x->Q x H2)->de σ H1 Q E
noncomputable def GDs (K:aa) (σ:St) (E:EK) (da:DA) (ds:List Dt):Prop:=∀ H1 (Q:List V->Hp->Prop),(∀ xs H2,Same H1 H2->AtL K H2 ds xs->Q xs H2)->da σ H1 Q E
noncomputable def AtOs (K:aa) (H:Hp):List (Option Dt)->List V->Prop
 | [],xs=>xs=[]
 | o::os,xs=>∃ y ys,xs=y::ys/\AtO K H o y/\AtOs K H os ys
noncomputable def GO (K:aa) (σ:St) (E:EK) (de:DE) (o:Option Dt):Prop:=∀ H1 (Q:VK),(∀ x H2,Same H1 H2->AtO K H2 o x->Q x H2)->de σ H1 Q E
noncomputable def GOs (K:aa) (σ:St) (E:EK) (da:DA) (os:List (Option Dt)):Prop:=∀ H1 (Q:List V->Hp->Prop),(∀ xs H2,Same H1 H2->AtOs K H2 os xs->Q xs H2)->da σ H1 Q E
theorem AtOs.up {H H':Hp} (S:Same H H'):∀ {os:List (Option Dt)} {xs:List V},AtOs K H os xs->AtOs K H' os xs
 | [],_,h=>h
 | _::_,_,⟨y,ys,e,a,b⟩=>⟨y,ys,e,a.up S,AtOs.up S b⟩
theorem AtOs.len {H:Hp}:∀ {os:List (Option Dt)} {xs:List V},AtOs K H os xs->xs.length=os.length
 | [],xs,h=>by rw [show xs=[] from h];rfl
 | o::os,xs,⟨y,ys,e,a,b⟩=>by rw [e,aQ,aQ,AtOs.len b]
theorem AtOs.app {H:Hp}:∀ {os ps:List (Option Dt)} {xs ys:List V},AtOs K H os xs->AtOs K H ps ys->AtOs K H (os++ps) (xs++ys)
 | [],_,xs,_,h,g=>by rw [show xs=[] from h];exact g
 | o::os,ps,_,_,⟨y,ys,e,a,b⟩,g=>by subst e;exact⟨y,_,rfl,a,AtOs.app b g⟩
theorem AtOs.mem {H:Hp}:∀ {os:List (Option Dt)} {xs:List V} {x:V},AtOs K H os xs->x∈xs -> ∃ o,o∈os/\AtO K H o x
 | [],xs,x,h,m=>by rw [show xs=[] from h] at m;cases m
 | o::os,xs,x,⟨y,ys,e,a,b⟩,m=>by
  subst e
  rcases List.mem_cons.mp m with rfl|m
  ·exact⟨o,.head _,a⟩
  ·obtain⟨o',h1,h2⟩:=AtOs.mem b m
   exact⟨o',.tail _ h1,h2⟩
section
variable {σ:St} {E:EK}
theorem Ij {v:V} (f:A8 v=true):GD K σ E (dC v) (.at_ v):=fun H1 Q q=>q v H1 (Same.refl _) (Sr f)
theorem Cm:GDs K σ E Ag []:=fun H1 Q q=>q [] H1 (Same.refl _) A7
theorem Br {de:DE} {da:DA} {d:Dt} {ds:List Dt} (h:GD K σ E de d) (g:GDs K σ E da ds):GDs K σ E (Aa de da) (d::ds):=fun H1 Q q=>
 h H1 _ fun x H2 S2 a=>g H2 _ fun xs H3 S3 b=>q (x::xs) H3 (S2.trans S3) (Bc (E5 S3 a) b)
theorem P7 {da:DA} {ds:List Dt} (g:GDs K σ E da ds) (l:ds.length<=1000):GD K σ E (Bq da) (.lst ds):=fun H1 Q q=>g H1 _ fun xs H2 S2 b=>⟨by rw [b.length];exact aR l (by decide),fun p hp=>
 q (.ref p) _ (S2.trans (Same.upd hp)) (Hq (SqL.of Ad) (Bh (Same.upd hp) b))⟩
theorem E9 {da:DA} {ds:List Dt} (g:GDs K σ E da ds) (l:ds.length<=1000):GD K σ E (Az da) (.tup ds):=fun H1 Q q=>g H1 _ fun xs H2 S2 b=>⟨by rw [b.length];exact aR l (by decide),fun p hp=>
 q (.ref p) _ (S2.trans (Same.upd hp)) (F8 (SqT.of Ad) (Bh (Same.upd hp) b))⟩
theorem G1 {v:V} (f:A8 v=true):GD K σ E (Az (Aa (dC v) Ag)) (.tup [.at_ v]):=E9 (Br (Ij f) Cm) (eV rfl)
theorem Me {de:DE} {d:Dt} (h:GD K σ E de d):GD K σ E (Az (Aa de Ag)) (.tup [d]):=E9 (Br h Cm) (eV rfl)
theorem Sq {H:Hp} {ds:List Dt} {xs:List V} (h:AtL K H ds xs):∀ n:Nat,AtL K H (a0 n ds).flatten (a0 n xs).flatten
 | 0=>A7
 | n+1=>by rw [c6,c6,d9,d9];exact Ck h (Sq h n)
theorem Yz {de:DE} {ds:List Dt} {k:Nat} (h:GD K σ E de (.tup ds)) (k2:2<=k) (k3:k<=1000) (h1:ds.length≠0) (h2:ds.length<=1000):GD K σ E (Af (Bf K) de (dC (.int (k:Int)))) (.tup (a0 k ds).flatten):=fun H1 Q q=>h H1 _ fun x H2 S2 a=>by
 obtain⟨p,xs,rfl,sq,g⟩:=B7 a
 refine .inr ⟨p,(k:Int),xs,rfl,rfl,sq,by omega,by omega,by rw [g.length];exact h1,by rw [g.length];exact h2,fun p2 hp2=>?_⟩
 rw [bt]
 exact q _ _ (S2.trans (Same.upd hp2)) (F8 (SqT.of Ad) (Sq (Bh (Same.upd hp2) g) k))
theorem Yy:GD K σ E (Af (Bf K) (dC (.str "a")) (dC (.int 61))) (Bw (Gs "a" 61)):=fun H1 Q q=>
 ⟨by decide +kernel,by decide,by decide,by decide +kernel,by decide +kernel,q _ _ (Same.refl _) Es⟩
theorem Dz {de:DE} {d:Dt} (h:GD K σ E de d):GO K σ E de (some d):=h
theorem aj4:GO K σ E N4 none:=fun H1 Q q p hp=>.inl (q _ _ (Same.upd hp) ⟨p,rfl,Ad⟩)
theorem Te:GOs K σ E Ag []:=fun H1 Q q=>q [] H1 (Same.refl _) rfl
theorem Av {de:DE} {da:DA} {o:Option Dt} {os:List (Option Dt)} (h:GO K σ E de o) (g:GOs K σ E da os):GOs K σ E (Aa de da) (o::os):=fun H1 Q q=>
 h H1 _ fun x H2 S2 a=>g H2 _ fun xs H3 S3 b=>q (x::xs) H3 (S2.trans S3) ⟨x,xs,rfl,a.up S3,b⟩
end
noncomputable abbrev aD (z:Str):Dt:=Bw z
noncomputable def av5:List (Option Dt):=[some (.at_ .non),some (.at_ (.int 7)),some (.at_ (.bl true)),some (.lst [aD "a"]),none,some (.tup []),some (.tup [.tup []]),some (.tup [.tup [aD "a"],.tup [aD "a", aD "b"]]),some (.tup [.lst [aD "a"]]),some (.lst [.tup [aD "a"]]),some (.tup [.tup [aD "a", .at_ (.int 7)]]),some (.tup [aD "a"])]
noncomputable def Y3:List (Option Dt):=[some (.tup (a0 7 [.tup [aD ""]]).flatten),some (.tup [.tup (a0 7 [aD ""]).flatten]),some (aD (Gs "a" 61)),some (aD "a\n"),some (.tup [.tup [aD "a\n"]]),some (.tup [.tup [aD (Gs "a" 61)]]),some (.tup [.tup [.at_ .non]]),some (.tup [aD ""])]
noncomputable def sB:Dt->Bool
 | .at_ (.str z)=>decide (z.length<=10000)
 | _=>true
noncomputable def s1B:Dt->Bool
 | .tup ds=>ds.all sB
 | _=>true
noncomputable def s2B:Dt->Bool
 | .tup ds=>decide (ds.length<=10000)&&ds.all s1B
 | _=>true
noncomputable def oB:Option Dt->Bool
 | some d=>(sB d&&s2B d)&&(!txD d && !E2 d)
 | none=>true
theorem av4 {d:Dt} (h:sB d=true):stD d:=by
 cases d with
 | at_ v=>
  cases v with
  | str z=>exact of_decide_eq_true (p:=z.length<=10000) h
  | _=>exact aY
 | _=>exact aY
theorem bb8 {d:Dt} (h:s1B d=true):st1 d:=by
 cases d with
 | tup ds=>exact fun d hd=>av4 (List.all_eq_true.mp h d hd)
 | _=>exact aY
theorem bb9 {d:Dt} (h:s2B d=true):st2 d:=by
 cases d with
 | tup ds=>
  have h:(decide (ds.length<=10000)&&ds.all s1B)=true:=h
  rw [ak] at h
  exact⟨of_decide_eq_true h.1,fun d hd=>bb8 (List.all_eq_true.mp h.2 d hd)⟩
 | _=>exact aY
theorem bj3 {o:Option Dt} (h:oB o=true):stO o/\Wj o/\txO o=false/\Yr o=false:=by
 cases o with
 | none=>exact⟨aY,aY,rfl,rfl⟩
 | some d=>
  have h:((sB d&&s2B d)&&(!txD d && !E2 d))=true:=h
  rw [ak,ak,ak] at h
  exact⟨av4 h.1.1,bb9 h.1.2,show txD d=false by simpa using h.2.1,show E2 d=false by simpa using h.2.2⟩
theorem al1:(av5++Y3).all oB=true:=by decide +kernel
theorem Y2 {σ:St} {E:EK}:GOs K σ E (Aa (dC .non) (Aa (dC (.int 7)) (Aa (dC (.bl true)) (Aa (Bq (Aa (dC (.str "a")) Ag)) (Aa N4 (Aa (Az Ag) (Aa (Az (Aa (Az Ag) Ag)) (Aa (Az (Aa (Az (Aa (dC (.str "a")) Ag)) (Aa (Az (Aa (dC (.str "a")) (Aa (dC (.str "b")) Ag))) Ag))) (Aa (Az (Aa (Bq (Aa (dC (.str "a")) Ag)) Ag)) (Aa (Bq (Aa (Az (Aa (dC (.str "a")) Ag)) Ag)) (Aa (Az (Aa (Az (Aa (dC (.str "a")) (Aa (dC (.int 7)) Ag))) Ag)) (Aa (Az (Aa (dC (.str "a")) Ag)) Ag)))))))))))) av5:=Av (Dz (Ij rfl)) (Av (Dz (Ij rfl)) (Av (Dz (Ij rfl)) (Av (Dz (P7 (Br (Ij rfl) Cm) (by decide))) (Av aj4 (Av (Dz (E9 Cm (by decide))) (Av (Dz (Me (E9 Cm (by decide))))
   (Av (Dz (E9 (Br (G1 rfl) (Br (E9 (Br (Ij rfl) (Br (Ij rfl) Cm)) (by decide)) Cm)) (by decide))) (Av (Dz (Me (P7 (Br (Ij rfl) Cm) (by decide)))) (Av (Dz (P7 (Br (G1 rfl) Cm) (by decide)))
   (Av (Dz (Me (E9 (Br (Ij rfl) (Br (Ij rfl) Cm)) (by decide)))) (Av (Dz (G1 rfl)) Te)))))))))))
theorem Ve {σ:St} {E:EK}:GOs K σ E (Aa (Af (Bf K) (Az (Aa (Az (Aa (dC (.str "")) Ag)) Ag)) (dC (.int 7))) (Aa (Az (Aa (Af (Bf K) (Az (Aa (dC (.str "")) Ag)) (dC (.int 7))) Ag)) (Aa (Af (Bf K) (dC (.str "a")) (dC (.int 61))) (Aa (dC (.str "a\n")) (Aa (Az (Aa (Az (Aa (dC (.str "a\n")) Ag)) Ag)) (Aa (Az (Aa (Az (Aa (Af (Bf K) (dC (.str "a")) (dC (.int 61))) Ag)) Ag)) (Aa (Az (Aa (Az (Aa (dC .non) Ag)) Ag)) (Aa (Az (Aa (dC (.str "")) Ag)) Ag)))))))) Y3:=Av (Dz (Yz (k:=7) (Me (G1 rfl)) (by decide) (by decide) (by decide) (by decide))) (Av (Dz (Me (Yz (k:=7) (G1 rfl) (by decide) (by decide) (by decide) (by decide)))) (Av (Dz Yy) (Av (Dz (Ij rfl)) (Av (Dz (Me (G1 rfl)))
      (Av (Dz (Me (Me Yy))) (Av (Dz (Me (G1 rfl))) (Av (Dz (G1 rfl)) Te)))))))
theorem a38 {f:Addr} {fd:aE} (Z:Aw K t) (F:FunD K "_law_odd" "_law_odd" Ju f fd .none) (T:Tab P w K mg base 0 (Bk K t) bl):FnOk P w K mg base CX0 1 f fd Nt (R9 K t):=by
 refine F.okW0 bc9 bf4 T (bb4 K t) (fun vs H Q E h=>?_) (fun vs H Q E h=>?_)
 ·obtain⟨c,rfl,_⟩:=h;rfl
 ·obtain⟨c,rfl,k⟩:=h
  dsimp only [aw8,Ai,Au,Bq]
  refine Y2 (K:=K) H _ fun xs H1 S1 b1=>?_
  refine⟨by rw [b1.len];decide,fun a1 h1=>?_⟩
  have T1:=Same.upd (o:=.lst xs) h1
  have e1:upd H1 a1 (.lst xs) a1=some (.lst xs):=Ad
  have b1:=b1.up T1
  generalize upd H1 a1 (.lst xs)=H2 at T1 e1 b1 ⊢
  refine Ve (K:=K) H2 _ fun ys H3 S3 b2=>?_
  refine⟨by rw [b2.len];decide,fun a2 h2=>?_⟩
  have T2:=Same.upd (o:=.lst ys) h2
  have e2:upd H3 a2 (.lst ys) a2=some (.lst ys):=Ad
  have b2:=b2.up T2
  have b1:=(b1.up S3).up T2
  have e1:=T2 _ _ (S3 _ _ e1)
  generalize upd H3 a2 (.lst ys)=H4 at T2 e1 e2 b1 b2 ⊢
  have S:=(((S1.trans T1).trans S3).trans T2)
  have l1:=b1.len
  have l2:=b2.len
  refine .inl ⟨a1,a2,xs,ys,rfl,rfl,e1,e2,by rw [l1,l2];decide,fun p hp=>⟨by decide,?_⟩⟩
  obtain⟨v,hv,ev⟩:=atM (xs:=xs++ys) c 20 (by rw [ax,l1,l2];rfl) (by decide)
  have Sp:=Same.upd (o:=.lst (xs++ys)) hp
  obtain⟨o,ho,ha⟩:=((b1.app b2).up Sp).mem hv
  obtain⟨g1,g2,g3,g4⟩:=bj3 (List.all_eq_true.mp al1 o ho)
  exact⟨_,_,.inl (SqL.of Ad),ev,k _ v o (S.trans Sp) ha g1 g2 g3 g4⟩
end
section
variable {P:aO} {w:bM} {K:aa} {mg:Str->Option Value} {base:Heap} {t:Adr}
theorem Bp:Bm t "chapter" = t.c_zar:=by unfold Bm;rw [if_pos rfl]
theorem C2:Bm t "para" = t.c_zau:=by unfold Bm;rw [if_neg kw0,if_pos rfl]
theorem Ci:Bm t "table" = t.c_zat:=by unfold Bm;rw [if_neg kw1,if_neg kw2]
noncomputable def Fk (wd:Str) (o:Option Dt):Bool:=if Cq wd=true then Yr o else txO o
theorem a12 (o:Option Dt):Fk "chapter" o=txO o:=by unfold Fk Cq;rw [decide_eq_false (by decide)];rfl
theorem a13 (o:Option Dt):Fk "para" o=txO o:=by unfold Fk Cq;rw [decide_eq_false (by decide)];rfl
theorem a14 (o:Option Dt):Fk "table" o=Yr o:=by unfold Fk Cq;rw [decide_eq_true rfl];rfl
theorem Fl {H:Hp} {ka dx:Addr} {wd:Str} {x:V} {o:Option Dt} {Q:VK} {E:EK} (hw:C6 wd) (hk:H ka=some (.ins (Bm t wd) dx [])) (ha:AtO K H o x) (s1:stO o) (s2:Wj o) (k:∀ H',Same H H'->Q (.bl (Fk wd o)) H') :
  ∃ a dx fs mi,V.ref ka=.ref a/\mi∈Bz K t/\H a=some (.ins mi.C dx fs)/\fs.lookup (ba "fits")=none/\(1+1<=mi.i.ps.length/\mi.i.ps.length<=1+1+mi.i.dfs.length)/\spE mi.i.sp (mi.i.dfs.drop (1+1+mi.i.dfs.length - mi.i.ps.length)) [.ref a,x] H Q E:=by
 rcases hw with rfl|rfl|rfl
 ·rw [Bp] at hk
  rw [a12] at k
  exact⟨ka,dx,[],⟨t.c_zar,Oe K t⟩,rfl,.head _,hk,rfl,⟨af 2,af 2⟩,.ref ka,x,o,rfl,ha,s1,k⟩
 ·rw [C2] at hk
  rw [a13] at k
  exact⟨ka,dx,[],⟨t.c_zau,Oe K t⟩,rfl,.tail _ (.head _),hk,rfl,⟨af 2,af 2⟩,.ref ka,x,o,rfl,ha,s1,k⟩
 ·rw [Ci] at hk
  rw [a14] at k
  exact⟨ka,dx,[],⟨t.c_zat,Y9 K t⟩,rfl,.tail _ (.tail _ (.head _)),hk,rfl,⟨af 2,af 2⟩,.ref ka,x,o,rfl,ha,s2,k⟩
theorem Wi {H:Hp} {ka dx:Addr} {wd:Str} {x:V} {c:Ct} {Q:VK} {E:EK} (hw:C6 wd) (hk:H ka=some (.ins (Bm t wd) dx [])) (hx:CtAt K H c x) (wf:c.wf) (kd:Fm c=Cq wd) (k:∀ H',Same H H'->Q (.str (shC c)) H') :
  ∃ a dx fs mi,V.ref ka=.ref a/\mi∈Do K t/\H a=some (.ins mi.C dx fs)/\fs.lookup (ba "shown")=none/\(1+1<=mi.i.ps.length/\mi.i.ps.length<=1+1+mi.i.dfs.length)/\spE mi.i.sp (mi.i.dfs.drop (1+1+mi.i.dfs.length - mi.i.ps.length)) [.ref a,x] H Q E:=by
 rcases hw with rfl|rfl|rfl
 ·rw [Bp] at hk
  cases c with
  | tab c=>exact absurd (show true=Cq "chapter" from kd) (by decide)
  | txt z=>
   cases (show x=.str z from hx)
   exact⟨ka,dx,[],⟨t.c_zar,Vj K t⟩,rfl,.head _,hk,rfl,⟨af 2,af 2⟩,.ref ka,.str z,rfl,k H (Same.refl _)⟩
 ·rw [C2] at hk
  cases c with
  | tab c=>exact absurd (show true=Cq "para" from kd) (by decide)
  | txt z=>
   cases (show x=.str z from hx)
   exact⟨ka,dx,[],⟨t.c_zau,Vj K t⟩,rfl,.tail _ (.head _),hk,rfl,⟨af 2,af 2⟩,.ref ka,.str z,rfl,k H (Same.refl _)⟩
 ·rw [Ci] at hk
  cases c with
  | txt c=>exact absurd (show false=Cq "table" from kd) (by decide)
  | tab c=>exact⟨ka,dx,[],⟨t.c_zat,a19 K t⟩,rfl,.tail _ (.tail _ (.head _)),hk,rfl,⟨af 2,af 2⟩,.ref ka,x,c,rfl,hx,wf,k⟩
theorem ap5 (z:Str):E7 false z=if wfB z=true then some (.txt z) else none:=rfl
theorem Zx {H:Hp} (z:Str):Pm K H (E7 false z) (if wfB z=true then .str z else .non):=by
 rw [ap5]
 split
 ·exact rfl
 ·exact rfl
theorem O6 {H:Hp} {ka dx:Addr} {wd:Str} {z:Str} {Q:VK} {E:EK} (hw:C6 wd) (hk:H ka=some (.ins (Bm t wd) dx [])) (hz:big z) (k:∀ H' x,Same H H'->Pm K H' (E7 (Cq wd) z) x->Q x H') :
  ∃ a dx fs mi,V.ref ka=.ref a/\mi∈A3 K t/\H a=some (.ins mi.C dx fs)/\fs.lookup (ba "read_shown")=none/\(1+1<=mi.i.ps.length/\mi.i.ps.length<=1+1+mi.i.dfs.length)/\spE mi.i.sp (mi.i.dfs.drop (1+1+mi.i.dfs.length - mi.i.ps.length)) [.ref a,.str z] H Q E:=by
 rcases hw with rfl|rfl|rfl
 ·rw [Bp] at hk
  rw [show Cq "chapter" = false from decide_eq_false (by decide)] at k
  exact⟨ka,dx,[],⟨t.c_zar,Vh K t⟩,rfl,.head _,hk,rfl,⟨af 2,af 2⟩,ka,dx,t.c_zar,z,rfl,hk,.inl rfl,hz,fun H' S=>k H' _ S (Zx z)⟩
 ·rw [C2] at hk
  rw [show Cq "para" = false from decide_eq_false (by decide)] at k
  exact⟨ka,dx,[],⟨t.c_zau,Vh K t⟩,rfl,.tail _ (.head _),hk,rfl,⟨af 2,af 2⟩,ka,dx,t.c_zau,z,rfl,hk,.inr rfl,hz,fun H' S=>k H' _ S (Zx z)⟩
 ·rw [Ci] at hk
  rw [show Cq "table" = true from decide_eq_true rfl] at k
  exact⟨ka,dx,[],⟨t.c_zat,a17 K t⟩,rfl,.tail _ (.tail _ (.head _)),hk,rfl,⟨af 2,af 2⟩,ka,dx,z,rfl,hk,hz,k⟩
theorem ag3 {H:Hp} {ka dx:Addr} {wd:Str} {Q:VK} {E:EK} (hw:C6 wd) (hk:H ka=some (.ins (Bm t wd) dx [])) (k:Q (.str wd) H) :
  ∃ a dx fs mi,V.ref ka=.ref a/\mi∈Ew K t/\H a=some (.ins mi.C dx fs)/\fs.lookup (ba "word")=none/\(0+1<=mi.i.ps.length/\mi.i.ps.length<=0+1+mi.i.dfs.length)/\spE mi.i.sp (mi.i.dfs.drop (0+1+mi.i.dfs.length - mi.i.ps.length)) [.ref a] H Q E:=by
 rcases hw with rfl|rfl|rfl
 ·rw [Bp] at hk
  exact⟨ka,dx,[],⟨t.c_zar,aj5 K t⟩,rfl,.head _,hk,rfl,⟨af 1,af 1⟩,.ref ka,rfl,k⟩
 ·rw [C2] at hk
  exact⟨ka,dx,[],⟨t.c_zau,aj7 K t⟩,rfl,.tail _ (.head _),hk,rfl,⟨af 1,af 1⟩,.ref ka,rfl,k⟩
 ·rw [Ci] at hk
  exact⟨ka,dx,[],⟨t.c_zat,aj6 K t⟩,rfl,.tail _ (.tail _ (.head _)),hk,rfl,⟨af 1,af 1⟩,.ref ka,rfl,k⟩
theorem K7 {H:Hp} {ka dx:Addr} {wd:Str} {Q:VK} {E:EK} (hw:C6 wd) (hk:H ka=some (.ins (Bm t wd) dx [])) (k:Q (.bl (decide (wd = "chapter"))) H) :
  ∃ a dx fs mi,V.ref ka=.ref a/\mi∈Dn K t/\H a=some (.ins mi.C dx fs)/\fs.lookup (ba "holds")=none/\(0+1<=mi.i.ps.length/\mi.i.ps.length<=0+1+mi.i.dfs.length)/\spE mi.i.sp (mi.i.dfs.drop (0+1+mi.i.dfs.length - mi.i.ps.length)) [.ref a] H Q E:=by
 rcases hw with rfl|rfl|rfl
 ·rw [Bp] at hk
  rw [decide_eq_true rfl] at k
  exact⟨ka,dx,[],⟨t.c_zar,a18 K t⟩,rfl,.head _,hk,rfl,⟨af 1,af 1⟩,.ref ka,rfl,k⟩
 ·rw [C2] at hk
  rw [decide_eq_false (by decide)] at k
  exact⟨ka,dx,[],⟨t.c_zau,Vi K t⟩,rfl,.tail _ (.head _),hk,rfl,⟨af 1,af 1⟩,.ref ka,rfl,k⟩
 ·rw [Ci] at hk
  rw [decide_eq_false (by decide)] at k
  exact⟨ka,dx,[],⟨t.c_zat,Vi K t⟩,rfl,.tail _ (.tail _ (.head _)),hk,rfl,⟨af 1,af 1⟩,.ref ka,rfl,k⟩
theorem X4 {wd:Str} (hw:C6 wd):Bm t wd=t.c_zar\/Bm t wd=t.c_zau\/Bm t wd=t.c_zat:=by
 rcases hw with rfl|rfl|rfl
 ·exact .inl Bp
 ·exact .inr (.inl C2)
 ·exact .inr (.inr Ci)
theorem Zc (Z:Aw K t) {wd:Str} (hw:C6 wd):dB K (.ref (Bm t wd)) (.ref t.c_Kind)=some true:=by
 obtain⟨_,_,_,hm⟩:=Z.cl _ (X4 hw)
 unfold dB
 by_cases e:(aH (Bm t wd)==aH t.c_Kind)=true
 ·rw [if_pos e]
 ·rw [if_neg e]
  unfold PySem.W.kitCls
  dsimp only
  have hs:(PySem.W.clsIn K t.c_Kind).isSome=true:=by
   have:=Z.mr
   unfold b8 at this
   cases q:PySem.W.clsIn K t.c_Kind with
   | none=>rw [q] at this;cases this
   | some c=>rfl
  rw [hs,Z.ty,if_pos (by rfl)]
  exact hm
theorem bj7 {f:Addr} {fd:aE} (Z:Aw K t) (F:FunD K "_law_kinds_good" "_law_kinds_good" Rg f fd .none) (T:Tab P w K mg base 2 (G7 K t) bl):FnOk P w K mg base CX0 3 f fd Xc (ae0 K t):=by
 refine F.okW0 br3 bv9 T (bo7 K t) (fun vs H Q E h=>?_) (fun vs H Q E h=>?_)
 ·obtain⟨rfl,_⟩:=h;rfl
 ·obtain⟨rfl,k⟩:=h
  refine⟨rfl,fun a1 d1 ha1 hd1 n1=>⟨(show 2<=sizeLine by decide),fun p1 hp1=>?_⟩⟩
  have S1:=(Ez (C:=t.c_zar) ha1 hd1).trans (Same.upd (o:=.tup [.str "chapter", .ref a1]) hp1)
  have e1:upd (upd (upd H d1 (.own a1)) a1 (.ins t.c_zar d1 [])) p1 (.tup [.str "chapter", .ref a1]) a1=some (.ins t.c_zar d1 []):=(Same.upd hp1) _ _ Ad
  have f1:upd (upd (upd H d1 (.own a1)) a1 (.ins t.c_zar d1 [])) p1 (.tup [.str "chapter", .ref a1]) p1=some (.tup [.str "chapter", .ref a1]):=Ad
  generalize upd (upd (upd H d1 (.own a1)) a1 (.ins t.c_zar d1 [])) p1 (.tup [.str "chapter", .ref a1])=H1 at S1 e1 f1 ⊢
  refine⟨rfl,fun a2 d2 ha2 hd2 n2=>⟨(show 2<=sizeLine by decide),fun p2 hp2=>?_⟩⟩
  have S2:=(Ez (C:=t.c_zau) ha2 hd2).trans (Same.upd (o:=.tup [.str "para", .ref a2]) hp2)
  have e2:upd (upd (upd H1 d2 (.own a2)) a2 (.ins t.c_zau d2 [])) p2 (.tup [.str "para", .ref a2]) a2=some (.ins t.c_zau d2 []):=(Same.upd hp2) _ _ Ad
  have f2:upd (upd (upd H1 d2 (.own a2)) a2 (.ins t.c_zau d2 [])) p2 (.tup [.str "para", .ref a2]) p2=some (.tup [.str "para", .ref a2]):=Ad
  generalize upd (upd (upd H1 d2 (.own a2)) a2 (.ins t.c_zau d2 [])) p2 (.tup [.str "para", .ref a2])=H2 at S2 e2 f2 ⊢
  refine⟨rfl,fun a3 d3 ha3 hd3 n3=>⟨(show 2<=sizeLine by decide),fun p3 hp3=>?_⟩⟩
  have S3:=(Ez (C:=t.c_zat) ha3 hd3).trans (Same.upd (o:=.tup [.str "table", .ref a3]) hp3)
  have e3:upd (upd (upd H2 d3 (.own a3)) a3 (.ins t.c_zat d3 [])) p3 (.tup [.str "table", .ref a3]) a3=some (.ins t.c_zat d3 []):=(Same.upd hp3) _ _ Ad
  have f3:upd (upd (upd H2 d3 (.own a3)) a3 (.ins t.c_zat d3 [])) p3 (.tup [.str "table", .ref a3]) p3=some (.tup [.str "table", .ref a3]):=Ad
  generalize upd (upd (upd H2 d3 (.own a3)) a3 (.ins t.c_zat d3 [])) p3 (.tup [.str "table", .ref a3])=H3 at S3 e3 f3 ⊢
  refine⟨(show 3<=sizeLine by decide),fun l hl=>.inl ⟨⟨_,SqL.of Ad⟩,?_⟩⟩
  have S4:=Same.upd (o:=.lst [.ref p1,.ref p2,.ref p3]) hl
  have e4:upd H3 l (.lst [.ref p1,.ref p2,.ref p3]) l=some (.lst [.ref p1,.ref p2,.ref p3]):=Ad
  generalize upd H3 l (.lst [.ref p1,.ref p2,.ref p3])=H4 at S4 e4 ⊢
  have S:=((S1.trans S2).trans S3).trans S4
  have S24:=(S2.trans S3).trans S4
  have S34:=S3.trans S4
  have item:∀ (i:Nat) (x:V),[V.ref p1,.ref p2,.ref p3][i]? = some x -> ∃ p wd a d,x=.ref p/\C6 wd/\H4 p=some (.tup [.str wd,.ref a])/\H4 a=some (.ins (Bm t wd) d []):=fun i x hx=>by
   match i,hx with
   | 0,hx=>cases hx;exact⟨p1, "chapter", a1,d1,rfl,.inl rfl,S24 _ _ f1,by rw [Bp];exact S24 _ _ e1⟩
   | 1,hx=>cases hx;exact⟨p2, "para", a2,d2,rfl,.inr (.inl rfl),S34 _ _ f2,by rw [C2];exact S34 _ _ e2⟩
   | 2,hx=>cases hx;exact⟨p3, "table", a3,d3,rfl,.inr (.inr rfl),S4 _ _ f3,by rw [Ci];exact S4 _ _ e3⟩
   | n+3,hx=>cases hx
  refine B1 (Co [.ref p1,.ref p2,.ref p3]) (fun i σ H'=>Same H4 H' /\ ∃ v0 v1 v2,σ=[v0,v1,v2]) ⟨Same.refl _,_,_,_,rfl⟩ (fun i σ H' _ q=>q.1.seqL (SqL.of e4)) ?_ ?_
  ·rintro i x σ H5 hx ⟨S5,v0,v1,v2,rfl⟩
   obtain⟨p,wd,a,d,rfl,hw,hp,ha⟩:=item i x hx
   refine⟨_,SqT.of (S5 _ _ hp),rfl,?_⟩
   refine⟨wd,rfl,fun _ H6 b dx S6 hb=>?_,fun n=>absurd hw n⟩
   refine⟨(show 2<=sizeLine by decide),fun l2 hl2=>.inl ⟨⟨_,SqL.of Ad⟩,?_⟩⟩
   have S7:=Same.upd (o:=.lst [.ref a,.ref b]) hl2
   have e7:upd H6 l2 (.lst [.ref a,.ref b]) l2=some (.lst [.ref a,.ref b]):=Ad
   generalize upd H6 l2 (.lst [.ref a,.ref b])=H7 at S7 e7 ⊢
   have S57:=S6.trans S7
   have both:∀ (i:Nat) (x:V),[V.ref a,.ref b][i]? = some x -> ∃ c d,x=.ref c/\H7 c=some (.ins (Bm t wd) d []):=fun i x hx=>by
    match i,hx with
    | 0,hx=>cases hx;exact⟨a,d,rfl,S57 _ _ (S5 _ _ ha)⟩
    | 1,hx=>cases hx;exact⟨b,dx,rfl,S7 _ _ hb⟩
    | n+2,hx=>cases hx
   refine B1 (Co [.ref a,.ref b]) (fun i σ H'=>H'=H7 /\ ∃ v2,σ=[some (.str wd),some (.ref a),v2]) ⟨rfl,_,rfl⟩ (fun i σ H' _ q=>q.1▸SqL.of e7) ?_ ?_
   ·rintro j x σ H8 hx ⟨rfl,v2,rfl⟩
    obtain⟨c,dc,rfl,hc⟩:=both j x hx
    obtain⟨c1,c2,c3,_⟩:=Z.cl _ (X4 hw)
    refine .inl ⟨_,true,.of (.ins hc c1 c2 Z.hn Z.htk c3),Zc Z hw,?_⟩
    refine ag3 hw hc ?_
    show if (!decide (wd=wd))=true then _ else _
    refine La (by simp) ?_
    refine K7 hw hc ?_
    refine⟨rfl,?_⟩
    refine K7 hw hc ?_
    show if (!(decide (wd = "chapter")==decide (wd = "chapter")))=true then _ else _
    refine La (by simp) ?_
    exact⟨rfl,_,rfl⟩
   ·rintro σ H8 ⟨rfl,v2,rfl⟩
    exact .inl ⟨S5.trans S57,_,_,_,rfl⟩
  ·rintro σ H5 ⟨S5,v0,v1,v2,rfl⟩
   exact .inl (k _ (S.trans S5))
noncomputable def ctO:Ct->Option Dt
 | .txt z=>some (Bw z)
 | .tab c=>some (Bt c)
theorem ar7 {H:Hp} {c:Ct} {x:V} (h:CtAt K H c x):AtO K H (ctO c) x:=by
 cases c with
 | txt z=>cases (show x=.str z from h);exact Es (K:=K) (H:=H)
 | tab c=>exact h
theorem Sx {c:Ct} (h:c.wf):stO (ctO c)/\Wj (ctO c):=by
 cases c with
 | txt z=>exact⟨aR (show z.length<=60 from h.1) (by decide),aY⟩
 | tab c=>exact⟨aY,ag2 h⟩
theorem X8 {c:Ct} {wd:Str} (h:c.wf) (kd:Fm c=Cq wd):Fk wd (ctO c)=true:=by
 unfold Fk
 rw [<- kd]
 cases c with
 | txt z=>exact wfB_iff.mpr h
 | tab c=>exact Uj h
theorem ad4 {b:Bool} {z:Str} {c:Ct} (e:E7 b z=some c):c.wf/\Fm c=b:=by
 unfold E7 at e
 cases b with
 | true=>
  rw [if_pos rfl] at e
  obtain⟨T,eT,rfl⟩:=Option.map_eq_some_iff.mp e
  unfold E8 at eT
  obtain⟨h1,h2⟩:=Option.filter_eq_some_iff.mp eT
  exact⟨ai9 h2,rfl⟩
 | false=>
  rw [if_neg aj] at e
  split at e
  ·rename_i hw
   cases e
   exact⟨wfB_iff.mp hw,rfl⟩
  ·cases e
theorem aq3 {c:Ct} (h:c.wf):(shC c).length<=4400:=by
 cases c with
 | txt z=>exact aR (show z.length<=60 from h.1) (by decide)
 | tab c=>exact aq4 h
theorem ap7:∀ n,n<38->fw 7 ((n:Nat):Int) 2=true:=by decide +kernel
theorem ap6 {lo st:Int} {n i:Nat} {x:V} (h:(Q9 lo st n)[i]? = some x):∃ j:Nat,x=.int (lo+(j:Int) * st):=by
 unfold Q9 at h
 rw [aI] at h
 obtain⟨j,_,rfl⟩:=Option.map_eq_some_iff.mp h
 exact⟨j,rfl⟩
noncomputable def ls6 (K:aa) (t:Adr):DS:=(Ai (dIf (Ar (Af (D8 true) (De "fits" 1 (Bz K t) (Ac 3) (Aa (Ac 6) Ag)) (dC (.bl false)))) (Ai (An (dC (.bl false)))
   Ah) Ah)
  (Ai (Au 7 (De "shown" 1 (Do K t) (Ac 3) (Aa (Ac 4) Ag)))
  (Ai (dIf (dOr (Hx (Fh K (dFn (fun vs H Q _=>(Kj K) vs H Q) (Aa (Ac 7) (Aa (dC (.ty "str")) Ag))))) (dOr (Ar (Af (A6 K true) (Ac 7) (dFn (spE (M9 K t) []) (Aa (Ac 2) (Aa (Ac 4) Ag))))) (Ar (Af (A6 K true) (De "read_shown" 1 (A3 K t) (Ac 3) (Aa (Ac 7) Ag)) (Ac 4))))) (Ai (An (dC (.bl false)))
   Ah) Ah)
  (Ai (Dx (Ke (Aa (dC (.int 7)) (Aa (dFn (fun vs H Q _=>ac5 vs H Q) (Aa (dC (.int 9)) (Aa (dFn (fun vs H Q _=>ac6 vs H Q) (Aa (Af ac9 (dFn (fun vs H Q _=>(D9 K) vs H Q) (Aa (Ac 0) Ag)) (dC (.int 1))) (Aa (dC (.int 37)) Ag))) Ag))) (Aa (dC (.int 2)) Ag)))) (gdN 8) (Ai (Au 9 (dFn (spE (Uc K t) []) (Aa (Ac 7) (Aa (dFn (spE (Dg K t) []) (Aa (Ac 0) (Aa (Ac 8) Ag))) (Aa (dFn (spE (Dg K t) []) (Aa (Ac 0) (Aa (Af (As K) (Ac 8) (dC (.int 1))) Ag))) Ag)))))
   (Ai (Au 10 (dFn (spE (Nc K t) []) (Aa (Ac 2) (Aa (Ac 9) Ag))))
   (Ai (Au 11 (De "read_shown" 1 (A3 K t) (Ac 3) (Aa (Ac 9) Ag)))
   (Ai (dIf (dOr (Hw (Ar (Af (D8 false) (Ac 10) (dC .non))) (Ar (Af (D8 true) (Ac 11) (dC .non)))) (Hw (Ar (Af (D8 true) (Ac 10) (dC .non))) (Ar (Af (A6 K true) (Ac 11) (Ac 10))))) (Ai (An (dC (.bl false)))
    Ah) Ah)
   (Ai (dIf (Hw (Ar (Af (D8 true) (Ac 11) (dC .non))) (Ar (Af (D8 true) (De "fits" 1 (Bz K t) (Ac 3) (Aa (Ac 11) Ag)) (dC (.bl true))))) (Ai (An (dC (.bl false)))
    Ah) Ah)
   Ah))))))
  Ah))))
theorem Zi {D:Pn} {H:Hp} {a ka dx:Addr} {ns:List Int} {i:Int} {wd:Str} {x4 x5 v6:V} {ct:Ct} {o6:Option Dt} {v7 v8 v9 va vb:Option V} (hS:SqL K H a (ns.map V.int)) (hn:ns.length<=63) (hw:C6 wd) (hk:H ka=some (.ins (Bm t wd) dx [])) (hx:CtAt K H ct x4) (wf:ct.wf) (kd:Fm ct=Cq wd)
  (h6:AtO K H o6 v6) (s1:stO o6) (s2:Wj o6) (f6:Fk wd o6=false)
  (kx:∀ v7 v8 v9 va vb H',Same H H'->D.nx [some (.ref a),some (.int i),some (.str wd),some (.ref ka),some x4,some x5,some v6,v7,v8,v9,va,vb] H'):ls6 K t D [some (.ref a),some (.int i),some (.str wd),some (.ref ka),some x4,some x5,some v6,v7,v8,v9,va,vb] H:=by
 refine Fl hw hk h6 s1 s2 fun H1 S1=>?_
 rw [f6]
 refine Wi hw (S1 _ _ hk) (hx.up S1) wf kd fun H2 S2=>?_
 have S02:=S1.trans S2
 refine⟨rfl,?_⟩
 refine⟨wd,x4,ct,rfl,hx.up S02,wf,kd,fun H3 S3=>?_⟩
 have S03:=S02.trans S3
 show if (!decide (shC ct=shC ct))=true then _ else _
 refine La (by simp) ?_
 have lz:=aq3 wf
 refine O6 hw (S03 _ _ hk) (show (shC ct).length<=9000 by omega) fun H4 y S4 hy=>?_
 have S04:=S03.trans S4
 rw [<- kd,Wc wf] at hy
 refine as2 (neg:=true) (show CtAt K H4 ct y from hy) (hx.up S04) rfl ?_
 show if (!decide (ct=ct))=true then _ else _
 refine La (by simp) ?_
 have q4:=S04.seqL hS
 refine .inl ⟨_,.inl q4,?_⟩
 rw [al]
 have fit:fw 7 (if (if (37:Int)<(ns.length:Int) - 1 then (37:Int) else (ns.length:Int) - 1) > 9 then (if (37:Int)<(ns.length:Int) - 1 then (37:Int) else (ns.length:Int) - 1) else 9) 2=true:=by
  generalize hN:(if (if (37:Int)<(ns.length:Int) - 1 then (37:Int) else (ns.length:Int) - 1) > 9 then (if (37:Int)<(ns.length:Int) - 1 then (37:Int) else (ns.length:Int) - 1) else 9)=N
  have hN2:9<=N/\N<=37:=by
   rw [<- hN]
   split <;> (try split) <;> omega
  have:=ap7 N.toNat (by omega)
  rwa [show ((N.toNat:Nat):Int)=N by omega] at this
 refine⟨⟨fit,by decide,by decide⟩,?_⟩
 refine B1 (ar1 7 2 _) (fun i' σ H'=>(∃ v8 v9 va vb,σ=[some (.ref a),some (.int i),some (.str wd),some (.ref ka),some x4,some x5,some v6,some (.str (shC ct)),v8,v9,va,vb])/\Same H4 H') ⟨⟨_,_,_,_,rfl⟩,Same.refl _⟩ (fun _ _ _ _ _=>aY) ?_ ?_
 ·rintro i' x σ H5 hxj ⟨⟨v8,v9,va,vb,rfl⟩,S5⟩
  obtain⟨j,rfl⟩:=ap6 hxj
  have q5:=S5.seqL q4
  have cj:(7:Int)+((j:Nat):Int) * 2=((7+j * 2:Nat):Int):=by omega
  have cj1:(7:Int)+((j:Nat):Int) * 2+1=((7+j * 2+1:Nat):Int):=by omega
  refine⟨a,ns,7+j * 2,by rw [cj];rfl,q5,fun c1=>⟨a,ns,7+j * 2+1,by rw [cj1];rfl,q5,fun c2=>?_⟩⟩
  refine⟨shC ct,c1,c2,rfl,lz,fun H6 z S6 hz=>?_⟩
  refine⟨wd,z,rfl,hz,fun H7 xd S7 hd=>?_⟩
  have S57:=S6.trans S7
  have S07:=S04.trans (S5.trans S57)
  refine O6 hw (S07 _ _ hk) hz fun H8 xf S8 hf=>?_
  have S48:=S5.trans (S57.trans S8)
  have S08:=S04.trans S48
  cases er:E7 (Cq wd) z with
  | none=>
   rw [er] at hd hf
   cases (show xd=.non from hd)
   cases (show xf=.non from hf)
   exact⟨⟨_,_,_,_,rfl⟩,S48⟩
  | some c=>
   rw [er] at hd hf
   obtain⟨wc,kc⟩:=ad4 er
   have hd:CtAt K H8 c xd:=(show CtAt K H7 c xd from hd).up S8
   have hf:CtAt K H8 c xf:=hf
   have nn:∀ x,CtAt K H8 c x->decide (x=V.non)=false:=fun x hx=>by
    cases c with
    | txt z=>cases (show x=.str z from hx);exact decide_eq_false (by intro e;cases e)
    | tab c=>obtain⟨p,_,rfl,_⟩:=B7 (show At K H8 (.tup (c.map Cd)) x from hx);exact decide_eq_false (by intro e;cases e)
   show if decide (xd=V.non)=true then _ else _
   refine La (nn _ hd) ?_
   show if (!decide (xd=V.non))=true then _ else _
   refine at8 (by rw [nn _ hd];rfl) ?_
   refine as2 (neg:=true) hf hd rfl ?_
   show if (!decide (c=c))=true then _ else _
   refine La (by simp) ?_
   show if (!decide (xf=V.non))=true then _ else _
   refine at8 (by rw [nn _ hf];rfl) ?_
   refine Fl hw (S08 _ _ hk) (ar7 hf) (Sx wc).1 (Sx wc).2 fun H9 S9=>?_
   rw [X8 wc kc]
   exact⟨⟨_,_,_,_,rfl⟩,S48.trans S9⟩
 ·rintro σ H5 ⟨⟨v8,v9,va,vb,rfl⟩,S5⟩
  exact .inl (kx _ _ _ _ _ _ (S04.trans S5))
noncomputable def J0:List V:=[.str "chapter", .str "para", .str "table"]
theorem af1 {i:Nat} {x y:V} (h:(Ib 0 J0)[i]? = some (x,y)):∃ wd,x=.int (i:Int)/\y=.str wd/\C6 wd:=by
 match i,h with
 | 0,h=>cases h;exact⟨_,rfl,rfl,.inl rfl⟩
 | 1,h=>cases h;exact⟨_,rfl,rfl,.inr (.inl rfl)⟩
 | 2,h=>cases h;exact⟨_,rfl,rfl,.inr (.inr rfl)⟩
 | n+3,h=>cases h
noncomputable def Va:List V:=[.str "", .str "chapters", .str "Para", .str "kind", .str " table"]
theorem aj0 {i:Nat} {x:V} (h:Va[i]? = some x):∃ wd,x=.str wd /\ ¬ C6 wd:=by
 have no:∀ wd:Str,decide (wd = "chapter")=false->decide (wd = "para")=false->decide (wd = "table")=false -> ¬ C6 wd:=fun wd a b c h=>by
  rcases h with h|h|h
  ·exact of_decide_eq_false a h
  ·exact of_decide_eq_false b h
  ·exact of_decide_eq_false c h
 match i,h with
 | 0,h=>cases h;exact⟨_,rfl,no _ (by decide) (by decide) (by decide)⟩
 | 1,h=>cases h;exact⟨_,rfl,no _ (by decide) (by decide) (by decide)⟩
 | 2,h=>cases h;exact⟨_,rfl,no _ (by decide) (by decide) (by decide)⟩
 | 3,h=>cases h;exact⟨_,rfl,no _ (by decide) (by decide) (by decide)⟩
 | 4,h=>cases h;exact⟨_,rfl,no _ (by decide) (by decide) (by decide)⟩
 | n+5,h=>cases h
theorem a40 {f:Addr} {fd:aE} (Z:Aw K t) (F:FunD K "law" "law" Dq f fd .none) (T:Tab P w K mg base 5 (a15 K t) bl):FnOk P w K mg base CX0 6 f fd Nv (Nf K t):=by
 refine F.okW0 bd1 bf6 T (bb6 K t) (fun vs H Q E h=>?_) (fun vs H Q E h=>?_)
 ·obtain⟨a,ns,rfl,_⟩:=h;rfl
 ·obtain⟨a,ns,rfl,hS,hn,k⟩:=h
  refine⟨rfl,fun H0 S0=>?_⟩
  refine⟨(show 3<=sizeLine by decide),fun p0 hp0=>.inl ⟨⟨_,SqL.of Ad⟩,?_⟩⟩
  have S1:=S0.trans (Same.upd (o:=.lst J0) hp0)
  have e1:upd H0 p0 (.lst J0) p0=some (.lst J0):=Ad
  show Wx (Ite K p0) _ _ _ _ (upd H0 p0 (.lst J0))
  generalize upd H0 p0 (.lst J0)=H1 at S1 e1 ⊢
  have hS1:=S1.seqL hS
  refine aj1 (ar0 J0) (fun i σ H'=>(∃ v1 v2 v3 v4 v5 v6 v7 v8 v9 va vb,σ=[some (.ref a),v1,v2,v3,v4,v5,v6,v7,v8,v9,va,vb])/\Same H1 H') ⟨⟨_,_,_,_,_,_,_,_,_,_,_,rfl⟩,Same.refl _⟩ (fun i σ H' _ q=>q.2.seqL (SqL.of e1)) ?_ ?_
  ·rintro i x y T σ H2 hxy hT ⟨⟨v1,v2,v3,v4,v5,v6,v7,v8,v9,va,vb,rfl⟩,S2⟩
   obtain⟨wd,rfl,rfl,hw⟩:=af1 hxy
   refine⟨_,SqT.of Ad,rfl,?_⟩
   have S3:=S2.trans (Same.upd (o:=.tup [.int (i:Int),.str wd]) hT)
   generalize upd H2 T (.tup [.int (i:Int),.str wd])=H3 at S3 ⊢
   refine⟨wd,rfl,fun _ H4 ka dx S4 hk=>?_,fun n=>absurd hw n⟩
   have S04:=S3.trans S4
   refine⟨a,ns,i,rfl,S04.seqL hS1,fun c1=>⟨wd,c1,rfl,fun ct H5 x5 S5 wf kd hx=>?_⟩⟩
   have S05:=S04.trans S5
   have e3:[V.ref a,.int (3+(i:Int))]=[.ref a,.int ((3+i:Nat):Int)]:=by congr 3
   refine⟨a,ns,3+i,e3,S05.seqL hS1,fun c2=>⟨c2,rfl,fun H6 x6 o S6 ha st1 st2 tx ft=>?_⟩⟩
   have S06:=S05.trans S6
   have S46:=S5.trans S6
   have hx6:=hx.up S6
   refine Fl hw (S46 _ _ hk) (ar7 hx6) (Sx wf).1 (Sx wf).2 fun H7 S7=>?_
   rw [X8 wf kd]
   have S47:=S46.trans S7
   refine Fl hw (S47 _ _ hk) (ha.up S7) st1 st2 fun H8 S8=>?_
   have ff:Fk wd o=false:=by unfold Fk;split;exact ft;exact tx
   rw [ff]
   have S48:=S47.trans S8
   have S08:=S04.trans S48
   have hx8:=(hx6.up S7).up S8
   refine⟨a,ns,6,rfl,S08.seqL hS1,fun c3=>⟨c3,rfl,fun tb H9 x9 S9 wt h9=>?_⟩⟩
   have S49:=S48.trans S9
   have S09:=S08.trans S9
   refine A5 (c:=decide (wd = "table")=true) (fun e=>?_) (fun e=>?_)
   ·refine⟨a,ns,6,rfl,S09.seqL hS1,fun c4=>⟨c4,rfl,fun z Ha Sa wz=>?_⟩⟩
    have S0a:=S09.trans Sa
    refine Zi (o6:=some (Bw z)) (S0a.seqL hS1) hn hw ((S49.trans Sa) _ _ hk) ((hx8.up S9).up Sa) wf kd (Es (K:=K) (H:=Ha)) (aR (show z.length<=60 from wz.1) (by decide)) aY ?_ fun v7 v8 v9 va vb H' S=>⟨⟨_,_,_,_,_,_,_,_,_,_,_,rfl⟩,S0a.trans S⟩
    unfold Fk Cq
    rw [e]
    rfl
   ·have e':decide (wd = "table")=false:=by simpa using e
    refine Zi (o6:=some (Bt tb)) (S09.seqL hS1) hn hw (S49 _ _ hk) (hx8.up S9) wf kd h9 aY (ag2 wt) ?_ fun v7 v8 v9 va vb H' S=>⟨⟨_,_,_,_,_,_,_,_,_,_,_,rfl⟩,S09.trans S⟩
    unfold Fk Cq
    rw [e']
    rfl
  ·rintro σ H2 ⟨⟨v1,v2,v3,v4,v5,v6,v7,v8,v9,va,vb,rfl⟩,S2⟩
   refine .inl ⟨(show 5<=sizeLine by decide),fun p1 hp1=>.inl ⟨⟨_,SqL.of Ad⟩,?_⟩⟩
   have e2:upd H2 p1 (.lst Va) p1=some (.lst Va):=Ad
   show Wx (Itl K p1) _ _ _ _ (upd H2 p1 (.lst Va))
   generalize upd H2 p1 (.lst Va)=H3 at e2 ⊢
   refine B1 (Co Va) (fun i σ H'=>(∃ v1 v2 v3 v4 v5 v6 v7 v8 v9 va vb,σ=[some (.ref a),v1,v2,v3,v4,v5,v6,v7,v8,v9,va,vb])/\Same H3 H') ⟨⟨_,_,_,_,_,_,_,_,_,_,_,rfl⟩,Same.refl _⟩ (fun i σ H' _ q=>q.2.seqL (SqL.of e2)) ?_ ?_
   ·rintro i x σ H4 hx ⟨⟨v1,v2,v3,v4,v5,v6,v7,v8,v9,va,vb,rfl⟩,S4⟩
    obtain⟨wd,rfl,hw⟩:=aj0 hx
    exact⟨wd,rfl,fun h=>absurd h hw,fun _ H5 S5=>⟨⟨_,_,_,_,_,_,_,_,_,_,_,rfl⟩,S4.trans S5⟩⟩
   ·rintro σ H4 _
    exact .inl (k _)
end
structure ar3 (K:aa) (mg:Str->Option Value) (t:Adr):Prop where
 g_zs:DOk K mg "has_length" Rv t.f_zs t.d_zs Xr
 g_zi:DOk K mg "is_text_sign" Rl t.f_zi t.d_zi Xh
 g_zah:DOk K mg "is_text" Jt t.f_zah t.d_zah Nr
 g_zy:MOk K "fits" "Kind.fits" R5 t.f_zy t.d_zy Xx
 g_zp:MOk K "shown" "Kind.shown" Rs t.f_zp t.d_zp Xo
 g_zm:DOk K mg "is_tuple_of" Rp t.f_zm t.d_zm Xl
 g_zaj:DOk K mg "is_row" Jv t.f_zaj t.d_zaj Nu
 g_zq:MOk K "fits" "Table.fits" Rt t.f_zq t.d_zq Xp
 g_zb:MOk K "read_shown" "Kind.read_shown" Re t.f_zb t.d_zb Xa
 g_zx:DOk K mg "shown_cell" R3 t.f_zx t.d_zx Xw
 g_zac:DOk K mg "shown_row" Jo t.f_zac t.d_zac Nm
 g_zl:MOk K "shown" "Table.shown" Ro t.f_zl t.d_zl Xk
 g_zk:DOk K mg "row_of_signs" Rn t.f_zk t.d_zk Xj
 g_zw:DOk K mg "read_table" R1 t.f_zw t.d_zw Xv
 g_za:MOk K "read_shown" "Table.read_shown" Rc t.f_za t.d_za W9
 g_zh:MOk K "word" "Chapter.word" Rk t.f_zh t.d_zh Xg
 g_zz:MOk K "word" "Para.word" R6 t.f_zz t.d_zz Xy
 g_zr:MOk K "word" "Table.word" Ru t.f_zr t.d_zr Xq
 g_zj:DOk K mg "kind_of_word" Rm t.f_zj t.d_zj Xi
 g_zad:DOk K mg "_law_cell" Jp t.f_zad t.d_zad Nn
 g_zv:DOk K mg "_law_stream" Rz t.f_zv t.d_zv Xu
 g_zag:DOk K mg "_law_text" Js t.f_zag t.d_zag Nq
 g_zab:DOk K mg "_law_table" Jn t.f_zab t.d_zab Nl
 g_zae:DOk K mg "_law_next" Jq t.f_zae t.d_zae No
 g_zt:DOk K mg "_law_digits" Rx t.f_zt t.d_zt Xs
 g_zn:DOk K mg "_law_content" Rq t.f_zn t.d_zn Xm
 g_zc:DOk K mg "_law_cell_shown" Rf t.f_zc t.d_zc Xb
 g_zaa:DOk K mg "_law_shown" Jm t.f_zaa t.d_zaa Nk
 g_zg:DOk K mg "_law_texts_fit" Rj t.f_zg t.d_zg Xf
 g_zf:DOk K mg "_law_read_rows" Ri t.f_zf t.d_zf Xe
 g_zaf:DOk K mg "_law_read" Jr t.f_zaf t.d_zaf Np
 g_zu:DOk K mg "_law_spoilt" Ry t.f_zu t.d_zu Xt
 g_zai:DOk K mg "_law_odd" Ju t.f_zai t.d_zai Nt
 g_zo:MOk K "holds" "Kind.holds" Rr t.f_zo t.d_zo Xn
 g_ze:MOk K "holds" "Chapter.holds" Rh t.f_ze t.d_ze Xd
 g_zd:DOk K mg "_law_kinds_good" Rg t.f_zd t.d_zd Xc
 F_zak:FunD K "law" "law" Dq t.f_zak t.d_zak .none
 b_zak:∀ j,j<=0->Binds K t.d_zak Nv (([]:List Value).drop j)
 w_zak:Vals [] ([]:List Value)
 m_zak:mg "law" = some (.ref t.f_zak)
 at_zar:mg "Chapter" = some (.ref t.c_zar)
 kp_zar:aU K (.ref t.c_zar)=true
 mk_zar:bX K t.c_zar=true
 in_zar:aw K (.ref t.c_zar) "__init__" = some (some (.builtin "object.__init__"))
 cl_zar:Cls K t.c_zar
 at_zau:mg "Para" = some (.ref t.c_zau)
 kp_zau:aU K (.ref t.c_zau)=true
 mk_zau:bX K t.c_zau=true
 in_zau:aw K (.ref t.c_zau) "__init__" = some (some (.builtin "object.__init__"))
 cl_zau:Cls K t.c_zau
 at_zat:mg "Table" = some (.ref t.c_zat)
 kp_zat:aU K (.ref t.c_zat)=true
 mk_zat:bX K t.c_zat=true
 in_zat:aw K (.ref t.c_zat) "__init__" = some (some (.builtin "object.__init__"))
 cl_zat:Cls K t.c_zat
 at_Kind:mg "Kind" = some (.ref t.c_Kind)
 mt_Chapter_fits:Dh K t.c_zar "fits" t.f_zy
 mt_Para_fits:Dh K t.c_zau "fits" t.f_zy
 mt_zq:Dh K t.c_zat "fits" t.f_zq
 mt_ze:Dh K t.c_zar "holds" t.f_ze
 mt_Para_holds:Dh K t.c_zau "holds" t.f_zo
 mt_Table_holds:Dh K t.c_zat "holds" t.f_zo
 mt_Chapter_read_shown:Dh K t.c_zar "read_shown" t.f_zb
 mt_Para_read_shown:Dh K t.c_zau "read_shown" t.f_zb
 mt_za:Dh K t.c_zat "read_shown" t.f_za
 mt_Chapter_shown:Dh K t.c_zar "shown" t.f_zp
 mt_Para_shown:Dh K t.c_zau "shown" t.f_zp
 mt_zl:Dh K t.c_zat "shown" t.f_zl
 mt_zh:Dh K t.c_zar "word" t.f_zh
 mt_zz:Dh K t.c_zau "word" t.f_zz
 mt_zr:Dh K t.c_zat "word" t.f_zr
 v_zal:mg "LONGEST_TEXT" = some t.u_zal
 r_zal:RelV (.int 60) t.u_zal
 v_zam:mg "PERCENT_SIGN" = some t.u_zam
 r_zam:RelV (.int 37) t.u_zam
 v_zap:mg "MOST_ROWS" = some t.u_zap
 r_zap:RelV (.int 6) t.u_zap
 v_zan:mg "MOST_CELLS" = some t.u_zan
 r_zan:RelV (.int 6) t.u_zan
 v_zaq:mg "ROW_SIGN" = some t.u_zaq
 r_zaq:RelV (.str "/") t.u_zaq
 v_zao:mg "CELL_SIGN" = some t.u_zao
 r_zao:RelV (.str "|") t.u_zao
 v_zas:mg "STROKE" = some t.u_zas
 r_zas:RelV (.str "\\") t.u_zas
 k_zaq:RelV (.stk "/" t.n_zaq true) t.u_zaq
 k_zao:RelV (.stk "|" t.n_zao true) t.u_zao
 k_zas:RelV (.stk "\\" t.n_zas true) t.u_zas
 z:∀ x∈bl,mg x=none
 Z:Aw K t
theorem a28 {P:aO} {w:bM} {K:aa} {mg:Str->Option Value} {base:Heap} {t:Adr} (A:ar3 K mg t):FnOk P w K mg base CX0 6 t.f_zak t.d_zak Nv (Nf K t):=by
 have T0:Tab P w K mg base 0 (Bk K t) bl:=(((((((((((Tab.nil A.z).consV A.v_zas A.r_zas).consV A.v_zao A.r_zao).consV A.v_zaq A.r_zaq).consV A.v_zan A.r_zan).consV A.v_zap A.r_zap).consV A.v_zam A.r_zam).consV A.v_zal A.r_zal).consV (v:=.ref t.c_Kind) A.at_Kind rfl).consC (oi:=none) ⟨A.at_zat,A.kp_zat,A.mk_zat,A.in_zat⟩).consC (oi:=none) ⟨A.at_zau,A.kp_zau,A.mk_zau,A.in_zau⟩).consC (oi:=none) ⟨A.at_zar,A.kp_zar,A.mk_zar,A.in_zar⟩
 have T1:Tab P w K mg base 1 (D6 K t) bl:=(((((((((((((((T0.mono (show 0<=1 by decide)).con (at6 K t) A.g_zai (a38 (t:=t) A.Z A.g_zai.F T0)).con (bi5 K t) A.g_zu (bl2 (t:=t) A.Z A.g_zu.F T0)).con (bh6 K t) A.g_zf (bj9 (t:=t) A.Z A.g_zf.F T0)).con (bh7 K t) A.g_zg (bk0 (t:=t) A.Z A.g_zg.F T0)).con (bh4 K t) A.g_zc (bj6 (t:=t) A.Z A.g_zc.F T0)).con (as9 K t) A.g_zae (a34 (t:=t) A.Z A.g_zae.F T0)).con (bi6 K t) A.g_zv (bl3 (t:=t) A.Z A.g_zv.F T0)).con (as8 K t) A.g_zad (a33 (t:=t) A.Z A.g_zad.F T0)).con (bi0 K t) A.g_zk (bk4 (t:=t) A.Z A.g_zk.F T0)).con (bi8 K t) A.g_zx (bl5 (t:=t) A.Z A.g_zx.F (((T0.consV A.v_zaq A.k_zaq).consV A.v_zao A.k_zao).consV A.v_zas A.k_zas))).con (bi1 K t) A.g_zm (bk6 (t:=t) A.Z A.g_zm.F T0)).con (bh8 K t) A.g_zi (bk2 (t:=t) A.Z A.g_zi.F T0)).con (bi3 K t) A.g_zs (bl0 (t:=t) A.Z A.g_zs.F T0)).consM (m := "word") (l:=Ew K t) (fun mi hm=>by
  simp only [Ew,aC,bT,or_false] at hm
  rcases hm with rfl|rfl|rfl
  ·exact⟨A.cl_zar,A.mt_zh,A.g_zh.fi (aj5 K t) (bk1 (t:=t) A.Z A.g_zh.F T0)⟩
  ·exact⟨A.cl_zau,A.mt_zz,A.g_zz.fi (aj7 K t) (bl6 (t:=t) A.Z A.g_zz.F T0)⟩
  ·exact⟨A.cl_zat,A.mt_zr,A.g_zr.fi (aj6 K t) (bk9 (t:=t) A.Z A.g_zr.F T0)⟩)).consM (m := "holds") (l:=Dn K t) (fun mi hm=>by
  simp only [Dn,aC,bT,or_false] at hm
  rcases hm with rfl|rfl|rfl
  ·exact⟨A.cl_zar,A.mt_ze,A.g_ze.fi (a18 K t) (bj8 (t:=t) A.Z A.g_ze.F T0)⟩
  ·exact⟨A.cl_zau,A.mt_Para_holds,A.g_zo.fi (Vi K t) (au1 (t:=t) A.Z A.g_zo.F T0)⟩
  ·exact⟨A.cl_zat,A.mt_Table_holds,A.g_zo.fi (Vi K t) (au1 (t:=t) A.Z A.g_zo.F T0)⟩)
 have T2:Tab P w K mg base 2 (G7 K t) bl:=((((((((T1.mono (show 1<=2 by decide)).con (at0 K t) A.g_zaf (a35 (t:=t) A.Z A.g_zaf.F T1)).con (as5 K t) A.g_zaa (a30 (t:=t) A.Z A.g_zaa.F T1)).con (bi4 K t) A.g_zt (bl1 (t:=t) A.Z A.g_zt.F T1)).con (at4 K t) A.g_zag (a36 (t:=t) A.Z A.g_zag.F T1)).con (bh9 K t) A.g_zj (bk3 (t:=t) A.Z A.g_zj.F T1)).con (bi7 K t) A.g_zw (bl4 (t:=t) A.Z A.g_zw.F T1)).con (as7 K t) A.g_zac (a32 (t:=t) A.Z A.g_zac.F T1)).con (at5 K t) A.g_zah (a37 (t:=t) A.Z A.g_zah.F T1)
 have T3:Tab P w K mg base 3 (Vb K t) bl:=((((T2.mono (show 2<=3 by decide)).con (bh5 K t) A.g_zd (bj7 (t:=t) A.Z A.g_zd.F T2)).con (as6 K t) A.g_zab (a31 (t:=t) A.Z A.g_zab.F T2)).con (at7 K t) A.g_zaj (a39 (t:=t) A.Z A.g_zaj.F T2)).consM (m := "shown") (l:=Do K t) (fun mi hm=>by
  simp only [Do,aC,bT,or_false] at hm
  rcases hm with rfl|rfl|rfl
  ·exact⟨A.cl_zar,A.mt_Chapter_shown,A.g_zp.fi (Vj K t) (au2 (t:=t) A.Z A.g_zp.F T0)⟩
  ·exact⟨A.cl_zau,A.mt_Para_shown,A.g_zp.fi (Vj K t) (au2 (t:=t) A.Z A.g_zp.F T0)⟩
  ·exact⟨A.cl_zat,A.mt_zl,A.g_zl.fi (a19 K t) (bk5 (t:=t) A.Z A.g_zl.F T2)⟩)
 have T4:Tab P w K mg base 4 (Vc K t) bl:=((T3.mono (show 3<=4 by decide)).con (bi2 K t) A.g_zn (bk7 (t:=t) A.Z A.g_zn.F T3)).consM (m := "fits") (l:=Bz K t) (fun mi hm=>by
  simp only [Bz,aC,bT,or_false] at hm
  rcases hm with rfl|rfl|rfl
  ·exact⟨A.cl_zar,A.mt_Chapter_fits,A.g_zy.fi (Oe K t) (au3 (t:=t) A.Z A.g_zy.F T2)⟩
  ·exact⟨A.cl_zau,A.mt_Para_fits,A.g_zy.fi (Oe K t) (au3 (t:=t) A.Z A.g_zy.F T2)⟩
  ·exact⟨A.cl_zat,A.mt_zq,A.g_zq.fi (Y9 K t) (bk8 (t:=t) A.Z A.g_zq.F T3)⟩)
 have T5:Tab P w K mg base 5 (a15 K t) bl:=(T4.mono (show 4<=5 by decide)).consM (m := "read_shown") (l:=A3 K t) (fun mi hm=>by
  simp only [A3,aC,bT,or_false] at hm
  rcases hm with rfl|rfl|rfl
  ·exact⟨A.cl_zar,A.mt_Chapter_read_shown,A.g_zb.fi (Vh K t) (au0 (t:=t) A.Z A.g_zb.F T4)⟩
  ·exact⟨A.cl_zau,A.mt_Para_read_shown,A.g_zb.fi (Vh K t) (au0 (t:=t) A.Z A.g_zb.F T4)⟩
  ·exact⟨A.cl_zat,A.mt_za,A.g_za.fi (a17 K t) (bj5 (t:=t) A.Z A.g_za.F T4)⟩)
 exact a40 (t:=t) A.Z A.F_zak T5
@[elab_as_elim] theorem Dm {P:List Value->Prop} (h:∀ a,P [a]):∀ us:List Value,us.length=1->P us
 | [a],_=>h a
@[elab_as_elim] theorem Fn {P:List Value->Prop} (h:∀ a b,P [a,b]):∀ us:List Value,us.length=2->P us
 | [a,b],_=>h a b
@[elab_as_elim] theorem bj0 {P:List Value->Prop} (h:∀ a b c,P [a,b,c]):∀ us:List Value,us.length=3->P us
 | [a,b,c],_=>h a b c
theorem all_mk {l:PySem.W.OpenLaw} {w:bM} {K:aa} {h:Heap} {mg:Str->Option Value} {fa f_zs f_zi f_zah f_zy f_zp f_zm f_zaj f_zq f_zb f_zx f_zac f_zl f_zk f_zw f_za f_zh f_zz f_zr f_zj f_zad f_zv f_zag f_zab f_zae f_zt f_zn f_zc f_zaa f_zg f_zf f_zaf f_zu f_zai f_zo f_ze f_zd f_zak c_zar c_zau c_zat c_Kind:Addr} (X:K.In h) (G:h.Ns aM mg) (hfa:mg "law" = some (.ref fa))
  {od_zak an_zak:Option Addr} {sl_zak:Array (Option Value)}
  {oc_zak kV_zak dc_zak pm_zak cd_zak ct_zak:Value}
  {u_zal u_zam u_zap u_zan u_zaq u_zao u_zas:Value}
  {n_zaq n_zao n_zas:Nat}
  (a_zar:aW K aM "Chapter" = some (some (.ref c_zar)))
  (a_zau:aW K aM "Para" = some (some (.ref c_zau)))
  (a_zat:aW K aM "Table" = some (some (.ref c_zat)))
  (in_zar:aw K (.ref c_zar) "__init__" = some (some (.builtin "object.__init__")))
  (kp_zar:aU K (.ref c_zar)=true)
  (mk_zar:bX K c_zar=true)
  (pg_zar:dQ K c_zar kP=true)
  (hd_zar:eg K c_zar=true)
  (po_zar:e9 K c_zar=true)
  (sa_zar:aw K (.ref c_zar) "__setattr__" = some (some (.builtin "object.__setattr__")))
  (in_zau:aw K (.ref c_zau) "__init__" = some (some (.builtin "object.__init__")))
  (kp_zau:aU K (.ref c_zau)=true)
  (mk_zau:bX K c_zau=true)
  (pg_zau:dQ K c_zau kP=true)
  (hd_zau:eg K c_zau=true)
  (po_zau:e9 K c_zau=true)
  (sa_zau:aw K (.ref c_zau) "__setattr__" = some (some (.builtin "object.__setattr__")))
  (in_zat:aw K (.ref c_zat) "__init__" = some (some (.builtin "object.__init__")))
  (kp_zat:aU K (.ref c_zat)=true)
  (mk_zat:bX K c_zat=true)
  (pg_zat:dQ K c_zat kP=true)
  (hd_zat:eg K c_zat=true)
  (po_zat:e9 K c_zat=true)
  (sa_zat:aw K (.ref c_zat) "__setattr__" = some (some (.builtin "object.__setattr__")))
  (a_Kind:aW K aM "Kind" = some (some (.ref c_Kind)))
  (mt_Chapter_fits:aw K (.ref c_zar) "fits" = some (some (.ref f_zy)))
  (mt_Para_fits:aw K (.ref c_zau) "fits" = some (some (.ref f_zy)))
  (mt_zq:aw K (.ref c_zat) "fits" = some (some (.ref f_zq)))
  (mt_ze:aw K (.ref c_zar) "holds" = some (some (.ref f_ze)))
  (mt_Para_holds:aw K (.ref c_zau) "holds" = some (some (.ref f_zo)))
  (mt_Table_holds:aw K (.ref c_zat) "holds" = some (some (.ref f_zo)))
  (mt_Chapter_read_shown:aw K (.ref c_zar) "read_shown" = some (some (.ref f_zb)))
  (mt_Para_read_shown:aw K (.ref c_zau) "read_shown" = some (some (.ref f_zb)))
  (mt_za:aw K (.ref c_zat) "read_shown" = some (some (.ref f_za)))
  (mt_Chapter_shown:aw K (.ref c_zar) "shown" = some (some (.ref f_zp)))
  (mt_Para_shown:aw K (.ref c_zau) "shown" = some (some (.ref f_zp)))
  (mt_zl:aw K (.ref c_zat) "shown" = some (some (.ref f_zl)))
  (mt_zh:aw K (.ref c_zar) "word" = some (some (.ref f_zh)))
  (mt_zz:aw K (.ref c_zau) "word" = some (some (.ref f_zz)))
  (mt_zr:aw K (.ref c_zat) "word" = some (some (.ref f_zr)))
  (q_zs:TopD K "has_length" Rv f_zs)
  (q_zi:TopD K "is_text_sign" Rl f_zi)
  (q_zah:TopD K "is_text" Jt f_zah)
  (q_zy:MetD K "fits" "Kind.fits" R5 f_zy)
  (q_zp:MetD K "shown" "Kind.shown" Rs f_zp)
  (q_zm:TopD K "is_tuple_of" Rp f_zm)
  (q_zaj:TopD K "is_row" Jv f_zaj)
  (q_zq:MetD K "fits" "Table.fits" Rt f_zq)
  (q_zb:MetD K "read_shown" "Kind.read_shown" Re f_zb)
  (q_zx:TopD K "shown_cell" R3 f_zx)
  (q_zac:TopD K "shown_row" Jo f_zac)
  (q_zl:MetD K "shown" "Table.shown" Ro f_zl)
  (q_zk:TopD K "row_of_signs" Rn f_zk)
  (q_zw:TopD K "read_table" R1 f_zw)
  (q_za:MetD K "read_shown" "Table.read_shown" Rc f_za)
  (q_zh:MetD K "word" "Chapter.word" Rk f_zh)
  (q_zz:MetD K "word" "Para.word" R6 f_zz)
  (q_zr:MetD K "word" "Table.word" Ru f_zr)
  (q_zj:TopD K "kind_of_word" Rm f_zj)
  (q_zad:TopD K "_law_cell" Jp f_zad)
  (q_zv:TopD K "_law_stream" Rz f_zv)
  (q_zag:TopD K "_law_text" Js f_zag)
  (q_zab:TopD K "_law_table" Jn f_zab)
  (q_zae:TopD K "_law_next" Jq f_zae)
  (q_zt:TopD K "_law_digits" Rx f_zt)
  (q_zn:TopD K "_law_content" Rq f_zn)
  (q_zc:TopD K "_law_cell_shown" Rf f_zc)
  (q_zaa:TopD K "_law_shown" Jm f_zaa)
  (q_zg:TopD K "_law_texts_fit" Rj f_zg)
  (q_zf:TopD K "_law_read_rows" Ri f_zf)
  (q_zaf:TopD K "_law_read" Jr f_zaf)
  (q_zu:TopD K "_law_spoilt" Ry f_zu)
  (q_zai:TopD K "_law_odd" Ju f_zai)
  (q_zo:MetD K "holds" "Kind.holds" Rr f_zo)
  (q_ze:MetD K "holds" "Chapter.holds" Rh f_ze)
  (q_zd:TopD K "_law_kinds_good" Rg f_zd)
  (a_zak:aW K aM "law" = some (some (.ref f_zak)))
  (l_zak:K.lookup f_zak=some ⟨oc_zak,od_zak,.func (cR "law" "law" (B8 Dq) (Aj Dq) (Ab Dq) .none kV_zak dc_zak pm_zak an_zak cd_zak ct_zak),sl_zak⟩)
  (c_zak:eD K cd_zak "law" = true)
  (k_zak:aU K (.ref f_zak)=true)
  (v_zal:aW K aM "LONGEST_TEXT" = some (some u_zal))
  (r_zal:RelV (.int 60) u_zal)
  (v_zam:aW K aM "PERCENT_SIGN" = some (some u_zam))
  (r_zam:RelV (.int 37) u_zam)
  (v_zap:aW K aM "MOST_ROWS" = some (some u_zap))
  (r_zap:RelV (.int 6) u_zap)
  (v_zan:aW K aM "MOST_CELLS" = some (some u_zan))
  (r_zan:RelV (.int 6) u_zan)
  (v_zaq:aW K aM "ROW_SIGN" = some (some u_zaq))
  (r_zaq:RelV (.str "/") u_zaq)
  (v_zao:aW K aM "CELL_SIGN" = some (some u_zao))
  (r_zao:RelV (.str "|") u_zao)
  (v_zas:aW K aM "STROKE" = some (some u_zas))
  (r_zas:RelV (.str "\\") u_zas)
  (k_zaq:RelV (.stk "/" n_zaq true) u_zaq)
  (k_zao:RelV (.stk "|" n_zao true) u_zao)
  (k_zas:RelV (.stk "\\" n_zas true) u_zas)
  (z_all:aW K aM "all" = some none)
  (z_bool:aW K aM "bool" = some none)
  (z_enumerate:aW K aM "enumerate" = some none)
  (z_int:aW K aM "int" = some none)
  (z_isinstance:aW K aM "isinstance" = some none)
  (z_len:aW K aM "len" = some none)
  (z_max:aW K aM "max" = some none)
  (z_min:aW K aM "min" = some none)
  (z_ord:aW K aM "ord" = some none)
  (z_range:aW K aM "range" = some none)
  (z_str:aW K aM "str" = some none)
  (z_tuple:aW K aM "tuple" = some none)
  (ca_zar:aw K (.ref c_zar) "__class__" = some (some (.builtin "object.__class__")))
  (mo_zar:b8 K c_zar (.type "object")=some true)
  (mk2_Chapter:b8 K c_zar (.ref c_Kind)=some true)
  (ca_zau:aw K (.ref c_zau) "__class__" = some (some (.builtin "object.__class__")))
  (mo_zau:b8 K c_zau (.type "object")=some true)
  (mk2_Para:b8 K c_zau (.ref c_Kind)=some true)
  (ca_zat:aw K (.ref c_zat) "__class__" = some (some (.builtin "object.__class__")))
  (mo_zat:b8 K c_zat (.type "object")=some true)
  (mk2_Table:b8 K c_zat (.ref c_Kind)=some true)
  (hn:iJ K (.builtin "object.__class__") "__get__" = some (some (.builtin "getset_descriptor.__get__")))
  (htk:jN K (.builtin "object.__class__")=some true)
  (ty_Kind:j8 K (.ref c_Kind)=some (.type "type"))
  (mr_Kind:b8 K c_Kind (.ref c_Kind)=some true)
  (nt_zas:aW K aM "STROKE" = some (some (.str "\\" n_zas)))
  (np_zas:0<n_zas)
  (nt_zao:aW K aM "CELL_SIGN" = some (some (.str "|" n_zao)))
  (np_zao:0<n_zao)
  (nt_zaq:aW K aM "ROW_SIGN" = some (some (.str "/" n_zaq)))
  (np_zaq:0<n_zaq)
  : ∃ (t:Adr) (fd:aE),(∀ (s:ag) (v:Value),lf s fd ⟨[v],[]⟩ [("_law_script", v)]) /\ ∀ base:Heap,K.In base->base.Ns aM mg->FnOk l.prog w K mg base CX0 6 fa fd ["_law_script"] (Nf K t):=by
 obtain⟨d_zs,g_zs⟩:=q_zs.ok X G (ps:=Xr) fun _ _ _ _ _ _ us hl=>bj0 (fun _ _ _=>rfl) us hl
 obtain⟨d_zi,g_zi⟩:=q_zi.ok X G (ps:=Xh) fun _ _ _ _ _ _ us hl=>Dm (fun _=>rfl) us hl
 obtain⟨d_zah,g_zah⟩:=q_zah.ok X G (ps:=Nr) fun _ _ _ _ _ _ us hl=>Dm (fun _=>rfl) us hl
 obtain⟨d_zy,g_zy⟩:=q_zy.ok (ps:=Xx) fun _ _ _ _ _ _ us hl=>Fn (fun _ _=>rfl) us hl
 obtain⟨d_zp,g_zp⟩:=q_zp.ok (ps:=Xo) fun _ _ _ _ _ _ us hl=>Fn (fun _ _=>rfl) us hl
 obtain⟨d_zm,g_zm⟩:=q_zm.ok X G (ps:=Xl) fun _ _ _ _ _ _ us hl=>Fn (fun _ _=>rfl) us hl
 obtain⟨d_zaj,g_zaj⟩:=q_zaj.ok X G (ps:=Nu) fun _ _ _ _ _ _ us hl=>Dm (fun _=>rfl) us hl
 obtain⟨d_zq,g_zq⟩:=q_zq.ok (ps:=Xp) fun _ _ _ _ _ _ us hl=>Fn (fun _ _=>rfl) us hl
 obtain⟨d_zb,g_zb⟩:=q_zb.ok (ps:=Xa) fun _ _ _ _ _ _ us hl=>Fn (fun _ _=>rfl) us hl
 obtain⟨d_zx,g_zx⟩:=q_zx.ok X G (ps:=Xw) fun _ _ _ _ _ _ us hl=>Dm (fun _=>rfl) us hl
 obtain⟨d_zac,g_zac⟩:=q_zac.ok X G (ps:=Nm) fun _ _ _ _ _ _ us hl=>Dm (fun _=>rfl) us hl
 obtain⟨d_zl,g_zl⟩:=q_zl.ok (ps:=Xk) fun _ _ _ _ _ _ us hl=>Fn (fun _ _=>rfl) us hl
 obtain⟨d_zk,g_zk⟩:=q_zk.ok X G (ps:=Xj) fun _ _ _ _ _ _ us hl=>Dm (fun _=>rfl) us hl
 obtain⟨d_zw,g_zw⟩:=q_zw.ok X G (ps:=Xv) fun _ _ _ _ _ _ us hl=>Dm (fun _=>rfl) us hl
 obtain⟨d_za,g_za⟩:=q_za.ok (ps:=W9) fun _ _ _ _ _ _ us hl=>Fn (fun _ _=>rfl) us hl
 obtain⟨d_zh,g_zh⟩:=q_zh.ok (ps:=Xg) fun _ _ _ _ _ _ us hl=>Dm (fun _=>rfl) us hl
 obtain⟨d_zz,g_zz⟩:=q_zz.ok (ps:=Xy) fun _ _ _ _ _ _ us hl=>Dm (fun _=>rfl) us hl
 obtain⟨d_zr,g_zr⟩:=q_zr.ok (ps:=Xq) fun _ _ _ _ _ _ us hl=>Dm (fun _=>rfl) us hl
 obtain⟨d_zj,g_zj⟩:=q_zj.ok X G (ps:=Xi) fun _ _ _ _ _ _ us hl=>Dm (fun _=>rfl) us hl
 obtain⟨d_zad,g_zad⟩:=q_zad.ok X G (ps:=Nn) fun _ _ _ _ _ _ us hl=>Fn (fun _ _=>rfl) us hl
 obtain⟨d_zv,g_zv⟩:=q_zv.ok X G (ps:=Xu) fun _ _ _ _ _ _ us hl=>Fn (fun _ _=>rfl) us hl
 obtain⟨d_zag,g_zag⟩:=q_zag.ok X G (ps:=Nq) fun _ _ _ _ _ _ us hl=>Dm (fun _=>rfl) us hl
 obtain⟨d_zab,g_zab⟩:=q_zab.ok X G (ps:=Nl) fun _ _ _ _ _ _ us hl=>Dm (fun _=>rfl) us hl
 obtain⟨d_zae,g_zae⟩:=q_zae.ok X G (ps:=No) fun _ _ _ _ _ _ us hl=>Fn (fun _ _=>rfl) us hl
 obtain⟨d_zt,g_zt⟩:=q_zt.ok X G (ps:=Xs) fun _ _ _ _ _ _ us hl=>Fn (fun _ _=>rfl) us hl
 obtain⟨d_zn,g_zn⟩:=q_zn.ok X G (ps:=Xm) fun _ _ _ _ _ _ us hl=>Fn (fun _ _=>rfl) us hl
 obtain⟨d_zc,g_zc⟩:=q_zc.ok X G (ps:=Xb) fun _ _ _ _ _ _ us hl=>Dm (fun _=>rfl) us hl
 obtain⟨d_zaa,g_zaa⟩:=q_zaa.ok X G (ps:=Nk) fun _ _ _ _ _ _ us hl=>Fn (fun _ _=>rfl) us hl
 obtain⟨d_zg,g_zg⟩:=q_zg.ok X G (ps:=Xf) fun _ _ _ _ _ _ us hl=>Dm (fun _=>rfl) us hl
 obtain⟨d_zf,g_zf⟩:=q_zf.ok X G (ps:=Xe) fun _ _ _ _ _ _ us hl=>Dm (fun _=>rfl) us hl
 obtain⟨d_zaf,g_zaf⟩:=q_zaf.ok X G (ps:=Np) fun _ _ _ _ _ _ us hl=>Fn (fun _ _=>rfl) us hl
 obtain⟨d_zu,g_zu⟩:=q_zu.ok X G (ps:=Xt) fun _ _ _ _ _ _ us hl=>bj0 (fun _ _ _=>rfl) us hl
 obtain⟨d_zai,g_zai⟩:=q_zai.ok X G (ps:=Nt) fun _ _ _ _ _ _ us hl=>Dm (fun _=>rfl) us hl
 obtain⟨d_zo,g_zo⟩:=q_zo.ok (ps:=Xn) fun _ _ _ _ _ _ us hl=>Dm (fun _=>rfl) us hl
 obtain⟨d_ze,g_ze⟩:=q_ze.ok (ps:=Xd) fun _ _ _ _ _ _ us hl=>Dm (fun _=>rfl) us hl
 obtain⟨d_zd,g_zd⟩:=q_zd.ok X G (ps:=Xc) fun _ _ _ _ _ _ us hl=>match us,hl with | [],_=>rfl
 have F_zak:=P5 (st:=Dq) l_zak c_zak k_zak
 have b_zak:=F_zak.binds (ps:=Nv) fun _ _ _ _ _ _ us hl=>Dm (fun _=>rfl) us hl
 have m:=cu X G a_zak
 have e:fa=f_zak:=by
  rw [hfa] at m
  injection m with m
  injection m
 subst e
 have tl_1:∀ {a:Addr},A0 (.ref a::valTail)=true:=fun {a}=>by show A0 valTail=true;decide +kernel
 have AO:ar3 K mg ⟨f_zs,d_zs,f_zi,d_zi,f_zah,d_zah,f_zy,d_zy,f_zp,d_zp,f_zm,d_zm,f_zaj,d_zaj,f_zq,d_zq,f_zb,d_zb,f_zx,d_zx,f_zac,d_zac,f_zl,d_zl,f_zk,d_zk,f_zw,d_zw,f_za,d_za,f_zh,d_zh,f_zz,d_zz,f_zr,d_zr,f_zj,d_zj,f_zad,d_zad,f_zv,d_zv,f_zag,d_zag,f_zab,d_zab,f_zae,d_zae,f_zt,d_zt,f_zn,d_zn,f_zc,d_zc,f_zaa,d_zaa,f_zg,d_zg,f_zf,d_zf,f_zaf,d_zaf,f_zu,d_zu,f_zai,d_zai,f_zo,d_zo,f_ze,d_ze,f_zd,d_zd,fa,_,c_zar,c_zau,c_zat,c_Kind,u_zal,u_zam,u_zap,u_zan,u_zaq,u_zao,u_zas,n_zaq,n_zao,n_zas⟩:=⟨g_zs,g_zi,g_zah,g_zy,g_zp,g_zm,g_zaj,g_zq,g_zb,g_zx,g_zac,g_zl,g_zk,g_zw,g_za,g_zh,g_zz,g_zr,g_zj,g_zad,g_zv,g_zag,g_zab,g_zae,g_zt,g_zn,g_zc,g_zaa,g_zg,g_zf,g_zaf,g_zu,g_zai,g_zo,g_ze,g_zd,F_zak.toD,(fun j _=>by rw [List.drop_nil];exact b_zak),.nil,cu X G a_zak,cu X G a_zar,kp_zar,mk_zar,in_zar,⟨pg_zar,hd_zar,po_zar,sa_zar⟩,cu X G a_zau,kp_zau,mk_zau,in_zau,⟨pg_zau,hd_zau,po_zau,sa_zau⟩,cu X G a_zat,kp_zat,mk_zat,in_zat,⟨pg_zat,hd_zat,po_zat,sa_zat⟩,cu X G a_Kind,⟨mt_Chapter_fits,g_zy.i,g_zy.F.kp⟩,⟨mt_Para_fits,g_zy.i,g_zy.F.kp⟩,⟨mt_zq,g_zq.i,g_zq.F.kp⟩,⟨mt_ze,g_ze.i,g_ze.F.kp⟩,⟨mt_Para_holds,g_zo.i,g_zo.F.kp⟩,⟨mt_Table_holds,g_zo.i,g_zo.F.kp⟩,⟨mt_Chapter_read_shown,g_zb.i,g_zb.F.kp⟩,⟨mt_Para_read_shown,g_zb.i,g_zb.F.kp⟩,⟨mt_za,g_za.i,g_za.F.kp⟩,⟨mt_Chapter_shown,g_zp.i,g_zp.F.kp⟩,⟨mt_Para_shown,g_zp.i,g_zp.F.kp⟩,⟨mt_zl,g_zl.i,g_zl.F.kp⟩,⟨mt_zh,g_zh.i,g_zh.F.kp⟩,⟨mt_zz,g_zz.i,g_zz.F.kp⟩,⟨mt_zr,g_zr.i,g_zr.F.kp⟩,cu X G v_zal,r_zal,cu X G v_zam,r_zam,cu X G v_zap,r_zap,cu X G v_zan,r_zan,cu X G v_zaq,r_zaq,cu X G v_zao,r_zao,cu X G v_zas,r_zas,k_zaq,k_zao,k_zas,(fun x hx=>by
   simp only [bl,aC,bT,or_false] at hx
   rcases hx with rfl|rfl|rfl|rfl|rfl|rfl|rfl|rfl|rfl|rfl|rfl|rfl
   all_goals exact PySem.W.mg_none_of X G (by assumption)),⟨nt_zas,nt_zao,nt_zaq,np_zas,np_zao,np_zaq,(fun C h=>by
  rcases h with rfl|rfl|rfl
  ·exact⟨⟨pg_zar,hd_zar,po_zar,sa_zar⟩,ca_zar,mo_zar,mk2_Chapter⟩
  ·exact⟨⟨pg_zau,hd_zau,po_zau,sa_zau⟩,ca_zau,mo_zau,mk2_Para⟩
  ·exact⟨⟨pg_zat,hd_zat,po_zat,sa_zat⟩,ca_zat,mo_zat,mk2_Table⟩),hn,htk,ty_Kind,mr_Kind⟩⟩
 exact⟨_,cR "law" "law" (B8 Dq) (Aj Dq) (Ab Dq) .none kV_zak dc_zak pm_zak an_zak cd_zak ct_zak,fun s v=>.of_eq rfl,fun base _ _=>a28 AO⟩
noncomputable def sp0 (K:aa):Sp:=fun vs H Q _=>∃ (a:Addr) (ns:List Int),vs=[.ref a]/\SqL K H a (ns.map V.int)/\ns.length<=63 /\ ∀ H',Q (.bl true) H'
theorem mkF {P:aO} {w:bM} {K:aa} {mg:Str->Option Value} {fa:Addr} (F:∃ (t:Adr) (fd:aE),(∀ (s:ag) (v:Value),lf s fd ⟨[v],[]⟩ [("_law_script", v)]) /\ ∀ base:Heap,K.In base->base.Ns aM mg->FnOk P w K mg base CX0 6 fa fd ["_law_script"] (Nf K t)) :
  ∃ fd:aE,(∀ (s:ag) (u:Value),lf s fd ⟨[u],[]⟩ [("_law_script", u)]) /\ ∀ base:Heap,K.In base->base.Ns aM mg->FnOk P w K mg base CX0 6 fa fd ["_law_script"] (sp0 K):=
 let ⟨t,fd,h1,h2⟩:=F;⟨fd,h1,fun base x y=>(h2 base x y).imp fun vs H Q E z=>z⟩
end K21
end
open PySem.W.X PySem.W.ZRun in
set_option maxRecDepth 100000 in
set_option maxHeartbeats 0 in
theorem PySem.Challenge.cw_manyleaf_k21_contents_shown_and_read_holds : PySem.Challenge.rw_manyleaf_k21_contents_shown_and_read.Holds := by
 w_on;o_law;z_head;(case hw=>w_witness2)
 k_fill
 intro w s₀ s₁ mg mb G y fa o pm cd doc dV kV ho hd hcd hD hmg hg args vals as L hpre hlay hrd hwl hlo
 z_open y L KX ZH ZN ZT
 refine Att.walk_z (l:=PySem.Challenge.rw_manyleaf_k21_contents_shown_and_read) (n:=63) (k:=6) (x := "_law_script") (CX:=L2.CX0) (sp:=K21.sp0) rfl (by decide) rfl ⟨rfl,by decide,by decide⟩ G KX hD hmg hg L hpre hwl ZT ?tk ?F ?hsp ?hCX
 case hsp=>exact fun H a ns hl _ hS=>⟨a,ns,rfl,hS,hl,fun _=>rfl⟩
 case hCX=>exact fun _ _ _ _ z=>z
 case tk=>
  refine' Att.tok_mk ?l ?e
  (case l=>k_is)
  (case e=>kernel_rfl)
 case F=>
  refine K21.mkF ?_
  refine' K21.all_mk (l:=PySem.Challenge.rw_manyleaf_k21_contents_shown_and_read) KX G.T.g hmg ?a_zar ?a_zau ?a_zat ?in_zar ?kp_zar ?mk_zar ?pg_zar ?hd_zar ?po_zar ?sa_zar ?in_zau ?kp_zau ?mk_zau ?pg_zau ?hd_zau ?po_zau ?sa_zau ?in_zat ?kp_zat ?mk_zat ?pg_zat ?hd_zat ?po_zat ?sa_zat ?a_Kind ?mt_Chapter_fits ?mt_Para_fits ?mt_zq ?mt_ze ?mt_Para_holds ?mt_Table_holds ?mt_Chapter_read_shown ?mt_Para_read_shown ?mt_za ?mt_Chapter_shown ?mt_Para_shown ?mt_zl ?mt_zh ?mt_zz ?mt_zr ?q_zs ?q_zi ?q_zah ?q_zy ?q_zp ?q_zm ?q_zaj ?q_zq ?q_zb ?q_zx ?q_zac ?q_zl ?q_zk ?q_zw ?q_za ?q_zh ?q_zz ?q_zr ?q_zj ?q_zad ?q_zv ?q_zag ?q_zab ?q_zae ?q_zt ?q_zn ?q_zc ?q_zaa ?q_zg ?q_zf ?q_zaf ?q_zu ?q_zai ?q_zo ?q_ze ?q_zd ?a_zak ?l_zak ?c_zak ?k_zak ?v_zal ?r_zal ?v_zam ?r_zam ?v_zap ?r_zap ?v_zan ?r_zan ?v_zaq ?r_zaq ?v_zao ?r_zao ?v_zas ?r_zas ?k_zaq ?k_zao ?k_zas ?z_all ?z_bool ?z_enumerate ?z_int ?z_isinstance ?z_len ?z_max ?z_min ?z_ord ?z_range ?z_str ?z_tuple ?ca_zar ?mo_zar ?mk2_Chapter ?ca_zau ?mo_zau ?mk2_Para ?ca_zat ?mo_zat ?mk2_Table ?hn ?htk ?ty_Kind ?mr_Kind ?nt_zas ?np_zas ?nt_zao ?np_zao ?nt_zaq ?np_zaq
  (case a_zar=>k_is)
  (case a_zau=>k_is)
  (case a_zat=>k_is)
  (case in_zar=>k_is)
  (case kp_zar=>k_is)
  (case mk_zar=>k_is)
  (case pg_zar=>k_is)
  (case hd_zar=>k_is)
  (case po_zar=>k_is)
  (case sa_zar=>k_is)
  (case in_zau=>k_is)
  (case kp_zau=>k_is)
  (case mk_zau=>k_is)
  (case pg_zau=>k_is)
  (case hd_zau=>k_is)
  (case po_zau=>k_is)
  (case sa_zau=>k_is)
  (case in_zat=>k_is)
  (case kp_zat=>k_is)
  (case mk_zat=>k_is)
  (case pg_zat=>k_is)
  (case hd_zat=>k_is)
  (case po_zat=>k_is)
  (case sa_zat=>k_is)
  (case a_Kind=>k_is)
  (case mt_Chapter_fits=>k_is)
  (case mt_Para_fits=>k_is)
  (case mt_zq=>k_is)
  (case mt_ze=>k_is)
  (case mt_Para_holds=>k_is)
  (case mt_Table_holds=>k_is)
  (case mt_Chapter_read_shown=>k_is)
  (case mt_Para_read_shown=>k_is)
  (case mt_za=>k_is)
  (case mt_Chapter_shown=>k_is)
  (case mt_Para_shown=>k_is)
  (case mt_zl=>k_is)
  (case mt_zh=>k_is)
  (case mt_zz=>k_is)
  (case mt_zr=>k_is)
  (case q_zs=>refine' L2.top_mk ?a ?l ?c ?k;(case a=>k_is);(case l=>k_is);(case c=>k_is);(case k=>k_is))
  (case q_zi=>refine' L2.top_mk ?a ?l ?c ?k;(case a=>k_is);(case l=>k_is);(case c=>k_is);(case k=>k_is))
  (case q_zah=>refine' L2.top_mk ?a ?l ?c ?k;(case a=>k_is);(case l=>k_is);(case c=>k_is);(case k=>k_is))
  (case q_zy=>refine' L2.met_mk ?l ?c ?k ?i;(case l=>k_is);(case c=>k_is);(case k=>k_is);(case i=>k_is))
  (case q_zp=>refine' L2.met_mk ?l ?c ?k ?i;(case l=>k_is);(case c=>k_is);(case k=>k_is);(case i=>k_is))
  (case q_zm=>refine' L2.top_mk ?a ?l ?c ?k;(case a=>k_is);(case l=>k_is);(case c=>k_is);(case k=>k_is))
  (case q_zaj=>refine' L2.top_mk ?a ?l ?c ?k;(case a=>k_is);(case l=>k_is);(case c=>k_is);(case k=>k_is))
  (case q_zq=>refine' L2.met_mk ?l ?c ?k ?i;(case l=>k_is);(case c=>k_is);(case k=>k_is);(case i=>k_is))
  (case q_zb=>refine' L2.met_mk ?l ?c ?k ?i;(case l=>k_is);(case c=>k_is);(case k=>k_is);(case i=>k_is))
  (case q_zx=>refine' L2.top_mk ?a ?l ?c ?k;(case a=>k_is);(case l=>k_is);(case c=>k_is);(case k=>k_is))
  (case q_zac=>refine' L2.top_mk ?a ?l ?c ?k;(case a=>k_is);(case l=>k_is);(case c=>k_is);(case k=>k_is))
  (case q_zl=>refine' L2.met_mk ?l ?c ?k ?i;(case l=>k_is);(case c=>k_is);(case k=>k_is);(case i=>k_is))
  (case q_zk=>refine' L2.top_mk ?a ?l ?c ?k;(case a=>k_is);(case l=>k_is);(case c=>k_is);(case k=>k_is))
  (case q_zw=>refine' L2.top_mk ?a ?l ?c ?k;(case a=>k_is);(case l=>k_is);(case c=>k_is);(case k=>k_is))
  (case q_za=>refine' L2.met_mk ?l ?c ?k ?i;(case l=>k_is);(case c=>k_is);(case k=>k_is);(case i=>k_is))
  (case q_zh=>refine' L2.met_mk ?l ?c ?k ?i;(case l=>k_is);(case c=>k_is);(case k=>k_is);(case i=>k_is))
  (case q_zz=>refine' L2.met_mk ?l ?c ?k ?i;(case l=>k_is);(case c=>k_is);(case k=>k_is);(case i=>k_is))
  (case q_zr=>refine' L2.met_mk ?l ?c ?k ?i;(case l=>k_is);(case c=>k_is);(case k=>k_is);(case i=>k_is))
  (case q_zj=>refine' L2.top_mk ?a ?l ?c ?k;(case a=>k_is);(case l=>k_is);(case c=>k_is);(case k=>k_is))
  (case q_zad=>refine' L2.top_mk ?a ?l ?c ?k;(case a=>k_is);(case l=>k_is);(case c=>k_is);(case k=>k_is))
  (case q_zv=>refine' L2.top_mk ?a ?l ?c ?k;(case a=>k_is);(case l=>k_is);(case c=>k_is);(case k=>k_is))
  (case q_zag=>refine' L2.top_mk ?a ?l ?c ?k;(case a=>k_is);(case l=>k_is);(case c=>k_is);(case k=>k_is))
  (case q_zab=>refine' L2.top_mk ?a ?l ?c ?k;(case a=>k_is);(case l=>k_is);(case c=>k_is);(case k=>k_is))
  (case q_zae=>refine' L2.top_mk ?a ?l ?c ?k;(case a=>k_is);(case l=>k_is);(case c=>k_is);(case k=>k_is))
  (case q_zt=>refine' L2.top_mk ?a ?l ?c ?k;(case a=>k_is);(case l=>k_is);(case c=>k_is);(case k=>k_is))
  (case q_zn=>refine' L2.top_mk ?a ?l ?c ?k;(case a=>k_is);(case l=>k_is);(case c=>k_is);(case k=>k_is))
  (case q_zc=>refine' L2.top_mk ?a ?l ?c ?k;(case a=>k_is);(case l=>k_is);(case c=>k_is);(case k=>k_is))
  (case q_zaa=>refine' L2.top_mk ?a ?l ?c ?k;(case a=>k_is);(case l=>k_is);(case c=>k_is);(case k=>k_is))
  (case q_zg=>refine' L2.top_mk ?a ?l ?c ?k;(case a=>k_is);(case l=>k_is);(case c=>k_is);(case k=>k_is))
  (case q_zf=>refine' L2.top_mk ?a ?l ?c ?k;(case a=>k_is);(case l=>k_is);(case c=>k_is);(case k=>k_is))
  (case q_zaf=>refine' L2.top_mk ?a ?l ?c ?k;(case a=>k_is);(case l=>k_is);(case c=>k_is);(case k=>k_is))
  (case q_zu=>refine' L2.top_mk ?a ?l ?c ?k;(case a=>k_is);(case l=>k_is);(case c=>k_is);(case k=>k_is))
  (case q_zai=>refine' L2.top_mk ?a ?l ?c ?k;(case a=>k_is);(case l=>k_is);(case c=>k_is);(case k=>k_is))
  (case q_zo=>refine' L2.met_mk ?l ?c ?k ?i;(case l=>k_is);(case c=>k_is);(case k=>k_is);(case i=>k_is))
  (case q_ze=>refine' L2.met_mk ?l ?c ?k ?i;(case l=>k_is);(case c=>k_is);(case k=>k_is);(case i=>k_is))
  (case q_zd=>refine' L2.top_mk ?a ?l ?c ?k;(case a=>k_is);(case l=>k_is);(case c=>k_is);(case k=>k_is))
  (case a_zak=>k_is)
  (case l_zak=>k_is)
  (case c_zak=>k_is)
  (case k_zak=>k_is)
  (case v_zal=>k_is)
  (case r_zal=>exact⟨_,rfl⟩)
  (case v_zam=>k_is)
  (case r_zam=>exact⟨_,rfl⟩)
  (case v_zap=>k_is)
  (case r_zap=>exact⟨_,rfl⟩)
  (case v_zan=>k_is)
  (case r_zan=>exact⟨_,rfl⟩)
  (case v_zaq=>k_is)
  (case r_zaq=>exact⟨_,rfl⟩)
  (case v_zao=>k_is)
  (case r_zao=>exact⟨_,rfl⟩)
  (case v_zas=>k_is)
  (case r_zas=>exact⟨_,rfl⟩)
  (case k_zaq=>exact⟨_,rfl,rfl⟩)
  (case k_zao=>exact⟨_,rfl,rfl⟩)
  (case k_zas=>exact⟨_,rfl,rfl⟩)
  (case z_all=>k_is)
  (case z_bool=>k_is)
  (case z_enumerate=>k_is)
  (case z_int=>k_is)
  (case z_isinstance=>k_is)
  (case z_len=>k_is)
  (case z_max=>k_is)
  (case z_min=>k_is)
  (case z_ord=>k_is)
  (case z_range=>k_is)
  (case z_str=>k_is)
  (case z_tuple=>k_is)
  (case ca_zar=>k_is)
  (case mo_zar=>k_is)
  (case mk2_Chapter=>k_is)
  (case ca_zau=>k_is)
  (case mo_zau=>k_is)
  (case mk2_Para=>k_is)
  (case ca_zat=>k_is)
  (case mo_zat=>k_is)
  (case mk2_Table=>k_is)
  (case hn=>k_is)
  (case htk=>k_is)
  (case ty_Kind=>k_is)
  (case mr_Kind=>k_is)
  (case nt_zas=>k_is)
  (case np_zas=>decide)
  (case nt_zao=>k_is)
  (case np_zao=>decide)
  (case nt_zaq=>k_is)
  (case np_zaq=>decide)
#print axioms PySem.Challenge.cw_manyleaf_k21_contents_shown_and_read_holds
