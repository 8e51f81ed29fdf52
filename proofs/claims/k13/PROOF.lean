import PyProof.Rows.All
import Wide.All
import OpenK.AllK
import Wide.FinOn
import Lean
import PyProof.EqAt
import PyProof.EqKinds
import PyProof.TupleCall
import PyProof.NeKinds
import PyProof.ZipIter
import PyProof.StrWalks
import PyProof.ConsumeWalk
import PyProof.ExcArgs
import PyProof.ExcBaseAll.ValueError
import KE.KIsAll
import PyProof.EnumFor
import PyProof.EnumMake
import PyProof.EnumStmt
import PyProof.Rows.EnumRows
import PyProof.DictWalks
import PyProof.Rows.SetFrom
import PyProof.DictItems
import KE.KDictList
import PyProof.TupleIter
import PyProof.RulesRaise
import PyProof.RulesTry
import PyProof.MeetsIn
import KE.KEqDict
import KE.KSortTup
import PyProof.Rows.Range3
import PyProof.Rows.ChunkLeaf
import PyProof.StationsW
import PyProof.PassesOwn
import PyProof.NsDelKeeps
import PySem.Challenge.RW_manyleaf_k13_switches_that_decide
set_option Elab.async false
set_option linter.all false
set_option maxRecDepth 100000
section
open Array renaming getElem?_eq_some_iff→dj,getElem?_setIfInBounds_ne→dt,length_toList→dR,size_setIfInBounds→d_,getElem?_setIfInBounds_self_of_lt→eU,getElem?_toList→gM,forIn_toList→iA,getElem?_eq_getElem→iG,getElem?_eq_none→jn
open Bool renaming false_ne_true→am,and_eq_true→ax,false_eq_true→bz,eq_iff_iff→bQ,true_and→du,and_false→dO,or_false→eE,beq_eq_decide_eq→eV,or_eq_true→eW,or_true→eX,not_eq_true'→fh,false_or→i3,false_and→j5,and_true→kz
open False renaming elim→dY
open ForInStep renaming yield→e8
open Int renaming toNat_natCast→aK,emod_lt_of_pos→bU,emod_nonneg→b9,one_mul→gz,fdiv_eq_ediv_of_nonneg→iy,sub_zero→ll
open LawfulBEq renaming eq_of_beq→cU
open List renaming length_map→ae,getElem?_eq_getElem→ah,mem_of_getElem?→ai,getElem?_map→ak,range→aq,size_toArray→av,map_append→az,getD_eq_getElem?_getD→aC,mem_cons→aE,length_append→aJ,mem_cons_of_mem→aL,length_cons→aN,length_take→aO,all_eq_true→aW,take_length→aX,mem_cons_self→aZ,mem_range→a9,mem_map→ba,map_cons→be,mem_append→bg,mem_append_right→bu,all_cons→bw,map_map→bA,length_range→bB,any_eq_true→bD,foldl_cons→bG,getElem?_append_right→bL,getElem?_cons_succ→bN,mem_iff_getElem?→bO,mem_singleton→bP,find?_cons→bR,getElem?_eq_some_iff→bY,getElem?_zip_eq_some→bZ,take_add_one→b_,contains_cons→cr,append_nil→cv,length_singleton→cw,getElem_mem→cy,length_drop→cz,length→cD,getElem?_append_left→cI,map_congr_left→cN,any_eq_false→cR,getElem_inj→c9,mem_flatMap→c_,getElem?_eq_none→dy,range_succ→dz,not_mem_nil→dL,any_cons→dM,getElem?_cons_zero→dN,findSome?_cons→dS,getElem?_range→dU,mem_filter→dW,getElem_map→dZ,mem_iff_getElem→d7,mem_of_mem_take→d8,flatMap_append→eF,cons_append→eK,length_filter_le→e9,nodup_cons→e_,flatMap_cons→fj,foldl_append→fm,findSome?_eq_none_iff→fA,mem_append_left→fE,getLast?_eq_some_iff→fI,lookup→fQ,all_map→fU,find?_eq_none→f9,forIn_cons→f_,getElem_range→gc,getElem?_set_self→gv,take_of_length_le→gw,map_nil→gO,toArray→gP,getLast?_eq_some_getLast→gU,getElem?_set_ne→g6,mem_of_mem_drop→g7,all_append→ia,filterMap_cons→ib,filter_eq_self→ic,length_pos_iff→ie,length_reverse→ig,length_set→ii,filter_append→iC,forIn_nil→iH,nodup_append→iN,take_sublist→iO,map→i7,lookup_cons→jg,map_flatMap→jh,drop_of_length_le→jp,range_succ_eq_map→jq,any_nil→jE,length_nil→jF,length_zip→jG,of_mem_zip→jH,getElem_toArray→jV,replicate→j7,Pairwise→kA,map_drop→kB,mem_filterMap→kC,any_map→lq,flatten→lu,cons→lN
open List.cons renaming inj→i6
open Nat renaming le_of_ble_eq_true→au,le_refl→ay,lt_of_lt_of_le→aG,ne_of_lt→aH,lt_of_le_of_lt→aM,le_trans→aQ,le_add_right→bK,lt_succ_of_lt→cb,testBit_and→cg,zero_le→cq,ne_of_gt→cx,le_succ→cE,pow_le_pow_right→c6,lt_succ_self→df,zero_add→dg,lt_or_ge→dA,not_lt_zero→dB,zero_testBit→d3,le_of_lt→fc,lt_irrefl→fu,sub_self→fV,two_pow_pos→gd,testBit_xor→ij,succ_ne_self→ji,and_le_left→jI,min_eq_left→jJ,add_le_add_right→jW,eq_of_testBit_eq→jX,testBit_or→j8,and_one_is_mod→kD,add_comm→lv,le_of_eq→ly
open Ne renaming symm→ck
open Option renaming some→aS,toList_some→cW,isSome_iff_exists→dH,map_eq_some_iff→dX,bind_some→gW,map_some→il,isNone_some→iD,isNone_iff_eq_none→iI,isSome_map→iP,map_eq_none_iff→jr
open Option.some renaming inj→aF,injEq→iQ
open Or renaming inl→iR
open PyProof renaming noPylong_small→jt
open PyProof.Rows renaming callWith_type1→bn,boot_list→dq,slot_tuple_getitem→ez,seqObj→fZ,callWith_builtin1→gR,tail_of_ItemOn→iM,boot_tuple→i8,bitAnd_pn→js,subscriptTail_builtinR→jw,AllBare→jB,boot_int→jK,subscriptTail→kQ,envOfC→lD,IntsAre→l6
open PyProof.Rows.F renaming plain_set_update_loop→f8,entry_set_update_loop→i5
open PySem renaming wpAny_bind→af,Shared→aj,wpAny_pure→al,Builtin→ar,FuncData→aA,wpAny→aI,Program→aV,mainGlobals→a_,wpAny_field→bd,Around→bi,wpAny_Call_Name_kw→bp,wpAny_setField_rec→br,wpAny_holding→bx,wpAny_loadPart_at→bI,World→bM,mem_of_lookup→bS,Spec→bT,wpAny_callSpecial?_slot→bW,wpAny_loadPart'→bX,wpAny_newObj_type→cB,NameKind→cG,wpAny_updateSeq→cK,wpAny_call_entry→cM,wpAny_isSubtype_exc→cO,compareOp→cT,codeAny_builtin→cY,sizeLine_eq→cZ,wpAny_ite_split→c5,wpAny_mono→c8,starEach→dm,plainId_quiet→dv,wpAny_seqItems→dw,bootBuiltins→dF,wpAny_typeNameOfWhole_itemiter→dG,sysModules→dI,assignEach→dQ,wpAny_typeNameOf_itemiter→d6,binaryOp→d9,wpAny_truthy_bool→eB,rawInt→eC,wpAny_attempt→eI,wpAny_standAt→eJ,wpAny_setField→eN,codeAny→eO,wpAny_isOneOf_itemiter→eP,tupleKind_room_in1→eR,builtinLookup_eq_fast→fg,foldedSetIterable→fv,wpAny_pyIter_dict→fz,pyNext→fC,codeAny_call_builtin→fG,updateSeq→fK,wpAny_fieldsOf→fM,wpAny_isInstance→fO,excClassObj→fS,typeLookup→f6,wpAny_passesOwn→gn,wpAny_specialOf→gp,atKey_none_of_get→gE,sliceBounds→gF,wpAny_call→gG,wpAny_dictEntries→gH,wpAny_letGo→gI,wpAny_pyIter_enum→gJ,wpAny_pyIter_list→gK,wpAny_newTuple→gL,Paired→gQ,Within→gS,codeAny_mono→gT,checkBuiltinCall→gX,wpAny_typeNameOfWhole_keyiter→gY,wpAny_rule→hX,letOwnedTupleGo→iq,typeLookup_type→ir,wpAny_letOwnedTupleGo_enum→iz,backTo→iE,wpAny_typeOf→iF,firstArgMember→iK,relabel→iL,PassesOwn→iS,swapsWith→iY,wpAny_typeNameOf_keyiter→iZ,attributeBase→jb,behindInMarks→jc,setField→je,wpAny_Call_method0_late→jf,noFill_tuple_add→jm,codeAny_handlers_suite→jv,wpAny_nextOf_list_item→jx,wpAny_pyIter_rangeiter→jy,wpAny_pyNext_dict_item→jz,wpAny_pyNext_range_end→jA,IsEnum→jD,codeAny_handlers_test→jO,setFlight→jP,tupleKind→jQ,wpAny_dictEpoch→jR,wpAny_execs_nil→jS,wpAny_nextOf_list_end→jT,GenState→jU,intBits_le_iff→jZ,wpAny_updateSeq_pair→j3,IsPair→j6,Result→j9,callType_codes→j_,dictSetDefault→ka,isSubtype_stop→kc,IsRangeIter→kg,evalArgs_none→kh,keywordEach→kq,richCompare→kr,wpAny_handleBy_cons→ku,wpAny_throw→ky,bindArgs→kM,code_list_new→kN,noteFrame→kO,seq_tuple_add→kP,swapsWithSole→kS,wpAny_handled→kT,wpAny_onRaise→kU,wpAny_pyIter_range→kW,wpAny_pyIter_tuple→kX,callerA→kY,isInstance→kZ,notedBy→k8,standAt→k9,valueAt→k_,assign→lA,call_meetsIn→lB,concat_meets→lC,seqIndex_neg→lE,IsZip→lF,atKey→lG,ZipApart→lH,BindsTo→lI,IsPart→lK,Keyword→lM,bindSpecial→lR,getItem→lS,holding→lT,raiseStmt→lU,seqIndex_of→lV,storedH_new→lW,wpAny_of_eq→lX,Walks→lY,field→lZ,pyIter→l3,CmpOp→l4,Operator→l7,backToKw→l8,compEnvC→l9,frameOf→l_,raiseNew→ma,spliced→md,unaryOp→me,Model→mf,revObj→mh
open PySem.Around renaming under_plainId→cC,under→lf
open PySem.Builtin renaming bitAnd→bj,bitNot→bv,bitOr→cV
open PySem.Builtin.Dict_items renaming ownsTuple→eQ,pairFromOwner→gr
open PySem.Builtin.Int renaming intBits→hZ
open PySem.Builtin.List renaming listExtendWith→bF,listLengthHint→b7,listSameRef→cP,listItems→dn,listTooLong→fT,listUpdate→f7
open PySem.Builtin.Range renaming rangeSize→cA,small→ke
open PySem.Builtin.Slice renaming slicePlaces→d5,sliceAdjust→fH,sliceApplied→iu
open PySem.Builtin.SmallTypes renaming nextOf→aT,ownedTupleIsFree→bo,ownedTupleHandOut→cH
open PySem.Builtin.Tuple renaming tupleExact→eo
open PySem.Calls renaming spliced_cons→cF,spliced_nil→cQ,callWith_builtin→gu,Name_function_global→iw
open PySem.Code renaming quiet_builtin→iB,isFrame→lg
open PySem.EntryCells renaming newEntry→h9
open PySem.F renaming plain_extend_loop→cJ,slot_dict_itemiterator_next→dJ,called_set→eY,slot_enumerate_next→eZ,excBase_ValueError→fB,entry_extend_loop→fP,args_list_init_2→fW,args_tuple_add_2→fX,entry_list_init→ge,entry_tuple_add→gf,plainAttrs_dict→gh,plainAttrs_list→gi,typeCall_list_1→gj,slot_tuple_add→gx,args_dict_itemiterator_next_1→gy,entry_dict_itemiterator_next→gN,slot_dict_keyiterator_next→g8,slot_dict_setdefault→g_,slot_zip_next→h_,called_list→im,slot_tuple_iterator_next→ix,args_enumerate_next_1→i4,slot_dict_clear→i9,slot_dict_items→i_,entry_enumerate_next→jo
open PySem.Heap renaming get?_push_of_some→ag,get?_push_size→aw,lt_size→aB,get?_update_other→aP,get?_update_self→aU,SameBut→bc,size_push→bJ,get?_none_of_le→gZ,ExtBut→lJ
open PySem.Heap.IsRevIter renaming typeIs→jC
open PySem.Heap.SameBut renaming update→cu
open PySem.IsRange renaming new→lL
open PySem.MeetsSeq3 renaming plain_eq_loop→jd
open PySem.NameKind renaming free→eG
open PySem.Obj renaming mapSeq→bt,mapFields→b5,isFreed_of_fields→dD,data_mapDictKeys→jY,data_mapFields→kE
open PySem.Paired renaming length→g9
open PySem.Sem renaming wp_loadIfAlive→kG,wp_bind'→lz
open PySem.SeqAt renaming EqAt→bE,RcNeAt→fY,RcAt→iW
open PySem.SeqAt.EqAt renaming int_int→kH,int_str→kI,str_int→kJ
open PySem.Shared renaming TypeIs→ja,heap→lO
open PySem.Str renaming ofString→cS,empty→gm
open PySem.Txt renaming slice→iX
open PySem.Value renaming ref→aY,none→bh,type→c7,bool→gC,builtin→hV,isStrOf→hW,isStrOf_shape→km,int→kK,str→kL,float→lP,isInt→lQ
open PySem.W renaming Frag→ac,findIn→aD,keepIn→aR,nsIn→bq,emptyDict→bH,instObj→bV,kia_one→cj,fnOf→cn,mg_of→cL,makesIn→cX,isFn→dE,codeIn→dP,looks_findIn→fF,kitOne→fJ,plainGet→fN,callWith_K0→fR,callWith_K→gk,hasDictIn→gA,Looks→hG,mroIn→hU,plainGet_of→ip,lookIn→iJ,kitx_list→iT,methodObj→iU,plainOver→iV,handedIn→jj,kas_sort→jk,makes_of→jl,cellsFrom_some→ju,KatTups→jL,OpenLaw→jM,takerIn→jN,kitx_tuple→kF
open Sum renaming inr→gB,inl→kj
open True renaming intro→bC
namespace L2
open PySem PySem.Spec PyProof.Rows
noncomputable abbrev Key:=Sum Int Str
noncomputable def Np:Key->Value->Bool
 | .inl k,v=>lQ k v
 | .inr x,v=>hW x v
noncomputable def cd6 (w:bM):Key->Int
 | .inl k=>hashInt k
 | .inr x=>hashStr w x
theorem Bk:∀ {k:Key} {v:Value},Np k v=true->(∃ i t,k=kj i/\v=kK i t)\/(∃ x t,k=gB x/\v=kL x t)
 | .inl i,v,h=>by
  obtain⟨t,e⟩:=Value.isInt_shape (k:=i) (v:=v) h
  exact .inl ⟨i,t,rfl,e⟩
 | .inr x,v,h=>by
  obtain⟨t,e⟩:=km (x:=x) (v:=v) h
  exact .inr ⟨x,t,rfl,e⟩
theorem Yq (i:Int) (t:Tok):Np (.inl i) (.int i t)=true:=by simp [Np,lQ]
theorem Yr (x:Str) (t:Tok):Np (.inr x) (.str x t)=true:=by simp [Np,hW]
theorem bc2 (a b:Int):decide ((kj a:Key)=kj b)=(a==b):=by
 by_cases e:a=b
 ·subst e;simp
 ·have h:¬ (kj a:Key)=kj b:=fun q=>e (Sum.inl.inj q)
  rw [decide_eq_false h]
  exact (beq_eq_false_iff_ne.mpr e).symm
theorem bc5 (a b:Str):decide ((gB a:Key)=gB b)=decide (a=b):=by
 by_cases e:a=b
 ·subst e;simp
 ·have h:¬ (gB a:Key)=gB b:=fun q=>e (Sum.inr.inj q)
  rw [decide_eq_false h,decide_eq_false e]
theorem bc3 (a:Int) (b:Str):decide ((kj a:Key)=gB b)=false:=decide_eq_false (fun q=>nomatch q)
theorem bc4 (a:Str) (b:Int):decide ((gB a:Key)=kj b)=false:=decide_eq_false (fun q=>nomatch q)
noncomputable def A7 (prog:aV) (w:bM):PySem.KeyKind prog w Key where
 is:=Np
 hash:=cd6 w
 inj:=fun v a b ha hb=>by
  rcases Bk ha with ⟨i,t,rfl,rfl⟩|⟨x,t,rfl,rfl⟩
  ·rcases Bk hb with ⟨j,u,rfl,e⟩|⟨y,u,rfl,e⟩
   ·injection e with e1 _;rw [e1]
   ·exact nomatch e
  ·rcases Bk hb with ⟨j,u,rfl,e⟩|⟨y,u,rfl,e⟩
   ·exact nomatch e
   ·injection e with e1 _;rw [e1]
 byValue:=fun k v h=>by
  rcases Bk h with ⟨i,t,rfl,rfl⟩|⟨x,t,rfl,rfl⟩ <;> rfl
 pyHash:=fun hv h=>by
  rcases Bk hv with ⟨i,t,rfl,rfl⟩|⟨x,t,rfl,rfl⟩
  ·exact wpAny_pyHash_int h
  ·exact wpAny_pyHash_str h
 eqBool:=fun hu hv h=>by
  rcases Bk hu with ⟨i,t,rfl,rfl⟩|⟨x,t,rfl,rfl⟩
  ·rcases Bk hv with ⟨j,u,rfl,rfl⟩|⟨y,u,rfl,rfl⟩
   ·rw [bc2] at h;exact wpAny_eqBool_int h
   ·rw [bc3] at h;exact kI i t y u _ _ _ _ h
  ·rcases Bk hv with ⟨j,u,rfl,rfl⟩|⟨y,u,rfl,rfl⟩
   ·rw [bc4] at h;exact kJ x t j u _ _ _ _ h
   ·rw [bc5] at h;exact wpAny_eqBool_str h
 «strs»:=fun k x t v h=>by
  rcases Bk h with ⟨i,u,rfl,e⟩|⟨y,u,rfl,e⟩
  ·exact nomatch e
  ·injection e with e1 _
   subst e1
   cases v <;> rfl
theorem Rr (prog:aV) (w:bM) (i:Int) (t:Tok):(A7 prog w).is (.inl i) (.int i t)=true:=Yq i t
theorem Rs (prog:aV) (w:bM) (x:Str) (t:Tok):(A7 prog w).is (.inr x) (.str x t)=true:=Yr x t
inductive V where
 | non|bl (b:Bool)|int (i:Int)|str (x:Str)|byt (b:Array UInt8)|flt (b:UInt64)|ref (a:Addr)|ty (n:String)
 deriving DecidableEq
noncomputable def RelV:V->Value->Prop
 | .non,u=>u=bh
 | .bl b,u=>u=gC b
 | .int i,u=>∃ t,u=kK i t
 | .str x,u=>∃ t,u=kL x t
 | .byt b,u=>∃ t,u=Value.bytes b t
 | .flt b,u=>∃ t,u=lP b t
 | .ref a,u=>u=aY a
 | .ty n,u=>u=c7 n
noncomputable abbrev Vals:List V->List Value->Prop:=gQ RelV
theorem Vals.length {xs:List V} {us:List Value} (r:Vals xs us):xs.length=us.length:=g9 r
theorem Vals.get:∀ {xs:List V} {us:List Value} {i:Nat} {x:V},Vals xs us->xs[i]? = some x -> ∃ u,us[i]? = some u/\RelV x u
 | _,_,_,_,.nil,e=>by simp at e
 | _,_,0,_,.cons r _,e=>by simp at e;subst e;exact⟨_,rfl,r⟩
 | _,_,i+1,x,.cons _ t,e=>by
  obtain⟨u,h1,h2⟩:=Vals.get (i:=i) (x:=x) t (by simpa using e)
  exact⟨u,by simpa using h1,h2⟩
theorem Vals.set {x:V} {u:Value} (r:RelV x u):∀ {xs:List V} {us:List Value} (i:Nat),Vals xs us->Vals (xs.set i x) (us.set i u)
 | _,_,_,.nil=>.nil
 | _,_,0,.cons _ t=>.cons r t
 | _,_,i+1,.cons q t=>.cons q (Vals.set r i t)
theorem Vals.append:∀ {xs ys:List V} {us ws:List Value},Vals xs us->Vals ys ws->Vals (xs++ys) (us++ws)
 | _,_,_,_,.nil,s=>s
 | _,_,_,_,.cons r t,s=>.cons r (Vals.append t s)
theorem Vals.take:∀ {xs:List V} {us:List Value} (n:Nat),Vals xs us->Vals (xs.take n) (us.take n)
 | _,_,0,_=>.nil
 | _,_,_+1,.nil=>.nil
 | _,_,n+1,.cons r t=>.cons r (Vals.take n t)
theorem Vals.drop:∀ {xs:List V} {us:List Value} (n:Nat),Vals xs us->Vals (xs.drop n) (us.drop n)
 | _,_,0,r=>r
 | _,_,_+1,.nil=>.nil
 | _,_,n+1,.cons _ t=>Vals.drop n t
noncomputable def RelO:Option V->Option Value->Prop
 | some v,some u=>RelV v u
 | none,none=>True
 | _,_=>False
noncomputable def KV {κ:Type}:List (κ×V)->List (κ×Value)->Prop:=gQ fun (p:κ×V) (q:κ×Value)=>p.1=q.1/\RelV p.2 q.2
noncomputable def kV:Key->V
 | .inl i=>.int i
 | .inr x=>.str x
inductive HO where
 | lst (xs:List V)
 | tup (xs:List V)
 | dK (kvs:List (Key×V))|dT (kvs:List (List Key×V))
 | set (S:Int->Bool) (n:Nat)
 | ins (C dx:Addr) (fs:List (Str×V))
 | own (x:Addr)
 | xd (fs:List (Str×V))
 | met (f x:Addr)
 | rng (lo hi:Int)
 | frz (o:Obj) (u:HO)
 | tbl (ps:Array Value)
 | ext (φ:Heap->Prop)
noncomputable abbrev Hp:=Addr->Option HO
noncomputable def upd (H:Hp) (a:Addr) (o:HO):Hp:=fun b=>if b=a then some o else H b
theorem Ad {H:Hp} {a:Addr} {o:HO}:upd H a o a=some o:=by unfold upd;rw [if_pos rfl]
theorem Ai {H:Hp} {a b:Addr} {o:HO} (h:b≠a):upd H a o b=H b:=by unfold upd;rw [if_neg h]
theorem a19 {H:Hp} {a:Addr} {o u:HO}:upd (upd H a o) a u=upd H a u:=by
 funext b;unfold upd;split <;> rfl
theorem a50 {H:Hp} {a b:Addr} {o u:HO} (h:H a=some o) (h':H b=some u) (d:o≠u):a≠b:=by
 intro e;subst e;rw [h] at h';exact d (aF h')
theorem Ak {H:Hp} {a b:Addr} {o:HO} (h:H a=some o) (h':H b=none):a≠b:=by
 intro e;subst e;rw [h] at h';cases h'
section
variable (P:aV) (w:bM)
noncomputable def ObjOk (H:Hp) (h:Heap) (a:Addr):HO->Prop
 | .lst xs=>xs.length<=sizeLine /\ ∃ (its:List Value) (n:Nat),Vals xs its/\h.get? a=some { cls:=.type "list", data:=.seq its.toArray n }
 | .tup xs=>xs.length<=sizeLine /\ ∃ its:List Value,Vals xs its/\IsTup h a its.toArray
 | .dK kvs=>kvs.length<=sizeLine/\(a==dI)=false /\ ∃ vs,KV kvs vs/\h.DictOf (A7 P w) a vs
 | .dT kvs=>kvs.length<=sizeLine/\(a==dI)=false /\ ∃ xs:List (List Key×Addr×Value),
   gQ (fun (p:List Key×V) (q:List Key×Addr×Value)=>p.1=q.1/\H q.2.1=some (.tup (p.1.map kV))/\RelV p.2 q.2.2) kvs xs /\
   ∃ o es ep,h.get? a=some o/\o.ExactDict/\o.data=.dict es ep/\es.toList=xs.map (entryOfKey (jQ (A7 P w)))/\(xs.map (·.1)).Nodup
 | .set S n=>h.SetOf (intKind P w) a S n
 | .ins C dx fs=>H dx=some (.own a)/\fs.length<=1000/\dx≠a/\h.get? a=some (bV C dx) /\
   ∃ mA,h.Ns1 dx mA/\(∀ f,RelO (fs.lookup f) (mA f))/\gS mA (fs.map (·.1))
 | .own _=>∃ o,h.get? a=some o
 | .xd fs=>∃ mA,h.Ns1 a mA /\ ∀ f,RelO (fs.lookup f) (mA f)
 | .rng lo hi=>∃ t u v,h.get? a=some { cls:=.type "range", data:=.fields #[.int lo t,.int hi u,.int 1 v] }
 | .frz o u=>h.get? a=some o/\ObjOk H h a u
 | .tbl ps=>h.get? a=some { cls:=.none,data:=.fields ps }
 | .met f x=>h.get? a=some (iU (.ref f) (.ref x))
 | .ext φ=>φ h/\(∃ o,h.get? a=some o) /\ ∀ h1 h2:Heap,φ h1->(∀ o,h1.get? a=some o->h2.get? a=some o)->φ h2
noncomputable def HOk (H:Hp) (h:Heap):Prop:=∀ a o,H a=some o->ObjOk P w H h a o
end
section
variable {P:aV} {w:bM} {H H':Hp} {h h':Heap} {a:Addr} {o:HO}
theorem ObjOk.lt (x:ObjOk P w H h a o):a<h.objs.size:=by
 cases o with
 | lst xs=>obtain⟨_,_,_,_,e⟩:=x;exact aB e
 | tup xs=>obtain⟨_,_,_,p⟩:=x;exact p.lt
 | dK kvs=>obtain⟨_,_,_,_,o,_,_,e,_⟩:=x;exact aB e
 | dT kvs=>obtain⟨_,_,_,_,o,_,_,e,_⟩:=x;exact aB e
 | set S n=>obtain⟨o,_,_,_,e,_⟩:=x;exact aB e
 | ins C dx fs=>obtain⟨_,_,_,e,_⟩:=x;exact aB e
 | own y=>obtain⟨_,e⟩:=x;exact aB e
 | xd fs=>obtain⟨_,⟨_,_,_,e,_⟩,_⟩:=x;exact aB e
 | rng lo hi=>obtain⟨_,_,_,e⟩:=x;exact aB e
 | frz ob u=>obtain⟨e,_⟩:=x;exact aB e
 | tbl ps=>exact aB (show h.get? a=some _ from x)
 | met f y=>exact aB (show h.get? a=some _ from x)
 | ext φ=>obtain⟨_,⟨_,e⟩,_⟩:=x;exact aB e
theorem Paired.mapP {α β:Type} {F G:α->β->Prop}:∀ {l₁:List α} {l₂:List β},gQ F l₁ l₂->(∀ a b,F a b->G a b)->gQ G l₁ l₂
 | _,_,.nil,_=>.nil
 | _,_,.cons r t,f=>.cons (f _ _ r) (Paired.mapP t f)
theorem ObjOk.stay (x:ObjOk P w H h a o) (k:∀ b u,(b=a\/H b=some (.own a))->h.get? b=some u->h'.get? b=some u)
  (ho:∀ b,H b=some (.own a)->H' b=some (.own a)) (ht:∀ b xs,H b=some (.tup xs)->H' b=some (.tup xs)):ObjOk P w H' h' a o:=by
 induction o with
 | lst xs=>obtain⟨z,its,n,r,e⟩:=x;exact⟨z,its,n,r,k _ _ (.inl rfl) e⟩
 | tup xs=>obtain⟨z,its,r,ob,e,c⟩:=x;exact⟨z,its,r,ob,k _ _ (.inl rfl) e,c⟩
 | dK kvs=>obtain⟨z,y,vs,r,ob,es,ep,e,c⟩:=x;exact⟨z,y,vs,r,ob,es,ep,k _ _ (.inl rfl) e,c⟩
 | dT kvs=>
  obtain⟨z,y,xs,r,ob,es,ep,e,c⟩:=x
  exact⟨z,y,xs,Paired.mapP r fun p q z=>⟨z.1,ht _ _ z.2.1,z.2.2⟩,ob,es,ep,k _ _ (.inl rfl) e,c⟩
 | set S n=>obtain⟨ob,es,ep,t,e,c⟩:=x;exact⟨ob,es,ep,t,k _ _ (.inl rfl) e,c⟩
 | ins C dx fs=>
  obtain⟨d,z,ne,e,mA,⟨od,es,ep,e2,c⟩,r⟩:=x
  exact⟨ho _ d,z,ne,k _ _ (.inl rfl) e,mA,⟨od,es,ep,k _ _ (.inr d) e2,c⟩,r⟩
 | own y=>obtain⟨ob,e⟩:=x;exact⟨ob,k _ _ (.inl rfl) e⟩
 | xd fs=>obtain⟨mA,⟨od,es,ep,e,c⟩,r⟩:=x;exact⟨mA,⟨od,es,ep,k _ _ (.inl rfl) e,c⟩,r⟩
 | rng lo hi=>obtain⟨t,u,v,e⟩:=x;exact⟨t,u,v,k _ _ (.inl rfl) e⟩
 | frz ob u ih=>obtain⟨e,q⟩:=x;exact⟨k _ _ (.inl rfl) e,ih q⟩
 | tbl ps=>
  have e:h.get? a=some { cls:=.none,data:=.fields ps }:=x
  show h'.get? a=some { cls:=.none,data:=.fields ps }
  exact k a _ (.inl rfl) e
 | met f y=>
  have e:h.get? a=some (iU (.ref f) (.ref y)):=x
  show h'.get? a=some (iU (.ref f) (.ref y))
  exact k a _ (.inl rfl) e
 | ext φ=>obtain⟨p,⟨o,e⟩,st⟩:=x;exact⟨st _ _ p fun o q=>k _ _ (.inl rfl) q,⟨o,k _ _ (.inl rfl) e⟩,st⟩
theorem HOk.lt (x:HOk P w H h) (e:H a=some o):a<h.objs.size:=(x a o e).lt
theorem HOk.fresh (x:HOk P w H h) (e:h.objs.size<=a):H a=none:=by
 cases q:H a with
 | none=>rfl
 | some u=>exact absurd (aG (x.lt q) e) (fu _)
theorem HOk.kept (x:HOk P w H h) (k:∀ b u,h.get? b=some u->h'.get? b=some u):HOk P w H h':=fun a o e=>
 (x a o e).stay (fun b u _ q=>k b u q) (fun _ q=>q) fun _ _ q=>q
theorem HOk.laid (x:HOk P w H h) (k:∀ b u,h.get? b=some u->h'.get? b=some u) (hp:h.objs.size<=a) (new:ObjOk P w (upd H a o) h' a o):HOk P w (upd H a o) h':=fun b u e=>by
 have hn:=x.fresh hp
 by_cases hb:b=a
 ·subst hb;rw [Ad] at e;cases e;exact new
 ·rw [Ai hb] at e
  exact (x b u e).stay (fun c v _ q=>k c v q) (fun c q=>by rw [Ai (Ak q hn)];exact q) fun c xs q=>by rw [Ai (Ak q hn)];exact q
end
noncomputable def Rd (H:Hp) (a:Addr) (u:HO):Prop:=H a=some u \/ ∃ o,H a=some (.frz o u)
theorem Rd.ok {P:aV} {w:bM} {H:Hp} {h:Heap} {a:Addr} {u:HO} (r:Rd H a u) (x:HOk P w H h):ObjOk P w H h a u:=by
 rcases r with r|⟨o,r⟩
 ·exact x a u r
 ·obtain⟨_,q⟩:=x a _ r
  exact q
noncomputable def Mut:Option HO->Prop
 | some (.lst _)=>True
 | some (.dK _)=>True
 | some (.dT _)=>True
 | some (.set _ _)=>True
 | some (.ins _ _ _)=>True
 | some (.ext _)=>True
 | _=>False
section
variable {P:aV} {w:bM} {H:Hp} {h h':Heap} {x e:Addr} {o':HO}
theorem HOk.write (ok:HOk P w H h) (mu:Mut (H x)) (he:e=x\/H e=some (.own x)) (k:∀ b u,b≠e->h.get? b=some u->h'.get? b=some u) (heo:∃ u,h'.get? e=some u)
  (new:ObjOk P w (upd H x o') h' x o'):HOk P w (upd H x o') h':=fun b u q=>by
 have nown:∀ c y,H c=some (.own y)->c≠x:=fun c y r z=>by subst z;rw [r] at mu;exact mu
 have ntup:∀ c xs,H c=some (.tup xs)->c≠x:=fun c xs r z=>by subst z;rw [r] at mu;exact mu
 by_cases hb:b=x
 ·subst hb;rw [Ad] at q;cases q;exact new
 ·rw [Ai hb] at q
  by_cases hbe:b=e
  ·have q':H b=some (.own x):=by
    rcases he with z|z
    ·exact absurd (hbe.trans z) hb
    ·rw [hbe];exact z
   rw [q] at q';cases q'
   obtain⟨v,hv⟩:=heo
   exact⟨v,by rw [hbe];exact hv⟩
  ·refine (ok b u q).stay (fun c v hc r=>k c v ?_ r) (fun c r=>by rw [Ai (nown c b r)];exact r) fun c xs r=>by rw [Ai (ntup c xs r)];exact r
   rcases hc with rfl|hc
   ·exact hbe
   ·rintro rfl
    rcases he with z|z
    ·exact nown c b hc z
    ·rw [hc] at z;cases z;exact hb rfl
end
structure Un (fs ex:List Addr) (H H':Hp) (h h':Heap):Prop where
 keep:∀ b o,h.get? b=some o->H b=none->b∉fs->b∉ex->h'.get? b=some o
 slot:∀ b o,h.get? b=some o->H b=none->b∈fs->b∉ex -> ∃ sl,h'.get? b=some { o with slots:=sl }
 free:∀ b o,h.get? b=some o->H b=none->b∉ex->H' b=none
 there:∀ b o,h.get? b=some o->b∉ex -> ∃ o',h'.get? b=some o'
 tups:∀ b xs,H b=some (.tup xs)->H' b=some (.tup xs)
 frzs:∀ b o u,H b=some (.frz o u)->H' b=some (.frz o u)
 tbls:∀ b ps,H b=some (.tbl ps) -> ∃ more,H' b=some (.tbl (ps++more))
section
variable {fs fs' ex ex':List Addr} {H H1 H2:Hp} {h h1 h2 h':Heap} {a x e:Addr} {o:HO}
theorem Un.any (u:Un fs ex H H1 h h1) {b:Addr} {ob:Obj} (q:h.get? b=some ob) (n:H b=none) (hx:b∉ex):∃ sl,h1.get? b=some { ob with slots:=sl }:=by
 by_cases hb:b∈fs
 ·exact u.slot b ob q n hb hx
 ·exact⟨ob.slots,u.keep b ob q n hb hx⟩
theorem Un.kept (k:∀ b u,h.get? b=some u->h'.get? b=some u):Un fs ex H H h h':=
 ⟨fun b ob q _ _ _=>k b ob q,fun b ob q _ _ _=>⟨ob.slots,k b ob q⟩,fun _ _ _ n _=>n,fun b ob q _=>⟨ob,k b ob q⟩,fun _ _ q=>q,fun _ _ _ q=>q,fun _ ps q=>⟨#[],by rw [q];simp⟩⟩
theorem Un.refl:Un fs ex H H h h:=Un.kept fun _ _ q=>q
theorem Un.laid (k:∀ b u,h.get? b=some u->h'.get? b=some u) (hp:h.objs.size<=a) (hn:H a=none):Un fs ex H (upd H a o) h h' where
 keep:=fun b u q _ _ _=>k b u q
 slot:=fun b u q _ _ _=>⟨u.slots,k b u q⟩
 free:=fun b u q n _=>by rw [Ai (aH (aG (aB q) hp))];exact n
 there:=fun b u q _=>⟨u,k b u q⟩
 tups:=fun b xs q=>by rw [Ai (Ak q hn)];exact q
 frzs:=fun b u xs q=>by rw [Ai (Ak q hn)];exact q
 tbls:=fun b ps q=>⟨#[],by rw [Ai (Ak q hn),q];simp⟩
theorem Un.write (mu:Mut (H x)) (he:e=x\/H e=some (.own x)) (k:∀ b u,b≠e->h.get? b=some u->h'.get? b=some u) (heo:∃ u,h'.get? e=some u):Un fs ex H (upd H x o) h h':=by
 have hx:∀ b,H b=none->b≠x:=fun b n z=>by subst z;rw [n] at mu;exact mu
 have hb:∀ b,H b=none->b≠e:=fun b n z=>by
  subst z
  rcases he with r|r
  ·exact hx b n r
  ·rw [n] at r;cases r
 have hm:∀ b u,H b=some u -> ¬ Mut (some u)->b≠x:=fun b u q nm z=>by subst z;rw [q] at mu;exact nm mu
 refine⟨fun b u q n _ _=>k b u (hb b n) q,fun b u q n _ _=>⟨u.slots,k b u (hb b n) q⟩,fun b u q n _=>by rw [Ai (hx b n)];exact n,fun b u q _=>?_,
  fun b xs q=>by rw [Ai (hm b _ q fun z=>z)];exact q,fun b u xs q=>by rw [Ai (hm b _ q fun z=>z)];exact q,fun b ps q=>⟨#[],by rw [Ai (hm b _ q fun z=>z),q];simp⟩⟩
 by_cases hbe:b=e
 ·subst hbe;exact heo
 ·exact⟨u,k b u hbe q⟩
end
noncomputable def trk (h:Heap) (H:Hp):List Addr:=(aq h.objs.size).filter fun a=>(H a).isSome
noncomputable def O3 (h:Heap) (H:Hp):Heap:=PySem.W.hideAll h (trk h H)
theorem Yn (h:Heap) (H:Hp):(O3 h H).objs.size=h.objs.size:=PySem.W.hideAll_size _ _
theorem ag5 {h:Heap} {H:Hp} {b:Addr} {o:Obj} (e:h.get? b=some o) (n:H b=none):(O3 h H).get? b=some o:=
 PySem.W.hideAll_get _ e fun hm=>by
  have q:(H b).isSome=true:=(List.mem_filter.mp hm).2
  rw [n] at q;simp at q
theorem aw9 {h:Heap} {H:Hp} {b:Addr} {o:Obj} (e:(O3 h H).get? b=some o):h.get? b=some o/\H b=none:=by
 have e':h.get? b=some o:=PySem.W.of_hideAll (trk h H) e
 refine⟨e',?_⟩
 cases q:H b with
 | none=>rfl
 | some x=>
  have hm:b∈trk h H:=List.mem_filter.mpr ⟨List.mem_range.mpr (aB e'),by simp [q]⟩
  have z:(O3 h H).get? b=none:=PySem.W.hideAll_none (trk h H) hm
  rw [z] at e;cases e
structure Mod (K:ac) (mg:Str->Option Value) (base:Heap):Prop where
 kin:K.In base
 glob:base.Ns a_ mg
 blt:∃ mb,base.Ns builtinsNs mb /\ ∀ x:Str,x ≠ "__name__" -> mb x=dF x
 nolimit:base.NoLimit
structure Cx where
 prog:aV
 w:bM
 K:ac
 mg:Str->Option Value
 base:Heap
 A:bi
 N:List Str
 s₀:aj
 H₀:Hp
 env:Env
 outer:List Env
 stack:List Env
 ex:List Addr
 fn:Str->Bool
 calm:Bool
 pn:List (Addr×Obj)
 xe:Value->aj->Prop
noncomputable def frs (l:List Env):List Addr:=l.filterMap (·.frame)
noncomputable abbrev Cx.fs (X:Cx):List Addr:=frs X.outer
noncomputable def Vis (sc:Scope) (x:Str):Prop:=sc.names.lookup x=some .local\/sc.names.lookup x=some .cell\/sc.names.lookup x=some .free
noncomputable def Loc (sc:Scope) (x:Str):Prop:=sc.names.lookup x=some .local\/sc.names.lookup x=some .cell
noncomputable def cc6 (env:Env) (h:Heap) (m:Str->Option Value) (x:Str) (u:Value):Prop:=
 (env.kindOf x=some .local/\m x=some u)\/((env.kindOf x=some .cell\/env.kindOf x=some .free) /\ ∃ c,env.cells.lookup x=some c/\h.IsCell c (some u))
structure Cx.Ok (X:Cx):Prop where
 mod:Mod X.K X.mg X.base
 kind:X.env.scope.kind=.function
 glob:X.env.globals=a_
 blt:X.env.builtins=builtinsNs
 above:X.s₀.heap.objs.size<=X.env.locals
 inj:∀ x y c,X.env.cells.lookup x=some c->X.env.cells.lookup y=some c->x=y
 has:∀ x,(X.env.kindOf x=some .cell\/X.env.kindOf x=some .free) -> ∃ c,X.env.cells.lookup x=some c
 cab:∀ x c,X.fn x=true->X.env.cells.lookup x=some c->X.s₀.heap.objs.size<=c
 hd:X.calm=true->X.A.handled=none
 frames:X.A.frames=some X.stack
 stk:X.stack=X.outer\/(X.stack=X.env::X.outer/\X.env.frame=some X.env.locals)
 exf:∀ b∈X.ex,b≠X.env.locals /\ ∀ x c,X.env.cells.lookup x=some c->c≠b
 bs:∀ b o,X.base.get? b=some o->X.s₀.heap.get? b=some o/\X.H₀ b=none
 bsz:X.base.objs.size<=X.s₀.heap.objs.size
 noex:∀ b o,X.base.get? b=some o->b∉X.ex
 exfs:∀ b∈X.ex,b∉X.fs
 funs:X.s₀.heap.FunFrames X.base X.outer
 frf:∀ b∈X.fs,X.H₀ b=none
structure Inv (X:Cx) (pins:List (Addr×Obj)) (σ:List (Option V)) (H:Hp) (s:aj):Prop where
 ok:X.Ok
 os:s.os=X.s₀.os
 bare:jB s.gens
 base:Un X.fs X.ex X.H₀ H X.s₀.heap s.heap
 loc:∃ m,s.heap.Ns X.env.locals m /\ ∀ (i:Nat) (x:Str) (v:V),X.N[i]? = some x->σ[i]? = some (some v)->Vis X.env.scope x -> ∃ u,RelV v u/\cc6 X.env s.heap m x u
 cell:∀ x c,X.env.cells.lookup x=some c -> ∃ v,s.heap.IsCell c v
 free:H X.env.locals=none
 freeC:∀ x c,X.env.cells.lookup x=some c->H c=none
 pin:∀ p∈X.pn++pins,s.heap.get? p.1=some p.2/\H p.1=none/\p.1≠X.env.locals/\p.1∉X.fs /\ ∀ v,p.2.data≠.cell v
 hok:HOk X.prog X.w H s.heap
 len:σ.length=X.N.length
section
variable {X:Cx} {pins:List (Addr×Obj)} {σ:List (Option V)} {H H':Hp} {s:aj} {h':Heap}
theorem Cx.Ok.nofr (ok:X.Ok) {b:Addr} {o:Obj} (e:X.base.get? b=some o):b∉X.fs:=fun hb=>by
 have:=(ok.funs.mem hb).1
 rw [e] at this;cases this
theorem Inv.bs (I:Inv X pins σ H s):∀ b o,X.base.get? b=some o->s.heap.get? b=some o/\H b=none:=fun b o e=>
 ⟨I.base.keep b o (I.ok.bs b o e).1 (I.ok.bs b o e).2 (I.ok.nofr e) (I.ok.noex b o e),I.base.free b o (I.ok.bs b o e).1 (I.ok.bs b o e).2 (I.ok.noex b o e)⟩
theorem Inv.bk (I:Inv X pins σ H s):∀ b o,X.base.get? b=some o->s.heap.get? b=some o:=fun b o e=>(I.bs b o e).1
theorem Inv.mod (I:Inv X pins σ H s):Mod X.K X.mg X.base:=I.ok.mod
theorem Inv.kIn (I:Inv X pins σ H s):X.K.In s.heap:=I.ok.mod.kin.keeps I.bk
theorem Inv.lt (I:Inv X pins σ H s):X.env.locals<s.heap.objs.size:=let ⟨_,hn,_⟩:=I.loc;hn.lt
theorem Inv.sz (I:Inv X pins σ H s):X.s₀.heap.objs.size<=s.heap.objs.size:=aQ I.ok.above (fc I.lt)
theorem Inv.nofs (I:Inv X pins σ H s) {a:Addr} (h:s.heap.objs.size<=a):a∉X.fs:=fun hb=>by
 obtain⟨_,o,ho,_⟩:=I.ok.funs.mem hb
 exact absurd (aG (aB ho) (aQ I.sz h)) (fu _)
theorem Inv.cne (I:Inv X pins σ H s):∀ x c,X.env.cells.lookup x=some c->c≠X.env.locals:=fun x c e z=>by
 obtain⟨v,o,ho,hd⟩:=I.cell x c e
 obtain⟨m,⟨o',es,ep,ho',hd',_⟩,_⟩:=I.loc
 rw [z,ho'] at ho;cases ho;rw [hd'] at hd;cases hd
theorem Inv.funs (I:Inv X pins σ H s):s.heap.FunFrames X.base X.outer:=by
 have all:∀ (l:List Env),(∀ b∈frs l,b∈X.fs)->X.s₀.heap.FunFrames X.base l->s.heap.FunFrames X.base l:=by
  intro l
  induction l with
  | nil=>intro _ _;trivial
  | cons env r ih=>
   intro hs hl
   obtain⟨hk,⟨L,o,hf,hn,ho,hd⟩,hr⟩:=hl
   have hL:L∈X.fs:=hs L (by unfold frs;rw [ib,hf];exact aZ)
   obtain⟨sl,e⟩:=I.base.slot L o ho (I.ok.frf L hL) hL fun z=>I.ok.exfs L z hL
   exact⟨hk,⟨L,_,hf,hn,e,hd⟩,ih (fun b hb=>hs b (by unfold frs;rw [ib,hf];exact aL _ hb)) hr⟩
 exact all X.outer (fun _ hb=>hb) I.ok.funs
theorem Inv.stack (I:Inv X pins σ H s):s.heap.FunFrames X.base X.stack:=by
 rcases I.ok.stk with e|⟨e,hf⟩
 ·rw [e];exact I.funs
 ·rw [e]
  obtain⟨m,hn,_⟩:=I.loc
  refine .cons (by rw [I.ok.kind];decide) hf hn ?_ I.funs
  exact gZ (aQ I.ok.bsz I.ok.above)
theorem Inv.stkSub (I:Inv X pins σ H s):∀ b∈frs X.stack,b∈X.env.locals::X.fs:=fun b hb=>by
 rcases I.ok.stk with e|⟨e,hf⟩
 ·rw [e] at hb;exact aL _ hb
 ·rw [e] at hb
  unfold frs at hb
  rw [ib,hf] at hb
  exact hb
theorem Inv.stkFree (I:Inv X pins σ H s):∀ b∈frs X.stack,H b=none:=fun b hb=>by
 rcases List.mem_cons.mp (I.stkSub b hb) with e|hb
 ·rw [e];exact I.free
 ·obtain⟨_,o,ho,_⟩:=I.ok.funs.mem hb
  exact I.base.free b o ho (I.ok.frf b hb) fun z=>I.ok.exfs b z hb
theorem Inv.step {g':Array jU} {t':Nat} {d':Drawn} {ch:List Addr} (I:Inv X pins σ H s)
  (hch:∀ b∈ch,(b∈X.ex\/X.s₀.heap.objs.size<=b)/\b≠X.env.locals/\(∀ x c,X.env.cells.lookup x=some c->c≠b) /\ ∀ p∈X.pn++pins,p.1≠b)
  (keep:∀ b o,b≠X.env.locals->b∉X.fs->b∉ch->s.heap.get? b=some o->H b=none->h'.get? b=some o)
  (slot:∀ b o,b≠X.env.locals->b∈X.fs->b∉ch->s.heap.get? b=some o->H b=none -> ∃ sl,h'.get? b=some { o with slots:=sl }) (free:∀ b o,b∉ch->s.heap.get? b=some o->H b=none->H' b=none)
  (there:∀ b o,b∉ch->s.heap.get? b=some o -> ∃ o',h'.get? b=some o')
  (tups:∀ b xs,H b=some (.tup xs)->H' b=some (.tup xs)) (frzs:∀ b o u,H b=some (.frz o u)->H' b=some (.frz o u)) (tbls:∀ b ps,H b=some (.tbl ps) -> ∃ more,H' b=some (.tbl (ps++more)))
  (ns:∀ m,s.heap.Ns X.env.locals m->h'.Ns X.env.locals m) (hok:HOk X.prog X.w H' h') (hg:jB g') :
  Inv X pins σ H' { s with heap:=h',gens:=g',drawn:=d',toks:=t' }:=by
 have neL:∀ b o,X.s₀.heap.get? b=some o->b≠X.env.locals:=fun b o e=>aH (aG (aB e) I.ok.above)
 have neC:∀ b o,X.s₀.heap.get? b=some o->b∉X.ex->b∉ch:=fun b o e hx hb=>by
  rcases (hch b hb).1 with z|z
  ·exact hx z
  ·exact absurd (aG (aB e) z) (fu _)
 have cellK:∀ x c,X.env.cells.lookup x=some c -> ∀ v,s.heap.IsCell c v->h'.IsCell c v:=fun x c e v ⟨o,ho,hd⟩=>by
  have nch:c∉ch:=fun z=>(hch c z).2.2.1 x c e rfl
  by_cases hc:c∈X.fs
  ·obtain⟨sl,q⟩:=slot c o (I.cne x c e) hc nch ho (I.freeC x c e)
   exact⟨_,q,hd⟩
  ·exact⟨o,keep c o (I.cne x c e) hc nch ho (I.freeC x c e),hd⟩
 refine⟨I.ok,I.os,hg,⟨fun b o e n hb hx=>?_,fun b o e n hb hx=>?_,fun b o e n hx=>?_,fun b o e hx=>?_,fun b xs e=>tups b xs (I.base.tups b xs e),fun b o xs e=>frzs b o xs (I.base.frzs b o xs e),fun b ps e=>?_⟩,?_,fun x c e=>?_,?_,fun x c e=>?_,fun p hp=>?_,hok,I.len⟩
 ·exact keep b o (neL b o e) hb (neC b o e hx) (I.base.keep b o e n hb hx) (I.base.free b o e n hx)
 ·obtain⟨sl,e1⟩:=I.base.slot b o e n hb hx
  obtain⟨sl',e2⟩:=slot b _ (neL b o e) hb (neC b o e hx) e1 (I.base.free b o e n hx)
  exact⟨sl',e2⟩
 ·obtain⟨o',e1⟩:=I.base.there b o e hx
  exact free b o' (neC b o e hx) e1 (I.base.free b o e n hx)
 ·obtain⟨o',e1⟩:=I.base.there b o e hx
  exact there b o' (neC b o e hx) e1
 ·obtain⟨m1,e1⟩:=I.base.tbls b ps e
  obtain⟨m2,e2⟩:=tbls b _ e1
  exact⟨m1++m2,by rw [e2,Array.append_assoc]⟩
 ·obtain⟨m,hn,hl⟩:=I.loc
  refine⟨m,ns m hn,fun i x v e1 e2 e3=>?_⟩
  obtain⟨u,r,l⟩:=hl i x v e1 e2 e3
  refine⟨u,r,?_⟩
  rcases l with l|⟨k,c,e,z⟩
  ·exact .inl l
  ·exact .inr ⟨k,c,e,cellK x c e _ z⟩
 ·obtain⟨v,z⟩:=I.cell x c e
  exact⟨v,cellK x c e v z⟩
 ·obtain⟨m,⟨o,_,_,ho,_⟩,_⟩:=I.loc
  exact free _ o (fun z=>(hch _ z).2.1 rfl) ho I.free
 ·obtain⟨v,o,ho,hd⟩:=I.cell x c e
  exact free c o (fun z=>(hch c z).2.2.1 x c e rfl) ho (I.freeC x c e)
 ·obtain⟨e,n,ne,nf,d⟩:=I.pin p hp
  have nch:p.1∉ch:=fun z=>(hch p.1 z).2.2.2 p hp rfl
  exact⟨keep p.1 p.2 ne nf nch e n,free p.1 p.2 nch e n,ne,nf,d⟩
theorem Inv.un {t':Nat} (I:Inv X pins σ H s) (u:Un X.fs [] H H' s.heap h') (hok:HOk X.prog X.w H' h'):Inv X pins σ H' { s with heap:=h',toks:=t' }:=by
 obtain⟨m,⟨o,es,ep,ho,r⟩,_⟩:=id I.loc
 obtain⟨sl,hL⟩:=u.any ho I.free (by simp)
 exact I.step (g':=s.gens) (d':=s.drawn) (ch:=[]) (fun _ z=>nomatch z) (fun b o _ hb _ e n=>u.keep b o e n hb (by simp)) (fun b o _ hb _ e n=>u.slot b o e n hb (by simp)) (fun b o _ e n=>u.free b o e n (by simp)) (fun b o _ e=>u.there b o e (by simp)) u.tups u.frzs u.tbls (fun m' hm=>by
  obtain⟨o',es',ep',ho',r'⟩:=hm
  rw [ho] at ho';cases ho'
  exact⟨_,es',ep',hL,r'⟩) hok I.bare
theorem Inv.call {g':Array jU} {t':Nat} {d':Drawn} {ch:List Addr} (I:Inv X pins σ H s) (u:Un (frs X.stack) ch H H' s.heap h') (hok:HOk X.prog X.w H' h') (hg:jB g')
  (hch:∀ b∈ch,(b∈X.ex\/X.s₀.heap.objs.size<=b)/\b≠X.env.locals/\(∀ x c,X.env.cells.lookup x=some c->c≠b) /\ ∀ p∈X.pn++pins,p.1≠b) :
  Inv X pins σ H' { s with heap:=h',gens:=g',drawn:=d',toks:=t' }:=by
 obtain⟨m,⟨o,es,ep,ho,r⟩,_⟩:=id I.loc
 obtain⟨sl,hL⟩:=u.any ho I.free fun z=>(hch _ z).2.1 rfl
 exact I.step (ch:=ch) hch (fun b o hL hb hc e n=>u.keep b o e n (fun z=>(List.mem_cons.mp (I.stkSub b z)).elim hL hb) hc) (fun b o _ _ hc e n=>u.any e n hc) (fun b o hc e n=>u.free b o e n hc) (fun b o hc e=>u.there b o e hc) u.tups u.frzs u.tbls (fun m' hm=>by
  obtain⟨o',es',ep',ho',r'⟩:=hm
  rw [ho] at ho';cases ho'
  exact⟨_,es',ep',hL,r'⟩) hok hg
theorem Inv.turned {t':Nat} {it:Addr} (I:Inv X pins σ H s) (k:∀ b o,b≠it->s.heap.get? b=some o->h'.get? b=some o) (hn:H it=none) (hL:it≠X.env.locals)
  (h1:it∈X.ex\/X.s₀.heap.objs.size<=it) (h2:∀ x c,X.env.cells.lookup x=some c->c≠it) (h3:∀ p∈X.pn++pins,p.1≠it):Inv X pins σ H { s with heap:=h',toks:=t' }:=by
 have nit:∀ b u,H b=some u->b≠it:=fun b u e z=>by rw [z,hn] at e;cases e
 refine I.step (g':=s.gens) (d':=s.drawn) (ch:=[it]) (fun b hb=>?_) (fun b o _ _ hc e _=>k b o (fun z=>hc (by simp [z])) e) (fun b o _ _ hc e _=>⟨o.slots,k b o (fun z=>hc (by simp [z])) e⟩) (fun _ _ _ _ n=>n)
  (fun b o hc e=>⟨o,k b o (fun z=>hc (by simp [z])) e⟩) (fun _ _ e=>e) (fun _ _ _ e=>e) (fun b ps e=>⟨#[],by rw [e];simp⟩) (fun m hm=>?_) (fun b u e=>?_) I.bare
 ·have e:b=it:=by simpa using hb
  subst e
  exact⟨h1,hL,h2,h3⟩
 ·obtain⟨o,es,ep,ho,r⟩:=hm
  exact⟨o,es,ep,k _ o (ck hL) ho,r⟩
 ·refine (I.hok b u e).stay (fun c v hc q=>k c v ?_ q) (fun _ q=>q) fun _ _ q=>q
  rcases hc with z|z
  ·rw [z];exact nit b u e
  ·exact nit c _ z
theorem Inv.tok (I:Inv X pins σ H s) (t:Nat):Inv X pins σ H { s with toks:=t }:=I.un (h':=s.heap) (t':=t) Un.refl I.hok
theorem Inv.kept {t':Nat} (I:Inv X pins σ H s) (k:∀ b u,s.heap.get? b=some u->h'.get? b=some u):Inv X pins σ H { s with heap:=h',toks:=t' }:=I.un (Un.kept k) (I.hok.kept k)
theorem Inv.laid {a:Addr} {o:HO} {t':Nat} (I:Inv X pins σ H s) (k:∀ b u,s.heap.get? b=some u->h'.get? b=some u) (hp:s.heap.objs.size<=a) (new:ObjOk X.prog X.w (upd H a o) h' a o) :
  Inv X pins σ (upd H a o) { s with heap:=h',toks:=t' }:=I.un (Un.laid k hp (I.hok.fresh hp)) (I.hok.laid k hp new)
theorem Inv.write {x e:Addr} {o:HO} {t':Nat} (I:Inv X pins σ H s) (mu:Mut (H x)) (he:e=x\/H e=some (.own x)) (k:∀ b u,b≠e->s.heap.get? b=some u->h'.get? b=some u) (heo:∃ u,h'.get? e=some u)
  (new:ObjOk X.prog X.w (upd H x o) h' x o):Inv X pins σ (upd H x o) { s with heap:=h',toks:=t' }:=I.un (Un.write mu he k heo) (I.hok.write mu he k heo new)
theorem Inv.pins_of {pins':List (Addr×Obj)} (I:Inv X pins σ H s) (h:∀ p∈pins',s.heap.get? p.1=some p.2/\H p.1=none/\p.1≠X.env.locals/\p.1∉X.fs /\ ∀ v,p.2.data≠.cell v):Inv X pins' σ H s:=
 ⟨I.ok,I.os,I.bare,I.base,I.loc,I.cell,I.free,I.freeC,fun p hp=>(List.mem_append.mp hp).elim (fun z=>I.pin p (fE _ z)) (h p),I.hok,I.len⟩
theorem K0 {N:List Str} (hN:N.Nodup) {i j:Nat} {x:Str} (a:N[i]? = some x) (b:N[j]? = some x):i=j:=by
 obtain⟨h1,e1⟩:=List.getElem?_eq_some_iff.mp a
 obtain⟨h2,e2⟩:=List.getElem?_eq_some_iff.mp b
 exact (c9 hN).mp (e1.trans e2.symm)
theorem Zj {M:mf} {A:bi} {E:Value->aj->Prop} {i:Nat} {x:Str} {v:V} {u:Value} {Q:Unit->aj->Prop} (I:Inv X pins σ H s) (hN:X.N.Nodup) (hi:X.N[i]? = some x) (hx:Loc X.env.scope x) (r:RelV v u)
  (h:∀ s',Inv X pins (σ.set i (some v)) H s'->(∃ a,bc a s.heap s'.heap/\(a=X.env.locals\/X.env.cells.lookup x=some a))->Q () s') (hf:X.fn x=true\/X.env.scope.names.lookup x=some .local:=by first|exact .inl rfl|exact .inr rfl|assumption):aI M A (storeName X.env x u) Q E s:=by
 obtain⟨m,hn,hl⟩:=id I.loc
 have hcls:(X.env.scope.kind==.class||(X.env.scope.kind==.module&&X.env.locals != X.env.globals))=false:=by rw [I.ok.kind];rfl
 have hiσ:i<σ.length:=by rw [I.len];exact (List.getElem?_eq_some_iff.mp hi).1
 have cne:=I.cne
 have tracked:∀ {a:Addr} {h':Heap},(∃ o,s.heap.get? a=some o/\H a=none)->bc a s.heap h'->HOk X.prog X.w H h':=fun {a h'} ha hs b ob e=>by
  obtain⟨_,_,hfree⟩:=ha
  refine (I.hok b ob e).stay (fun c w' hc q=>(hs.2 c ?_).trans q) (fun _ q=>q) fun _ _ q=>q
  rintro rfl
  rcases hc with rfl|hc
  ·rw [hfree] at e;cases e
  ·rw [hfree] at hc;cases hc
 rcases hx with hk|hk
 ·refine wpAny_storeName_local hk hn (fun h' hn' hs=>?_) hcls
  obtain⟨oL,_,_,hoL,_⟩:=id hn
  refine h _ ⟨I.ok,I.os,I.bare,⟨fun b o e n hb hx=>?_,fun b o e n hb hx=>?_,I.base.free,fun b o e hx=>?_,I.base.tups,I.base.frzs,I.base.tbls⟩,⟨_,hn',fun j y v' e1 e2 e3=>?_⟩,fun y c e=>?_,I.free,I.freeC,fun p hp=>?_,tracked ⟨oL,hoL,I.free⟩ hs,by simpa using I.len⟩ ⟨_,hs,.inl rfl⟩
  ·exact (hs.2 b (aH (aG (aB e) I.ok.above))).trans (I.base.keep b o e n hb hx)
  ·obtain⟨sl,e1⟩:=I.base.slot b o e n hb hx
   exact⟨sl,(hs.2 b (aH (aG (aB e) I.ok.above))).trans e1⟩
  ·obtain⟨o',e1⟩:=I.base.there b o e hx
   exact⟨o',(hs.2 b (aH (aG (aB e) I.ok.above))).trans e1⟩
  ·by_cases hj:j=i
   ·subst hj
    rw [hi] at e1;cases e1
    rw [gv hiσ] at e2
    cases e2
    exact⟨u,r,.inl ⟨hk,by simp⟩⟩
   ·rw [g6 (ck hj)] at e2
    obtain⟨u',r',q⟩:=hl j y v' e1 e2 e3
    refine⟨u',r',?_⟩
    rcases q with ⟨k,e⟩|⟨k,c,e,z⟩
    ·refine .inl ⟨k,?_⟩
     have:y≠x:=fun e=>hj (K0 hN e1 (e▸hi))
     simp [this,e]
    ·exact .inr ⟨k,c,e,z.sameBut hs (cne y c e)⟩
  ·obtain⟨w',z⟩:=I.cell y c e
   exact⟨w',z.sameBut hs (cne y c e)⟩
  ·obtain⟨e,n,ne,nf,d⟩:=I.pin p hp
   exact⟨(hs.2 p.1 ne).trans e,n,ne,nf,d⟩
 ·have hfn:X.fn x=true:=by
   rcases hf with z|z
   ·exact z
   ·rw [z] at hk;cases hk
  obtain⟨c,hc⟩:=I.ok.has x (.inl hk)
  obtain⟨w',z⟩:=I.cell x c hc
  refine wpAny_storeName_cell I.ok.kind hk hc z (fun h' hc' hs=>?_)
  obtain⟨oc,hoc,hocd⟩:=id z
  refine h { s with heap:=h' } ⟨I.ok,I.os,I.bare,⟨fun b o e n hb hx=>?_,fun b o e n hb hx=>?_,I.base.free,fun b o e hx=>?_,I.base.tups,I.base.frzs,I.base.tbls⟩,⟨m,hn.sameBut hs (ck (cne x c hc)),fun j y v' e1 e2 e3=>?_⟩,fun y c' e=>?_,I.free,I.freeC,fun p hp=>?_,tracked ⟨oc,hoc,I.freeC x c hc⟩ hs,by simpa using I.len⟩ ⟨c,hs,.inr hc⟩
  ·exact (hs.2 b (aH (aG (aB e) (I.ok.cab x c hfn hc)))).trans (I.base.keep b o e n hb hx)
  ·obtain⟨sl,e1⟩:=I.base.slot b o e n hb hx
   exact⟨sl,(hs.2 b (aH (aG (aB e) (I.ok.cab x c hfn hc)))).trans e1⟩
  ·obtain⟨o',e1⟩:=I.base.there b o e hx
   exact⟨o',(hs.2 b (aH (aG (aB e) (I.ok.cab x c hfn hc)))).trans e1⟩
  ·by_cases hj:j=i
   ·subst hj
    rw [hi] at e1;cases e1
    rw [gv hiσ] at e2
    cases e2
    exact⟨u,r,.inr ⟨.inl hk,c,hc,hc'⟩⟩
   ·rw [g6 (ck hj)] at e2
    obtain⟨u',r',q⟩:=hl j y v' e1 e2 e3
    refine⟨u',r',?_⟩
    rcases q with q|⟨k,c',e,z'⟩
    ·exact .inl q
    ·refine .inr ⟨k,c',e,z'.sameBut hs ?_⟩
     rintro rfl
     exact hj (K0 hN e1 (I.ok.inj _ _ _ e hc▸hi))
  ·by_cases hcc:c'=c
   ·subst hcc;exact⟨_,hc'⟩
   ·obtain⟨w2,z2⟩:=I.cell y c' e
    exact⟨w2,z2.sameBut hs hcc⟩
  ·obtain⟨e,n,ne,nf,d⟩:=I.pin p hp
   refine⟨(hs.2 p.1 ?_).trans e,n,ne,nf,d⟩
   intro q
   rw [q,hoc] at e
   have q':oc=p.2:=aF e
   exact d w' (by rw [<- q'];exact hocd)
theorem Hn {M:mf} {A:bi} {E:Value->aj->Prop} {i:Nat} {x:Str} {v:V} {u:Value} {Q:Unit->aj->Prop} (I:Inv X pins σ H s) (hN:X.N.Nodup) (hi:X.N[i]? = some x) (hx:Loc X.env.scope x) (r:RelV v u)
  (h:∀ s',Inv X pins (σ.set i (some v)) H s'->Q () s') (hf:X.fn x=true\/X.env.scope.names.lookup x=some .local:=by first|exact .inl rfl|exact .inr rfl|assumption):aI M A (storeName X.env x u) Q E s:=
 Zj I hN hi hx r (fun s' I' _=>h s' I') hf
theorem Inv.call' {s':aj} {ch:List Addr} (I:Inv X pins σ H s) (ho:s'.os=s.os) (u:Un (frs X.stack) ch H H' s.heap s'.heap) (hok:HOk X.prog X.w H' s'.heap) (hg:jB s'.gens)
  (hch:∀ b∈ch,(b∈X.ex\/X.s₀.heap.objs.size<=b)/\b≠X.env.locals/\(∀ x c,X.env.cells.lookup x=some c->c≠b) /\ ∀ p∈X.pn++pins,p.1≠b):Inv X pins σ H' s':=by
 obtain⟨h',g',d',t',o'⟩:=s'
 have e:o'=s.os:=ho
 subst e
 exact I.call (g':=g') (t':=t') (d':=d') u hok hg hch
end
noncomputable abbrev XK:=Value->Option Addr->Hp->Prop
noncomputable abbrev St:=List (Option V)
noncomputable abbrev VK:=V->Hp->Prop
noncomputable abbrev TE:=St->Hp->VK->Prop
noncomputable abbrev TT:=St->Hp->(Bool->Hp->Prop)->Prop
noncomputable abbrev TA:=St->Hp->(List V->Hp->Prop)->Prop
structure Mi where
 nx:St->Hp->Prop
 rt:VK
 bk:St->Hp->Prop:=fun _ _=>False
 ct:St->Hp->Prop:=fun _ _=>False
noncomputable abbrev TS:=Mi->St->Hp->Prop
noncomputable def EP (X:Cx) (pins:List (Addr×Obj)) (σ:St) (Q:VK) (u:Value) (s':aj):Prop:=∃ v H',Inv X pins σ H' s'/\RelV v u/\Q v H'
noncomputable def TP (X:Cx) (pins:List (Addr×Obj)) (σ:St) (Q:Bool->Hp->Prop) (b:Bool) (s':aj):Prop:=∃ H',Inv X pins σ H' s'/\Q b H'
noncomputable def AP (X:Cx) (pins:List (Addr×Obj)) (σ:St) (Q:List V->Hp->Prop) (us:List Value) (s':aj):Prop:=∃ vs H',Inv X pins σ H' s'/\Vals vs us/\Q vs H'
noncomputable def SP (X:Cx) (pins:List (Addr×Obj)) (D:Mi) (f:Flow) (s':aj):Prop:=
 match f with
 | .next=>∃ σ' H',Inv X pins σ' H' s'/\D.nx σ' H'
 | .brk=>∃ σ' H',Inv X pins σ' H' s'/\D.bk σ' H'
 | .cont=>∃ σ' H',Inv X pins σ' H' s'/\D.ct σ' H'
 | .ret u=>∃ v σ' H',Inv X pins σ' H' s'/\RelV v u/\D.rt v H'
noncomputable def PE (X:Cx) (e:Expr) (t:TE):Prop:=
 ∀ (pins:List (Addr×Obj)) (s:aj) (σ:St) (H:Hp) (Q:VK),Inv X pins σ H s->t σ H Q->aI (model X.prog X.w) X.A (eval e X.env) (EP X pins σ Q) X.xe s
noncomputable def PT (X:Cx) (e:Expr) (t:TT):Prop:=
 ∀ (pins:List (Addr×Obj)) (s:aj) (σ:St) (H:Hp) (Q:Bool->Hp->Prop),Inv X pins σ H s->t σ H Q->aI (model X.prog X.w) X.A (isTrue e X.env (eval e X.env)) (TP X pins σ Q) X.xe s
noncomputable def PW (X:Cx) (e:Expr) (t:TT):Prop:=
 ∀ (whole:Sem Value) (pins:List (Addr×Obj)) (s:aj) (σ:St) (H:Hp) (Q:Bool->Hp->Prop),Inv X pins σ H s->t σ H Q->aI (model X.prog X.w) X.A (isTrue e X.env whole) (TP X pins σ Q) X.xe s
theorem PW.pt {X:Cx} {e:Expr} {t:TT} (h:PW X e t):PT X e t:=h _
noncomputable def PA (X:Cx) (es:List Expr) (t:TA):Prop:=
 ∀ (pos:Pos) (pins:List (Addr×Obj)) (s:aj) (σ:St) (H:Hp) (Q:List V->Hp->Prop),Inv X pins σ H s->t σ H Q->aI (model X.prog X.w) X.A (md (iE pos (dm es X.env))) (AP X pins σ Q) X.xe s
noncomputable def PS (X:Cx) (st:Stmt) (t:TS):Prop:=
 ∀ (pins:List (Addr×Obj)) (s:aj) (σ:St) (H:Hp) (D:Mi),Inv X pins σ H s->t D σ H->aI (model X.prog X.w) X.A (exec st X.env) (SP X pins D) X.xe s
noncomputable def PSs (X:Cx) (st:List Stmt) (t:TS):Prop:=
 ∀ (pins:List (Addr×Obj)) (s:aj) (σ:St) (H:Hp) (D:Mi),Inv X pins σ H s->t D σ H->aI (model X.prog X.w) X.A (execs st X.env) (SP X pins D) X.xe s
theorem thn {α:Type} {t:Sem α} {Q Q':α->aj->Prop} {M:mf} {A:bi} {E:Value->aj->Prop} {s:aj} (h:aI M A t Q E s) (hQ:∀ a s,Q a s->Q' a s):aI M A t Q' E s:=c8 h hQ fun _ _ x=>x
section
variable {X:Cx}
noncomputable def cf6 (i:Nat):TE:=fun σ H Q=>∃ v,σ[i]? = some (some v)/\Q v H
noncomputable def tC (v:V):TE:=fun _ H Q=>Q v H
theorem bg9 {i:Nat} {x:Str} {pos:Pos} (hN:X.N[i]? = some x) (hv:Vis X.env.scope x) (hd:(x==("__debug__" : Str))=false:=by decide) (hcd:(x==("__classdict__" : Str))=false:=by decide):PE X (.Name x pos) (cf6 i):=by
 intro pins s σ H Q I h
 obtain⟨v,e,h⟩:=h
 obtain⟨m,hn,hl⟩:=I.loc
 obtain⟨u,r,l⟩:=hl i x v hN e hv
 have fin:EP X pins σ Q u s:=⟨v,H,I,r,h⟩
 rcases l with ⟨hk,hm⟩|⟨hk,c,hc,hcell⟩
 ·exact wpAny_Name (wpAny_loadName_local I.ok.kind hk hn hm fin) hd
 ·rcases hk with hk|hk
  ·exact wpAny_Name (wpAny_loadName_cell I.ok.kind hk hc hcell fin) hd
  ·exact wpAny_Name (wpAny_loadName_free I.ok.kind hk hc hcell fin hcd) hd
theorem bg3 {i j pos}:PE X (.Constant (.int i) j pos) (tC (.int i)):=fun _ _ _ H _ I h=>wpAny_Constant_int ⟨.int i,H,I.tok _,⟨_,rfl⟩,h⟩
theorem bz5 {b j pos}:PE X (.Constant (.bool b) j pos) (tC (.bl b)):=fun _ _ _ H _ I h=>Constant_bool ⟨.bl b,H,I,rfl,h⟩
theorem bg5 {j pos}:PE X (.Constant .none j pos) (tC .non):=fun _ _ _ H _ I h=>Constant_none ⟨.non,H,I,rfl,h⟩
theorem bg7 {x j pos}:PE X (.Constant (.str x) j pos) (tC (.str x)):=fun _ _ _ H _ I h=>Calls.Constant_str ⟨.str x,H,I.tok _,⟨_,rfl⟩,h⟩
noncomputable def Gl (X:Cx) (x:Str):Prop:=X.env.kindOf x=some .globalImplicit
theorem Dr {E:Value->aj->Prop} {pins:List (Addr×Obj)} {s:aj} {σ:St} {H:Hp} {x:Str} {u:Value} {pos:Pos} {Q:Value->aj->Prop} (I:Inv X pins σ H s) (hg:Gl X x) (hm:X.mg x=some u) (h:Q u s)
  (hd:(x==("__debug__" : Str))=false:=by decide):aI (model X.prog X.w) X.A (eval (.Name x pos) X.env) Q E s:=
 iw I.ok.kind hg (Calls.loadGlobal_global (by rw [I.ok.glob];exact I.mod.glob.keeps I.bk) hm h) hd
theorem Cs {E:Value->aj->Prop} {pins:List (Addr×Obj)} {s:aj} {σ:St} {H:Hp} {x:Str} {u:Value} {pos:Pos} {Q:Value->aj->Prop} (I:Inv X pins σ H s) (hg:Gl X x) (hm:X.mg x=none) (hv:dF x=some u) (h:Q u s)
  (hn:x ≠ "__name__" := by decide) (hd:(x==("__debug__" : Str))=false:=by decide):aI (model X.prog X.w) X.A (eval (.Name x pos) X.env) Q E s:=by
 obtain⟨mb,h1,h2⟩:=I.mod.blt
 exact iw I.ok.kind hg (Calls.loadGlobal_builtin (by rw [I.ok.glob];exact I.mod.glob.keeps I.bk) hm (by rw [I.ok.blt];exact h1.keeps I.bk) ((h2 x hn).trans hv) h) hd
theorem Pl {x:Str} {v:V} {u:Value} {pos:Pos} (hg:Gl X x) (hm:X.mg x=some u) (r:RelV v u) (hd:(x==("__debug__" : Str))=false:=by decide):PE X (.Name x pos) (tC v):=
 fun _ _ _ H _ I h=>Dr I hg hm ⟨v,H,I,r,h⟩ hd
theorem ax9 {x:Str} {v:V} {u:Value} {pos:Pos} (hg:Gl X x) (hm:X.mg x=none) (hv:dF x=some u) (r:RelV v u) (hn:x ≠ "__name__" := by decide) (hd:(x==("__debug__" : Str))=false:=by decide):PE X (.Name x pos) (tC v):=
 fun _ _ _ H _ I h=>Cs I hg hm hv ⟨v,H,I,r,h⟩ hn hd
variable {a b:Expr} {ta tb:TE} {pos:Pos}
variable {tA tB':TT} {rest:List Expr}
noncomputable def ce7 (t u:TT):TT:=fun σ H Q=>t σ H fun c H1=>if c=true then u σ H1 Q else Q false H1
noncomputable def tOr (t u:TT):TT:=fun σ H Q=>t σ H fun c H1=>if c=true then Q true H1 else u σ H1 Q
noncomputable def cf2 (t:TT):TT:=fun σ H Q=>t σ H fun c H1=>Q (!c) H1
theorem az0 (ha:PT X a tA):PW X (.BoolOp .And [a] pos) tA:=by
 intro wh pins s σ H Q I h
 refine isTrue_and (thn (ha pins s σ H Q I h) fun c s1 e=>?_)
 cases c with
 | true=>exact isTrue_and_nil e
 | false=>exact e
theorem bh8 (ha:PT X a tA):PW X (.BoolOp .Or [a] pos) tA:=by
 intro wh pins s σ H Q I h
 refine isTrue_or (thn (ha pins s σ H Q I h) fun c s1 e=>?_)
 cases c with
 | false=>exact isTrue_or_nil e
 | true=>exact e
theorem bh7 (ha:PT X a tA) (hb:PW X (.BoolOp .And (b::rest) pos) tB'):PW X (.BoolOp .And (a::b::rest) pos) (ce7 tA tB'):=by
 intro wh pins s σ H Q I h
 refine isTrue_and (thn (ha pins s σ H _ I h) fun c s1 ⟨H1,I1,q1⟩=>?_)
 cases c with
 | true=>exact hb wh pins s1 σ H1 Q I1 q1
 | false=>exact⟨H1,I1,q1⟩
theorem b01 (ha:PT X a tA) (hb:PW X (.BoolOp .Or (b::rest) pos) tB'):PW X (.BoolOp .Or (a::b::rest) pos) (tOr tA tB'):=by
 intro wh pins s σ H Q I h
 refine isTrue_or (thn (ha pins s σ H _ I h) fun c s1 ⟨H1,I1,q1⟩=>?_)
 cases c with
 | true=>exact⟨H1,I1,q1⟩
 | false=>exact hb wh pins s1 σ H1 Q I1 q1
theorem bh6 (ha:PT X a tA):PT X (.UnaryOp .Not a pos) (cf2 tA):=by
 intro pins s σ H Q I h
 exact isTrue_not (ha pins s σ H (fun c H1=>Q (!c) H1) I h)
theorem bg6 {op} {t:TE} (h:PE X a t):PE X (.BoolOp op [a] pos) t:=fun pins s σ H Q I hw=>BoolOp_one (h pins s σ H Q I hw)
noncomputable def tIf (t:TT) (ta tb:TE):TE:=fun σ H Q=>t σ H fun c H1=>if c=true then ta σ H1 Q else tb σ H1 Q
theorem ak5 {c:Expr} (hc:PT X c tA) (ha:PE X a ta) (hb:PE X b tb):PE X (.IfExp c a b pos) (tIf tA ta tb):=by
 intro pins s σ H Q I h
 refine wpAny_IfExp (thn (hc pins s σ H _ I h) fun d s1 ⟨H1,I1,q1⟩=>?_)
 cases d with
 | true=>exact ha pins s1 σ H1 Q I1 q1
 | false=>exact hb pins s1 σ H1 Q I1 q1
end
noncomputable def SqL (K:ac) (H:Hp) (a:Addr) (xs:List V):Prop:=
 Rd H a (.lst xs) \/
  ∃ (o:Obj) (its:Array Value) (n:Nat),K.lookup a=some o/\o.cls=.type "list" /\ o.dict=none/\o.data=.seq its n/\its.size<=sizeLine/\Vals xs its.toList
noncomputable def SqT (K:ac) (H:Hp) (a:Addr) (xs:List V):Prop:=
 Rd H a (.tup xs) \/
  ∃ (o:Obj) (its:Array Value) (n:Nat),K.lookup a=some o/\o.cls=.type "tuple" /\ o.data=.seq its n/\its.size<=sizeLine/\Vals xs its.toList
noncomputable def cc8:Value->Option V
 | .none=>some .non
 | .bool b=>some (.bl b)
 | .int i _=>some (.int i)
 | .str x _=>some (.str x)
 | .bytes b _=>some (.byt b)
 | .float b _=>some (.flt b)
 | .ref a=>some (.ref a)
 | .type n=>some (.ty n)
 | _=>none
theorem RelV.abs {x:V} {u:Value} (r:RelV x u):cc8 u=some x:=by
 cases x with
 | non=>cases r;rfl
 | bl _=>cases r;rfl
 | int _=>obtain⟨t,rfl⟩:=r;rfl
 | str _=>obtain⟨t,rfl⟩:=r;rfl
 | byt _=>obtain⟨t,rfl⟩:=r;rfl
 | flt _=>obtain⟨t,rfl⟩:=r;rfl
 | ref _=>cases r;rfl
 | ty _=>cases r;rfl
theorem RelV.inj {x y:V} {u:Value} (r:RelV x u) (q:RelV y u):x=y:=aF (r.abs.symm.trans q.abs)
theorem Vals.inj:∀ {xs ys:List V} {us:List Value},Vals xs us->Vals ys us->xs=ys
 | _,_,_,.nil,.nil=>rfl
 | _,_,_,.cons r t,.cons r' t'=>by rw [r.inj r',Vals.inj t t']
section
variable {X:Cx} {pins:List (Addr×Obj)} {σ:St} {H:Hp} {s:aj} {a:Addr} {xs ys:List V}
theorem SqL.of {K:ac} (h:H a=some (.lst xs)):SqL K H a xs:=.inl (.inl h)
theorem SqT.of {K:ac} (h:H a=some (.tup xs)):SqT K H a xs:=.inl (.inl h)
theorem Inv.list (I:Inv X pins σ H s) (h:SqL X.K H a xs):∃ its:List Value,Vals xs its/\PlainL s.heap a its.toArray/\xs.length<=sizeLine:=by
 rcases h with h|⟨o,its,n,hk,hc,hd,hs,hz,r⟩
 ·obtain⟨z,its,n,r,e⟩:=h.ok I.hok
  exact⟨its,r,⟨_,n,e,rfl,rfl,rfl⟩,z⟩
 ·refine⟨its.toList,r,⟨o,n,I.kIn a o hk,hc,hd,by simpa using hs⟩,?_⟩
  have e:=r.length
  simp only [dR] at e
  omega
theorem Inv.tuple (I:Inv X pins σ H s) (h:SqT X.K H a xs):∃ its:List Value,Vals xs its/\IsTup s.heap a its.toArray/\xs.length<=sizeLine:=by
 rcases h with h|⟨o,its,n,hk,hc,hs,hz,r⟩
 ·obtain⟨z,its,r,p⟩:=h.ok I.hok
  exact⟨its,r,p,z⟩
 ·refine⟨its.toList,r,⟨o,I.kIn a o hk,hc,n,by simpa using hs⟩,?_⟩
  have e:=r.length
  simp only [dR] at e
  omega
theorem Inv.list_inj (I:Inv X pins σ H s) (h:SqL X.K H a xs) (h':SqL X.K H a ys):xs=ys:=by
 obtain⟨its,r,⟨o,n,e,_,_,d⟩,_⟩:=I.list h
 obtain⟨its',r',⟨o',n',e',_,_,d'⟩,_⟩:=I.list h'
 rw [e] at e';cases e'
 rw [d] at d'
 injection d' with d1 _
 have:its=its':=by simpa using congrArg Array.toList d1
 subst this
 exact r.inj r'
theorem Inv.tuple_inj (I:Inv X pins σ H s) (h:SqT X.K H a xs) (h':SqT X.K H a ys):xs=ys:=by
 obtain⟨its,r,⟨o,e,_,n,d⟩,_⟩:=I.tuple h
 obtain⟨its',r',⟨o',e',_,n',d'⟩,_⟩:=I.tuple h'
 rw [e] at e';cases e'
 rw [d] at d'
 injection d' with d1 _
 have:its=its':=by simpa using congrArg Array.toList d1
 subst this
 exact r.inj r'
end
noncomputable abbrev Cx.wish (X:Cx) (E:Value->aj->Prop):Cx:={ X with xe:=E }
noncomputable abbrev Cx.nox (X:Cx):Cx:=X.wish fun _ _=>False
theorem Cx.Ok.wish {X:Cx} (ok:X.Ok) (E:Value->aj->Prop):(X.wish E).Ok:=
 ⟨ok.mod,ok.kind,ok.glob,ok.blt,ok.above,ok.inj,ok.has,ok.cab,ok.hd,ok.frames,ok.stk,ok.exf,ok.bs,ok.bsz,ok.noex,ok.exfs,ok.funs,ok.frf⟩
theorem Cx.Ok.unwish {X:Cx} {E:Value->aj->Prop} (ok:(X.wish E).Ok):X.Ok:=
 ⟨ok.mod,ok.kind,ok.glob,ok.blt,ok.above,ok.inj,ok.has,ok.cab,ok.hd,ok.frames,ok.stk,ok.exf,ok.bs,ok.bsz,ok.noex,ok.exfs,ok.funs,ok.frf⟩
section
variable {X:Cx} {pins:List (Addr×Obj)} {σ:St} {H:Hp} {s:aj} {E:Value->aj->Prop}
theorem Inv.wish (I:Inv X pins σ H s) (E:Value->aj->Prop):Inv (X.wish E) pins σ H s:=⟨I.ok.wish E,I.os,I.bare,I.base,I.loc,I.cell,I.free,I.freeC,I.pin,I.hok,I.len⟩
theorem Inv.unwish (I:Inv (X.wish E) pins σ H s):Inv X pins σ H s:=⟨I.ok.unwish,I.os,I.bare,I.base,I.loc,I.cell,I.free,I.freeC,I.pin,I.hok,I.len⟩
theorem SP.unwish {D:Mi} {f:Flow} {s':aj} (h:SP (X.wish E) pins D f s'):SP X pins D f s':=by
 cases f with
 | next=>obtain⟨σ',H',I,q⟩:=h;exact⟨σ',H',I.unwish,q⟩
 | brk=>obtain⟨σ',H',I,q⟩:=h;exact⟨σ',H',I.unwish,q⟩
 | cont=>obtain⟨σ',H',I,q⟩:=h;exact⟨σ',H',I.unwish,q⟩
 | ret u=>obtain⟨v,σ',H',I,r,q⟩:=h;exact⟨v,σ',H',I.unwish,r,q⟩
theorem PSs.nox {st:List Stmt} {t:TS} (h:PSs X.nox st t):PSs X st t:=fun pins s σ H D I hw=>
 c8 (h pins s σ H D (I.wish _) hw) (fun _ _ q=>q.unwish) fun _ _ z=>dY z
end
section
variable {X:Cx} {st:Stmt} {rest:List Stmt} {t u:TS} {e:Expr} {te:TE} {pos:Pos}
noncomputable def a68:TS:=fun D σ H=>D.nx σ H
noncomputable def cf4 (t u:TS):TS:=fun D σ H=>t { D with nx:=u D } σ H
theorem ay9:PSs X [] a68:=fun _ _ σ H _ I h=>jS ⟨σ,H,I,h⟩
theorem al7 (h1:PS X st t) (h2:PSs X rest u):PSs X (st::rest) (cf4 t u):=by
 intro pins s σ H D I h
 refine wpAny_execs_cons (thn (h1 pins s σ H { D with nx:=u D } I h) fun f s1 q=>?_)
 cases f with
 | next=>
  obtain⟨σ',H',I',q⟩:=q
  exact h2 pins s1 σ' H' D I' q
 | ret v=>exact q
 | brk=>exact q
 | cont=>exact q
noncomputable def bp7:TS:=fun D σ H=>D.bk σ H
noncomputable def b70:TS:=fun D σ H=>D.ct σ H
theorem ay7:PS X (.Pass pos) a68:=fun _ _ σ H _ I h=>wpAny_Pass ⟨σ,H,I,h⟩
theorem al5:PS X (.Break pos) bp7:=fun _ _ σ H _ I h=>wpAny_Break ⟨σ,H,I,h⟩
theorem R3:PS X (.Continue pos) b70:=fun _ _ σ H _ I h=>wpAny_Continue ⟨σ,H,I,h⟩
theorem Inv.quiet {pins:List (Addr×Obj)} {σ:St} {H:Hp} {s:aj} (I:Inv X pins σ H s):interactive X.env=false:=by simp [interactive,I.ok.kind]
noncomputable def b72 (te:TE):TS:=fun D σ H=>te σ H fun _ H1=>D.nx σ H1
theorem ay6 (he:PE X e te) (hs:iY e none pos.line X.env=pure false:=by rfl):PS X (.Expr e pos) (b72 te):=by
 intro pins s σ H D I h
 exact wpAny_Expr_any (thn (he pins s σ H _ I h) fun v s1 ⟨x,H1,I1,r1,q1⟩=>⟨σ,H1,I1,q1⟩) I.quiet hs
noncomputable def cf3 (te:TE):TS:=fun D σ H=>te σ H D.rt
theorem bh4 (he:PE X e te):PS X (.Return (some e) pos) (cf3 te):=by
 intro pins s σ H D I h
 exact wpAny_Return_some (thn (he pins s σ H _ I h) fun v s1 ⟨x,H1,I1,r1,q1⟩=>⟨x,σ,H1,I1,r1,q1⟩)
noncomputable def b73:TS:=fun D _ H=>D.rt .non H
theorem ay8:PS X (.Return none pos) b73:=fun _ _ σ H _ I h=>wpAny_Return_none ⟨.non,σ,H,I,rfl,h⟩
noncomputable def ce9 (c:TT) (t u:TS):TS:=fun D σ H=>c σ H fun b H1=>if b=true then t D σ H1 else u D σ H1
theorem b00 {c:Expr} {a b:List Stmt} {tc:TT} (hc:PT X c tc) (ha:PSs X a t) (hb:PSs X b u):PS X (.If c a b pos) (ce9 tc t u):=by
 intro pins s σ H D I h
 refine wpAny_If (thn (hc pins s σ H _ I h) fun d s1 ⟨H1,I1,q1⟩=>?_)
 cases d with
 | true=>exact ha pins s1 σ H1 D I1 q1
 | false=>exact hb pins s1 σ H1 D I1 q1
end
noncomputable abbrev TG:=V->St->Hp->(St->Hp->Prop)->Prop
noncomputable abbrev TGs:=List V->St->Hp->(St->Hp->Prop)->Prop
noncomputable def PG (X:Cx) (target:Expr) (t:TG):Prop:=
 ∀ (pins:List (Addr×Obj)) (s:aj) (σ:St) (H:Hp) (v:V) (u:Value) (Q:St->Hp->Prop),Inv X pins σ H s->RelV v u->t v σ H Q ->
  aI (model X.prog X.w) X.A (lA target X.env u) (fun _ s'=>∃ σ' H',Inv X pins σ' H' s'/\Q σ' H') X.xe s
noncomputable def PGs (X:Cx) (ts:List Expr) (t:TGs):Prop:=
 ∀ (pins:List (Addr×Obj)) (s:aj) (σ:St) (H:Hp) (vs:List V) (us:List Value) (Q:St->Hp->Prop),Inv X pins σ H s->Vals vs us->t vs σ H Q ->
  aI (model X.prog X.w) X.A (assignInOrder ((dQ ts X.env).map (·.2)) us) (fun _ s'=>∃ σ' H',Inv X pins σ' H' s'/\Q σ' H') X.xe s
noncomputable abbrev ba5:=V->V->V->Hp->(Hp->Prop)->Prop
noncomputable def ba3 (X:Cx) (t:ba5):Prop:=
 ∀ (pins:List (Addr×Obj)) (s:aj) (σ:St) (H:Hp) (o i v:V) (ov iv u:Value) (Q:Hp->Prop),Inv X pins σ H s->RelV o ov->RelV i iv->RelV v u->t o i v H Q ->
  aI (model X.prog X.w) X.A (setItem ov iv u) (fun _ s'=>∃ H',Inv X pins σ H' s'/\Q H') X.xe s
section
variable {X:Cx} {pos:Pos}
noncomputable def ag1 (i:Nat):TG:=fun v σ H Q=>Q (σ.set i (some v)) H
theorem ay2 {i:Nat} {x:Str} (hN:X.N.Nodup) (hi:X.N[i]? = some x) (hx:Loc X.env.scope x) (hf:X.fn x=true\/X.env.scope.names.lookup x=some .local:=by first|exact .inl rfl|exact .inr rfl|assumption):PG X (.Name x pos) (ag1 i):=by
 intro pins s σ H v u Q I r h
 exact wpAny_assign_Name (Hn I hN hi hx r (fun s' I'=>⟨_,H,I',h⟩) hf)
noncomputable def cd2:TGs:=fun vs σ H Q=>vs=[]/\Q σ H
noncomputable def bu0 (t:TG) (u:TGs):TGs:=fun vs σ H Q=>∃ v r,vs=v::r/\t v σ H fun σ' H'=>u r σ' H' Q
theorem ay3:PGs X [] cd2:=by
 intro pins s σ H vs us Q I r h
 obtain⟨e,h⟩:=h
 subst e
 cases r
 exact assignInOrder_nil ⟨σ,H,I,h⟩
theorem ak6 {e:Expr} {es:List Expr} {t:TG} {u:TGs} (h1:PG X e t) (h2:PGs X es u)
  (hs:(dQ (e::es) X.env).map (·.2)=lA e X.env::(dQ es X.env).map (·.2):=by rfl):PGs X (e::es) (bu0 t u):=by
 intro pins s σ H vs us Q I r h
 obtain⟨v,vr,e1,h⟩:=h
 subst e1
 cases r with
 | cons r rr=>
  rw [hs]
  refine assignInOrder_cons (thn (h1 pins s σ H _ _ _ I r h) fun _ s1 ⟨σ1,H1,I1,q1⟩=>?_)
  exact h2 pins s1 σ1 H1 _ _ Q I1 rr q1
noncomputable def cd4 (K:ac) (n:Nat) (t:TGs):TG:=fun v σ H Q=>∃ a xs,v=.ref a/\SqT K H a xs/\xs.length=n/\t xs σ H Q
theorem bh1 {es:List Expr} {k:Nat} {t:TGs} {n:Nat} (hc:X.calm=true) (h:PGs X es t)
  (hn:(dQ es X.env).length=n:=by rfl) (hst:(dQ es X.env).findIdx? (·.1)=none:=by rfl):PG X (.Tuple es k pos) (cd4 X.K n t):=by
 intro pins s σ H v u Q I r hw
 obtain⟨a,xs,e1,hq,hl,hw⟩:=hw
 subst e1
 cases r
 obtain⟨its,rv,ht,hz⟩:=I.tuple hq
 refine assign_Tuple_tuple (I.ok.hd hc) ht (by simp [hn,<- hl,rv.length]) hst fun h' hx=>?_
 have I1:Inv X pins σ H { s with heap:=h' }:=I.kept (t':=s.toks) fun b o e=>hx b o (aH (aB e)) e
 exact h pins _ σ H xs _ Q I1 (by simpa using rv) hw
noncomputable def cd3 (to ti:TE) (t:ba5):TG:=fun v σ H Q=>to σ H fun o H1=>ti σ H1 fun i H2=>t o i v H2 fun H3=>Q σ H3
theorem bh0 {o i:Expr} {to ti:TE} {t:ba5} (ho:PE X o to) (hi:PE X i ti) (hs:ba3 X t)
  (ha:∀ v,lA (.Subscript o i pos) X.env v=(do
   let ov <- lT [v] (eval o X.env)
   let iv <- lT [v,ov] (eval i X.env)
   k9 pos
   lT [v,ov,iv] (setItem ov iv v)
   release [v,ov,iv] []):=by intro _;rfl):PG X (.Subscript o i pos) (cd3 to ti t):=by
 intro pins s σ H v u Q I r h
 rw [ha]
 refine af (bx (thn (ho pins s σ H _ I h) fun ov s1 ⟨x,H1,I1,r1,q1⟩=>?_))
 refine af (bx (thn (hi pins s1 σ H1 _ I1 q1) fun iv s2 ⟨y,H2,I2,r2,q2⟩=>?_))
 refine af (eJ (af (bx (thn (hs pins s2 σ H2 x y v ov iv u _ I2 r1 r2 r q2) fun _ s3 ⟨H3,I3,q3⟩=>?_))))
 exact wpAny_release ⟨σ,H3,I3,q3⟩
noncomputable def bp6 (te:TE) (g:TG):TS:=fun D σ H=>te σ H fun x H1=>g x σ H1 D.nx
theorem al4 {tg e:Expr} {te:TE} {g:TG} (he:PE X e te) (hg:PG X tg g) (hs:kS [tg] e pos.line X.env=pure false:=by rfl) (hw:swappedStores [tg] e X.env=pure none:=by rfl)
  (h1:(dQ [tg] X.env).map (·.2)=[lA tg X.env]:=by rfl):PS X (.Assign [tg] e pos) (bp6 te g):=by
 intro pins s σ H D I h
 refine wpAny_Assign_stores (thn (he pins s σ H _ I h) fun v s1 ⟨x,H1,I1,r1,q1⟩=>?_) hs hw
 rw [h1]
 exact thn (hg pins s1 σ H1 x v _ I1 r1 q1) fun _ s2 q=>q
theorem bh5 {i:Nat} {x:Str} {e:Expr} {te:TE} {pos':Pos} (hN:X.N.Nodup) (hi:X.N[i]? = some x) (hx:Loc X.env.scope x) (he:PE X e te) (hs:iY e (some (.Name x pos')) pos.line X.env=pure false:=by rfl) (hf:X.fn x=true\/X.env.scope.names.lookup x=some .local:=by first|exact .inl rfl|exact .inr rfl|assumption) :
  PS X (.Assign [.Name x pos'] e pos) (bp6 te (ag1 i)):=by
 intro pins s σ H D I h
 refine wpAny_Assign_Name (thn (he pins s σ H _ I h) fun v s1 ⟨y,H1,I1,r1,q1⟩=>?_) hs
 exact Hn I1 hN hi hx r1 (fun s2 I2=>⟨_,H1,I2,q1⟩) hf
end
structure It where
 go:Nat->Hp->Prop
 yld:Nat->Hp->V->Hp->Prop
 stop:Nat->Hp->Prop
noncomputable def Dw (X:Cx) (pins:List (Addr×Obj)) (H:Hp) (b:Addr):Prop:=
 H b=none/\b≠X.env.locals/\b∉X.fs/\(b∈X.ex\/X.s₀.heap.objs.size<=b)/\(∀ x c,X.env.cells.lookup x=some c->c≠b) /\ ∀ p∈X.pn++pins,p.1≠b
theorem Inv.fpOk {X:Cx} {pins:List (Addr×Obj)} {σ:St} {H H':Hp} {s:aj} {b:Addr} (I:Inv X pins σ H s) (hb:s.heap.objs.size<=b) (hn:H' b=none):Dw X pins H' b:=by
 refine⟨hn,cx (aG I.lt hb),I.nofs hb,.inr (aQ I.sz hb),fun x c e z=>?_,fun p hp z=>?_⟩
 ·obtain⟨v,q⟩:=I.cell x c e
  exact absurd (aG q.lt (by rw [z];exact hb)) (fu _)
 ·exact absurd (aG (aB (I.pin p hp).1) (by rw [z];exact hb)) (fu _)
structure Oe (P:aV) (w:bM) (K:ac) (tg:Expr) (J:It) (fp:List Addr) (it:Addr) (tn:Nat->Heap->Prop):Prop where
 mem:it∈fp
 obj:∀ i h,tn i h -> ∀ b∈fp,∃ o,h.get? b=some o /\ ∀ v,o.data≠.cell v
 keep:∀ i h h',tn i h->(∀ b∈fp,∀ o,h.get? b=some o->h'.get? b=some o)->tn i h'
 item:∀ (X:Cx),X.prog=P->X.w=w->X.K=K->X.calm=true -> ∀ (i:Nat) (pins:List (Addr×Obj)) (s:aj) (σ:St) (H:Hp) (E:Value->aj->Prop),Inv X pins σ H s->(∀ b∈fp,Dw X pins H b)->tn i s.heap->J.go i H ->
  aI (model P w) X.A (fC (.ref it)) (fun r s1=>∃ u,r=some u /\
   aI (model P w) X.A (iq tg (.ref it) u) (fun _ s2=>∃ x H',Inv X pins σ H' s2/\RelV x u/\J.yld i H x H'/\tn (i+1) s2.heap /\ ∀ b∈fp,H' b=none) E s1) E s
 done:∀ (X:Cx),X.prog=P->X.w=w->X.K=K->X.calm=true -> ∀ (i:Nat) (pins:List (Addr×Obj)) (s:aj) (σ:St) (H:Hp) (E:Value->aj->Prop),Inv X pins σ H s->(∀ b∈fp,Dw X pins H b)->tn i s.heap->J.stop i H ->
  aI (model P w) X.A (fC (.ref it)) (fun r s1=>r=none/\Inv X pins σ H s1) E s
 self:∀ (A:bi) (i:Nat) (s:aj) (Q:Value->aj->Prop) (E:Value->aj->Prop),tn i s.heap->Q (.ref it) s->aI (model P w) A (l3 (.ref it)) Q E s
noncomputable abbrev TI:=St->Hp->(It->Hp->Prop)->Prop
noncomputable def PIE (X:Cx) (pins:List (Addr×Obj)) (σ:St) (tg:Expr) (R:It->Hp->Prop) (itv:Value) (s2:aj):Prop:=
 ∃ (it:Addr) (fp:List Addr) (tn:Nat->Heap->Prop) (J:It) (H':Hp),itv=.ref it/\Inv X pins σ H' s2/\Oe X.prog X.w X.K tg J fp it tn/\tn 0 s2.heap/\(∀ b∈fp,Dw X pins H' b)/\R J H'
noncomputable def PI (X:Cx) (tg iter:Expr) (wi:TI):Prop:=
 ∀ (pins:List (Addr×Obj)) (s:aj) (σ:St) (H:Hp) (R:It->Hp->Prop),Inv X pins σ H s->wi σ H R ->
  aI (model X.prog X.w) X.A (eval iter X.env) (fun v s1=>aI (model X.prog X.w) X.A (l3 v) (PIE X pins σ tg R) X.xe s1) X.xe s
theorem Nj {M:mf} {A:bi} {E:Value->aj->Prop} {s:aj} {tg:Expr} {it:Addr} {u:Value} {o:Obj} {n:String} {vs:Array Value} {Q:Unit->aj->Prop} (ho:s.heap.get? it=some o) (hc:o.cls=.type n) (hd:o.data=.fields vs)
    (hn:["enumerate", "zip", "dict_itemiterator", "dict_reverseitemiterator", "odict_iterator", "itertools.zip_longest", "itertools.pairwise"].contains n=false) (hQ:Q () s):aI M A (iq tg (.ref it) u) Q E s:=by
  unfold iq
  cases tg <;> first
    | exact al hQ
    | (cases u <;> first
        | exact al hQ
        | (refine af (wpAny_load ho ?_)
           rw [hc,hd]
           show aI M A (if (["enumerate", "zip", "dict_itemiterator", "dict_reverseitemiterator", "odict_iterator", "itertools.zip_longest", "itertools.pairwise"].contains n&&vs[0]? == some (eC _))=true then _ else _) Q E s
           rw [if_neg (by intro h;rw [hn,j5] at h;cases h)]
           exact al hQ))
noncomputable def Itl (K:ac) (a:Addr):It:=
 ⟨fun i H=>∃ xs x,SqL K H a xs/\xs[i]? = some x,fun i H x H'=>H'=H /\ ∀ xs,SqL K H a xs->xs[i]? = some x,fun i H=>∃ xs,SqL K H a xs/\xs.length<=i⟩
noncomputable def Itt (K:ac) (a:Addr):It:=
 ⟨fun i H=>∃ xs x,SqT K H a xs/\xs[i]? = some x,fun i H x H'=>H'=H /\ ∀ xs,SqT K H a xs->xs[i]? = some x,fun i H=>∃ xs,SqT K H a xs/\xs.length<=i⟩
noncomputable def Itr (lo:Int) (n:Nat):It:=⟨fun i _=>i<n,fun i H x H'=>H'=H/\x=.int (lo+i),fun i _=>n<=i⟩
theorem Zp {P:aV} {w:bM} {K:ac} {tg:Expr} (a it:Addr):Oe P w K tg (Itl K a) [it] it (fun i h=>h.IsListIter it a i) where
 mem:=by simp
 obj:=fun i h st b hb=>by
  have e:b=it:=by simpa using hb
  subst e
  obtain⟨o,e,c,d⟩:=st
  exact⟨o,e,fun v z=>by rw [d] at z;cases z⟩
 keep:=fun i h h' st k=>st.at fun o e=>k it (by simp) o e
 item:=by
  intro X hP hw hK hc i pins s σ H E I hf st hg
  subst hP hw hK
  obtain⟨xs,x,hq,hx⟩:=hg
  obtain⟨its,rv,p,hz⟩:=I.list hq
  obtain⟨u,hu,ru⟩:=rv.get hx
  obtain⟨f0,f1,f2,f3,f4,f5⟩:=hf it (by simp)
  refine wpAny_pyNext_list_item st p.isList (x:=u) (by simpa using hu) fun h' st' sb=>?_
  have I1:Inv X pins σ H { s with heap:=h' }:=I.turned (t':=s.toks) (fun b o hb e=>(sb.2 b hb).trans e) f0 f1 f3 f4 f5
  obtain⟨o,e,c,d⟩:=id st'
  exact⟨u,rfl,Nj (s:={ s with heap:=h' }) e c d (by decide) ⟨x,H,I1,ru,⟨rfl,fun ys hy=>by rw [I.list_inj hy hq];exact hx⟩,st',fun b hb=>(hf b hb).1⟩⟩
 done:=by
  intro X hP hw hK hc i pins s σ H E I hf st hg
  subst hP hw hK
  obtain⟨xs,hq,hx⟩:=hg
  obtain⟨its,rv,p,hz⟩:=I.list hq
  obtain⟨f0,f1,f2,f3,f4,f5⟩:=hf it (by simp)
  have hl:=rv.length
  exact wpAny_pyNext_list_end (I.ok.hd hc) st p.isList (by simp;omega) fun h' eb=>⟨rfl,I.turned (t':=s.toks) (fun b o hb e=>eb b o hb e) f0 f1 f3 f4 f5⟩
 self:=fun _ _ _ _ _ st h=>wpAny_pyIter_listiter st h
theorem We {P:aV} {w:bM} {K:ac} {tg:Expr} (a it:Addr):Oe P w K tg (Itt K a) [it] it (fun i h=>h.IsTupleIter it a i) where
 mem:=by simp
 obj:=fun i h st b hb=>by
  have e:b=it:=by simpa using hb
  subst e
  obtain⟨o,e,c,d⟩:=st
  exact⟨o,e,fun v z=>by rw [d] at z;cases z⟩
 keep:=fun i h h' st k=>st.at fun o e=>k it (by simp) o e
 item:=by
  intro X hP hw hK hc i pins s σ H E I hf st hg
  subst hP hw hK
  obtain⟨xs,x,hq,hx⟩:=hg
  obtain⟨its,rv,p,hz⟩:=I.tuple hq
  obtain⟨u,hu,ru⟩:=rv.get hx
  obtain⟨f0,f1,f2,f3,f4,f5⟩:=hf it (by simp)
  refine wpAny_pyNext_tuple_item st (show s.heap.IsTuple a its.toArray from p) (x:=u) (by simpa using hu) fun h' st' sb=>?_
  have I1:Inv X pins σ H { s with heap:=h' }:=I.turned (t':=s.toks) (fun b o hb e=>(sb.2 b hb).trans e) f0 f1 f3 f4 f5
  obtain⟨o,e,c,d⟩:=id st'
  exact⟨u,rfl,Nj (s:={ s with heap:=h' }) e c d (by decide) ⟨x,H,I1,ru,⟨rfl,fun ys hy=>by rw [I.tuple_inj hy hq];exact hx⟩,st',fun b hb=>(hf b hb).1⟩⟩
 done:=by
  intro X hP hw hK hc i pins s σ H E I hf st hg
  subst hP hw hK
  obtain⟨xs,hq,hx⟩:=hg
  obtain⟨its,rv,p,hz⟩:=I.tuple hq
  obtain⟨f0,f1,f2,f3,f4,f5⟩:=hf it (by simp)
  have hl:=rv.length
  exact wpAny_pyNext_tuple_end (I.ok.hd hc) st (show s.heap.IsTuple a its.toArray from p) (by simp;omega) fun h' eb=>⟨rfl,I.turned (t':=s.toks) (fun b o hb e=>eb b o hb e) f0 f1 f3 f4 f5⟩
 self:=fun _ _ _ _ _ st h=>wpAny_pyIter_tupleiter st h
theorem Wd {P:aV} {w:bM} {K:ac} {tg:Expr} (it:Addr) (lo:Int) (n:Nat):Oe P w K tg (Itr lo n) [it] it (fun i h=>kg h it (lo+(i:Nat) * 1) ((n:Int) - (i:Nat)) 1) where
 mem:=by simp
 obj:=fun i h st b hb=>by
  have e:b=it:=by simpa using hb
  subst e
  exact⟨_,st,fun v z=>by
   have z':Data.fields _=Data.cell v:=z
   cases z'⟩
 keep:=fun i h h' st k=>k it (by simp) _ st
 item:=by
  intro X hP hw hK hc i pins s σ H E I hf st hg
  subst hP hw hK
  obtain⟨f0,f1,f2,f3,f4,f5⟩:=hf it (by simp)
  have W:=Walks.range (prog:=X.prog) (w:=X.w) (I.ok.hd hc) it lo 1 n
  refine W.item i s _ _ hg st fun v h' tk hv st' kk=>?_
  obtain⟨t,rfl⟩:=hv
  have I1:Inv X pins σ H { s with heap:=h',toks:=tk }:=I.turned (fun b o hb e=>kk b o (by simpa using hb) e) f0 f1 f3 f4 f5
  refine⟨_,rfl,Nj (s:={ s with heap:=h',toks:=tk }) (n := "range_iterator") st' rfl rfl (by decide) ⟨.int (lo+i),H,I1,⟨t,?_⟩,⟨rfl,rfl⟩,st',fun b hb=>(hf b hb).1⟩⟩
  rw [Int.mul_one]
 done:=by
  intro X hP hw hK hc i pins s σ H E I hf st hg
  subst hP hw hK
  obtain⟨f0,f1,f2,f3,f4,f5⟩:=hf it (by simp)
  exact jA (I.ok.hd hc) st (by have:n<=i:=hg;omega) fun h' eb=>⟨rfl,I.turned (t':=s.toks) (fun b o hb e=>eb b o hb e) f0 f1 f3 f4 f5⟩
 self:=fun _ _ _ _ _ st h=>jy st h
section
variable {X:Cx} {tg:Expr}
theorem Sf {pins:List (Addr×Obj)} {σ:St} {H:Hp} {s:aj} {R:It->Hp->Prop} {E:Value->aj->Prop} {lo hi:Int} {t u v:Tok} {tk:Nat} (I:Inv X pins σ H s) (h1:-(2 ^ 62)<=lo) (h2:lo<2 ^ 62) (h3:-(2 ^ 62)<=hi) (h4:hi<2 ^ 62)
  (q:R (Itr lo (hi - lo).toNat) H):aI (model X.prog X.w) X.A (l3 (.ref s.heap.objs.size)) (PIE X pins σ tg R) E { s with heap:=s.heap.push { cls:=.type "range", data:=.fields #[.int lo t,.int hi u,.int 1 v] },toks:=tk }:=by
 refine kW (lL ..) (small_one h1 h2 h3 h4) ?_
 have I1:Inv X pins σ H { s with heap:=s.heap.push { cls:=.type "range", data:=.fields #[.int lo t,.int hi u,.int 1 v] },toks:=tk }:=I.kept fun b o e=>ag _ e
 refine⟨(s.heap.push { cls:=.type "range", data:=.fields #[.int lo t,.int hi u,.int 1 v] }).objs.size,[(s.heap.push { cls:=.type "range", data:=.fields #[.int lo t,.int hi u,.int 1 v] }).objs.size],_,_,H,rfl,
  I1.kept (t':=tk) fun b o e=>ag _ e,Wd _ lo (hi - lo).toNat,?_,fun b hb=>?_,q⟩
 ·have e1:lo+((0:Nat):Int) * 1=lo:=by simp
  have e2:(((hi - lo).toNat:Nat):Int) - ((0:Nat):Int)=cA lo hi 1:=by rw [rangeSize_one];split <;> omega
  show kg _ _ (lo+((0:Nat):Int) * 1) ((((hi - lo).toNat:Nat):Int) - ((0:Nat):Int)) 1
  rw [e1,e2]
  exact aw _ rfl
 ·have e:b=(s.heap.push { cls:=.type "range", data:=.fields #[.int lo t,.int hi u,.int 1 v] }).objs.size:=by simpa using hb
  subst e
  exact I1.fpOk (ay _) (I1.hok.fresh (ay _))
noncomputable def ce8 (wi:TI) (g:TG) (tb:TS):TS:=fun D σ H=>wi σ H fun J H1=>∃ W:Nat->Nat->St->Hp->Prop,(∃ m,W 0 m σ H1) /\ ∀ i m σ H,W i m σ H ->
 (J.stop i H/\D.nx σ H)\/(J.go i H /\ ∃ N:St->Hp->Prop,(∀ σ' H',N σ' H' -> ∃ m',m'<m/\W (i+1) m' σ' H') /\ ∀ x H',J.yld i H x H'->g x σ H' fun σ2 H2=>tb { D with nx:=N,ct:=N,bk:=D.nx } σ2 H2)
noncomputable def Il (fp:List Addr) (h:Heap):List (Addr×Obj):=fp.filterMap fun b=>(h.get? b).map fun o=>(b,o)
theorem E6 {fp:List Addr} {h:Heap} {b:Addr} {o:Obj} (hb:b∈fp) (e:h.get? b=some o):(b,o)∈Il fp h:=List.mem_filterMap.mpr ⟨b,hb,by rw [e];rfl⟩
theorem Y3 {fp:List Addr} {h:Heap} {p:Addr×Obj} (hp:p∈Il fp h):p.1∈fp/\h.get? p.1=some p.2:=by
 obtain⟨b,hb,e⟩:=List.mem_filterMap.mp hp
 cases q:h.get? b with
 | none=>rw [q] at e;cases e
 | some o=>
  rw [q] at e
  have e':(b,o)=p:=aF e
  subst e'
  exact⟨hb,q⟩
theorem Inv.pinned {pins:List (Addr×Obj)} {σ:St} {H:Hp} {s:aj} {fp:List Addr} (I:Inv X pins σ H s) (hf:∀ b∈fp,Dw X pins H b) (ho:∀ b∈fp,∃ o,s.heap.get? b=some o /\ ∀ v,o.data≠.cell v):Inv X (pins++Il fp s.heap) σ H s:=
 I.pins_of fun p hp=>(List.mem_append.mp hp).elim (fun z=>I.pin p (bu _ z)) fun z=>by
  obtain⟨hb,e⟩:=Y3 z
  obtain⟨f0,f1,f2,_⟩:=hf p.1 hb
  obtain⟨o,e',d⟩:=ho p.1 hb
  rw [e] at e';cases e'
  exact⟨e,f0,f1,f2,d⟩
theorem Inv.unpinned {pins pl:List (Addr×Obj)} {σ:St} {H:Hp} {s:aj} (I:Inv X (pins++pl) σ H s):Inv X pins σ H s:=I.pins_of fun p hp=>I.pin p (bu _ (fE _ hp))
theorem bh3 {iter:Expr} {body:List Stmt} {wi:TI} {g:TG} {tb:TS} {pos:Pos} (hp:iS (model X.prog X.w) X.A X.env X.xe) (hc:X.calm=true) (hi:PI X tg iter wi) (hg:PG X tg g) (hb:PSs X body tb)
  (hs:∀ x,fv iter X.env x=pure x:=by intro _;rfl):PS X (.For tg iter body [] pos) (ce8 wi g tb):=by
 intro pins s σ H D I h
 refine wpAny_For (thn (hi pins s σ H _ I h) fun v s1 h1=>thn h1 fun itv s2 h2=>?_) hs
 obtain⟨it,fp,tn,J,H2,e,I2,T,st2,f2,W,⟨m0,w0⟩,turn⟩:=h2
 subst e
 have stat:∀ {H':Hp},(∀ b∈fp,H' b=none) -> ∀ b∈fp,Dw X pins H' b:=fun hn b hb=>⟨hn b hb,(f2 b hb).2⟩
 refine codeAny_forLoop_any (fun n s'=>∃ i σ' H',Inv X pins σ' H' s'/\tn i s'.heap/\(∀ b∈fp,H' b=none)/\W i n σ' H') ?_ m0 ⟨0,σ,H2,I2,st2,fun b hb=>(f2 b hb).1,w0⟩
 rintro n s3 ⟨i,σ3,H3,I3,st3,fr3,w3⟩
 rcases turn i n σ3 H3 w3 with ⟨stop,qn⟩|⟨go,N,hN,step⟩
 ·refine gn hp (thn (T.done X rfl rfl rfl hc i pins s3 σ3 H3 X.xe I3 (stat fr3) st3 stop) fun r s4 ⟨hr,I4⟩=>?_)
  subst hr
  exact jS ⟨σ3,H3,I4,qn⟩
 ·refine gn hp (thn (T.item X rfl rfl rfl hc i pins s3 σ3 H3 X.xe I3 (stat fr3) st3 go) fun r s4 ⟨u,hr,h4⟩=>?_)
  subst hr
  refine gn hp (thn h4 fun _ s5 ⟨x,H5,I5,r5,y5,st5,fr5⟩=>?_)
  have I5':=I5.pinned (stat fr5) (T.obj _ _ st5)
  refine gn hp (thn (hg _ s5 σ3 H5 x u _ I5' r5 (step x H5 y5)) fun _ s6 ⟨σ6,H6,I6,q6⟩=>?_)
  refine gn hp (thn (hb _ s6 σ6 H6 _ I6 q6) fun f s7 q7=>?_)
  have again:∀ {σ7:St} {H7:Hp},Inv X (pins++Il fp s5.heap) σ7 H7 s7->N σ7 H7 -> ∃ m,m<n /\ ∃ i σ' H',Inv X pins σ' H' s7/\tn i s7.heap/\(∀ b∈fp,H' b=none)/\W i m σ' H':=fun {σ7 H7} I7 n7=>by
   obtain⟨m',hm,w7⟩:=hN σ7 H7 n7
   refine⟨m',hm,i+1,σ7,H7,I7.unpinned,T.keep _ _ _ st5 fun b hb o e=>(I7.pin (b,o) (bu _ (bu _ (E6 hb e)))).1,fun b hb=>?_,w7⟩
   obtain⟨o,e,d⟩:=T.obj _ _ st5 b hb
   exact (I7.pin (b,o) (bu _ (bu _ (E6 hb e)))).2.1
  cases f with
  | next=>obtain⟨σ7,H7,I7,n7⟩:=q7;exact again I7 n7
  | cont=>obtain⟨σ7,H7,I7,n7⟩:=q7;exact again I7 n7
  | brk=>obtain⟨σ7,H7,I7,q7⟩:=q7;exact⟨σ7,H7,I7.unpinned,q7⟩
  | ret v=>obtain⟨x7,σ7,H7,I7,r7,q7⟩:=q7;exact⟨x7,σ7,H7,I7.unpinned,r7,q7⟩
end
noncomputable abbrev R2:=V->V->Hp->VK->Prop
noncomputable def OpR (X:Cx) (f:Value->Value->Sem Value) (r:R2):Prop:=
 ∀ (pins:List (Addr×Obj)) (s:aj) (σ:St) (H:Hp) (x y:V) (v u:Value) (Q:VK),Inv X pins σ H s->RelV x v->RelV y u->r x y H Q ->
  aI (model X.prog X.w) X.A (f v u) (EP X pins σ Q) X.xe s
noncomputable def UnR (X:Cx) (f:Value->Sem Value) (r:V->Hp->VK->Prop):Prop:=
 ∀ (pins:List (Addr×Obj)) (s:aj) (σ:St) (H:Hp) (x:V) (v:Value) (Q:VK),Inv X pins σ H s->RelV x v->r x H Q ->
  aI (model X.prog X.w) X.A (f v) (EP X pins σ Q) X.xe s
noncomputable def Cz (X:Cx) (f:Value) (r:List V->Hp->VK->Prop):Prop:=
 ∀ (pins:List (Addr×Obj)) (s:aj) (σ:St) (H:Hp) (xs:List V) (us:List Value) (Q:VK),Inv X pins σ H s->Vals xs us->r xs H Q ->
  aI (model X.prog X.w) X.A (call f us) (EP X pins σ Q) X.xe s
noncomputable def bt0 (X:Cx) (r:V->Hp->(Bool->Hp->Prop)->Prop):Prop:=
 ∀ (pins:List (Addr×Obj)) (s:aj) (σ:St) (H:Hp) (x:V) (v:Value) (Q:Bool->Hp->Prop),Inv X pins σ H s->RelV x v->r x H Q ->
  aI (model X.prog X.w) X.A (truthy v) (TP X pins σ Q) X.xe s
noncomputable def tOp (r:R2) (ta tb:TE):TE:=fun σ H Q=>ta σ H fun x H1=>tb σ H1 fun y H2=>r x y H2 Q
noncomputable def tUn (r:V->Hp->VK->Prop) (ta:TE):TE:=fun σ H Q=>ta σ H fun x H1=>r x H1 Q
noncomputable def rI (C:Int->Int->Prop) (g:Int->Int->V):R2:=fun x y H Q=>∃ i j,x=.int i/\y=.int j/\C i j/\Q (g i j) H
noncomputable def rI0 (g:Int->Int->V):R2:=fun x y H Q=>∃ i j,x=.int i/\y=.int j/\Q (g i j) H
noncomputable def rU (g:Int->V):V->Hp->VK->Prop:=fun x H Q=>∃ i,x=.int i/\Q (g i) H
section
variable {X:Cx} {a b c:Expr} {ta tb tc:TE} {pos:Pos}
theorem ba6 (ha:PE X a ta) (hb:PE X b tb) {pins:List (Addr×Obj)} {s:aj} {σ:St} {H:Hp} {R:V->V->Hp->Prop} (I:Inv X pins σ H s)
  (h:ta σ H fun x H1=>tb σ H1 fun y H2=>R x y H2) {Q:Value->aj->Prop} {f:Value->Value->Sem Value}
  (hf:∀ v u s2 x y H2,Inv X pins σ H2 s2->RelV x v->RelV y u->R x y H2->aI (model X.prog X.w) X.A (f v u) Q X.xe s2) :
  aI (model X.prog X.w) X.A (eval a X.env) (fun v s₁=>aI (model X.prog X.w) X.A (eval b X.env) (fun u s₂=>aI (model X.prog X.w) X.A (f v u) Q X.xe s₂) X.xe s₁) X.xe s:=by
 refine thn (ha pins s σ H _ I h) fun v s1 ⟨x,H1,I1,r1,q1⟩=>?_
 refine thn (hb pins s1 σ H1 _ I1 q1) fun u s2 ⟨y,H2,I2,r2,q2⟩=>?_
 exact hf v u s2 x y H2 I2 r1 r2 q2
theorem bz7 {op:l7} {r:R2} (ho:OpR X (d9 op) r) (ha:PE X a ta) (hb:PE X b tb):PE X (.BinOp a op b pos) (tOp r ta tb):=by
 intro pins s σ H Q I h
 exact wpAny_BinOp (ba6 ha hb I h fun v u s2 x y H2 I2 rx ry q=>ho pins s2 σ H2 x y v u Q I2 rx ry q)
theorem a52 {op:UnaryOp} {r:V->Hp->VK->Prop} (ho:UnR X (me op) r) (ha:PE X a ta):PE X (.UnaryOp op a pos) (tUn r ta):=by
 intro pins s σ H Q I h
 exact UnaryOp_ (thn (ha pins s σ H _ I h) fun v s1 ⟨x,H1,I1,r1,q1⟩=>ho pins s1 σ H1 x v Q I1 r1 q1)
theorem opI {f:Value->Value->Sem Value} {C:Int->Int->Prop} {g:Int->Int->Int}
  (rule:∀ (i j:Int) (t u:Tok) (s:aj) (Q:Value->aj->Prop) (E:Value->aj->Prop),C i j->Q (.int (g i j) s.toks) { s with toks:=s.toks+1 }->aI (model X.prog X.w) X.A (f (.int i t) (.int j u)) Q E s) :
  OpR X f (rI C fun i j=>.int (g i j)):=by
 intro pins s σ H x y v u Q I rx ry h
 obtain⟨i,j,rfl,rfl,hc,q⟩:=h
 obtain⟨t,rfl⟩:=rx
 obtain⟨t',rfl⟩:=ry
 exact rule i j t t' s _ _ hc ⟨.int (g i j),H,I.tok _,⟨_,rfl⟩,q⟩
theorem ax3 {f:Value->Value->Sem Value} {g:Int->Int->Int}
  (rule:∀ (i j:Int) (t u:Tok) (s:aj) (Q:Value->aj->Prop) (E:Value->aj->Prop),Q (.int (g i j) s.toks) { s with toks:=s.toks+1 }->aI (model X.prog X.w) X.A (f (.int i t) (.int j u)) Q E s) :
  OpR X f (rI0 fun i j=>.int (g i j)):=by
 intro pins s σ H x y v u Q I rx ry h
 obtain⟨i,j,rfl,rfl,q⟩:=h
 obtain⟨t,rfl⟩:=rx
 obtain⟨t',rfl⟩:=ry
 exact rule i j t t' s _ _ ⟨.int (g i j),H,I.tok _,⟨_,rfl⟩,q⟩
theorem ax2 {f:Value->Value->Sem Value} {g:Int->Int->Bool}
  (rule:∀ (i j:Int) (t u:Tok) (s:aj) (Q:Value->aj->Prop) (E:Value->aj->Prop),Q (.bool (g i j)) s->aI (model X.prog X.w) X.A (f (.int i t) (.int j u)) Q E s) :
  OpR X f (rI0 fun i j=>.bl (g i j)):=by
 intro pins s σ H x y v u Q I rx ry h
 obtain⟨i,j,rfl,rfl,q⟩:=h
 obtain⟨t,rfl⟩:=rx
 obtain⟨t',rfl⟩:=ry
 exact rule i j t t' s _ _ ⟨.bl (g i j),H,I,rfl,q⟩
noncomputable def bs8 (i j:Int):Prop:=0<j/\j<1073741824
noncomputable def as0 (i j:Int):Prop:=0<=j/\j<=1000000/\i.natAbs<2 ^ 64
noncomputable def CMul (i j:Int):Prop:=(-(2 ^ 64)<i/\i<2 ^ 64)\/(-(2 ^ 64)<j/\j<2 ^ 64)
theorem CMul.ok {i j:Int} (h:CMul i j):IntMulOk i j:=by
 rcases h with ⟨h1,h2⟩|⟨h1,h2⟩
 ·exact .of_left (intBits_le_64 h1 h2)
 ·exact .of_right (intBits_le_64 h1 h2)
theorem Wf (k:Nat):(0:Int)<=2 ^ k:=by
 rw [two_pow_cast]
 exact Int.natCast_nonneg _
theorem bf0:OpR X (d9 .Add) (rI0 fun i j=>.int (i+j)):=ax3 fun _ _ _ _ _ _ _ q=>add_int q
theorem bg0:OpR X (d9 .Sub) (rI0 fun i j=>.int (i - j)):=ax3 fun _ _ _ _ _ _ _ q=>sub_int q
theorem bf5:OpR X (d9 .Mult) (rI CMul fun i j=>.int (i * j)):=opI fun _ _ _ _ _ _ _ hc q=>mul_int q hc.ok
theorem ax5:OpR X (d9 .FloorDiv) (rI bs8 fun i j=>.int (i / j)):=opI fun i j _ _ _ _ _ hc q=>by
 have h1:(0:Int)<j:=hc.1
 have h2:j<1073741824:=hc.2
 exact floordiv_int (by omega) (by rw [iy i (by omega)];exact q) (.inl (jt (by omega)))
theorem bf4:OpR X (d9 .Mod) (rI (fun _ j=>0<j) fun i j=>.int (i % j)):=opI fun i j _ _ _ _ _ hc q=>by
 have h1:(0:Int)<j:=hc
 exact mod_int' (by omega) (by rw [Int.fmod_eq_emod_of_nonneg i (by omega)];exact q)
theorem bf7:OpR X (d9 .Pow) (rI as0 fun i j=>.int (i ^ j.toNat)):=opI fun _ _ _ _ _ _ _ hc q=>pow_int_small hc.1 hc.2.1 hc.2.2 q
theorem bf8:OpR X (d9 .LShift) (rI as0 fun i j=>.int (i * 2 ^ j.toNat)):=opI fun _ _ _ _ _ _ _ hc q=>lshift_int_small hc.1 hc.2.1 hc.2.2 q
theorem bf9:OpR X (d9 .RShift) (rI (fun _ j=>0<=j) fun i j=>.int (i / 2 ^ j.toNat)):=opI fun i j _ _ _ _ _ hc q=>
 rshift_int hc (by rw [iy i (Wf _)];exact q)
theorem bf1:OpR X (d9 .BitAnd) (rI0 fun i j=>.int (bj i j)):=ax3 fun _ _ _ _ _ _ _ q=>and_int q
theorem bz3:OpR X (d9 .BitOr) (rI0 fun i j=>.int (cV i j)):=ax3 fun _ _ _ _ _ _ _ q=>or_int q
theorem unI {f:Value->Sem Value} {g:Int->Int}
  (rule:∀ (i:Int) (t:Tok) (s:aj) (Q:Value->aj->Prop) (E:Value->aj->Prop),Q (.int (g i) s.toks) { s with toks:=s.toks+1 }->aI (model X.prog X.w) X.A (f (.int i t)) Q E s) :
  UnR X f (rU fun i=>.int (g i)):=by
 intro pins s σ H x v Q I rx h
 obtain⟨i,rfl,q⟩:=h
 obtain⟨t,rfl⟩:=rx
 exact rule i t s _ _ ⟨.int (g i),H,I.tok _,⟨_,rfl⟩,q⟩
theorem bq1:UnR X (me .USub) (rU fun i=>.int (-i)):=unI fun _ _ _ _ _ q=>neg_int q
theorem bq0:UnR X (me .Invert) (rU fun i=>.int (bv i)):=unI fun _ _ _ _ _ q=>invert_int q
end
noncomputable def bp3:V->V->Bool
 | .non,.non=>true | .non,.int _=>true | .int _,.non=>true | .non,.bl _=>true | .bl _,.non=>true | .non,.str _=>true | .str _,.non=>true
 | .int _,.int _=>true | .bl _,.bl _=>true | .str _,.str _=>true | .byt _,.byt _=>true
 | .int _,.str _=>true | .str _,.int _=>true | .bl _,.str _=>true | .str _,.bl _=>true
 | _,_=>false
noncomputable def rEq:R2:=fun x y H Q=>bp3 x y=true/\Q (.bl (decide (x=y))) H
noncomputable def rNe:R2:=fun x y H Q=>bp3 x y=true/\Q (.bl (!decide (x=y))) H
theorem Jr {i j:Int}:decide (V.int i=V.int j)=(i==j):=by
 rw [bQ]
 simp
theorem Ov {i j:Bool}:decide (V.bl i=V.bl j)=(i==j):=by
 rw [bQ]
 simp
theorem Js {i j:Str}:decide (V.str i=V.str j)=(i==j):=by
 rw [bQ]
 simp
theorem Wt {i j:Array UInt8}:decide (V.byt i=V.byt j)=(i.toList==j.toList):=by
 rw [bQ]
 cases i
 cases j
 simp
section
variable {X:Cx} {a b c:Expr} {ta tb tc:TE} {pos:Pos}
theorem Ax {pins:List (Addr×Obj)} {σ:St} {H:Hp} {s:aj} {Q:VK} {k k':Bool} (I:Inv X pins σ H s) (q:Q (.bl k) H) (e:k=k'):EP X pins σ Q (.bool k') s:=by
 subst e
 exact⟨.bl k,H,I,rfl,q⟩
theorem W0:OpR X (cT .Eq) rEq:=by
 intro pins s σ H x y v u Q I rx ry h
 obtain⟨hs,q⟩:=h
 cases x with
 | non=>
  cases rx
  cases y with
  | non=>cases ry;exact PySem.EqNone.eq_none_none (Ax I q (by simp))
  | bl j=>cases ry;exact PySem.EqNone.eq_none_bool (Ax I q (by simp))
  | int j=>obtain⟨t',rfl⟩:=ry;exact PySem.EqNone.eq_none_int (Ax I q (by simp))
  | str j=>obtain⟨t',rfl⟩:=ry;exact PySem.EqNone.eq_none_str (Ax I q (by simp))
  | _=>exact absurd (show false=true from hs) am
 | bl i=>
  cases rx
  cases y with
  | non=>cases ry;exact PySem.EqNone.eq_bool_none (Ax I q (by simp))
  | bl j=>cases ry;exact eq_bool (Ax I q Ov)
  | str j=>obtain⟨t',rfl⟩:=ry;exact PySem.EqMixed.eq_bool_str (Ax I q (by simp))
  | _=>exact absurd (show false=true from hs) am
 | int i=>
  obtain⟨t,rfl⟩:=rx
  cases y with
  | non=>cases ry;exact PySem.EqNone.eq_int_none (Ax I q (by simp))
  | int j=>obtain⟨t',rfl⟩:=ry;exact eq_int (Ax I q Jr)
  | str j=>obtain⟨t',rfl⟩:=ry;exact PySem.EqMixed.eq_int_str (Ax I q (by simp))
  | _=>exact absurd (show false=true from hs) am
 | str i=>
  obtain⟨t,rfl⟩:=rx
  cases y with
  | non=>cases ry;exact PySem.EqNone.eq_str_none (Ax I q (by simp))
  | bl j=>cases ry;exact PySem.EqMixed.eq_str_bool (Ax I q (by simp))
  | int j=>obtain⟨t',rfl⟩:=ry;exact PySem.EqMixed.eq_str_int (Ax I q (by simp))
  | str j=>obtain⟨t',rfl⟩:=ry;exact eq_str (Ax I q Js)
  | _=>exact absurd (show false=true from hs) am
 | byt i=>
  obtain⟨t,rfl⟩:=rx
  cases y with
  | byt j=>obtain⟨t',rfl⟩:=ry;exact PySem.W.eq_bytes (Ax I q Wt)
  | _=>exact absurd (show false=true from hs) am
 | _=>cases y <;> exact absurd (show false=true from hs) am
theorem W2:OpR X (cT .NotEq) rNe:=by
 intro pins s σ H x y v u Q I rx ry h
 obtain⟨hs,q⟩:=h
 cases x with
 | non=>
  cases rx
  cases y with
  | non=>cases ry;exact PySem.EqNone.ne_none_none (Ax I q (by simp))
  | bl j=>cases ry;exact PySem.EqNone.ne_none_bool (Ax I q (by simp))
  | int j=>obtain⟨t',rfl⟩:=ry;exact PySem.EqNone.ne_none_int (Ax I q (by simp))
  | str j=>obtain⟨t',rfl⟩:=ry;exact PySem.EqNone.ne_none_str (Ax I q (by simp))
  | _=>exact absurd (show false=true from hs) am
 | bl i=>
  cases rx
  cases y with
  | non=>cases ry;exact PySem.EqNone.ne_bool_none (Ax I q (by simp))
  | bl j=>cases ry;exact ne_bool (Ax I q (congrArg not Ov))
  | str j=>obtain⟨t',rfl⟩:=ry;exact PySem.EqMixed.ne_bool_str (Ax I q (by simp))
  | _=>exact absurd (show false=true from hs) am
 | int i=>
  obtain⟨t,rfl⟩:=rx
  cases y with
  | non=>cases ry;exact PySem.EqNone.ne_int_none (Ax I q (by simp))
  | int j=>obtain⟨t',rfl⟩:=ry;exact ne_int (Ax I q (congrArg not Jr))
  | str j=>obtain⟨t',rfl⟩:=ry;exact PySem.EqMixed.ne_int_str (Ax I q (by simp))
  | _=>exact absurd (show false=true from hs) am
 | str i=>
  obtain⟨t,rfl⟩:=rx
  cases y with
  | non=>cases ry;exact PySem.EqNone.ne_str_none (Ax I q (by simp))
  | bl j=>cases ry;exact PySem.EqMixed.ne_str_bool (Ax I q (by simp))
  | int j=>obtain⟨t',rfl⟩:=ry;exact PySem.EqMixed.ne_str_int (Ax I q (by simp))
  | str j=>obtain⟨t',rfl⟩:=ry;exact ne_str (Ax I q (congrArg not Js))
  | _=>exact absurd (show false=true from hs) am
 | byt i=>
  obtain⟨t,rfl⟩:=rx
  cases y with
  | byt j=>obtain⟨t',rfl⟩:=ry;exact PySem.W.ne_bytes (Ax I q (congrArg not Wt))
  | _=>exact absurd (show false=true from hs) am
 | _=>cases y <;> exact absurd (show false=true from hs) am
theorem bz2:OpR X (cT .Lt) (rI0 fun i j=>.bl (decide (i<j))):=ax2 fun _ _ _ _ _ _ _ q=>lt_int q
theorem bz1:OpR X (cT .LtE) (rI0 fun i j=>.bl (decide (i<=j))):=ax2 fun _ _ _ _ _ _ _ q=>le_int q
theorem bz0:OpR X (cT .Gt) (rI0 fun i j=>.bl (decide (j<i))):=ax2 fun _ _ _ _ _ _ _ q=>gt_int q
theorem by9:OpR X (cT .GtE) (rI0 fun i j=>.bl (decide (j<=i))):=ax2 fun _ _ _ _ _ _ _ q=>ge_int q
theorem Y6:OpR X (cT .Lt) (fun x y H Q=>∃ i j,x=.str i/\y=.str j/\Q (.bl (decide (i.cps.toList<j.cps.toList))) H):=by
 intro pins s σ H x y v u Q I rx ry h
 obtain⟨i,j,rfl,rfl,q⟩:=h
 obtain⟨t,rfl⟩:=rx
 obtain⟨t',rfl⟩:=ry
 exact lt_str (Ax I q rfl)
theorem bf3:OpR X (cT .Is) (fun x y H Q=>y=.non/\Q (.bl (decide (x=.non))) H):=by
 intro pins s σ H x y v u Q I rx ry h
 obtain⟨rfl,q⟩:=h
 cases ry
 refine is_none_gen (Ax I q ?_)
 cases x <;> first
  | (cases rx;rfl)
  | (obtain⟨t,rfl⟩:=rx;rfl)
theorem ax6:OpR X (cT .IsNot) (fun x y H Q=>y=.non/\Q (.bl (!decide (x=.non))) H):=by
 intro pins s σ H x y v u Q I rx ry h
 obtain⟨rfl,q⟩:=h
 cases ry
 refine isnot_none_gen (Ax I q ?_)
 cases x <;> first
  | (cases rx;rfl)
  | (obtain⟨t,rfl⟩:=rx;rfl)
theorem OpR.or {f:Value->Value->Sem Value} {r r':R2} (h:OpR X f r) (h':OpR X f r'):OpR X f (fun x y H Q=>r x y H Q\/r' x y H Q):=by
 intro pins s σ H x y v u Q I rx ry q
 rcases q with q|q
 ·exact h pins s σ H x y v u Q I rx ry q
 ·exact h' pins s σ H x y v u Q I rx ry q
theorem ay0 {op:l4} {r:R2} (ho:OpR X (cT op) r) (ha:PE X a ta) (hb:PE X b tb) (hm:jc op b=false):PE X (.Compare a [op] [b] pos) (tOp r ta tb):=by
 intro pins s σ H Q I h
 exact wpAny_Compare1 (ba6 ha hb I h fun v u s2 x y H2 I2 rx ry q=>ho pins s2 σ H2 x y v u Q I2 rx ry q) hm
noncomputable def bt1 (K:ac) (x:V) (H:Hp) (k:Bool):Prop:=
 match x with
 | .non=>k=false
 | .bl b=>k=b
 | .int i=>k=(i != 0)
 | .str y=>y.length<=sizeLine/\k=((y.length:Int) != 0)
 | .byt y=>y.size<=sizeLine/\k=((y.size:Int) != 0)
 | .ref p=>(∃ xs,SqL K H p xs/\k = !xs.isEmpty)\/(∃ xs,SqT K H p xs/\k = !xs.isEmpty) \/ ∃ kvs,H p=some (.dK kvs)/\k = !kvs.isEmpty
 | _=>False
theorem Ue {κ:Type} {kvs:List (κ×V)} {vs:List (κ×Value)} (r:KV kvs vs):(!vs.isEmpty) = !kvs.isEmpty:=by
 cases r <;> rfl
theorem Kn {xs:List V} {its:List Value} (r:Vals xs its):(!its.toArray.isEmpty) = !xs.isEmpty:=by
 cases r <;> simp
theorem Gv:(sizeLine:Nat)<2 ^ 63:=by rw [cZ];decide
theorem Ma:bt0 X (fun x H Q=>∃ k,bt1 X.K x H k/\Q k H):=by
 intro pins s σ H x v Q I rx h
 obtain⟨k,e,q⟩:=h
 have hl:=Gv
 have hs:sizeLine=16777216:=cZ
 cases x with
 | non=>
  cases rx
  have e':k=false:=e
  subst e'
  exact truthy_none ⟨H,I,q⟩
 | bl b=>
  cases rx
  have e':k=b:=e
  subst e'
  exact eB ⟨H,I,q⟩
 | int i=>
  obtain⟨t,rfl⟩:=rx
  have e':k=(i != 0):=e
  subst e'
  exact PySem.P.truthy_int ⟨H,I,q⟩
 | str y=>
  obtain⟨t,rfl⟩:=rx
  obtain⟨hy,e'⟩:y.length<=sizeLine/\k=((y.length:Int) != 0):=e
  subst e'
  exact PySem.P.truthy_str (by omega) ⟨H,I.tok _,q⟩
 | byt y=>
  obtain⟨t,rfl⟩:=rx
  obtain⟨hy,e'⟩:y.size<=sizeLine/\k=((y.size:Int) != 0):=e
  subst e'
  exact PySem.W.truthy_bytes (by omega) ⟨H,I.tok _,q⟩
 | ref p=>
  cases rx
  have e':(∃ xs,SqL X.K H p xs/\k = !xs.isEmpty)\/(∃ xs,SqT X.K H p xs/\k = !xs.isEmpty) \/ ∃ kvs,H p=some (.dK kvs)/\k = !kvs.isEmpty:=e
  rcases e' with ⟨xs,hx,e'⟩|⟨xs,hx,e'⟩|⟨kvs,hx,e'⟩
  ·subst e'
   obtain⟨its,r,pl,hz⟩:=I.list hx
   have hlen:=r.length
   exact wpAny_truthy_list pl.isList (by simp only [av];omega) ⟨H,I.tok _,by rw [Kn r];exact q⟩
  ·subst e'
   obtain⟨its,r,pl,hz⟩:=I.tuple hx
   have hlen:=r.length
   exact truthy_tuple pl (by simp only [av];omega) ⟨H,I.tok _,by rw [Kn r];exact q⟩
  ·subst e'
   obtain⟨hz,hS,vs,r,m⟩:kvs.length<=sizeLine/\(p==dI)=false /\ ∃ vs,KV kvs vs/\s.heap.DictOf (A7 X.prog X.w) p vs:=I.hok p _ hx
   have hlen:kvs.length=vs.length:=g9 r
   exact wpAny_truthy_dict hS m (by omega) ⟨H,I.tok _,by rw [Ue r];exact q⟩
 | _=>exact (show False from e).elim
theorem Ux:OpR X (d9 .Add) (fun x y H Q=>∃ i j,x=.str i/\y=.str j/\i.length+j.length<=sizeLine/\Q (.str (i++j)) H):=by
 intro pins s σ H x y v u Q I rx ry h
 obtain⟨i,j,rfl,rfl,hz,q⟩:=h
 obtain⟨t,rfl⟩:=rx
 obtain⟨t',rfl⟩:=ry
 exact add_str (fun t' tk=>⟨.str (i++j),H,I.tok _,⟨_,rfl⟩,q⟩) hz
theorem Go {x:V} {us:List Value} (r:Vals [x] us):∃ u,us=[u]/\RelV x u:=by
 cases r with
 | cons r1 r2=>cases r2;exact⟨_,rfl,r1⟩
theorem b96 {x y:V} {us:List Value} (r:Vals [x,y] us):∃ u w',us=[u,w']/\RelV x u/\RelV y w':=by
 cases r with
 | cons r1 r2=>
  cases r2 with
  | cons r3 r4=>cases r4;exact⟨_,_,rfl,r1,r3⟩
theorem M3:Cz X (.type "int") (fun xs H Q=>(∃ i,xs=[.int i]/\Q (.int i) H) \/ ∃ k,xs=[.bl k]/\Q (.int (if k then 1 else 0)) H):=by
 intro pins s σ H xs us Q I r h
 rcases h with ⟨i,rfl,q⟩|⟨k,rfl,q⟩
 ·obtain⟨u,rfl,t,rfl⟩:=Go r
  exact call_int_int ⟨.int i,H,I,⟨_,rfl⟩,q⟩
 ·obtain⟨u,rfl,r1⟩:=Go r
  cases r1
  exact call_int_bool ⟨.int (if k then 1 else 0),H,I.tok _,⟨_,rfl⟩,q⟩
end
structure ObjM (h:Heap) (x dx C:Addr) (mA:Str->Option Value):Prop where
 obj:h.get? x=some (bV C dx)
 ns:h.Ns1 dx mA
 ne:dx≠x
theorem Nu {h:Heap} {dx:Addr} {mA:Str->Option Value} (n:h.Ns1 dx mA):∃ od,h.get? dx=some od /\ ∀ name,iJ name od=some (mA name):=by
 obtain⟨o,es,ep,ho,hd,hk,_,hm⟩:=n
 refine⟨o,ho,fun name=>?_⟩
 have e:=hm name
 unfold nsFind findBy at e
 rw [<- Array.find?_toList] at e
 unfold iJ
 rw [hd]
 dsimp only
 split
 ·rename_i y q
  rw [q] at e
  exact congrArg some e
 ·rename_i q
  rw [q] at e
  have a:es.toList.any (·.refKey)=false:=by
   rw [cR]
   intro y hy
   obtain⟨z,t,hkey⟩:=hk y (Array.mem_toList_iff.mp hy)
   simp [DictEntry.refKey,hkey]
  have a':¬ es.toList.any (·.refKey)=true:=by rw [a];exact am
  rw [if_neg a']
  exact congrArg some e
theorem ObjM.look {h:Heap} {x dx C:Addr} {mA:Str->Option Value} (I:ObjM h x dx C mA):∃ od,PySem.W.InstAt h x (bV C dx) C (some od) /\ ∀ name,iJ name od=some (mA name):=
 let ⟨od,ho,hl⟩:=Nu I.ns
 ⟨od,⟨I.obj,rfl,rfl,ho⟩,hl⟩
section
variable {prog:aV} {w:bM} {A:bi} {E:Value->aj->Prop} {s:aj} {K:ac} {x dx C f:Addr} {mA:Str->Option Value} {name:Str} {v:Value}
theorem Ao {expr:Bool} {Q:Value->aj->Prop} (X:K.In s.heap) (I:ObjM s.heap x dx C mA) (hg:fN K C name=true) (hh:gA K C=true)
  (ha:aD K (.ref C) name=some none) (hv:mA name=some v) (hv':jj v=true) (h:Q v { s with toks:=s.toks+1 }) :
  aI (model prog w) A (getAttr (.ref x) name expr) Q E s:=by
 obtain⟨od,J,hl⟩:=I.look
 exact PySem.W.get_value X J (ip hg).1 (PySem.W.findObj_own hh ha rfl (by rw [hl,hv])) hv' h
theorem ag4 {pl:Sem Bool} {Q:Value×List Value->aj->Prop} (X:K.In s.heap) (I:ObjM s.heap x dx C mA) (hg:fN K C name=true)
  (hf:aD K (.ref C) name=some (some (.ref f))) (ht:dE K (.ref f)=true) (hv:mA name=none) (h:Q (.ref f,[.ref x]) s) :
  aI (model prog w) A (getMethod (.ref x) name pl) Q E s:=by
 obtain⟨od,J,hl⟩:=I.look
 exact PySem.W.method_fn X J (ip hg).1 (ip hg).2 hf (beq_iff_eq.mp ht) (by show (iJ name od).map (·.isSome)=some false;rw [hl,hv];rfl) h
theorem a10 {ns:List Str} {Q:Unit->aj->Prop} (X:K.In s.heap) (I:ObjM s.heap x dx C mA)
  (hs:aD K (.ref C) "__setattr__" = some (some (.builtin "object.__setattr__"))) (hp:iV K C=true) (ht:jN K C name=some none) (hh:gA K C=true)
  (hw:gS mA ns) (hsz:ns.length<=sizeLine)
  (h:∀ h',ObjM h' x dx C (fun y=>if y=name then some v else mA y)->bc dx s.heap h'->Q () { s with heap:=h',toks:=s.toks+2 }) :
  aI (model prog w) A (setAttr (.ref x) name v) Q E s:=by
 obtain⟨od,J,hl⟩:=I.look
 refine PySem.W.set_plain X J hs (PySem.W.osa_open (s:={ s with toks:=s.toks+1 }) (r:=none) X J hp ht fun b=>?_)
 obtain⟨cd,hc,hd'⟩:=PySem.W.any_some hh
 have hx:s.heap.get? x=some ⟨.ref C,some dx,.plain,#[]⟩:=I.obj
 refine af (al (af (af (wpAny_loadPart hx (af (PySem.W.Looks.here (s:={ s with toks:=s.toks+1 }) (PySem.W.looks_clsIn X hc) ?_))))))
 rw [hd']
 refine al (a:=some dx) (af (al (af ?_)))
 refine wpAny_nsSet1 (s:={ s with toks:=s.toks+1 }) I.ns fun h' hn2 hs2=>?_
 obtain⟨oD,esD,epD,hoD,hdD,hcD⟩:=hn2.count (PySem.Within.cons name v hw)
 refine af (wpAny_lookBehind hoD (by rw [hdD];exact pastItsLine_dict (aQ hcD (by rw [aN];omega))) ?_)
 exact al (h _ ⟨(hs2.2 _ (ck I.ne)).trans I.obj,hn2,I.ne⟩ hs2)
theorem ai9 {R:j9->aj->Prop} {vs:List Value} {kw:List (Str×Value)} (X:K.In s.heap) (hm:cX K C=true)
  (hi:aD K (.ref C) "__init__" = some (some (.ref f))) (hf:PySem.W.typeIn K (.ref f)=some (.type "function"))
  (h:eO (model prog w) (A.under (.builtin "type.__call__" ⟨.ref C::vs,kw⟩)) (.call (.ref f) ⟨.ref (s.heap.objs.size+1)::vs,kw⟩) (PySem.W.InitBack (s.heap.objs.size+1) R)
   {s with heap:=(s.heap.push bH).push (bV C s.heap.objs.size) }) :
  eO (model prog w) A (.call (.ref C) ⟨vs,kw⟩) R s:=by
 obtain⟨hh,g,d,t,os⟩:=s
 exact PySem.W.make_core (jl X hm) (fF X hi) (fun self=>PySem.W.bind_fn X self hf) (.inl rfl) h
theorem Yx {R:j9->aj->Prop} (X:K.In s.heap) (hm:cX K C=true)
  (hi:aD K (.ref C) "__init__" = some (some (.builtin "object.__init__")))
  (hb:∀ self,hG (model prog w) s.heap (lR (.builtin "object.__init__") self) (.builtin "object.__init__", [self]))
  (h:eO (model prog w) (A.under (.builtin "type.__call__" ⟨[.ref C],[]⟩)) (.call (.builtin "object.__init__") ⟨[.ref (s.heap.objs.size+1)],[]⟩) (PySem.W.InitBack (s.heap.objs.size+1) R)
   {s with heap:=(s.heap.push bH).push (bV C s.heap.objs.size) }) :
  eO (model prog w) A (.call (.ref C) ⟨[],[]⟩) R s:=by
 obtain⟨hh,g,d,t,os⟩:=s
 exact PySem.W.make_core (jl X hm) (fF X hi) hb (.inr ⟨rfl,rfl⟩) h
end
noncomputable def Fr (f:Str) (v:V):List (Str×V)->List (Str×V)
 | []=>[(f,v)]
 | (g,x)::r=>if g=f then (g,v)::r else (g,x)::Fr f v r
theorem Jf (f g:Str) (v:V):∀ fs:List (Str×V),(Fr f v fs).lookup g=if g=f then some v else fs.lookup g
 | []=>by
  show fQ g [(f,v)]=_
  by_cases h:g=f
  ·have hb:(g==f)=true:=beq_iff_eq.mpr h
   simp only [fQ,hb,if_pos h]
  ·have hb:(g==f)=false:=beq_eq_false_iff_ne.mpr h
   simp only [fQ,hb,if_neg h]
 | (k,x)::r=>by
  have ih:=Jf f g v r
  rw [show Fr f v ((k,x)::r)=(if k=f then (k,v)::r else (k,x)::Fr f v r) from rfl]
  by_cases hk:k=f
  ·rw [if_pos hk]
   by_cases h:g=k
   ·have hb:(g==k)=true:=beq_iff_eq.mpr h
    simp only [fQ,hb,if_pos (h.trans hk)]
   ·have hb:(g==k)=false:=beq_eq_false_iff_ne.mpr h
    simp only [fQ,hb,if_neg (fun e:g=f=>h (e.trans hk.symm))]
  ·rw [if_neg hk]
   by_cases h:g=k
   ·have hb:(g==k)=true:=beq_iff_eq.mpr h
    simp only [fQ,hb,if_neg (fun e:g=f=>hk (h.symm.trans e))]
   ·have hb:(g==k)=false:=beq_eq_false_iff_ne.mpr h
    simp only [fQ,hb]
    exact ih
theorem Ic (f:Str) (v:V):∀ fs:List (Str×V),f∈(Fr f v fs).map (·.1) /\ ∀ g,g∈fs.map (·.1)->g∈(Fr f v fs).map (·.1)
 | []=>⟨by simp [Fr],fun g h=>by simp at h⟩
 | (k,x)::r=>by
  obtain⟨i1,i2⟩:=Ic f v r
  rw [show Fr f v ((k,x)::r)=(if k=f then (k,v)::r else (k,x)::Fr f v r) from rfl]
  by_cases hk:k=f
  ·rw [if_pos hk]
   subst hk
   exact⟨by simp,fun g h=>by simpa using h⟩
  ·rw [if_neg hk]
   refine⟨?_,fun g h=>?_⟩
   ·rw [be]
    exact aL _ i1
   ·rw [be] at h ⊢
    rcases List.mem_cons.mp h with e|e
    ·exact List.mem_cons.mpr (.inl e)
    ·exact aL _ (i2 g e)
theorem Je (f:Str) (v:V):∀ fs:List (Str×V),(Fr f v fs).length<=fs.length+1
 | []=>by simp [Fr]
 | (k,x)::r=>by
  have ih:=Je f v r
  rw [show Fr f v ((k,x)::r)=(if k=f then (k,v)::r else (k,x)::Fr f v r) from rfl]
  by_cases hk:k=f
  ·rw [if_pos hk,aN,aN];omega
  ·rw [if_neg hk,aN,aN];omega
theorem RelO.some_of {v:V} {o:Option Value} (r:RelO (some v) o):∃ u,o=some u/\RelV v u:=by
 cases o with
 | none=>exact (show False from r).elim
 | some u=>exact⟨u,rfl,r⟩
theorem RelO.none_of {o:Option Value} (r:RelO none o):o=none:=by
 cases o with
 | none=>rfl
 | some u=>exact (show False from r).elim
theorem Yl {v:V} {u:Value} (r:RelV v u):jj u=true:=by
 cases v with
 | non=>cases (show u=bh from r);rfl
 | bl b=>cases (show u=gC b from r);rfl
 | int i=>obtain⟨t,e⟩:=(show ∃ t,u=kK i t from r);cases e;rfl
 | str x=>obtain⟨t,e⟩:=(show ∃ t,u=kL x t from r);cases e;rfl
 | byt b=>obtain⟨t,e⟩:=(show ∃ t,u=Value.bytes b t from r);cases e;rfl
 | flt b=>obtain⟨t,e⟩:=(show ∃ t,u=lP b t from r);cases e;rfl
 | ref a=>cases (show u=aY a from r);rfl
 | ty n=>cases (show u=c7 n from r);rfl
section
variable {P:aV} {w:bM} {H H':Hp} {h h':Heap} {a C dx:Addr} {fs fs':List (Str×V)}
theorem Jv (hok:HOk P w H h) (e:H a=some (.ins C dx fs)):∃ mA,ObjM h a dx C mA/\(∀ f,RelO (fs.lookup f) (mA f))/\gS mA (fs.map (·.1))/\fs.length<=1000/\H dx=some (.own a):=by
 obtain⟨d,z,ne,ob,mA,n,r,q⟩:=(show ObjOk P w H h a (.ins C dx fs) from hok a _ e)
 exact⟨mA,⟨ob,n,ne⟩,r,q,z,d⟩
end
structure Cls (K:ac) (C:Addr):Prop where
 pg:fN K C gm=true
 hd:gA K C=true
 po:iV K C=true
 sa:aD K (.ref C) "__setattr__" = some (some (.builtin "object.__setattr__"))
theorem Cls.get {K:ac} {C:Addr} (c:Cls K C) (f:Str):fN K C f=true:=c.pg
noncomputable def NoAttr (K:ac) (C:Addr) (f:Str):Prop:=aD K (.ref C) f=some none
theorem NoAttr.taker {K:ac} {C:Addr} {f:Str} (n:NoAttr K C f):jN K C f=some none:=by
 unfold jN
 rw [show aD K (.ref C) f=some none from n]
 rfl
structure Gp (K:ac) (C:Addr) (m:Str) (f:Addr):Prop where
 at_:aD K (.ref C) m=some (some (.ref f))
 fn:dE K (.ref f)=true
 kp:aR K (.ref f)=true
section
variable {X:Cx} {pins:List (Addr×Obj)} {σ:St} {H:Hp} {s:aj} {a C dx:Addr} {fs:List (Str×V)} {f:Str} {v:V} {A:bi} {E:Value->aj->Prop}
theorem Uc {b:Bool} {Q:Value->aj->Prop} (I:Inv X pins σ H s) (e:H a=some (.ins C dx fs)) (c:Cls X.K C) (n:NoAttr X.K C f) (l:fs.lookup f=some v)
  (h:∀ u s',Inv X pins σ H s'->RelV v u->Q u s'):aI (model X.prog X.w) A (getAttr (.ref a) f b) Q E s:=by
 obtain⟨mA,O,r,_,_,_⟩:=Jv I.hok e
 obtain⟨u,hu,ru⟩:=RelO.some_of (v:=v) (o:=mA f) (by rw [<- l];exact r f)
 exact Ao I.kIn O (c.get f) c.hd n hu (Yl ru) (h u _ (I.tok _) ru)
theorem Kk {m:Str} {g:Addr} {pl:Sem Bool} {Q:Value×List Value->aj->Prop} (I:Inv X pins σ H s) (e:H a=some (.ins C dx fs)) (c:Cls X.K C) (k:Gp X.K C m g) (l:fs.lookup m=none)
  (h:Q (.ref g,[.ref a]) s):aI (model X.prog X.w) A (getMethod (.ref a) m pl) Q E s:=by
 obtain⟨mA,O,r,_,_,_⟩:=Jv I.hok e
 have hn:mA m=none:=RelO.none_of (by rw [<- l];exact r m)
 exact ag4 I.kIn O (c.get m) k.at_ k.fn hn h
theorem V3 {y:V} {u:Value} {Q:Unit->aj->Prop} (I:Inv X pins σ H s) (e:H a=some (.ins C dx fs)) (c:Cls X.K C) (n:NoAttr X.K C f) (hl:fs.length<1000) (ry:RelV y u)
  (h:∀ s',Inv X pins σ (upd H a (.ins C dx (Fr f y fs))) s'->Q () s'):aI (model X.prog X.w) A (setAttr (.ref a) f u) Q E s:=by
 obtain⟨mA,O,r,wi,_,ho⟩:=Jv I.hok e
 have hz:(fs.map (·.1)).length<=sizeLine:=by rw [ae,cZ];omega
 refine a10 I.kIn O c.sa c.po n.taker c.hd wi hz fun h' O' sb=>h _ ?_
 have hd:∃ o,h'.get? dx=some o:=let ⟨o,_,_,e',_⟩:=O'.ns;⟨o,e'⟩
 refine I.write (x:=a) (e:=dx) (by rw [e];exact bC) (.inr ho) (fun b q hb z=>(sb.2 b hb).trans z) hd ?_
 refine⟨by rw [Ai O.ne];exact ho,?_,O.ne,O'.obj,_,O'.ns,fun g=>?_,fun g hg=>?_⟩
 ·have:=Je f y fs;omega
 ·show RelO ((Fr f y fs).lookup g) (if g=f then some u else mA g)
  rw [Jf]
  by_cases q:g=f
  ·rw [if_pos q,if_pos q];exact ry
  ·rw [if_neg q,if_neg q];exact r g
 ·by_cases q:g=f
  ·rw [q];exact (Ic f y fs).1
  ·refine (Ic f y fs).2 g (wi g fun z=>hg ?_)
   show (if g=f then some u else mA g)=none
   rw [if_neg q];exact z
theorem Inv.made (I:Inv X pins σ H s):Inv X pins σ (upd (upd H s.heap.objs.size (.own (s.heap.objs.size+1))) (s.heap.objs.size+1) (.ins C s.heap.objs.size []))
  {s with heap:=(s.heap.push bH).push (bV C s.heap.objs.size) }:=by
 have e1:(s.heap.push bH).get? s.heap.objs.size=some bH:=aw s.heap rfl
 have e2:((s.heap.push bH).push (bV C s.heap.objs.size)).get? (s.heap.objs.size+1)=some (bV C s.heap.objs.size):=by
  have:=aw (s.heap.push bH) (o:=bV C s.heap.objs.size) rfl
  rwa [bJ] at this
 have e3:(s.heap.push bH).Ns s.heap.objs.size (fun _=>none):=⟨bH,#[],_,e1,rfl,(fun e he=>absurd he (by simp)),fun _=>rfl⟩
 have I1:=I.laid (a:=s.heap.objs.size) (o:=.own (s.heap.objs.size+1)) (h':=s.heap.push bH) (t':=s.toks) (fun b u q=>ag _ q) (ay _) ⟨_,e1⟩
 refine I1.laid (a:=s.heap.objs.size+1) (o:=.ins C s.heap.objs.size []) (t':=s.toks) (fun b u q=>ag _ q) (ly (bJ _ _)) ?_
 have ne:s.heap.objs.size≠s.heap.objs.size+1:=aH (df _)
 refine⟨by rw [Ai ne,Ad],cq _,ne,e2,fun _=>none,(Heap.Ns1.of_empty e3).at fun o q=>ag _ q,fun _=>bC,fun y hy=>absurd rfl hy⟩
theorem as9 {prog:aV} {w:bM} {env:Env} {e:Expr} {f:Str} {pos:Pos} {s:aj} {Q:Value->aj->Prop} (hb:jb e f env (eval e env)=eval e env)
  (h:aI (model prog w) A (eval e env) (fun o s₁=>aI (model prog w) A (getAttr o f true) Q E s₁) E s):aI (model prog w) A (eval (.Attribute e f pos) env) Q E s:=
 Attribute_any_ h (by rw [arm_eval_Attribute,hb])
end
section
variable {X:Cx} {o e value:Expr} {f:Str} {pos pos' tpos:Pos} {ta tv:TE}
end
section
variable {X:Cx} {pins:List (Addr×Obj)} {σ:St} {H:Hp} {s:aj} {A:bi} {E:Value->aj->Prop} {Q:Value->aj->Prop} {c:Value} {b:Bool}
inductive TyOf (K:ac) (H:Hp):V->Value->Prop where
 | non:TyOf K H .non (.type "NoneType")
 | bl (x:Bool):TyOf K H (.bl x) (.type "bool")
 | int (i:Int):TyOf K H (.int i) (.type "int")
 | str (x:Str):TyOf K H (.str x) (.type "str")
 | flt (x:UInt64):TyOf K H (.flt x) (.type "float")
 | lst {a:Addr} {xs:List V} (e:H a=some (.lst xs)):TyOf K H (.ref a) (.type "list")
 | frz {a:Addr} {o:Obj} {xs:List V} (e:H a=some (.frz o (.lst xs))):TyOf K H (.ref a) (.type "list")
 | tup {a:Addr} {xs:List V} (e:H a=some (.tup xs)):TyOf K H (.ref a) (.type "tuple")
 | dK {a:Addr} {kvs:List (Key×V)} (e:H a=some (.dK kvs)):TyOf K H (.ref a) (.type "dict")
 | dT {a:Addr} {kvs:List (List Key×V)} (e:H a=some (.dT kvs)):TyOf K H (.ref a) (.type "dict")
 | ins {a C dx:Addr} {fs:List (Str×V)} (e:H a=some (.ins C dx fs)) (cl:Cls K C) (ha:aD K (.ref C) "__class__" = some (some (.builtin "object.__class__")))
   (hn:PySem.W.specialIn K (.builtin "object.__class__") "__get__" = some (some (.builtin "getset_descriptor.__get__"))) (htk:PySem.W.takesIn K (.builtin "object.__class__")=some true)
   (hm:hU K C (.type "object")=some true):TyOf K H (.ref a) (.ref C)
theorem Nm {x:V} {u t:Value} (I:Inv X pins σ H s) (rx:RelV x u) (ty:TyOf X.K H x t) (e:fJ X.K t c=some b) (h:∀ tk,Q (.bool b) { s with toks:=tk }) :
  aI (model X.prog X.w) A (call (.builtin "isinstance") [u,c]) Q E s:=by
 cases ty with
 | non=>cases (show u=bh from rx);exact cj PySem.W.kitx_none I.kIn bC e (fun z=>nomatch z) h
 | bl y=>cases (show u=gC y from rx);exact cj PySem.W.kitx_bool I.kIn bC e (fun z=>nomatch z) h
 | int i=>obtain⟨t,q⟩:=(show ∃ t,u=kK i t from rx);cases q;exact cj PySem.W.kitx_int I.kIn bC e (fun z=>nomatch z) h
 | str y=>obtain⟨t,q⟩:=(show ∃ t,u=kL y t from rx);cases q;exact cj PySem.W.kitx_str I.kIn bC e (fun z=>nomatch z) h
 | flt y=>obtain⟨t,q⟩:=(show ∃ t,u=lP y t from rx);cases q;exact cj PySem.W.kitx_float I.kIn bC e (fun z=>nomatch z) h
 | @lst a xs ea=>
  cases (show u=aY a from rx)
  obtain⟨_,_,n,_,h1⟩:=(show ObjOk X.prog X.w H s.heap a (.lst xs) from I.hok a _ ea)
  exact cj iT I.kIn ⟨_,h1,rfl⟩ e (fun z=>nomatch z) h
 | @frz a ob xs ea=>
  cases (show u=aY a from rx)
  obtain⟨_,_,_,n,_,h1⟩:=(show ObjOk X.prog X.w H s.heap a (.frz ob (.lst xs)) from I.hok a _ ea)
  exact cj iT I.kIn ⟨_,h1,rfl⟩ e (fun z=>nomatch z) h
 | @tup a xs ea=>
  cases (show u=aY a from rx)
  obtain⟨_,_,_,p⟩:=(show ObjOk X.prog X.w H s.heap a (.tup xs) from I.hok a _ ea)
  obtain⟨o,h1,h2,_⟩:=p
  exact cj kF I.kIn ⟨o,h1,h2⟩ e (fun z=>nomatch z) h
 | @dK a kvs ea=>
  cases (show u=aY a from rx)
  obtain⟨_,_,vs,_,p⟩:=(show ObjOk X.prog X.w H s.heap a (.dK kvs) from I.hok a _ ea)
  obtain⟨o,es,ep,h1,h2,_⟩:=p
  exact cj PySem.W.kitx_dict I.kIn ⟨o,h1,h2.1⟩ e (fun z=>nomatch z) h
 | @dT a kvs ea=>
  cases (show u=aY a from rx)
  obtain⟨_,_,xs,_,o,es,ep,h1,h2,_⟩:=(show ObjOk X.prog X.w H s.heap a (.dT kvs) from I.hok a _ ea)
  exact cj PySem.W.kitx_dict I.kIn ⟨o,h1,h2.1⟩ e (fun z=>nomatch z) h
 | @ins a C dx fs ea cl ha hn htk hm=>
  cases (show u=aY a from rx)
  obtain⟨mA,O,_⟩:=Jv I.hok ea
  obtain⟨od,J,_⟩:=O.look
  exact cj (PySem.W.kitx_own (cl.get _) cl.hd ha hn htk hm) I.kIn J e (fun z=>nomatch z) h
end
structure Room (k:Nat) (A:bi):Prop where
 hd:A.handled=none
 dp:A.depth+3 * k+5<recursionLimit
 un:A.units+16 * k+200<cLine
theorem Room.mono {j k:Nat} {A:bi} (r:Room k A) (h:j<=k):Room j A:=⟨r.hd,by have:=r.dp;omega,by have:=r.un;omega⟩
theorem Room.deeper {k:Nat} {A:bi} (r:Room (k+1) A) (env:Env):Room k (A.deeper env):=
 ⟨r.hd,by have:=r.dp;show A.depth+1+3 * k+5<_;omega,by have:=r.un;show A.units+3+16 * k+200<_;omega⟩
theorem Up {A:bi} {C:Addr} {us:List Value} {kw:List (Str×Value)}:(A.under (.builtin "type.__call__" ⟨.ref C::us,kw⟩)).depth=A.depth+1:=by
 first|rfl|simp [lf,Code.weight,Code.isCreation,Code.isGuard,Code.isCaller,Code.frames,lg,guardIds]
theorem Uq {A:bi} {C:Addr} {us:List Value} {kw:List (Str×Value)}:(A.under (.builtin "type.__call__" ⟨.ref C::us,kw⟩)).units=A.units+1:=by
 first|rfl|simp [lf,Code.cUnits,Code.frames,lg]
theorem Room.make {k:Nat} {A:bi} (r:Room (k+1) A) (C:Addr) (us:List Value) (kw:List (Str×Value)):Room k (A.under (.builtin "type.__call__" ⟨.ref C::us,kw⟩)):=
 ⟨r.hd,by have:=r.dp;rw [Up];omega,by have:=r.un;rw [Uq];omega⟩
theorem Room.depth {k:Nat} {A:bi} (r:Room k A):A.depth<recursionLimit:=by have:=r.dp;omega
theorem Room.units {k:Nat} {A:bi} (r:Room k A):A.units+64<cLine:=by have:=r.un;omega
noncomputable def cf1:TA:=fun _ H Q=>Q [] H
noncomputable def b69 (ta:TE) (tr:TA):TA:=fun σ H Q=>ta σ H fun x H1=>tr σ H1 fun xs H2=>Q (x::xs) H2
section
variable {X:Cx} {e:Expr} {es:List Expr} {te:TE} {t:TA} {pos:Pos}
theorem bg2:PA X [] cf1:=fun _ _ _ _ H Q I h=>cQ ⟨[],H,I,.nil,h⟩
theorem ax8 (ha:PE X e te) (hr:PA X es t) (hs:dm (e::es) X.env=(false,eval e X.env)::dm es X.env:=by rfl):PA X (e::es) (b69 te t):=by
 intro pos pins s σ H Q I h
 rw [hs]
 show aI _ _ (md ((false,eval e X.env)::iE pos (dm es X.env))) _ _ s
 refine cF (thn (ha pins s σ H _ I h) fun u s1 ⟨x,H1,I1,r1,q1⟩=>?_)
 exact thn (hr pos pins s1 σ H1 _ I1 q1) fun us s2 ⟨xs,H2,I2,r2,q2⟩=>⟨x::xs,H2,I2,.cons r1 r2,q2⟩
noncomputable def cf5 (t:TA):TE:=fun σ H Q=>t σ H fun xs H1=>xs.length<=sizeLine /\ ∀ p,H1 p=none->Q (.ref p) (upd H1 p (.tup xs))
noncomputable def cf0 (t:TA):TE:=fun σ H Q=>t σ H fun xs H1=>xs.length<=sizeLine /\ ∀ p,H1 p=none->Q (.ref p) (upd H1 p (.lst xs))
theorem bg8 {x1} (h:PA X es t):PE X (.Tuple es x1 pos) (cf5 t):=by
 intro pins s σ H Q I hq
 refine wpAny_Tuple_spliced (thn (h pos pins s σ H _ I hq) fun us s1 ⟨xs,H1,I1,r,z,q⟩=>⟨by rw [<- r.length];exact z,?_⟩)
 have hf:H1 s1.heap.objs.size=none:=I1.hok.fresh (ay _)
 refine⟨.ref s1.heap.objs.size,upd H1 s1.heap.objs.size (.tup xs),I1.laid (t':=s1.toks) (fun b u e=>ag _ e) (ay _) ?_,rfl,q _ hf⟩
 exact⟨z,us,r,⟨_,aw _ rfl,rfl,_,rfl⟩⟩
theorem bg4 (h:PA X es t):PE X (.List es pos) (cf0 t):=by
 intro pins s σ H Q I hq
 refine wpAny_List_spliced (thn (h pos pins s σ H _ I hq) fun us s1 ⟨xs,H1,I1,r,z,q⟩=>⟨by rw [<- r.length];exact z,?_⟩)
 have hf:H1 s1.heap.objs.size=none:=I1.hok.fresh (ay _)
 refine⟨.ref s1.heap.objs.size,upd H1 s1.heap.objs.size (.lst xs),I1.laid (t':=s1.toks) (fun b u e=>ag _ e) (ay _) ?_,rfl,q _ hf⟩
 exact⟨z,us,0,r,aw _ rfl⟩
end
noncomputable abbrev Sp:=List V->Hp->VK->XK->Prop
noncomputable abbrev CXT:=List Env->Hp->aj->XK->Value->aj->Prop
structure Env0 (P:aV) (w:bM) (K:ac) (mg:Str->Option Value) (base:Heap) (A:bi) (outer:List Env) (s:aj) (H:Hp):Prop where
 frames:A.frames=some outer
 mod:Mod K mg base
 bs:∀ b o,base.get? b=some o->s.heap.get? b=some o/\H b=none
 bsz:base.objs.size<=s.heap.objs.size
 funs:s.heap.FunFrames base outer
 frf:∀ b∈frs outer,H b=none
 hok:HOk P w H s.heap
 bare:jB s.gens
noncomputable def CE (outer:List Env) (P:aV) (w:bM) (H:Hp) (s:aj) (Q:VK) (u:Value) (s':aj):Prop:=
 ∃ v H',s'.os=s.os/\jB s'.gens/\Un (frs outer) [] H H' s.heap s'.heap/\HOk P w H' s'.heap/\RelV v u/\Q v H'
noncomputable def CR (CX:CXT) (outer:List Env) (P:aV) (w:bM) (H:Hp) (s:aj) (Q:VK) (E:XK) (r:j9) (s':aj):Prop:=
 match r with
 | .ok (.ret u)=>CE outer P w H s Q u s'
 | .ok _=>False
 | .error e=>CX outer H s E e s'
structure FnOk (P:aV) (w:bM) (K:ac) (mg:Str->Option Value) (base:Heap) (CX:CXT) (k:Nat) (f:Addr) (fd:aA) (ps:List Str) (sp:Sp):Prop where
 len:∀ vs H Q E,sp vs H Q E->vs.length=ps.length
 run:∀ (A:bi) (outer:List Env) (s:aj) (H:Hp) (args:Args) (us:List Value) (vs:List V) (Q:VK) (E:XK),Room k A->Env0 P w K mg base A outer s H->lI s fd args (ps.zip us)->Vals vs us->sp vs H Q E ->
  eO (model P w) A (.call (.ref f) args) (CR CX outer P w H s Q E) s
theorem FnOk.imp {P:aV} {w:bM} {K:ac} {mg:Str->Option Value} {base:Heap} {CX:CXT} {k:Nat} {f:Addr} {fd:aA} {ps:List Str} {sp sp':Sp} (F:FnOk P w K mg base CX k f fd ps sp)
  (h:∀ vs H Q E,sp' vs H Q E->sp vs H Q E):FnOk P w K mg base CX k f fd ps sp':=
 ⟨fun vs H Q E q=>F.len vs H Q E (h _ _ _ _ q),fun A outer s H args us vs Q E hr he hb hv hs=>F.run A outer s H args us vs Q E hr he hb hv (h _ _ _ _ hs)⟩
theorem Env0.make {P:aV} {w:bM} {K:ac} {mg:Str->Option Value} {base:Heap} {A:bi} {outer:List Env} {s:aj} {H:Hp} (e:Env0 P w K mg base A outer s H) (C:Addr) (us:List Value) (kw:List (Str×Value)) :
  Env0 P w K mg base (A.under (.builtin "type.__call__" ⟨.ref C::us,kw⟩)) outer s H:=⟨by first|exact e.frames|(simpa [lf,Code.envs,lg,pushEnvs] using e.frames),e.mod,e.bs,e.bsz,e.funs,e.frf,e.hok,e.bare⟩
section
variable {X:Cx} {pins:List (Addr×Obj)} {σ:St} {H:Hp} {s s':aj}
theorem Inv.env0 (I:Inv X pins σ H s):Env0 X.prog X.w X.K X.mg X.base X.A X.stack s H:=
 ⟨I.ok.frames,I.ok.mod,I.bs,aQ I.ok.bsz I.sz,I.stack,I.stkFree,I.hok,I.bare⟩
theorem Inv.after {Q:VK} {u:Value} (I:Inv X pins σ H s) (h:CE X.stack X.prog X.w H s Q u s'):EP X pins σ Q u s':=by
 obtain⟨v,H',os,bare,un,hok,r,q⟩:=h
 obtain⟨hh,g,d,t,os'⟩:=s'
 obtain rfl:os'=s.os:=os
 exact⟨v,H',I.call (h':=hh) (g':=g) (d':=d) (t':=t) (ch:=[]) un hok bare (fun b z=>absurd z (by simp)),r,q⟩
end
noncomputable def Binds (K:ac) (fd:aA) (ps:List Str) (ds:List Value):Prop:=
 ∀ (s:aj) (us:List Value),K.In s.heap->(us++ds).length=ps.length->lI s fd ⟨us,[]⟩ (ps.zip (us++ds))
theorem Binds.all {K:ac} {fd:aA} {ps:List Str} (h:∀ us:List Value,us.length=ps.length->kM fd ⟨us,[]⟩=pure (ps.zip us)):Binds K fd ps []:=fun s us _ hl=>by
 rw [cv] at hl ⊢
 exact .of_eq (h us hl)
section
variable {X:Cx} {CX:CXT} {k:Nat} {f C:Addr} {fd:aA} {ps:List Str} {sp:Sp} {dvs:List V} {ds:List Value} {E:XK} {x m:Str} {p pos apos:Pos} {e o:Expr} {es:List Expr} {ta:TE} {t:TA}
structure Mk (K:ac) (C f:Addr):Prop where
 makes:cX K C=true
 init:aD K (.ref C) "__init__" = some (some (.ref f))
 fn:dE K (.ref f)=true
 kp:aR K (.ref C)=true
end
section
variable {X:Cx} {CX:CXT} {k:Nat} {f C:Addr} {fd:aA} {ps ks:List Str} {sp:Sp} {E:XK} {x m:Str} {p pos apos kpos:Pos} {e o:Expr} {es:List Expr} {kws:List lM} {te ta:TE} {t tk:TA} {nm:Option Str}
variable {g:List Value->List Value->List Value} {gV:List V->List V->List V}
end
structure Am (N P:List Str) (sc:Scope):Prop where
 kind:sc.kind=.function
 co:sc.isCoroutine=false
 gen:sc.isGenerator=false
 nd:N.Nodup
 pre:N.take P.length=P
 par:∀ x∈P,sc.names.lookup x=some .local\/sc.names.lookup x=some .cell
 nofree:∀ y∈sc.names,y.2≠.free
theorem M2 {kindOf:Str->Option cG} {x:Str}:∀ {binds:List (Str×Value)} {m:Str->Option Value},(∀ v,(x,v)∉binds)->bindL kindOf binds m x=m x
 | [],_,_=>rfl
 | (n,v)::r,m,h=>by
  unfold bindL
  rw [M2 fun w hw=>h w (aL _ hw)]
  split
  ·have:x≠n:=by rintro rfl;exact h v aZ
   simp [this]
  ·rfl
theorem M0 {kindOf:Str->Option cG} {x:Str}:∀ {binds:List (Str×Value)} {m:Str->Option Value},(∀ v,(x,v)∉binds)->bindC kindOf binds m x=m x
 | [],_,_=>rfl
 | (n,v)::r,m,h=>by
  unfold bindC
  rw [M0 fun w hw=>h w (aL _ hw)]
  split
  ·rfl
  ·have:x≠n:=by rintro rfl;exact h v aZ
   simp [this]
theorem M1 {kindOf:Str->Option cG} {x:Str} {v:Value}:∀ {P:List Str} {vs:List Value} {i:Nat} {m:Str->Option Value},P.Nodup->P[i]? = some x->vs[i]? = some v->kindOf x=some .local ->
  bindL kindOf (P.zip vs) m x=some v
 | [],_,_,_,_,h,_,_=>by simp at h
 | _::_,[],_,_,_,_,h,_=>by simp at h
 | p::P,w::vs,0,m,nd,h1,h2,hk=>by
  simp at h1 h2;subst h1;subst h2
  show bindL kindOf ((p,w)::P.zip vs) m p=_
  unfold bindL
  rw [M2 fun v hv=>(List.nodup_cons.mp nd).1 (jH hv).1,if_pos hk]
  simp
 | p::P,w::vs,i+1,m,nd,h1,h2,hk=>by
  show bindL kindOf ((p,w)::P.zip vs) m x=_
  unfold bindL
  exact M1 (i:=i) (List.nodup_cons.mp nd).2 (by simpa using h1) (by simpa using h2) hk
theorem Mz {kindOf:Str->Option cG} {x:Str} {v:Value}:∀ {P:List Str} {vs:List Value} {i:Nat} {m:Str->Option Value},P.Nodup->P[i]? = some x->vs[i]? = some v->kindOf x≠some .local ->
  bindC kindOf (P.zip vs) m x=some v
 | [],_,_,_,_,h,_,_=>by simp at h
 | _::_,[],_,_,_,_,h,_=>by simp at h
 | p::P,w::vs,0,m,nd,h1,h2,hk=>by
  simp at h1 h2;subst h1;subst h2
  show bindC kindOf ((p,w)::P.zip vs) m p=_
  unfold bindC
  rw [M0 fun v hv=>(List.nodup_cons.mp nd).1 (jH hv).1,if_neg hk]
  simp
 | p::P,w::vs,i+1,m,nd,h1,h2,hk=>by
  show bindC kindOf ((p,w)::P.zip vs) m x=_
  unfold bindC
  exact Mz (i:=i) (List.nodup_cons.mp nd).2 (by simpa using h1) (by simpa using h2) hk
noncomputable def Gn (N:List Str) (vs:List V):St:=vs.map some++j7 (N.length - vs.length) none
noncomputable def To (CX:CXT) (P:aV) (w:bM) (K:ac) (mg:Str->Option Value) (base:Heap) (N:List Str) (qual:Str) (scope:Scope) (f:Addr) (cd:Value) (A:bi) (outer:List Env) (s:aj) (H:Hp) (E:XK):Cx where
 prog:=P
 w:=w
 K:=K
 mg:=mg
 base:=base
 A:=A.deeper (lD qual scope s.heap.objs.size f cd)
 N:=N
 s₀:=s
 H₀:=H
 env:=lD qual scope s.heap.objs.size f cd
 outer:=outer
 stack:=lD qual scope s.heap.objs.size f cd::outer
 ex:=[]
 calm:=true
 fn:=fun _=>true
 pn:=[]
 xe:=fun e s'=>aI (model P w) (A.deeper (lD qual scope s.heap.objs.size f cd)) (leaving (lD qual scope s.heap.objs.size f cd) e) (fun _ s''=>CX outer H s E e s'') (fun e' s''=>CX outer H s E e' s'') s'
theorem Kf {sc:Scope} {n:Nat} {x:Str} (h:sc.names.lookup x=some .cell):∃ c,(cellsFrom n sc.names []).lookup x=some c:=by
 have q:=ju sc.names n [] (.inl h)
 exact Option.isSome_iff_exists.mp q
theorem Yo {CX:CXT} {P:aV} {w:bM} {K:ac} {mg:Str->Option Value} {base:Heap} {N ps:List Str} {qual:Str} {scope:Scope} {f:Addr} {cd:Value} {A:bi} {outer:List Env} {s s1:aj} {H:Hp} {E:XK} {us:List Value} {vs:List V}
  (S:Am N ps scope) (hd:A.handled=none) (e0:Env0 P w K mg base A outer s H) (hl:vs.length=ps.length) (r:Vals vs us)
  (x:InCallC s s.heap.objs.size (bindL (lD qual scope s.heap.objs.size f cd).kindOf (ps.zip us) fun _=>none) (cellsFrom (s.heap.objs.size+1) scope.names []) (bindC (lD qual scope s.heap.objs.size f cd).kindOf (ps.zip us) fun _=>none) s1) :
  Inv (To CX P w K mg base N qual scope f cd A outer s H E) [] (Gn N vs) H s1:=by
 have hpl:ps.length<=N.length:=by have:=congrArg cD S.pre;rw [aO] at this;omega
 obtain⟨h1,tk,rfl,hk⟩:=x.done
 have noA:∀ b:Addr,b∉(To CX P w K mg base N qual scope f cd A outer s H E).ex:=fun b z=>absurd (show b∈([]:List Addr) from z) (by simp)
 refine⟨⟨e0.mod,S.kind,rfl,rfl,ay _,fun y z c h1 h2=>?_,fun y hy=>?_,fun y c _ h=>?_,fun _=>hd,Around.frames_deeper e0.frames,.inr ⟨rfl,rfl⟩,fun b z=>absurd z (noA b),e0.bs,e0.bsz,fun b _ _=>noA b,fun b z=>absurd z (noA b),e0.funs,e0.frf⟩,
  rfl,e0.bare,Un.kept hk,⟨_,x.toInCall.ns,fun i y v h1 h2 h3=>?_⟩,fun y c h=>⟨_,x.cell y c h⟩,e0.hok.fresh (ay _),fun y c h=>?_,fun p hp=>absurd (show p∈([]:List (Addr×Obj)) from hp) (by simp),e0.hok.kept hk,?_⟩
 ·exact name_of_addr x.apart (bS h1) (bS h2)
 ·have hy:scope.names.lookup y=some .cell\/scope.names.lookup y=some .free:=hy
  rcases hy with hy|hy
  ·exact Kf hy
  ·exact absurd rfl (S.nofree _ (bS hy))
 ·exact fc (x.above y c (bS h))
 ·have hi:i<vs.length:=by
   unfold Gn at h2
   by_cases hi:i<vs.length
   ·exact hi
   ·rw [bL (by simpa using hi)] at h2
    rw [List.getElem?_replicate] at h2
    split at h2 <;> cases h2
  have ha:vs[i]? = some v:=by
   unfold Gn at h2
   rw [cI (by simpa using hi),ak] at h2
   cases e:vs[i]? with
   | none=>rw [e] at h2;cases h2
   | some a=>rw [e] at h2;cases h2;rfl
  obtain⟨u,hu,rv⟩:=r.get ha
  have hp:ps[i]? = some y:=by
   rw [<- S.pre,List.getElem?_take_of_lt (by omega)];exact h1
  have ndP:ps.Nodup:=by rw [<- S.pre];exact S.nd.sublist (iO _ _)
  refine⟨u,rv,?_⟩
  rcases S.par y (ai hp) with k|k
  ·exact .inl ⟨k,M1 ndP hp hu k⟩
  ·obtain⟨c,e⟩:=Kf (n:=s.heap.objs.size+1) k
   refine .inr ⟨.inl k,c,e,?_⟩
   have q:=x.cell y c e
   rw [Mz ndP hp hu (by show scope.names.lookup y≠_;rw [k];decide)] at q
   exact q
 ·exact e0.hok.fresh (fc (x.above y c (bS h)))
 ·unfold Gn
  show _=N.length
  rw [aJ,ae,List.length_replicate]
  omega
theorem bt8 {CX:CXT} {P:aV} {w:bM} {K:ac} {mg:Str->Option Value} {base:Heap} {k:Nat} {f:Addr} {name qual:Str} {params:Arguments} {body:List Stmt} {scope:Scope} {dV kV doc pm cdv ct oc:Value} {an od:Option Addr}
  {osl:Array (Option Value)} {N ps:List Str} {sp:Sp} (lk:K.lookup f=some ⟨oc,od,.func (cn name qual params body scope dV kV doc pm an cdv ct),osl⟩) (hcd:dP K cdv qual=true) (S:Am N ps scope)
  (len:∀ vs H Q E,sp vs H Q E->vs.length=ps.length)
  (hbody:∀ (A:bi) (outer:List Env) (s:aj) (H:Hp) (vs:List V) (Q:VK) (E:XK),Room k (A.deeper (lD qual scope s.heap.objs.size f cdv))->sp vs H Q E ->
   ∃ t,PSs (To CX P w K mg base N qual scope f cdv A outer s H E) body t/\t { nx:=fun _ H'=>Q .non H',rt:=Q } (Gn N vs) H) :
  FnOk P w K mg base CX (k+1) f (cn name qual params body scope dV kV doc pm an cdv ct) ps sp:=by
 refine⟨len,fun A outer s H args us vs Q E hr e0 hb r hsp=>?_⟩
 have hl:=len _ _ _ _ hsp
 have KX:K.In s.heap:=e0.mod.kin.keeps fun b o e=>(e0.bs b o e).1
 have lim:s.heap.NoLimit:=e0.mod.nolimit.keeps fun b o e=>(e0.bs b o e).1
 have hkind:∀ y∈ps.zip us,scope.names.lookup y.1=some .local\/(scope.names.lookup y.1=some .cell/\((cellsFrom (s.heap.objs.size+1) scope.names []).lookup y.1).isSome=true):=fun⟨n,v⟩ hy=>by
  rcases S.par n (jH hy).1 with q|q
  ·exact .inl q
  ·exact .inr ⟨q,ju _ _ _ (.inl q)⟩
 refine codeAny_call_function hr.depth (KX _ _ lk) rfl S.co S.gen rfl (PySem.W.codeRec_of KX hcd) (hb _ _ _ _ ?_)
 refine wpAny_newFunctionEnv_cells S.kind hkind fun env he s1 x=>?_
 subst he
 refine⟨lim.keeps x.toInCall.keep,codeAny_func ?_⟩
 obtain⟨t,ht,hq⟩:=hbody A outer s H vs Q E (hr.deeper _) hsp
 have I:Inv (To CX P w K mg base N qual scope f cdv A outer s H E) [] (Gn N vs) H s1:=Yo S hr.hd e0 hl r x
 refine c8 (ht [] s1 (Gn N vs) H _ I hq) (fun fl s' hs=>?_) fun e s' hs=>hs
 have fin:∀ {σ':St} {H':Hp} {v:V} {u:Value},Inv (To CX P w K mg base N qual scope f cdv A outer s H E) [] σ' H' s'->RelV v u->Q v H'->CE outer P w H s Q u s':=
  fun {σ' H' v u} J rv q=>⟨v,H',J.os,J.bare,J.base,J.hok,rv,q⟩
 cases fl with
 | ret u=>
  obtain⟨v,σ',H',J,rv,q⟩:=hs
  exact fin J rv q
 | next=>
  obtain⟨σ',H',J,q⟩:=hs
  exact fin (v:=V.non) (u:=bh) J rfl q
 | brk=>
  obtain⟨_,_,_,q⟩:=hs
  exact dY q
 | cont=>
  obtain⟨_,_,_,q⟩:=hs
  exact dY q
section
variable {X:Cx} {x:Str} {p pos:Pos} {e:Expr} {es:List Expr} {t:TA} {id T:String} {r:List V->Hp->VK->Prop}
noncomputable def tCB (r:List V->Hp->VK->Prop) (t:TA):TE:=fun σ H Q=>t σ H fun vs H1=>r vs H1 Q
theorem ak4 (hc:Cz X (.builtin id) r) (hg:Gl X x) (hm:X.mg x=none) (hv:dF x=some (.builtin id)) (ha:PA X (e::es) t) (hn:x ≠ "__name__" := by decide) (hdb:(x==("__debug__" : Str))=false:=by decide)
  (he:dm (e::es) X.env=(false,eval e X.env)::dm es X.env:=by rfl) (hpl:(iE pos (dm es X.env)).any (·.1)=false:=by rfl):PE X (.Call (.Name x p) (e::es) [] pos) (tCB r t):=by
 intro pins s σ H Q I h
 refine bp (Cs I hg hm hv ?_ hn hdb)
 exact gR (thn (ha pos pins s σ H _ I h) fun us s1 ⟨vs,H1,I1,r1,q1⟩=>hc pins s1 σ H1 vs us Q I1 r1 q1) he hpl
theorem Y7 (hc:Cz X (.type T) r) (hg:Gl X x) (hm:X.mg x=none) (hv:dF x=some (.type T)) (ha:PA X (e::es) t) (hn:x ≠ "__name__" := by decide) (hdb:(x==("__debug__" : Str))=false:=by decide)
  (he:dm (e::es) X.env=(false,eval e X.env)::dm es X.env:=by rfl) (hpl:(iE pos (dm es X.env)).any (·.1)=false:=by rfl):PE X (.Call (.Name x p) (e::es) [] pos) (tCB r t):=by
 intro pins s σ H Q I h
 refine bp (Cs I hg hm hv ?_ hn hdb)
 exact bn (thn (ha pos pins s σ H _ I h) fun us s1 ⟨vs,H1,I1,r1,q1⟩=>hc pins s1 σ H1 vs us Q I1 r1 q1) he hpl
end
end L2
namespace HT
open PySem PyProof.Rows
section
open PySem.SeqAt
open PySem.AutoSeq1 (wpAny_loadPart')
open PySem.MeetsSeq PySem.MeetsSeq2 PySem.MeetsSeq3
end
section
variable {prog:aV} {w:bM} {A:bi} {E:Value->aj->Prop} {s:aj}
theorem cat_tup {t b:Addr} {vs ws:List Value} {Q:Value->aj->Prop} (ht:IsTup s.heap t vs.toArray) (hb:IsTup s.heap b ws.toArray) (hv:vs≠[])
  (h1:ws=[]->Q (.ref t) s) (h2:ws≠[]->Q (.ref s.heap.objs.size) { s with heap:=s.heap.push { cls:=.type "tuple", data:=.seq (vs++ws).toArray } })
  (hsz:vs.length+ws.length<=sizeLine):aI (model prog w) A (d9 .Add (.ref t) (.ref b)) Q E s:=by
 obtain⟨⟨cls,dd,data,sl⟩,ho,hc,n,hd⟩:=id ht
 obtain⟨⟨cls2,dd2,data2,sl2⟩,ho2,hc2,n2,hd2⟩:=id hb
 simp only at hc hd hc2 hd2
 subst hc hd hc2 hd2
 have e:vs.toArray++ws.toArray=(vs++ws).toArray:=by simp
 by_cases hw:ws=[]
 ·exact lC ⟨_,ho,rfl⟩ ⟨_,ho2,rfl⟩ jm kP gx gf (fX _ _)
   (tuple_addW1 t b vs.toArray ws.toArray n n2 dd dd2 sl sl2 (by simpa using hv) (by simp [hw])) ⟨ho,ho2,h1 hw⟩
 ·refine lC ⟨_,ho,rfl⟩ ⟨_,ho2,rfl⟩ jm kP gx gf (fX _ _)
   (tuple_addW2 t b vs.toArray ws.toArray n n2 dd dd2 sl sl2 (by simpa using hv) (by simpa using hw) (by rw [av,av];exact hsz)) ⟨ho,ho2,?_⟩
  rw [e]
  exact h2 hw
noncomputable def sIx (n d:Nat):Option Int->Nat
 | none=>d
 | some v=>if v<0 then (v+(n:Int)).toNat else min v.toNat n
theorem sIx_none (n d:Nat):sIx n d none=d:=rfl
theorem sIx_nat (n d k:Nat):sIx n d (some (k:Int))=min k n:=by
 show (if (k:Int)<0 then ((k:Int)+(n:Int)).toNat else min (k:Int).toNat n)=min k n
 rw [if_neg (by omega),aK]
theorem bn1 (n d:Nat) (hd:d<=n) (o:Option Int):sIx n d o<=n:=by
 cases o with
 | none=>exact hd
 | some v=>
  show (if v<0 then (v+(n:Int)).toNat else min v.toNat n)<=n
  by_cases hv:v<0
  ·rw [if_pos hv];omega
  ·rw [if_neg hv];exact Nat.min_le_right _ _
theorem Wr (v:Int) (n d:Nat):(if v<0 then max (v+(n:Int)) 0 else min v (n:Int))=((sIx n d (some v):Nat):Int):=by
 show (if v<0 then max (v+(n:Int)) 0 else min v (n:Int))=(((if v<0 then (v+(n:Int)).toNat else min v.toNat n):Nat):Int)
 by_cases hv:v<0
 ·simp only [if_pos hv];omega
 ·simp only [if_neg hv];omega
theorem Tf (lo hi:Option Int) (n:Nat):fH lo hi 1 (n:Int)=(((sIx n 0 lo:Nat):Int),((sIx n n hi:Nat):Int)):=by
 have h1:¬ ((1:Int)<0):=by omega
 unfold fH
 simp only [h1,if_false]
 refine Prod.ext ?_ ?_
 ·cases lo with
  | none=>rfl
  | some v=>exact Wr v n 0
 ·cases hi with
  | none=>rfl
  | some v=>exact Wr v n n
theorem U0 (i j:Nat):d5 (i:Int) (j:Int) 1=j - i:=by
 unfold d5
 have h1:(1:Int) > 0:=by omega
 simp only [h1,if_true,Int.ediv_one]
 split <;> omega
theorem Ly {v:Value} {o:Option Int} {Q:Option Int->aj->Prop} (p:lK v o) (h:Q o s):aI (model prog w) A (Builtin.Slice.slicePartIndex v) Q E s:=by
 cases p with
 | none=>exact slicePart_none h
 | int i t=>exact slicePart_int h
theorem Iq {sl:Addr} {vl vu:Value} {lo hi:Option Int} {n:Nat} {Q:Int×Int×Nat->aj->Prop} (hs:s.heap.IsSliceOf sl vl vu .none) (pl:lK vl lo) (pu:lK vu hi)
  (h:Q (((sIx n 0 lo:Nat):Int),1,sIx n n hi - sIx n 0 lo) s):aI (model prog w) A (iu (.ref sl) (pure (n:Int))) Q E s:=by
 obtain⟨os,hos,hcs,hds⟩:=id hs
 unfold iu Builtin.Slice.sliceFields
 refine af (af (bd hos hds (x:=vl) rfl (af (bd hos hds (x:=vu) rfl (af (bd hos hds (x:=.none) rfl (al ?_)))))))
 refine af (slicePart_none ?_)
 show aI _ _ (if ((1:Int)==0)=true then _ else _) _ _ s
 rw [if_neg (by decide)]
 refine af (Ly pl (af (Ly pu (af (al ?_)))))
 show aI _ _ (match fH lo hi 1 (n:Int) with|(lo,hi)=>pure (lo,(1:Int),d5 lo hi 1)) _ _ s
 rw [Tf lo hi n]
 show aI _ _ (pure (((sIx n 0 lo:Nat):Int),(1:Int),d5 ((sIx n 0 lo:Nat):Int) ((sIx n n hi:Nat):Int) 1)) _ _ s
 rw [U0]
 exact al h
theorem ak7 (xs:Array Value) (i k:Nat):((aq k).filterMap fun (m:Nat)=>xs[((i:Int)+(m:Int) * 1).toNat]?).toArray=((xs.toList.drop i).take k).toArray:=by
 have e:(fun (m:Nat)=>xs[((i:Int)+(m:Int) * 1).toNat]?)=fun m=>xs[i+m]?:=by
  funext m
  have:((i:Int)+(m:Int) * 1).toNat=i+m:=by omega
  rw [this]
 rw [e]
 have:=pick_run xs i k
 rw [List.filterMap_map] at this
 have e2:((fun x=>xs[x]?)∘fun x=>i+x)=fun m=>xs[i+m]?:=rfl
 rw [e2] at this
 rw [this]
theorem getItem_tuple_cut {t sl:Addr} {items:Array Value} {vl vu:Value} {lo hi:Option Int} {Q:Value->aj->Prop} (ht:IsTup s.heap t items) (hs:s.heap.IsSliceOf sl vl vu .none) (pl:lK vl lo) (pu:lK vu hi)
  (hw:¬ (sIx items.size 0 lo=0/\sIx items.size items.size hi=items.size))
  (h:Q (.ref s.heap.objs.size) { s with heap:=s.heap.push { cls:=.type "tuple", data:=.seq ((items.toList.drop (sIx items.size 0 lo)).take (sIx items.size items.size hi - sIx items.size 0 lo)).toArray } })
  (hsz:items.size<=sizeLine):aI (model prog w) A (lS (.ref t) (.ref sl)) Q E s:=by
 have htake:sizeOk (.seq ((items.toList.drop (sIx items.size 0 lo)).take (sIx items.size items.size hi - sIx items.size 0 lo)).toArray):=by
  show ((items.toList.drop (sIx items.size 0 lo)).take (sIx items.size items.size hi - sIx items.size 0 lo)).toArray.size<=sizeLine
  rw [av,aO,cz,dR]
  omega
 have hj:sIx items.size items.size hi<=items.size:=bn1 _ _ (ay _) hi
 obtain⟨os,hos,hcs,hds⟩:=id hs
 have hTs:s.TypeIs (.ref sl) "slice" := ⟨os,hos,hcs⟩
 unfold lS
 try with_reducible refine bx ?_
 first|refine af (al ?_)|skip
 refine af (wpAny_sequenceKey ht.typeIs (by decide) ?_)
 refine af (bW (name:=cS "__getitem__") ht.typeIs ez
  (cM ez ht.typeIs entry_tuple_getitem ?_ (args_tuple_getitem _ _)))
 show aI _ _ (Builtin.Tuple.tupleItemsOf (.ref t) >>= _) _ _ s
 refine af (tupleItemsOf_ ht ?_)
 refine af (iF hTs ?_)
 rw [if_pos (by decide)]
 refine af (Iq hs pl pu ?_)
 have hno:¬ ((((sIx items.size 0 lo:Nat):Int)==0&&(1:Int)==1&&(sIx items.size items.size hi - sIx items.size 0 lo)==items.size)=true):=by
  intro q
  rw [ax,ax] at q
  have q1:((sIx items.size 0 lo:Nat):Int)=0:=cU q.1.1
  have q2:sIx items.size items.size hi - sIx items.size 0 lo=items.size:=cU q.2
  exact hw ⟨by omega,by omega⟩
 show aI _ _ (if (((sIx items.size 0 lo:Nat):Int)==0&&(1:Int)==1&&(sIx items.size items.size hi - sIx items.size 0 lo)==items.size)=true then _ else _) _ _ s
 rw [if_neg hno,ak7]
 first
  | exact af (m:=eo _) (cB (al ⟨_,rfl,al h⟩) htake)
  | exact af (m:=eo _) (cB (af (al (al ⟨_,rfl,al h⟩))) htake)
  | exact af (af (m:=eo _) (cB (al (al ⟨_,rfl,al h⟩)) htake))
  | exact af (af (m:=eo _) (cB (al ⟨_,rfl,al h⟩) htake))
end
end HT
namespace L2
open PySem PySem.Spec PyProof.Rows
noncomputable abbrev TO:=St->Hp->(Option Int->Hp->Prop)->Prop
noncomputable def PO (X:Cx) (e:Option Expr) (t:TO):Prop:=
 ∀ (pins:List (Addr×Obj)) (s:aj) (σ:St) (H:Hp) (Q:Option Int->Hp->Prop),Inv X pins σ H s->t σ H Q ->
  aI (model X.prog X.w) X.A (evalPart e X.env) (fun u s'=>∃ o H',Inv X pins σ H' s'/\lK u o/\Q o H') X.xe s
noncomputable def a16:TO:=fun _ H Q=>Q none H
section
variable {X:Cx} {e:Expr} {te:TE} {lo hi:Option Expr} {tl th:TO} {pos p2:Pos}
theorem ay4:PO X none a16:=by
 intro pins s σ H Q I h
 rw [evalPart_none]
 exact al ⟨none,H,I,.none,h⟩
noncomputable def SlR (X:Cx) (r:V->Option Int->Option Int->Hp->VK->Prop):Prop:=
 ∀ (pins:List (Addr×Obj)) (s:aj) (σ:St) (H:Hp) (x:V) (v vl vu:Value) (lo hi:Option Int) (sl:Addr) (Q:VK),Inv X pins σ H s->RelV x v->s.heap.IsSliceOf sl vl vu .none->lK vl lo->lK vu hi->r x lo hi H Q ->
  ∃ T id,f6 (.type T) "__getitem__" = pure (some (.builtin id))/\s.TypeIs v T/\aI (model X.prog X.w) X.A (lS v (.ref sl)) (EP X pins σ Q) X.xe s
noncomputable def E3 (xs:List V) (lo hi:Option Int):List V:=(xs.drop (HT.sIx xs.length 0 lo)).take (HT.sIx xs.length xs.length hi - HT.sIx xs.length 0 lo)
theorem Iw (xs:List V) (lo hi:Option Int):(E3 xs lo hi).length<=xs.length:=by
 unfold E3
 rw [aO,cz]
 omega
noncomputable def ce5 (K:ac):V->Option Int->Option Int->Hp->VK->Prop:=fun x lo hi H Q=>∃ a xs,x=.ref a/\SqT K H a xs /\
 ¬ (HT.sIx xs.length 0 lo=0/\HT.sIx xs.length xs.length hi=xs.length) /\ ∀ p,H p=none->Q (.ref p) (upd H p (.tup (E3 xs lo hi)))
theorem bp4:SlR X (ce5 X.K):=by
 intro pins s σ H x v vl vu lo hi sl Q I rx hs pl pu h
 obtain⟨a,xs,rfl,hx,hw,q⟩:=h
 cases rx
 obtain⟨its,r,ht,hz⟩:=I.tuple hx
 have hlen:its.toArray.size=xs.length:=by rw [av];exact r.length.symm
 refine⟨"tuple", _,PyProof.Rows.slot_tuple_getitem.lookup,ht.typeIs,?_⟩
 refine HT.getItem_tuple_cut ht hs pl pu (by rw [hlen];exact hw) ?_ (by rw [hlen];exact hz)
 rw [hlen]
 refine⟨.ref s.heap.objs.size,_,I.laid (t':=s.toks) (o:=.tup (E3 xs lo hi)) (fun b ob q=>ag _ q) (ay _) ?_,rfl,q _ (I.hok.fresh (ay _))⟩
 exact⟨aQ (Iw xs lo hi) hz,_,(r.drop (HT.sIx xs.length 0 lo)).take (HT.sIx xs.length xs.length hi - HT.sIx xs.length 0 lo),IsTup.new _ _⟩
noncomputable def a56 (K:ac):R2:=fun x y H Q=>∃ a b xs ys,x=.ref a/\y=.ref b/\SqT K H a xs/\SqT K H b ys/\xs≠[]/\xs.length+ys.length<=sizeLine /\
 (ys=[]->Q (.ref a) H)/\(ys≠[] -> ∀ p,H p=none->Q (.ref p) (upd H p (.tup (xs++ys))))
theorem Vals.nil_iff {xs:List V} {us:List Value} (r:Vals xs us):us=[] ↔ xs=[]:=by
 cases r with
 | nil=>simp
 | cons _ _=>simp
theorem op_catT:OpR X (d9 .Add) (a56 X.K):=by
 intro pins s σ H x y v u Q I rx ry h
 obtain⟨a,b,xs,ys,rfl,rfl,ha,hb,hx,hz,q1,q2⟩:=h
 cases rx
 cases ry
 obtain⟨its,r1,p1,_⟩:=I.tuple ha
 obtain⟨its2,r2,p2,_⟩:=I.tuple hb
 refine HT.cat_tup p1 p2 (fun z=>hx (r1.nil_iff.mp z)) (fun z=>⟨.ref a,H,I,rfl,q1 (r2.nil_iff.mp z)⟩) (fun z=>?_) (by rw [<- r1.length,<- r2.length];exact hz)
 refine⟨.ref s.heap.objs.size,_,I.laid (t':=s.toks) (o:=.tup (xs++ys)) (fun b ob q=>ag _ q) (ay _) ?_,rfl,q2 (fun w=>z (r2.nil_iff.mpr w)) _ (I.hok.fresh (ay _))⟩
 exact⟨by rw [aJ];exact hz,_,r1.append r2,IsTup.new _ _⟩
end
noncomputable def ixN (n:Nat) (i:Int):Option Nat:=if 0<=i then (if i<n then some i.toNat else none) else if -(n:Int)<=i then some (i+n).toNat else none
noncomputable def atI {α:Type} (xs:List α) (i:Int):Option α:=(ixN xs.length i).bind fun j=>xs[j]?
theorem Wx {n:Nat} {i:Int} {j:Nat} (h:ixN n i=some j):seqIndex? i n=some j/\j<n /\ -(n:Int)<=i/\i<n:=by
 unfold ixN at h
 by_cases h0:0<=i
 ·rw [if_pos h0] at h
  by_cases h1:i<n
  ·rw [if_pos h1] at h
   have e:i.toNat=j:=aF h
   exact⟨by rw [lV h0 h1,e],by omega,by omega,h1⟩
  ·rw [if_neg h1] at h;cases h
 ·rw [if_neg h0] at h
  by_cases h1:-(n:Int)<=i
  ·rw [if_pos h1] at h
   have e:(i+n).toNat=j:=aF h
   exact⟨by rw [lE (by omega) h1,e],by omega,h1,by omega⟩
  ·rw [if_neg h1] at h;cases h
theorem Oh {α:Type} {xs:List α} {i:Int} {v:α} (h:atI xs i=some v):∃ j,seqIndex? i xs.length=some j/\xs[j]? = some v/\j<xs.length /\ -(xs.length:Int)<=i/\i<xs.length:=by
 unfold atI at h
 cases e:ixN xs.length i with
 | none=>rw [e] at h;cases h
 | some j=>
  rw [e] at h
  obtain⟨h1,h2,h3,h4⟩:=Wx e
  exact⟨j,h1,h,h2,h3,h4⟩
theorem Bw {α:Type} {xs:List α} {j:Nat} {v:α} (h:xs[j]? = some v):atI xs (j:Int)=some v:=by
 have hj:j<xs.length:=(List.getElem?_eq_some_iff.mp h).1
 have e:ixN xs.length (j:Int)=some j:=by
  unfold ixN
  rw [if_pos (by omega),if_pos (by omega)];simp
 unfold atI;rw [e];exact h
noncomputable def Wl (b:Expr):Prop:=∀ o i,subscripted b false o i=operate [o,i] (lS o i)
noncomputable def IxR (X:Cx) (r:R2):Prop:=
 ∀ (value slice:Expr) (pins:List (Addr×Obj)) (s:aj) (σ:St) (H:Hp) (x y:V) (v u:Value) (Q:VK),Inv X pins σ H s->RelV x v->RelV y u->r x y H Q ->
  subscripted slice false v u=operate [v,u] (lS v u)->aI (model X.prog X.w) X.A (kQ value slice v u) (EP X pins σ Q) X.xe s
noncomputable def MtR (X:Cx) (id:String) (r:V->List V->Hp->VK->Prop):Prop:=
 ∀ (pins:List (Addr×Obj)) (s:aj) (σ:St) (H:Hp) (x:V) (xs:List V) (v:Value) (us:List Value) (Q:VK),Inv X pins σ H s->RelV x v->Vals xs us->r x xs H Q ->
  aI (model X.prog X.w) X.A (call (.builtin id) (v::us)) (EP X pins σ Q) X.xe s
section
variable {X:Cx} {a b:Expr} {ta tb:TE} {pos:Pos}
theorem bz6 {r:R2} (hr:IxR X r) (ha:PE X a ta) (hb:PE X b tb) (hs:Wl b):PE X (.Subscript a b pos) (tOp r ta tb):=by
 intro pins s σ H Q I h
 exact Subscript_ (ba6 ha hb I h fun v u s2 x y H2 I2 rx ry q=>hr a b pins s2 σ H2 x y v u Q I2 rx ry q (hs _ _))
noncomputable def ce0 (K:ac):R2:=fun x y H Q=>∃ p xs i v,x=.ref p/\y=.int i/\SqL K H p xs/\atI xs i=some v/\Q v H
noncomputable def ce2 (K:ac):R2:=fun x y H Q=>∃ p xs i v,x=.ref p/\y=.int i/\SqT K H p xs/\atI xs i=some v/\Q v H
noncomputable def ce1:R2:=fun x y H Q=>∃ z i c,x=.str z/\y=.int i/\z.length<=sizeLine/\atI z.cps.toList i=some c/\Q (.str ⟨#[c]⟩) H
theorem av4:IxR X (ce0 X.K):=by
 intro value slice pins s σ H x y v u Q I rx ry h hs
 obtain⟨p,xs,i,z,rfl,rfl,hq,he,q⟩:=h
 cases rx
 obtain⟨t,rfl⟩:=ry
 obtain⟨its,r,pl,hz⟩:=I.list hq
 obtain⟨j,h1,h2,h3,h4,h5⟩:=Oh he
 obtain⟨w,ew,rw'⟩:=r.get h2
 have hl:=r.length
 have hn:=Gv
 have fin:EP X pins σ Q w s:=⟨z,H,I,rw',q⟩
 by_cases h0:0<=i
 ·have hj:i.toNat=j:=by
   rw [lV h0 h5] at h1
   exact aF h1
  exact item_listR pl.isList h0 (by omega) (by rw [hj];simpa using ew) fin hs
 ·have hj:(i+(its.toArray.size:Int)).toNat=j:=by
   rw [lE (by omega) h4] at h1
   rw [av,<- hl]
   exact aF h1
  exact jw (x:=w) pl.isList.typeIs slot_list_getitem.lookup
   (wpAny_getItem_list_neg (Q:=fun r s'=>r=w/\EP X pins σ Q r s') pl.isList (by omega) (by rw [av] <;> omega) (by omega) (by rw [hj];simpa using ew) ⟨rfl,fin⟩) hs
theorem bc1:IxR X (ce2 X.K):=by
 intro value slice pins s σ H x y v u Q I rx ry h hs
 obtain⟨p,xs,i,z,rfl,rfl,hq,he,q⟩:=h
 cases rx
 obtain⟨t,rfl⟩:=ry
 obtain⟨its,r,pl,hz⟩:=I.tuple hq
 obtain⟨j,h1,h2,h3,h4,h5⟩:=Oh he
 obtain⟨w,ew,rw'⟩:=r.get h2
 have hl:=r.length
 have hn:=Gv
 have fin:EP X pins σ Q w s:=⟨z,H,I,rw',q⟩
 exact jw (x:=w) pl.typeIs slot_tuple_getitem.lookup
  (getItem_tuple (j:=j) (Q:=fun r s'=>r=w/\EP X pins σ Q r s') pl (by omega) (by omega) (by rw [av,<- hl];exact h1) (by simpa using ew) ⟨rfl,fin⟩) hs
theorem bc0:IxR X ce1:=by
 intro value slice pins s σ H x y v u Q I rx ry h hs
 obtain⟨z,i,c,rfl,rfl,hz,he,q⟩:=h
 obtain⟨t,rfl⟩:=rx
 obtain⟨t',rfl⟩:=ry
 obtain⟨j,h1,h2,h3,h4,h5⟩:=Oh he
 have hl:z.cps.toList.length=z.length:=by simp [Str.length]
 rw [hl] at h1 h4 h5
 have hn:=Gv
 exact tail_any (typeIs_str s z t) slot_str_getitem.lookup (getItem_str (c:=c) (by
  have e1:decide (i < -(2 ^ 63:Int))=false:=decide_eq_false (by omega)
  have e2:decide (i ≥ 2 ^ 63)=false:=decide_eq_false (by omega)
  rw [e1,e2,eE]) (by rw [h1];simpa using h2) ⟨.str ⟨#[c]⟩,H,I.tok _,⟨_,rfl⟩,q⟩) hs
theorem Ur (its:List Value) (n j:Nat) (u:Value):bt (·.setIfInBounds j u) { cls:=.type "list", data:=.seq its.toArray n }={ cls:=.type "list", data:=.seq (its.set j u).toArray n }:=by
 simp [bt]
theorem Inv.lst {pins:List (Addr×Obj)} {σ:St} {H:Hp} {s:aj} {p:Addr} {xs:List V} (I:Inv X pins σ H s) (h:H p=some (.lst xs)) :
  ∃ (its:List Value) (n:Nat),Vals xs its/\s.heap.get? p=some { cls:=.type "list", data:=.seq its.toArray n }/\xs.length<=sizeLine:=by
 obtain⟨z,its,n,r,e⟩:=I.hok p _ h
 exact⟨its,n,r,e,z⟩
theorem Inv.lstUpd {pins:List (Addr×Obj)} {σ:St} {H:Hp} {s:aj} {p:Addr} {xs ys:List V} {its its':List Value} {n n':Nat} {f:Obj->Obj} (I:Inv X pins σ H s) (h:H p=some (.lst xs))
  (ho:s.heap.get? p=some { cls:=.type "list", data:=.seq its.toArray n }) (hf:f { cls:=.type "list", data:=.seq its.toArray n }={ cls:=.type "list", data:=.seq its'.toArray n' }) (r:Vals ys its') (hz:ys.length<=sizeLine) (t:Nat) :
  Inv X pins σ (upd H p (.lst ys)) { s with heap:=s.heap.update p f,toks:=t }:=by
 have e:(s.heap.update p f).get? p=some { cls:=.type "list", data:=.seq its'.toArray n' }:=by
  rw [aU f ho (by rw [hf] <;> rfl),hf]
 refine I.write (x:=p) (e:=p) (by rw [h];trivial) (.inl rfl) (fun b u hb q=>(aP _ _ (ck hb)).trans q) ⟨_,e⟩ ?_
 exact⟨hz,its',n',r,e⟩
noncomputable def b09:V->V->V->Hp->(Hp->Prop)->Prop:=fun o i v H Q=>∃ p xs k j,o=.ref p/\i=.int k/\H p=some (.lst xs)/\ixN xs.length k=some j/\Q (upd H p (.lst (xs.set j v)))
theorem ao1:ba3 X b09:=by
 intro pins s σ H o i v ov iv u Q I ro ri rv h
 obtain⟨p,xs,k,j,rfl,rfl,hp,hj,q⟩:=h
 cases ro
 obtain⟨t,rfl⟩:=ri
 obtain⟨its,n,r,ho,hz⟩:=I.lst hp
 obtain⟨h1,h2,h3,h4⟩:=Wx hj
 have hl:=r.length
 have hn:=Gv
 have I':Inv X pins σ (upd H p (.lst (xs.set j v))) { s with heap:=s.heap.update p (bt (·.setIfInBounds j u)) }:=
  I.lstUpd hp ho (Ur its n j u) (r.set rv j) (by rw [ii];exact hz) s.toks
 by_cases h0:0<=k
 ·have hk:k.toNat=j:=by
   rw [lV h0 h4] at h1
   exact aF h1
  exact PySem.W.ki_setAt ho h0 (by omega) (by rw [av,<- hl];exact h4) (by rw [hk];exact⟨_,I',q⟩)
 ·have hk:(k+(its.toArray.size:Int)).toNat=j:=by
   rw [lE (by omega) h3] at h1
   rw [av,<- hl]
   exact aF h1
  exact PySem.W.ki_setBack ho (by omega) (by rw [av,<- hl];exact h3) (by omega) (by rw [hk];exact⟨_,I',q⟩)
theorem Ps (lo hi:Option Int) (n:Nat):(gF lo hi none n).1=((HT.sIx n 0 lo:Nat):Int)/\(gF lo hi none n).2.1=((HT.sIx n n hi:Nat):Int)/\(gF lo hi none n).2.2=1:=by
 refine⟨?_,?_,rfl⟩
 ·cases lo with
  | none=>simp [gF,HT.sIx]
  | some i=>
   simp only [gF,HT.sIx,Option.getD_none,show (1:Int) > 0 by decide,if_true]
   by_cases h:i<0
   ·simp only [h,if_true] <;> omega
   ·simp only [h,if_false] <;> omega
 ·cases hi with
  | none=>simp [gF,HT.sIx]
  | some i=>
   simp only [gF,HT.sIx,Option.getD_none,show (1:Int) > 0 by decide,if_true]
   by_cases h:i<0
   ·simp only [h,if_true] <;> omega
   ·simp only [h,if_false] <;> omega
theorem Mv (its:List Value) (lo hi:Option Int):slicePick its.toArray lo hi none=((its.drop (HT.sIx its.length 0 lo)).take (HT.sIx its.length its.length hi - HT.sIx its.length 0 lo)).toArray:=by
 obtain⟨h1,h2,h3⟩:=Ps lo hi its.toArray.size
 unfold slicePick
 rw [h1,h2,h3]
 simp only [sliceRange_one,pick_run,av] <;> rfl
noncomputable def ce4 (K:ac):V->Option Int->Option Int->Hp->VK->Prop:=fun x lo hi H Q=>∃ a xs,x=.ref a/\SqL K H a xs /\ ∀ p,H p=none->Q (.ref p) (upd H p (.lst (E3 xs lo hi)))
theorem a11:SlR X (ce4 X.K):=by
 intro pins s σ H x v vl vu lo hi sl Q I rx hs pl pu h
 obtain⟨a,xs,rfl,hx,q⟩:=h
 cases rx
 obtain⟨its,r,ht,hz⟩:=I.list hx
 have hlen:=r.length
 refine⟨"list", _,slot_list_getitem.lookup,ht.isList.typeIs,?_⟩
 refine wpAny_getItem_list_slice ht.isList hs pl pu .none (by simp) ?_ (by rw [av] <;> omega)
 rw [Mv,<- hlen]
 refine⟨.ref s.heap.objs.size,_,I.laid (t':=s.toks) (o:=.lst (E3 xs lo hi)) (fun b ob q=>ag _ q) (ay _) ?_,rfl,q _ (I.hok.fresh (ay _))⟩
 exact⟨aQ (Iw xs lo hi) hz,_,0,(r.drop (HT.sIx xs.length 0 lo)).take (HT.sIx xs.length xs.length hi - HT.sIx xs.length 0 lo),aw _ rfl⟩
noncomputable def B7:V->Bool
 | .non=>true
 | .bl _=>true
 | .int _=>true
 | .str _=>true
 | _=>false
noncomputable def eqV:V->V->Bool
 | .non,.non=>true
 | .bl a,.bl b=>a==b
 | .bl a,.int b=>(if a then 1 else 0)==b
 | .int a,.bl b=>a==(if b then 1 else 0)
 | .int a,.int b=>a==b
 | .str a,.str b=>a==b
 | _,_=>false
theorem Tv {A:bi} {s:aj} {y x:V} {u v:Value} (ry:RelV y u) (rx:RelV x v) (fy:B7 y=true) (fx:B7 x=true):bE A s u v (eqV y x):=by
 cases y with
 | non=>
  cases ry
  cases x with
  | non=>cases rx;exact SeqAt.EqAt.same _
  | bl b=>cases rx;exact SeqAt.EqAt.none_bool b
  | int b=>obtain⟨t,rfl⟩:=rx;exact SeqAt.EqAt.none_int b t
  | str b=>obtain⟨t,rfl⟩:=rx;exact SeqAt.EqAt.none_str b t
  | _=>exact absurd (show false=true from fx) am
 | bl a=>
  cases ry
  cases x with
  | non=>cases rx;exact SeqAt.EqAt.bool_none a
  | bl b=>cases rx;exact SeqAt.EqAt.bool_bool a b
  | int b=>obtain⟨t,rfl⟩:=rx;exact SeqAt.EqAt.bool_int a b t
  | str b=>obtain⟨t,rfl⟩:=rx;exact SeqAt.EqAt.bool_str a b t
  | _=>exact absurd (show false=true from fx) am
 | int a=>
  obtain⟨t',rfl⟩:=ry
  cases x with
  | non=>cases rx;exact SeqAt.EqAt.int_none a t'
  | bl b=>cases rx;exact SeqAt.EqAt.int_bool a t' b
  | int b=>obtain⟨t,rfl⟩:=rx;exact kH a t' b t
  | str b=>obtain⟨t,rfl⟩:=rx;exact kI a t' b t
  | _=>exact absurd (show false=true from fx) am
 | str a=>
  obtain⟨t',rfl⟩:=ry
  cases x with
  | non=>cases rx;exact SeqAt.EqAt.str_none a t'
  | bl b=>cases rx;exact SeqAt.EqAt.str_bool a t' b
  | int b=>obtain⟨t,rfl⟩:=rx;exact kJ a t' b t
  | str b=>obtain⟨t,rfl⟩:=rx;exact SeqAt.EqAt.str_str a t' b t
  | _=>exact absurd (show false=true from fx) am
 | _=>exact absurd (show false=true from fy) am
noncomputable def eqU (x:V) (u:Value):Bool:=match u with
 | .none=>eqV .non x
 | .bool b=>eqV (.bl b) x
 | .int i _=>eqV (.int i) x
 | .str z _=>eqV (.str z) x
 | _=>false
theorem af5 {x y:V} {u:Value} (r:RelV y u) (f:B7 y=true):eqU x u=eqV y x:=by
 cases y with
 | non=>cases r;rfl
 | bl b=>cases r;rfl
 | int i=>obtain⟨t,rfl⟩:=r;rfl
 | str z=>obtain⟨t,rfl⟩:=r;rfl
 | _=>exact absurd (show false=true from f) am
theorem G1 {x:V}:∀ {xs:List V} {us:List Value},Vals xs us->xs.all B7=true->us.any (eqU x)=xs.any fun y=>eqV y x
 | _,_,.nil,_=>rfl
 | y::xs,u::us,.cons r t,f=>by
  rw [bw,ax] at f
  rw [dM,dM,af5 r f.1,G1 t f.2]
theorem Fq {A:bi} {s:aj} {x:V} {v:Value} (rx:RelV x v) (fx:B7 x=true):∀ {xs:List V} {us:List Value},Vals xs us->xs.all B7=true -> ∀ u∈us,bE A s u v (eqU x u)
 | _,_,.nil,_=>fun u hu=>by cases hu
 | y::xs,u::us,.cons r t,f=>fun u' hu=>by
  rw [bw,ax] at f
  rcases List.mem_cons.mp hu with rfl|hu
  ·rw [af5 r f.1];exact Tv r rx f.1 fx
  ·exact Fq rx fx t f.2 u' hu
noncomputable def inV (x:V) (xs:List V):Bool:=xs.any fun y=>eqV y x
noncomputable def rIn (K:ac) (neg:Bool):R2:=fun x y H Q=>∃ p xs,y=.ref p/\(SqL K H p xs\/SqT K H p xs)/\B7 x=true/\xs.all B7=true/\Q (.bl (if neg then !inV x xs else inV x xs)) H
theorem Y4:OpR X (cT .In) (rIn X.K false):=by
 intro pins s σ H x y v u Q I rx ry h
 obtain⟨p,xs,rfl,hq,fx,fs,q⟩:=h
 cases ry
 rcases hq with hq|hq
 ·obtain⟨its,r,pl,hz⟩:=I.list hq
  refine SeqAt.in_listAt (eqU x) pl.isList (fun w hw=>Fq rx fx r fs w (by simpa using hw)) ⟨.bl _,H,I,rfl,?_⟩
  rw [show its.toArray.any (eqU x)=its.any (eqU x) by simp,G1 r fs]
  exact q
 ·obtain⟨its,r,pl,hz⟩:=I.tuple hq
  refine SeqAt.in_tupleAt (eqU x) pl (fun w hw=>Fq rx fx r fs w (by simpa using hw)) ⟨.bl _,H,I,rfl,?_⟩
  rw [show its.toArray.any (eqU x)=its.any (eqU x) by simp,G1 r fs]
  exact q
theorem Pj:OpR X (cT .NotIn) (rIn X.K true):=by
 intro pins s σ H x y v u Q I rx ry h
 obtain⟨p,xs,rfl,hq,fx,fs,q⟩:=h
 cases ry
 rcases hq with hq|hq
 ·obtain⟨its,r,pl,hz⟩:=I.list hq
  refine SeqAt.notIn_listAt (eqU x) pl.isList (fun w hw=>Fq rx fx r fs w (by simpa using hw)) ⟨.bl _,H,I,rfl,?_⟩
  rw [show its.toArray.any (eqU x)=its.any (eqU x) by simp,G1 r fs]
  exact q
 ·obtain⟨its,r,pl,hz⟩:=I.tuple hq
  refine SeqAt.notIn_tupleAt (eqU x) pl (fun w hw=>Fq rx fx r fs w (by simpa using hw)) ⟨.bl _,H,I,rfl,?_⟩
  rw [show its.toArray.any (eqU x)=its.any (eqU x) by simp,G1 r fs]
  exact q
theorem Ol:Cz X (.builtin "len") (fun xs H Q=>∃ p ys,xs=[.ref p]/\(SqL X.K H p ys\/SqT X.K H p ys)/\Q (.int ys.length) H):=by
 intro pins s σ H xs us Q I r h
 obtain⟨p,ys,rfl,hq,q⟩:=h
 obtain⟨u,rfl,rx⟩:=Go r
 cases rx
 have hn:=Gv
 rcases hq with hq|hq
 ·obtain⟨its,r',pl,hz⟩:=I.list hq
  have hlen:=r'.length
  exact Calls.call_len_list pl.isList (by simp only [av] <;> omega) ⟨.int ys.length,H,I.tok _,⟨s.toks+1,by rw [av,hlen]⟩,q⟩
 ·obtain⟨its,r',pl,hz⟩:=I.tuple hq
  have hlen:=r'.length
  exact len_tuple pl (by simp only [av] <;> omega) ⟨.int ys.length,H,I.tok _,⟨s.toks+1,by rw [av,hlen]⟩,q⟩
theorem Om:Cz X (.builtin "len") (fun xs H Q=>∃ z,xs=[.str z]/\z.length<=sizeLine/\Q (.int z.length) H):=by
 intro pins s σ H xs us Q I r h
 obtain⟨z,rfl,hz,q⟩:=h
 obtain⟨u,rfl,t,rfl⟩:=Go r
 have hn:=Gv
 exact len_str (by omega) ⟨.int z.length,H,I.tok _,⟨_,rfl⟩,q⟩
theorem On:Cz X (.type "list") (fun xs H Q=>∃ p ys,xs=[.ref p]/\(SqL X.K H p ys\/SqT X.K H p ys) /\ ∀ l,H l=none->Q (.ref l) (upd H l (.lst ys))):=by
 intro pins s σ H xs us Q I r h
 obtain⟨p,ys,rfl,hq,q⟩:=h
 obtain⟨u,rfl,rx⟩:=Go r
 cases rx
 have fin:∀ (its:List Value),Vals ys its->ys.length<=sizeLine -> ∀ (h':Heap) (c':Nat),(∀ b o',s.heap.get? b=some o'->h'.get? b=some o') ->
   h'.get? s.heap.objs.size=some { cls:=.type "list", dict:=none,data:=.seq its.toArray c',slots:=#[] }->EP X pins σ Q (.ref s.heap.objs.size) { s with heap:=h' }:=fun its r' hz h' c' kp e=>
  ⟨.ref s.heap.objs.size,_,I.laid (t':=s.toks) kp (ay _) (show ObjOk X.prog X.w _ h' _ (.lst ys) from⟨hz,its,c',r',e⟩),rfl,q _ (I.hok.fresh (ay _))⟩
 rcases hq with hq|hq
 ·obtain⟨its,r',pl,hz⟩:=I.list hq
  have hlen:=r'.length
  obtain⟨o,ho,hc,n,hd⟩:=pl.isList
  exact call_list_seq p (.inl rfl) ho hc hd (fun h' c' kp e=>fin its r' hz h' c' kp e) (by simp only [av] <;> omega)
 ·obtain⟨its,r',pl,hz⟩:=I.tuple hq
  have hlen:=r'.length
  obtain⟨o,ho,hc,n,hd⟩:=pl
  exact call_list_seq p (.inr rfl) ho hc hd (fun h' c' kp e=>fin its r' hz h' c' kp e) (by simp only [av] <;> omega)
theorem Ml:Cz X (.type "tuple") (fun xs H Q=>∃ p ys,xs=[.ref p]/\((SqL X.K H p ys /\ ∀ l,H l=none->Q (.ref l) (upd H l (.tup ys)))\/(SqT X.K H p ys/\Q (.ref p) H))):=by
 intro pins s σ H xs us Q I r h
 obtain⟨p,ys,rfl,h⟩:=h
 obtain⟨u,rfl,rx⟩:=Go r
 cases rx
 rcases h with ⟨hq,q⟩|⟨hq,q⟩
 ·obtain⟨its,r',pl,hz⟩:=I.list hq
  have hlen:=r'.length
  refine call_tuple_list pl.isList (fun h' kp=>?_) (by simp only [av] <;> omega)
  have I1:Inv X pins σ H { s with heap:=h' }:=I.kept (t':=s.toks) kp
  have I2:Inv X pins σ (upd H h'.objs.size (.tup ys)) { s with heap:=h'.push { cls:=.type "tuple", data:=.seq its.toArray } }:=
   I1.laid (t':=s.toks) (fun b o e=>ag _ e) (ay _) (show ObjOk X.prog X.w _ _ _ (.tup ys) from⟨hz,its,r',IsTup.new _ _⟩)
  exact⟨.ref h'.objs.size,_,I2,rfl,q _ (I1.hok.fresh (ay _))⟩
 ·obtain⟨its,r',pl,hz⟩:=I.tuple hq
  exact call_tuple_same pl ⟨.ref p,H,I,rfl,q⟩
noncomputable def tyV (K:ac) (T:String) (x:V) (H:Hp):Prop:=match x with
 | .str _=>T = "str"
 | .int _=>T = "int"
 | .ref p=>(T = "list" /\ ∃ xs,SqL K H p xs)\/(T = "tuple" /\ ∃ o,K.lookup p=some o/\o.cls=.type "tuple" /\ o.dict=none) \/
   (T = "dict" /\ ((∃ kvs,H p=some (.dK kvs)) \/ ∃ kvs,H p=some (.dT kvs)))\/(T = "set" /\ ∃ S n,H p=some (.set S n))
 | _=>False
theorem aq9 {pins:List (Addr×Obj)} {σ:St} {H:Hp} {s:aj} {T:String} {x:V} {v:Value} (I:Inv X pins σ H s) (r:RelV x v) (ty:tyV X.K T x H) :
  s.TypeIs v T /\ ∀ a,v=.ref a -> ∃ ob,s.heap.get? a=some ob/\ob.dict=none:=by
 cases x with
 | str z=>
  obtain⟨t,rfl⟩:=r
  cases (show T = "str" from ty)
  exact⟨typeIs_str s z t,fun _ e=>nomatch e⟩
 | int i=>
  obtain⟨t,rfl⟩:=r
  cases (show T = "int" from ty)
  exact⟨typeIs_int s i t,fun _ e=>nomatch e⟩
 | ref p=>
  cases r
  rcases ty with ⟨rfl,xs,hq⟩|⟨rfl,o,hk,hc,hd⟩|⟨rfl,hk⟩|⟨rfl,S,n,hk⟩
  ·obtain⟨its,_,pl,_⟩:=I.list hq
   refine⟨pl.isList.typeIs,fun a e=>?_⟩
   cases e
   obtain⟨o,n,e,c,hd,_⟩:=pl
   exact⟨o,e,hd⟩
  ·refine⟨⟨o,I.kIn p o hk,hc⟩,fun a e=>?_⟩
   cases e
   exact⟨o,I.kIn _ o hk,hd⟩
  ·have z:∃ o,s.heap.get? p=some o/\o.ExactDict:=by
    rcases hk with ⟨kvs,hk⟩|⟨kvs,hk⟩
    ·obtain⟨_,_,_,_,o,_,_,e,ex,_⟩:=I.hok p _ hk
     exact⟨o,e,ex⟩
    ·obtain⟨_,_,_,_,o,_,_,e,ex,_⟩:=I.hok p _ hk
     exact⟨o,e,ex⟩
   obtain⟨o,e,ex⟩:=z
   refine⟨⟨o,e,ex.1⟩,fun a e2=>?_⟩
   cases e2
   exact⟨o,e,ex.2.1⟩
  ·obtain⟨o,_,_,_,e,ex,_⟩:=I.hok p _ hk
   refine⟨⟨o,e,ex.1⟩,fun a e2=>?_⟩
   cases e2
   exact⟨o,e,ex.2.1⟩
 | _=>exact dY ty
variable {o e:Expr} {es:List Expr} {to:TE} {t:TA} {name:Str} {apos cpos:Pos} {T id:String} {r:V->List V->Hp->VK->Prop}
end
noncomputable def MtM (X:Cx) (id:String) (r:V->List V->Hp->VK->Prop):Prop:=
 ∀ (pins:List (Addr×Obj)) (s:aj) (σ:St) (H:Hp) (x:V) (xs:List V) (v:Value) (us:List Value) (Q:VK),Inv X pins σ H s->RelV x v->Vals xs us->r x xs H Q ->
  aI (model X.prog X.w) X.A (call (.builtin id) (v::us)) (EP X pins σ Q) X.xe s
theorem Vals.one:∀ {x:V} {us:List Value},Vals [x] us -> ∃ u,us=[u]/\RelV x u
 | _,_,.cons r .nil=>⟨_,rfl,r⟩
theorem Vals.two:∀ {x y:V} {us:List Value},Vals [x,y] us -> ∃ u v,us=[u,v]/\RelV x u/\RelV y v
 | _,_,_,.cons r (.cons q .nil)=>⟨_,_,rfl,r,q⟩
theorem Vals.zero:∀ {us:List Value},Vals [] us->us=[]
 | _,.nil=>rfl
section
variable {X:Cx} {pins:List (Addr×Obj)} {σ:St} {H:Hp} {s:aj} {l b:Addr} {xs ys zs:List V}
theorem Inv.lset {its its':List Value} {n:Nat} {f:Array Value->Array Value} {t':Nat} (I:Inv X pins σ H s) (hH:H l=some (.lst xs))
  (e:s.heap.get? l=some { cls:=.type "list", data:=.seq its.toArray n }) (hf:f its.toArray=its'.toArray) (hv:Vals ys its') (hz:ys.length<=sizeLine) :
  Inv X pins σ (upd H l (.lst ys)) { s with heap:=s.heap.update l (bt f),toks:=t' }:=by
 have q:=PySem.IsL.update e f
 rw [hf] at q
 refine I.write (x:=l) (e:=l) (by rw [hH];exact trivial) (.inl rfl) (fun b' u hb hu=>(aP s.heap (bt f) (ck hb)).trans hu) ⟨_,q⟩ ?_
 exact⟨hz,its',_,hv,q⟩
theorem Inv.lnew {its:List Value} {t':Nat} (I:Inv X pins σ H s) (hv:Vals ys its) (hz:ys.length<=sizeLine) :
  Inv X pins σ (upd H s.heap.objs.size (.lst ys)) { s with heap:=s.heap.push { cls:=.type "list", data:=.seq its.toArray },toks:=t' }:=
 I.laid (fun _ _ q=>ag _ q) (ay _) ⟨hz,its,0,hv,aw _ rfl⟩
theorem Inv.fresh (I:Inv X pins σ H s):H s.heap.objs.size=none:=I.hok.fresh (ay _)
theorem Inv.lstM (I:Inv X pins σ H s) (hH:H l=some (.lst xs)):xs.length<=sizeLine /\ ∃ (its:List Value) (n:Nat),Vals xs its/\xs.length=its.length/\s.heap.get? l=some { cls:=.type "list", data:=.seq its.toArray n }:=by
 obtain⟨z,its,n,r,e⟩:=I.hok l _ hH
 exact⟨z,its,n,r,r.length,e⟩
theorem aj9 {n:Nat} (h:n<=sizeLine):fT n=false:=by
 unfold fT
 exact decide_eq_false (by omega)
end
section
variable {X:Cx}
noncomputable def El:V->List V->Hp->VK->Prop:=fun x vs H Q=>∃ l xs y,x=.ref l/\vs=[y]/\H l=some (.lst xs)/\xs.length<sizeLine/\Q .non (upd H l (.lst (xs++[y])))
theorem Nx:MtM X "list.append" El:=by
 intro pins s σ H x vs v us Q I rx rv h
 obtain⟨l,xs,y,rfl,rfl,hH,hz,q⟩:=h
 cases rx
 obtain⟨u,rfl,ru⟩:=rv.one
 obtain⟨z,its,n,r,hl,e⟩:=I.lstM hH
 refine call_meets F.slot_list_append ⟨_,e,rfl⟩ F.entry_list_append (F.args_list_append_2 _ _) (PySem.list_append l its.toArray n u (by rw [av];omega)) ⟨e,?_⟩
 refine⟨.non,_,I.lset (its':=its++[u]) hH e (by simp) (r.append (.cons ru .nil)) ?_,rfl,q⟩
 rw [aJ,cw]
 omega
noncomputable def Gc:V->List V->Hp->VK->Prop:=fun x vs H Q=>∃ l b xs zs,x=.ref l/\vs=[.ref b]/\H l=some (.lst xs)/\H b=some (.lst zs)/\xs.length+zs.length<=sizeLine/\Q .non (upd H l (.lst (xs++zs)))
theorem Yz:MtM X "list.extend" Gc:=by
 intro pins s σ H x vs v us Q I rx rv h
 obtain⟨l,b,xs,zs,rfl,rfl,hH,hB,hz,q⟩:=h
 cases rx
 obtain⟨u,rfl,ru⟩:=rv.one
 cases ru
 obtain⟨z,its,n,r,hl,e⟩:=I.lstM hH
 obtain⟨z2,its2,n2,r2,hl2,e2⟩:=I.lstM hB
 have hsz:its.toArray.size+its2.toArray.size<=sizeLine:=by rw [av,av];omega
 have hlong:¬ (!its.toArray.isEmpty&&fT (its.toArray.size+its2.toArray.size))=true:=by
  rw [aj9 hsz,dO]
  exact am
 refine call_meets F.slot_list_extend ⟨_,e,rfl⟩ F.entry_list_extend (F.args_list_extend_2 _ _)
  (AutoSeq1.list_extend_list_list_0 l its.toArray n b its2.toArray n2 hlong (by rw [av];omega) (by omega)) ⟨e,e2,?_⟩
 refine⟨.non,_,I.lset (its':=its++its2) hH e (by simp) (r.append r2) ?_,rfl,q⟩
 rw [aJ]
 omega
noncomputable def U8:V->List V->Hp->VK->Prop:=fun x vs H Q=>∃ l xs,x=.ref l/\vs=[]/\H l=some (.lst xs)/\Q .non (upd H l (.lst []))
theorem aj4:MtM X "list.clear" U8:=by
 intro pins s σ H x vs v us Q I rx rv h
 obtain⟨l,xs,rfl,rfl,hH,q⟩:=h
 cases rx
 have hus:=rv.zero
 subst hus
 obtain⟨z,its,n,r,hl,e⟩:=I.lstM hH
 refine call_meets F.slot_list_clear ⟨_,e,rfl⟩ F.entry_list_clear (F.args_list_clear_1 _) (AutoSeq1.list_clear_list_0 l its.toArray n (by rw [av];omega)) ⟨e,?_⟩
 exact⟨.non,_,I.lset (its':=[]) (ys:=[]) hH e rfl .nil (cq _),rfl,q⟩
noncomputable def b08:R2:=fun x y H Q=>∃ l b xs zs,x=.ref l/\y=.ref b/\H l=some (.lst xs)/\H b=some (.lst zs)/\xs.length+zs.length<=sizeLine /\ ∀ p,H p=none->Q (.ref p) (upd H p (.lst (xs++zs)))
theorem op_cat:OpR X (d9 .Add) b08:=by
 intro pins s σ H x y v u Q I rx ry h
 obtain⟨l,b,xs,zs,rfl,rfl,hH,hB,hz,q⟩:=h
 cases rx
 cases ry
 obtain⟨z,its,n,r,hl,e⟩:=I.lstM hH
 obtain⟨z2,its2,n2,r2,hl2,e2⟩:=I.lstM hB
 refine PySem.P.add_list e e2 ?_ (by rw [av,av];omega)
 have ea:its.toArray++its2.toArray=(its++its2).toArray:=by simp
 rw [ea]
 exact⟨.ref _,_,I.lnew (t':=s.toks) (r.append r2) (by rw [aJ];omega),rfl,q _ I.fresh⟩
end
section
variable {prog:aV} {w:bM} {A:bi} {E:Value->aj->Prop} {s:aj}
set_option maxRecDepth 100000 in
end
section
variable {X:Cx}
end
end L2
namespace Att
open PySem PySem.W PySem.Calls PyProof.Rows
theorem Jm {P:Params} {h:Heap}:∀ (ns:List Int) (vs:List Value),WellAll P h vs (ns.map WData.int)->l6 vs ns:=by
 intro ns
 induction ns with
 | nil=>
  intro vs w
  rw [gO] at w
  cases w
  exact .nil
 | cons n ns ih=>
  intro vs w
  rw [be] at w
  cases w with
  | cons a b=>
   cases a
   exact .cons _ _ (ih _ b)
theorem Zf {l:OpenLaw} {n:Nat} (hn:l.most=some n) {P:Params} {h:Heap} {args:List WData} {vals:List Value}
  (hpre:l.row.toRowW.claim.pre args=true) (hwl:WellAll P h vals args) :
  ∃ a vs ns,vals=[aY a]/\args=[WData.list (ns.map WData.int)]/\h.get? a=some { cls:=.type "list", data:=.seq vs.toArray }/\l6 vs ns/\ns.length<=n:=by
 have hsh:WShape.hasAll [] args [.list .int]=true:=(pre_splitW hpre).1
 have hc:l.pre.holds [] { args:=args }=true:=(pre_splitW hpre).2
 obtain⟨d,r,rfl,h1,h2⟩:=hasAllW_cons hsh
 obtain rfl:=hasAllW_nil h2
 obtain⟨xs,rfl,h3⟩:=hasW_list h1
 obtain⟨ns,rfl⟩:=items_int h3
 have hlen:ns.length<=n:=by
  unfold OpenLaw.pre at hc
  have h4:(WTm.not (.lt (.lit (.int (n:Int))) (.len (.arg 0)))).holds [] { args:=[.list (ns.map .int)] }=true:=by
   have h4:=(holds_andW hc).1
   rw [hn] at h4
   exact h4
  have h5:=condW_of h4 (w_not (w_lt w_lit (w_len_list (w_arg rfl))))
  rw [ae] at h5
  refine Nat.le_of_not_lt fun q=>?_
  have q':(n:Int)<((ns.length:Nat):Int):=by omega
  first
   | (rw [decide_eq_true q'] at h5;exact absurd h5 (by decide))
   | (simp at h5;omega)
 cases hwl with
 | cons w1 w2=>
  cases w2
  cases w1 with
  | list ho hall=>exact⟨_,_,ns,rfl,rfl,ho,Jm ns _ hall,hlen⟩
theorem Y9 (l:OpenLaw) (args:List WData):l.row.toRowW.claim.post args (.bool true) args=true:=
 postW_of (r:=l.row.toRowW) (X:=(true==true))
  (show WShape.has [] (.bool true) .bool=true by first|rfl|decide|simp [WShape.has,WShape.arms,WShape.armsAll])
  (show (WTm.eq .res (.lit (.bool true))).value [] { args:=args,res:=some (.bool true),after:=args }=some (.bool (true==true)) from w_eq_bool (w_res rfl) w_lit) rfl
theorem attach_call {l:OpenLaw} {n:Nat} {q:aV} {loose:List Str} {XP:(Str->Option Value)->Heap->Prop} {YP:bM->Heap->Prop} {d:DefRec}
  (hn:l.most=some n) (hdf:d.params.defaults=[])
  (call:∀ (w:bM) (s₀ s₁:aj) (mg mb:Str->Option Value) (fa:Addr) (o:Obj) (pm cd doc:Value) (a:Addr) (vs:List Value) (ns:List Int),
   Ground q loose [] XP w s₀ mg mb s₁.heap->YP w s₁.heap ->
   s₁.heap.get? fa=some o->o.data=.func (docDef d.name d.params d.body d.scope pm cd doc)->s₁.heap.CodeRec cd d.name->mg d.name=some (.ref fa) ->
   s₁.heap.get? a=some { cls:=.type "list", data:=.seq vs.toArray }->l6 vs ns->ns.length<=n->s₁.gens = #[] ->
   eO (model l.prog w) kY (.call (.ref fa) ⟨[.ref a],[]⟩) (fun r s'=>r=.ok (.ret (.bool true))/\OldK s₁.heap s'.heap/\s'.os=s₁.os/\jB s'.gens) s₁) :
  WalkO q loose XP YP l.row.toRowW d [] (fun f vs=>PySem.call f vs):=by
 intro w s₀ s₁ mg mb G Y fa o pm cd doc dV kV ho hd hcd hD hmg hg args vals as hpre hlay hrd hwl hlo
 obtain rfl:dV=.none:=Dflts.none hD hdf
 obtain rfl:kV=.none:=Dflts.noKw hD
 obtain⟨a,vs,ns,rfl,rfl,hobj,hints,hlen⟩:=Zf hn hpre hwl
 refine enter_call (gT (call w s₀ s₁ mg mb fa o pm cd doc a vs ns G Y ho (fd_plain hd) hcd hmg hobj hints hlen hg) fun r s' hq=>?_)
 obtain⟨rfl,h2,h3,h4⟩:=hq
 exact⟨.inl ⟨.bool true,.bool true,[],rfl,fun _=>rfl,.bool true,Y9 l _,fun _=>⟨List.Pairwise.nil,fun _ hm=>(nomatch hm)⟩⟩,h2,h3,h4⟩
section
variable {prog:aV} {w:bM} {A:bi} {E:Value->aj->Prop} {s:aj} {K:Frag}
end
end Att
namespace L2
open PySem PySem.Spec PyProof.Rows
theorem Oc:∀ {vs:List Value} {ns:List Int},l6 vs ns->Vals (ns.map V.int) vs
 | _,_,.nil=>.nil
 | _,_,.cons n t h=>.cons ⟨t,rfl⟩ (Oc h)
noncomputable def ba1 (H:Hp):Prop:=∀ b,H b=none \/ ∃ o xs,H b=some (.frz o (.lst xs))
theorem ah5 {P:aV} {w:bM} {K:ac} {mg mb:Str->Option Value} {CX:CXT} {k:Nat} {fa a:Addr} {fd:aA} {x:Str} {sp:Sp} {s₁:aj} {vs:List Value} {ns:List Int}
  (KX:K.In s₁.heap) (hns:s₁.heap.Ns a_ mg) (hb:s₁.heap.Ns builtinsNs mb) (hbb:∀ x:Str,x ≠ "__name__" -> mb x=dF x) (hlim:s₁.heap.NoLimit) (hg:s₁.gens = #[])
  (ha:s₁.heap.get? a=some { cls:=.type "list", data:=.seq vs.toArray }) (hi:l6 vs ns) (hl:ns.length<=sizeLine) (hr:Room k kY)
  (F:∀ base:Heap,K.In base->base.Ns a_ mg->FnOk P w K mg base CX k fa fd [x] sp) (hbind:∀ (s:aj) (u:Value),lI s fd ⟨[u],[]⟩ [(x,u)])
  (hsp:∀ H:Hp,ba1 H->SqL K H a (ns.map V.int)->sp [.ref a] H (fun v _=>v=.bl true) fun _ _ _=>False)
  (hCX:∀ H e s',CX [] H s₁ (fun _ _ _=>False) e s'->False) :
  eO (model P w) kY (.call (.ref fa) ⟨[.ref a],[]⟩) (fun r s'=>r=.ok (.ret (.bool true))/\OldK s₁.heap s'.heap/\s'.os=s₁.os/\jB s'.gens) s₁:=by
 have rv:=Oc hi
 have lenV:=hi.length
 have core:∀ H:Hp,ba1 H->SqL K H a (ns.map V.int)->HOk P w H s₁.heap->(∀ b,H b≠none->b=a)->(H a≠none->K.lookup a=none) ->
   eO (model P w) kY (.call (.ref fa) ⟨[.ref a],[]⟩) (fun r s'=>r=.ok (.ret (.bool true))/\OldK s₁.heap s'.heap/\s'.os=s₁.os/\jB s'.gens) s₁:=by
  intro H hO hS hok hA hK
  have base_of:∀ {b:Addr} {o:Obj},s₁.heap.get? b=some o->H b=none->(O3 s₁.heap H).get? b=some o:=fun e n=>ag5 e n
  have noA:∀ {b:Addr} {o:Obj} {es:Array DictEntry} {ep:Nat},s₁.heap.get? b=some o->o.data=.dict es ep->H b=none:=fun {b o es ep} e d=>by
   cases q:H b with
   | none=>rfl
   | some u=>
    have e':b=a:=hA b (by rw [q];simp)
    subst e'
    rw [ha] at e;cases e
    have d':Data.seq vs.toArray _=Data.dict es ep:=d
    cases d'
  have nsK:∀ {b:Addr} {m:Str->Option Value},s₁.heap.Ns b m->(O3 s₁.heap H).Ns b m:=fun {b m} ⟨o,es,ep,e,d,r⟩=>⟨o,es,ep,base_of e (noA e d),d,r⟩
  have hKb:K.In (O3 s₁.heap H):=fun b o e=>base_of (KX b o e) (by
   cases q:H b with
   | none=>rfl
   | some u=>
    have e':b=a:=hA b (by rw [q];simp)
    subst e'
    rw [hK (by rw [q];simp)] at e;cases e)
  have hM:Mod K mg (O3 s₁.heap H):=⟨hKb,nsK hns,⟨mb,nsK hb,hbb⟩,let ⟨mc,h1,h2⟩:=hlim;⟨mc,nsK h1,h2⟩⟩
  have e0:Env0 P w K mg (O3 s₁.heap H) kY [] s₁ H:=⟨rfl,hM,fun b o e=>aw9 e,ly (Yn _ _),trivial,fun b hb=>absurd (show b∈([]:List Addr) from hb) (by simp),hok,.of_eq hg⟩
  refine gT ((F _ hKb (nsK hns)).run kY [] s₁ H ⟨[.ref a],[]⟩ [.ref a] [.ref a] _ _ hr e0 (hbind s₁ (.ref a)) (.cons rfl .nil) (hsp H hO hS)) fun r s' h=>?_
  cases r with
  | error e=>exact (hCX H e s' h).elim
  | ok fl=>
   cases fl with
   | next=>exact dY h
   | brk=>exact dY h
   | cont=>exact dY h
   | ret u=>
    obtain⟨v,H',os,bare,un,hok',r',q⟩:=h
    have q':v=.bl true:=q
    subst q'
    obtain rfl:u=gC true:=r'
    refine⟨rfl,OldK.of_keep fun b o e=>?_,os,bare⟩
    cases q:H b with
    | none=>exact un.keep b o e q (by intro z;exact absurd (show b∈([]:List Addr) from z) (by simp)) (by simp)
    | some u=>
     rcases hO b with z|⟨ob,xs,z⟩
     ·rw [q] at z;cases z
     ·have z2:=un.frzs b ob _ z
      obtain⟨e1,_⟩:=hok b _ z
      obtain⟨e2,_⟩:=hok' b _ z2
      rw [e] at e1;cases e1
      exact e2
 cases hk:K.lookup a with
 | some o=>
  have e:=KX a o hk
  rw [ha] at e
  cases e
  refine core (fun _=>none) (fun _=>.inl rfl) (.inr ⟨_,vs.toArray,_,hk,rfl,rfl,rfl,by rw [av,lenV];exact hl,by simpa using rv⟩) (fun b u z=>by have z':(none:Option HO)=some u:=z;cases z') (fun b z=>absurd rfl z) fun z=>absurd rfl z
 | none=>
  refine core (fun b=>if b=a then some (.frz { cls:=.type "list", data:=.seq vs.toArray } (.lst (ns.map V.int))) else none) (fun b=>?_) (.inl (.inr ⟨{ cls:=.type "list", data:=.seq vs.toArray },if_pos rfl⟩)) (fun b u z=>?_) (fun b z=>?_) fun _=>hk
  ·by_cases hb:b=a
   ·exact .inr ⟨_,_,if_pos hb⟩
   ·exact .inl (if_neg hb)
  ·by_cases hb:b=a
   ·have z':=(if_pos hb).symm.trans z
    cases z'
    subst hb
    exact⟨ha,by rw [ae];exact hl,vs,_,rv,ha⟩
   ·have z':=(if_neg hb).symm.trans z
    cases z'
  ·by_cases hb:b=a
   ·exact hb
   ·exact absurd (if_neg hb) z
theorem walk_of {l:jM} {n k:Nat} {q:aV} {loose:List Str} {XP:(Str->Option Value)->Heap->Prop} {YP:bM->Heap->Prop} {d:DefRec} {K:Params->ac} {CX:bM->CXT} {sp:bM->Sp} {x:Str}
  (hn:l.most=some n) (hn2:n<=sizeLine) (hdf:d.params.defaults=[]) (hr:Room k kY)
  (hY:∀ (w:bM) (h:Heap),YP w h->(K w.params).In h)
  (F:∀ (w:bM) (mg:Str->Option Value) (fa:Addr) (h:Heap),(K w.params).In h->h.Ns a_ mg->mg d.name=some (.ref fa) ->
   ∃ fd:aA,(∀ (s:aj) (u:Value),lI s fd ⟨[u],[]⟩ [(x,u)]) /\
    ∀ base:Heap,(K w.params).In base->base.Ns a_ mg->FnOk l.prog w (K w.params) mg base (CX w) k fa fd [x] (sp w))
  (hsp:∀ (w:bM) (H:Hp) (a:Addr) (ns:List Int),ns.length<=n->ba1 H->SqL (K w.params) H a (ns.map V.int)->sp w [.ref a] H (fun v _=>v=.bl true) fun _ _ _=>False)
  (hCX:∀ (w:bM) (H:Hp) (s:aj) (e:Value) (s':aj),CX w [] H s (fun _ _ _=>False) e s'->False) :
  PySem.W.WalkO q loose XP YP l.row.toRowW d [] (fun f vs=>PySem.call f vs):=by
 refine Att.attach_call hn hdf fun w s₀ s₁ mg mb fa o pm cd doc a vs ns G Y ho hd hcd hmg hobj hints hlen hg=>?_
 have KX:=hY w _ Y
 obtain⟨fd,hb,hF⟩:=F w mg fa _ KX G.T.g hmg
 exact ah5 KX G.T.g G.T.b G.T.builtins G.T.nolimit hg hobj hints (aQ hlen hn2) hr hF hb (fun H hO hS=>hsp w H a ns hlen hO hS) fun H e s'=>hCX w H s₁ e s'
end L2
namespace L2
open PySem PySem.Spec PyProof.Rows
noncomputable def Cr (s:Stmt) (j:Nat):Stmt:=match s with
 | .ClassDef _ _ _ body _ _ _ _ _ _ _=>body.getD j (.Pass ⟨0,0,0,0⟩)
 | _=>.Pass ⟨0,0,0,0⟩
noncomputable def By (s:Stmt):Arguments:=match s with
 | .FunctionDef _ a _ _ _ _ _ _ _ _=>a
 | _=>{ posonlyargs:=[],args:=[],vararg:=none,kwonlyargs:=[],kw_defaults:=[],kwarg:=none,defaults:=[] }
noncomputable def Al (s:Stmt):List Stmt:=match s with
 | .FunctionDef _ _ b _ _ _ _ _ _ _=>b
 | _=>[]
noncomputable def Ab (s:Stmt):Scope:=match s with
 | .FunctionDef _ _ _ _ _ _ sc _ _ _=>sc
 | _=>{ kind:=.function,names:=[],isGenerator:=false,isCoroutine:=false }
noncomputable abbrev CX0:CXT:=fun _ _ _ _ _ _=>False
structure Fun (K:ac) (x qual:Str) (st:Stmt) (f:Addr) (fd:aA):Prop where
 ex:∃ (oc:Value) (od:Option Addr) (kV doc pm:Value) (an:Option Addr) (cdv ct:Value) (osl:Array (Option Value)),
  fd=cn x qual (By st) (Al st) (Ab st) .none kV doc pm an cdv ct/\K.lookup f=some ⟨oc,od,.func fd,osl⟩/\dP K cdv qual=true
 kp:aR K (.ref f)=true
section
variable {P:aV} {w:bM} {K:ac} {mg:Str->Option Value} {base:Heap}
theorem Fun.binds {x qual:Str} {st:Stmt} {f:Addr} {fd:aA} {ps:List Str} (F:Fun K x qual st f fd)
  (h:∀ (kV doc pm:Value) (an:Option Addr) (cdv ct:Value) (us:List Value),us.length=ps.length->kM (cn x qual (By st) (Al st) (Ab st) .none kV doc pm an cdv ct) ⟨us,[]⟩=pure (ps.zip us)):Binds K fd ps []:=by
 obtain⟨oc,od,kV,doc,pm,an,cdv,ct,osl,rfl,lk,hcd⟩:=F.ex
 exact .all (h kV doc pm an cdv ct)
theorem Ua {x qual:Str} {st:Stmt} {f:Addr} {oc:Value} {od an:Option Addr} {osl:Array (Option Value)} {kV doc pm cdv ct:Value} (l:K.lookup f=some ⟨oc,od,.func (cn x qual (By st) (Al st) (Ab st) .none kV doc pm an cdv ct),osl⟩)
  (c:dP K cdv qual=true) (k:aR K (.ref f)=true):Fun K x qual st f (cn x qual (By st) (Al st) (Ab st) .none kV doc pm an cdv ct):=⟨⟨oc,od,kV,doc,pm,an,cdv,ct,osl,rfl,l,c⟩,k⟩
end
section
variable {X:Cx}
end
theorem Dj {A B:Prop} (h:B):if false=true then A else B:=by
 rw [if_neg am]
 exact h
theorem D0 {A B:Prop} (h:A):if true=true then A else B:=by
 rw [if_pos rfl]
 exact h
theorem Mt {c A B:Prop} [Decidable c] (h1:c->A) (h2:¬ c->B):if c then A else B:=by
 by_cases h:c
 ·rw [if_pos h]
  exact h1 h
 ·rw [if_neg h]
  exact h2 h
noncomputable def Same (H H':Hp):Prop:=∀ b o,H b=some o->H' b=some o
theorem Same.refl (H:Hp):Same H H:=fun _ _ h=>h
theorem Same.trans {H H1 H2:Hp} (a:Same H H1) (b:Same H1 H2):Same H H2:=fun c o h=>b c o (a c o h)
theorem Same.free {H H':Hp} (e:Same H H') {l:Addr} (h:H' l=Option.none):H l=Option.none:=by
 cases q:H l with
 | none=>rfl
 | some o=>
  rw [e l o q] at h
  cases h
noncomputable def Cx.comp (X:Cx) (N':List Str) (scope:Scope) (cl:List (Str×Addr)) (fp:List Addr) (C:Addr) (s:aj) (H:Hp) (xe:Value->aj->Prop):Cx:=
 {prog:=X.prog,w:=X.w,K:=X.K,mg:=X.mg,base:=X.base,A:=X.A,N:=N',s₀:=s,H₀:=H,env:=l9 scope cl C X.env,outer:=X.stack,stack:=X.stack,
  ex:=fp,fn:=fun x=>(cl.lookup x).isNone,calm:=X.calm,pn:=[],xe:=xe }
noncomputable def Tm (srcs:List (Option Nat)) (σ:St):St:=srcs.map fun o=>o.bind fun j=>(σ[j]?).join
structure J5 (X:Cx) (N':List Str) (srcs:List (Option Nat)) (scope:Scope) (cl:List (Str×Addr)):Prop where
 clos:closureFor scope X.env=pure cl
 nocell:∀ y∈scope.names,y.2≠.cell
 kind:scope.kind=.function
 names:∀ y∈scope.names,y.2=.local->scope.names.lookup y.1=some .local
 sub:∀ x c,cl.lookup x=some c->X.env.cells.lookup x=some c
 has:∀ x,((iL scope X.env).names.lookup x=some .cell\/(iL scope X.env).names.lookup x=some .free) -> ∃ c,cl.lookup x=some c
 len:srcs.length=N'.length
 src:∀ (k j:Nat) (x:Str),N'[k]? = some x->srcs[k]? = some (some j)->X.N[j]? = some x/\(X.env.scope.names.lookup x=some .cell\/X.env.scope.names.lookup x=some .free) /\
  ((iL scope X.env).names.lookup x=some .cell\/(iL scope X.env).names.lookup x=some .free)
noncomputable def Xv (X:Cx) (ifs:List Expr) (t:TT):Prop:=
 ∀ (pins:List (Addr×Obj)) (s:aj) (σ:St) (H:Hp) (Q:Bool->Hp->Prop),Inv X pins σ H s->t σ H Q ->
  aI (model X.prog X.w) X.A (forIn ifs true fun c r=>if r=true then do let ok <- isTrue c X.env (eval c X.env);pure (e8 ok) else pure (e8 r)) (TP X pins σ Q) X.xe s
noncomputable def cf7:TT:=fun _ H Q=>Q true H
theorem ak9 {X:Cx}:Xv X [] cf7:=fun _ _ _ H _ I h=>wpAny_tests_nil ⟨H,I,h⟩
theorem al0 {X:Cx} {c:Expr} {t:TT} (h:PT X c t):Xv X [c] t:=fun pins s σ H Q I q=>wpAny_tests_one (h pins s σ H Q I q)
noncomputable def aq2 (srcs:List (Option Nat)) (wi:TI) (g:TG) (tc:TT) (te:TE):TE:=fun σ H Q=>wi σ H fun J H1=>∀ D,H1 D=none ->
 ∃ W:Nat->Nat->St->Hp->Prop,(∃ m,W 0 m (Tm srcs σ) (upd H1 D (.lst []))) /\ ∀ i m σ' H',W i m σ' H' ->
  (J.stop i H'/\Q (.ref D) H')\/(J.go i H' /\ ∃ N:St->Hp->Prop,(∀ σ2 H2,N σ2 H2 -> ∃ m',m'<m/\W (i+1) m' σ2 H2) /\ ∀ x H2,J.yld i H' x H2->g x σ' H2 fun σ3 H3=>tc σ3 H3 fun b H4=>if b=true then
    te σ3 H4 fun v H5=>∃ ys,H5 D=some (.lst ys)/\ys.length<sizeLine/\N σ3 (upd H5 D (.lst (ys++[v])))
   else N σ3 H4)
section
variable {g:TG} {tc:TT} {te:TE} {D:Addr} {R:Hp->Prop} {σ:St} {H:Hp}
end
section
variable {prog:aV} {w:bM} {A:bi} {E:Value->aj->Prop} {R:j9->aj->Prop} {s:aj}
theorem Os {elt target iter:Expr} {ifs:List Expr} {scope:Scope} {pos:Pos} {it acc:Value} {env:Env} (I:Nat->aj->Prop)
  (turn:∀ n s,I n s->aI (model prog w) A (fC it) (fun r s₁=>match r with
   | none=>R (.ok .next) s₁
   | some v=>aI (model prog w) A (iq target it v) (fun _ s₀=>aI (model prog w) A (lA target env v) (fun _ s₂=>
     aI (model prog w) A (forIn ifs true fun c r=>if r=true then do let ok <- isTrue c env (eval c env);pure (e8 ok) else pure (e8 r)) (fun ok s₃=>
      if ok=true then aI (model prog w) A (eval elt env) (fun x s₄=>
       aI (model prog w) A (call (.builtin "list.append") [acc,x]) (fun _ s₅=>∃ m,m<n/\I m s₅) (k8 (model prog w) A env fun e s'=>R (.error e) s') s₄) (k8 (model prog w) A env fun e s'=>R (.error e) s') s₃
      else ∃ m,m<n/\I m s₃) (k8 (model prog w) A env fun e s'=>R (.error e) s') s₂) (k8 (model prog w) A env fun e s'=>R (.error e) s') s₀) (k8 (model prog w) A env fun e s'=>R (.error e) s') s₁) (k8 (model prog w) A env fun e s'=>R (.error e) s') s)
  (n:Nat) (h:I n s) :
  eO (model prog w) A (.compLoop (.ListComp elt [⟨target,iter,ifs,0⟩] scope pos) 0 it acc env) R s:=by
 refine codeAny_loop rfl I (fun n s hI=>?_) n h
 show aI _ A ((compTurn (.ListComp elt [⟨target,iter,ifs,0⟩] scope pos) 0 it acc env).onRaise (fun x=>do kO x env;theTreesLotGoes x)) _ _ s
 refine wpAny_noted ?_
 rw [compTurn_list]
 refine af (eJ (af (c8 (turn n s hI) (fun r s₁ h₁=>?_) fun _ _ h'=>h')))
 cases r with
 | none=>exact al h₁
 | some v=>
  refine af (c8 h₁ (fun _ s₀ h₀=>?_) fun _ _ h'=>h')
  refine af (c8 h₀ (fun _ s₂ h₂=>af (c8 h₂ (fun ok s₃ h₃=>?_) fun _ _ h'=>h')) fun _ _ h'=>h')
  cases ok with
  | false=>exact al ⟨rfl,h₃⟩
  | true=>
   exact af (af (c8 h₃ (fun x s₄ h₄=>af (c8 h₄ (fun _ s₅ h₅=>al (al ⟨rfl,h₅⟩)) fun _ _ h'=>h')) fun _ _ h'=>h'))
end
section
variable {X:Cx} {elt tg iter:Expr} {ifs:List Expr} {scope:Scope} {pos:Pos} {N':List Str} {srcs:List (Option Nat)} {cl:List (Str×Addr)} {wi:TI} {g:TG} {tc:TT} {te:TE}
theorem Tn {xe:Value->aj->Prop} {pins:List (Addr×Obj)} {σ:St} {H:Hp} {s:aj} {fp:List Addr} {C D:Addr} {h₁:Heap} {tk:Nat} (S:J5 X N' srcs scope cl) (I:Inv X pins σ H s) (f:∀ b∈fp,Dw X pins H b) (fo:∀ b∈fp,b<s.heap.objs.size)
  (hD:s.heap.objs.size<=D) (hC:s.heap.objs.size<=C) (hDC:C≠D) (hns:∃ m,h₁.Ns C m) (old:∀ b o,s.heap.get? b=some o->h₁.get? b=some o) (hacc:∃ n,h₁.get? D=some { cls:=.type "list", data:=.seq ([]:List Value).toArray n }) :
  Inv (X.comp N' scope cl fp C s H xe) [] (Tm srcs σ) (upd H D (.lst [])) { s with heap:=h₁,toks:=tk }:=by
 have hfD:=I.hok.fresh hD
 have ok:(X.comp N' scope cl fp C s H xe).Ok:=by
  refine⟨I.ok.mod,S.kind,I.ok.glob,I.ok.blt,hC,fun x y c a b=>I.ok.inj x y c (S.sub x c a) (S.sub y c b),S.has,fun x c hf hl=>?_,I.ok.hd,I.ok.frames,.inl rfl,fun b hb=>⟨?_,fun x c hl=>?_⟩,I.bs,aQ I.ok.bsz I.sz,fun b o e hb=>?_,fun b hb hfs=>?_,I.stack,I.stkFree⟩
  ·have hl':cl.lookup x=some c:=hl
   have hf':(cl.lookup x).isNone=true:=hf
   rw [hl'] at hf'
   cases hf'
  ·exact aH (aG (fo b hb) hC)
  ·exact (f b hb).2.2.2.2.1 x c (S.sub x c hl)
  ·rcases (f b hb).2.2.2.1 with z|z
   ·exact I.ok.noex b o e z
   ·exact absurd (aG (aB e) (aQ I.ok.bsz z)) (fu _)
  ·rcases List.mem_cons.mp (I.stkSub b hfs) with z|z
   ·exact (f b hb).2.1 z
   ·exact (f b hb).2.2.1 z
 obtain⟨m0,hns⟩:=hns
 obtain⟨nn,hacc⟩:=hacc
 refine⟨ok,rfl,I.bare,Un.laid old hD hfD,⟨m0,hns,fun k x v e1 e2 e3=>?_⟩,fun x c hl=>?_,?_,fun x c hl=>?_,fun p hp=>absurd (show p∈([]:List (Addr×Obj)) from hp) (by simp),I.hok.laid old hD ⟨cq _,[],nn,.nil,hacc⟩,?_⟩
 ·-- the captured names
  have e1:N'[k]? = some x:=e1
  have e2:(srcs.map fun o=>o.bind fun j=>(σ[j]?).join)[k]? = some (some v):=e2
  rw [ak] at e2
  cases hk:srcs[k]? with
  | none=>rw [hk] at e2;cases e2
  | some o=>
   rw [hk] at e2
   cases o with
   | none=>cases e2
   | some j=>
    have e2':(σ[j]?).join=some v:=aF e2
    have e3':σ[j]? = some (some v):=by
     cases hj:σ[j]? with
     | none=>rw [hj] at e2';cases e2'
     | some y=>rw [hj] at e2';exact congrArg some e2'
    obtain⟨a1,a2,a3⟩:=S.src k j x e1 hk
    obtain⟨m,hn,hl⟩:=I.loc
    obtain⟨u,r,l⟩:=hl j x v a1 e3' (a2.elim (fun z=>.inr (.inl z)) fun z=>.inr (.inr z))
    refine⟨u,r,.inr ⟨a3,?_⟩⟩
    obtain⟨c,hc⟩:=S.has x a3
    refine⟨c,hc,?_⟩
    rcases l with ⟨z,_⟩|⟨_,c',hc',o,ho,hd⟩
    ·have z':X.env.scope.names.lookup x=some .local:=z
     rcases a2 with q|q <;> rw [q] at z' <;> cases z'
    ·have e:=S.sub x c hc
     rw [hc'] at e
     cases e
     exact⟨o,old _ o ho,hd⟩
 ·obtain⟨v,o,ho,hd⟩:=I.cell x c (S.sub x c hl)
  exact⟨v,o,old _ o ho,hd⟩
 ·show upd H D (.lst []) C=none
  rw [Ai hDC]
  exact I.hok.fresh hC
 ·have hx:=S.sub x c hl
  obtain⟨v,o,ho,hd⟩:=I.cell x c hx
  rw [Ai (aH (aG (aB ho) hD))]
  exact I.freeC x c hx
 ·show (Tm srcs σ).length=N'.length
  unfold Tm
  rw [ae,S.len]
noncomputable def Bm (X:Cx) (scope:Scope) (cl:List (Str×Addr)) (use:Option (Value->Sem Unit)) (Q2:Value->aj->Prop) (D C:Addr):Value->aj->Prop:=
 k8 (model X.prog X.w) X.A (l9 scope cl C X.env) fun e s'=>compPost (model X.prog X.w) X.A X.xe use Q2 (.ref D) C (.error e) s'
theorem M8 {pins:List (Addr×Obj)} {s:aj} {σ:St} {H:Hp} {Q:VK} {use:Option (Value->Sem Unit)} {Q2:Value->aj->Prop} (hc:X.calm=true) (S:J5 X N' srcs scope cl) (hi:PI X tg iter wi)
  (hb:∀ fp C D s2 H2,Inv X pins σ H2 s2->(∀ b∈fp,Dw X pins H2 b)->s2.heap.objs.size<=C->PG (X.comp N' scope cl fp C s2 H2 (Bm X scope cl use Q2 D C)) tg g/\Xv (X.comp N' scope cl fp C s2 H2 (Bm X scope cl use Q2 D C)) ifs tc/\PE (X.comp N' scope cl fp C s2 H2 (Bm X scope cl use Q2 D C)) elt te)
  (I:Inv X pins σ H s) (h:aq2 srcs wi g tc te σ H Q)
  (fin:∀ (D C:Addr) (H':Hp) (s':aj),Inv X pins σ H' s'->(∃ m,s'.heap.Ns C m)->Dw X pins H' C->Q (.ref D) H'->compPost (model X.prog X.w) X.A X.xe use Q2 (.ref D) C (.ok .next) s')
  (hs:∀ x,fv iter X.env x=pure x) :
  aI (model X.prog X.w) X.A (comprehension (.ListComp elt [⟨tg,iter,ifs,0⟩] scope pos) scope X.env (firstIterPos [⟨tg,iter,ifs,0⟩] pos) (newList []) false (eval iter X.env) use) Q2 X.xe s:=by
 refine wpAny_comprehension_free rfl hs S.clos S.kind S.names (thn (hi pins s σ H _ I h) fun v s1 h1=>thn h1 fun itv s2 h2=>?_)
 obtain⟨it,fp,tn,J,H2,e,I2,T,st2,f2,q2⟩:=h2
 subst e
 refine cB (wpAny_newFunctionEnv S.nocell (by intro y hy;simp at hy) (fun h₁ hns₁ hsb₁=>?_) S.kind)
 dsimp only at hns₁ hsb₁ ⊢
 generalize hH2:s2.heap.push { cls:=.type "list", dict:=none,data:=.seq ([]:List Value).toArray }=G2 at hns₁ hsb₁ ⊢
 have hCe:G2.objs.size=s2.heap.objs.size+1:=by rw [<- hH2,bJ]
 have hDC:G2.objs.size≠s2.heap.objs.size:=by rw [hCe];exact cx (df _)
 have hCle:s2.heap.objs.size<=G2.objs.size:=by rw [hCe];exact cE _
 have old:∀ b o,s2.heap.get? b=some o->h₁.get? b=some o:=fun b o e=>
  hsb₁.extBut b o (aH (aG (aB e) hCle)) (ag _ (hH2▸ag _ e))
 have hacc:∃ n,h₁.get? s2.heap.objs.size=some { cls:=.type "list", data:=.seq ([]:List Value).toArray n }:=⟨_,hsb₁.extBut _ _ (ck hDC) (ag _ (hH2▸aw _ rfl))⟩
 have fo:∀ b∈fp,b<s2.heap.objs.size:=fun b hb=>by
  obtain⟨o,ho,_⟩:=T.obj _ _ st2 b hb
  exact aB ho
 have st3:tn 0 h₁:=T.keep _ _ _ st2 fun b _ o e=>old b o e
 obtain⟨hg,ht,he⟩:=hb fp G2.objs.size s2.heap.objs.size s2 H2 I2 f2 hCle
 obtain⟨W,⟨m0,w0⟩,turn⟩:=q2 s2.heap.objs.size (I2.hok.fresh (ay _))
 have loop:∀ s3:aj,s3={ s2 with heap:=h₁,toks:=s2.toks+([]:List (Str×Value)).length } ->
   eO (model X.prog X.w) X.A (.compLoop (.ListComp elt [⟨tg,iter,ifs,0⟩] scope pos) 0 (.ref it) (.ref s2.heap.objs.size) (l9 scope cl G2.objs.size X.env))
    (compPost (model X.prog X.w) X.A X.xe use Q2 (.ref s2.heap.objs.size) G2.objs.size) s3:=by
  rintro s3 rfl
  have I3:Inv (X.comp N' scope cl fp G2.objs.size s2 H2 (Bm X scope cl use Q2 s2.heap.objs.size G2.objs.size)) [] (Tm srcs σ) (upd H2 s2.heap.objs.size (.lst [])) { s2 with heap:=h₁,toks:=s2.toks+([]:List (Str×Value)).length }:=
   Tn S I2 f2 fo (ay _) hCle hDC ⟨_,hns₁⟩ old hacc
  have stat:∀ {H':Hp},(∀ b∈fp,H' b=none) -> ∀ b∈fp,Dw (X.comp N' scope cl fp G2.objs.size s2 H2 (Bm X scope cl use Q2 s2.heap.objs.size G2.objs.size)) [] H' b:=fun hn b hb=>
   ⟨hn b hb,aH (aG (fo b hb) hCle),(fun z=>(List.mem_cons.mp (I2.stkSub b z)).elim (f2 b hb).2.1 (f2 b hb).2.2.1),.inl hb,fun x c hl=>(f2 b hb).2.2.2.2.1 x c (S.sub x c hl),fun p hp=>absurd (show p∈([]:List (Addr×Obj)) from hp) (by simp)⟩
  refine Os (fun n s'=>∃ i σ' H',Inv (X.comp N' scope cl fp G2.objs.size s2 H2 (Bm X scope cl use Q2 s2.heap.objs.size G2.objs.size)) [] σ' H' s'/\tn i s'.heap/\(∀ b∈fp,H' b=none)/\W i n σ' H') ?_ m0
   ⟨0,_,_,I3,st3,fun b hb=>by rw [Ai (aH (fo b hb))];exact (f2 b hb).1,w0⟩
  rintro n s4 ⟨i,σ4,H4,I4,st4,fr4,w4⟩
  rcases turn i n σ4 H4 w4 with ⟨stop,qn⟩|⟨go,NN,hNN,step⟩
  ·refine thn (T.done (X.comp N' scope cl fp G2.objs.size s2 H2 (Bm X scope cl use Q2 s2.heap.objs.size G2.objs.size)) rfl rfl rfl hc i [] s4 σ4 H4 _ I4 (stat fr4) st4 stop) fun r s5 ⟨hr,I5⟩=>?_
   subst hr
   obtain⟨m5,hn5,_⟩:=id I5.loc
   have I6:Inv X pins σ H4 s5:=I2.call' (ch:=fp) I5.os I5.base I5.hok I5.bare fun b hb=>⟨(f2 b hb).2.2.2.1,(f2 b hb).2.1,(f2 b hb).2.2.2.2.1,(f2 b hb).2.2.2.2.2⟩
   exact fin _ _ H4 s5 I6 ⟨m5,hn5⟩ (I2.fpOk hCle I5.free) qn
  ·refine thn (T.item (X.comp N' scope cl fp G2.objs.size s2 H2 (Bm X scope cl use Q2 s2.heap.objs.size G2.objs.size)) rfl rfl rfl hc i [] s4 σ4 H4 _ I4 (stat fr4) st4 go) fun r s5 ⟨u,hr,h5⟩=>?_
   subst hr
   refine thn h5 fun _ s6 ⟨x,H6,I6,r6,y6,st6,fr6⟩=>?_
   have I6':=I6.pinned (stat fr6) (T.obj _ _ st6)
   refine thn (hg _ s6 σ4 H6 x u _ I6' r6 (step x H6 y6)) fun _ s7 ⟨σ7,H7,I7,q7⟩=>?_
   have again:∀ {s9:aj} {H9:Hp},Inv (X.comp N' scope cl fp G2.objs.size s2 H2 (Bm X scope cl use Q2 s2.heap.objs.size G2.objs.size)) ([]++Il fp s6.heap) σ7 H9 s9->NN σ7 H9 ->
     ∃ m,m<n /\ ∃ i σ' H',Inv (X.comp N' scope cl fp G2.objs.size s2 H2 (Bm X scope cl use Q2 s2.heap.objs.size G2.objs.size)) [] σ' H' s9/\tn i s9.heap/\(∀ b∈fp,H' b=none)/\W i m σ' H':=fun {s9 H9} I9 n9=>by
    obtain⟨m',hm,w9⟩:=hNN σ7 H9 n9
    refine⟨m',hm,i+1,σ7,H9,I9.unpinned,T.keep _ _ _ st6 fun b hb o e=>(I9.pin (b,o) (bu _ (bu _ (E6 hb e)))).1,fun b hb=>?_,w9⟩
    obtain⟨o,e,d⟩:=T.obj _ _ st6 b hb
    exact (I9.pin (b,o) (bu _ (bu _ (E6 hb e)))).2.1
   refine thn (ht _ s7 σ7 H7 _ I7 q7) fun b s8 ⟨H8,I8,q8⟩=>?_
   cases b with
   | false=>
    rw [if_neg am] at q8
    exact again I8 q8
   | true=>
    rw [if_pos rfl] at q8
    refine thn (he _ s8 σ7 H8 _ I8 q8) fun y s9 ⟨v9,H9,I9,r9,ys,hD,hlen,w9⟩=>?_
    refine thn (Nx (X:=X.comp N' scope cl fp G2.objs.size s2 H2 (Bm X scope cl use Q2 s2.heap.objs.size G2.objs.size)) ([]++Il fp s6.heap) s9 σ7 H9 (.ref s2.heap.objs.size) [v9] (.ref s2.heap.objs.size) [y] (fun _ H'=>H'=upd H9 s2.heap.objs.size (.lst (ys++[v9]))) I9 rfl (.cons r9 .nil)
     ⟨_,ys,v9,rfl,rfl,hD,hlen,rfl⟩) fun _ s10 ⟨_,H10,I10,_,e10⟩=>?_
    subst e10
    exact again I10 w9
 exact codeAny_compStart_list (loop _ rfl) (T.self X.A 0 _ _ _ st3 (loop _ rfl))
theorem ae5 {pins:List (Addr×Obj)} {s:aj} {σ:St} {H:Hp} {Q:VK} (hc:X.calm=true) (S:J5 X N' srcs scope cl) (hi:PI X tg iter wi)
  (hb:∀ Q2 fp C D s2 H2,Inv X pins σ H2 s2->(∀ b∈fp,Dw X pins H2 b)->s2.heap.objs.size<=C->PG (X.comp N' scope cl fp C s2 H2 (Bm X scope cl none Q2 D C)) tg g/\Xv (X.comp N' scope cl fp C s2 H2 (Bm X scope cl none Q2 D C)) ifs tc/\PE (X.comp N' scope cl fp C s2 H2 (Bm X scope cl none Q2 D C)) elt te)
  (I:Inv X pins σ H s) (h:aq2 srcs wi g tc te σ H Q) (hs:∀ x,fv iter X.env x=pure x) :
  aI (model X.prog X.w) X.A (eval (.ListComp elt [⟨tg,iter,ifs,0⟩] scope pos) X.env) (EP X pins σ Q) X.xe s:=by
 rw [eval_ListComp]
 refine M8 (use:=none) hc S hi (fun fp C D s2 H2=>hb _ fp C D s2 H2) I h (fun D C H' s' I' ns fo q=>?_) hs
 obtain⟨m,hn⟩:=ns
 obtain⟨f0,f1,f2,f3,f4,f5⟩:=fo
 exact⟨m,hn,fun h' sb=>⟨.ref D,H',I'.turned (t':=s'.toks) (fun b o hb e=>(sb.2 b hb).trans e) f0 f1 f3 f4 f5,rfl,q⟩⟩
theorem ae4 {i:Nat} {x:Str} {pos' spos:Pos} {pins:List (Addr×Obj)} {s:aj} {σ:St} {H:Hp} {D:Mi} (hc:X.calm=true) (hN:X.N.Nodup) (hx:X.N[i]? = some x) (hl:X.env.scope.names.lookup x=some .local) (S:J5 X N' srcs scope cl) (hi:PI X tg iter wi)
  (hb:∀ us Q2 fp C D s2 H2,Inv X pins σ H2 s2->(∀ b∈fp,Dw X pins H2 b)->s2.heap.objs.size<=C->PG (X.comp N' scope cl fp C s2 H2 (Bm X scope cl us Q2 D C)) tg g/\Xv (X.comp N' scope cl fp C s2 H2 (Bm X scope cl us Q2 D C)) ifs tc/\PE (X.comp N' scope cl fp C s2 H2 (Bm X scope cl us Q2 D C)) elt te)
  (I:Inv X pins σ H s) (h:bp6 (aq2 srcs wi g tc te) (ag1 i) D σ H)
  (hsw:iY (.ListComp elt [⟨tg,iter,ifs,0⟩] scope pos) (some (.Name x pos')) spos.line X.env=pure true) (hs:∀ x,fv iter X.env x=pure x) :
  aI (model X.prog X.w) X.A (exec (.Assign [.Name x pos'] (.ListComp elt [⟨tg,iter,ifs,0⟩] scope pos) spos) X.env) (SP X pins D) X.xe s:=by
 rw [exec_Assign_Name_used _ _ _ _ hsw]
 refine af (eJ (af ?_))
 show aI _ X.A (do let _ <- comprehension (.ListComp elt [⟨tg,iter,ifs,0⟩] scope pos) scope X.env _ (newList []) false (eval iter X.env) (some (lA (.Name x pos') X.env))) _ _ s
 refine af (thn (M8 (use:=some (lA (.Name x pos') X.env)) (Q:=fun v H'=>D.nx (σ.set i (some v)) H') (Q2:=fun _ s'=>SP X pins D .next s') hc S hi (fun fp C D s2 H2=>hb _ _ fp C D s2 H2) I h (fun L C H' s' I' ns fo q=>?_) hs) fun _ s' hq=>al (al hq))
 obtain⟨m,hn⟩:=ns
 obtain⟨f0,f1,f2,f3,f4,f5⟩:=fo
 obtain⟨oC,es,ep,hoC,hd,hr⟩:=id hn
 have I2:Inv X (pins++[(C,oC)]) σ H' s':=I'.pins_of fun p hp=>(List.mem_append.mp hp).elim (fun z=>I'.pin p (bu _ z)) fun z=>by
  have z':p=(C,oC):=by simpa using z
  subst z'
  exact⟨hoC,f0,f1,f2,fun v e=>by rw [hd] at e;cases e⟩
 refine wpAny_assign_Name (Hn (i:=i) (v:=.ref L) I2 hN hx (.inl hl) rfl (fun s2 I3=>?_) (.inr hl))
 have hoC':=(I3.pin (C,oC) (bu _ (bu _ (by simp)))).1
 refine⟨m,⟨oC,es,ep,hoC',hd,hr⟩,fun h' sb=>?_⟩
 exact⟨_,H',(I3.unpinned).turned (t':=s2.toks) (fun b o hb e=>(sb.2 b hb).trans e) f0 f1 f3 f4 f5,q⟩
end
noncomputable def Its (x:Str):It:=⟨fun i _=>i<x.cps.size,fun i H v H'=>H'=H /\ ∃ c,x.cps[i]? = some c/\v=.str ⟨#[c]⟩,fun i _=>i=x.cps.size⟩
theorem aq7 {P:aV} {w:bM} {K:ac} {tg:Expr} (it:Addr) (x:Str) (t:Tok) (ty:String) (hty:ty = "str_ascii_iterator" \/ ty = "str_iterator") :
  Oe P w K tg (Its x) [it] it (fun i h=>h.IsStrIter it ty x t i) where
 mem:=by simp
 obj:=fun i h st b hb=>by
  have e:b=it:=by simpa using hb
  subst e
  obtain⟨o,e,c,d⟩:=st
  exact⟨o,e,fun v z=>by rw [d] at z;cases z⟩
 keep:=fun i h h' st k=>by
  obtain⟨o,e,r⟩:=st
  exact⟨o,k it (by simp) o e,r⟩
 item:=by
  intro X hP hw hK hc i pins s σ H E I hf st hg
  subst hP hw hK
  obtain⟨f0,f1,f2,f3,f4,f5⟩:=hf it (by simp)
  have W:lY X.prog X.w X.A it [it] [it] x.cps.size (SignAt x) (fun i h=>h.IsStrIter it ty x t i):=by
   rcases hty with rfl|rfl
   ·exact Walks.strAscii (I.ok.hd hc) it x t
   ·exact Walks.strWide (I.ok.hd hc) it x t
  refine W.item i s _ _ hg st fun v h' tk hv st' kk=>?_
  obtain⟨c,u,hcp,rfl⟩:=hv
  have I1:Inv X pins σ H { s with heap:=h',toks:=tk }:=I.turned (fun b o hb e=>kk b o (by simpa using hb) e) f0 f1 f3 f4 f5
  obtain⟨o,e,cc,d⟩:=id st'
  exact⟨_,rfl,Nj (s:={ s with heap:=h',toks:=tk }) e cc d (by rcases hty with rfl|rfl <;> decide) ⟨.str ⟨#[c]⟩,H,I1,⟨_,rfl⟩,⟨rfl,c,hcp,rfl⟩,st',fun b hb=>(hf b hb).1⟩⟩
 done:=by
  intro X hP hw hK hc i pins s σ H E I hf st hg
  subst hP hw hK
  obtain⟨f0,f1,f2,f3,f4,f5⟩:=hf it (by simp)
  have hg:i=x.cps.size:=hg
  subst hg
  have W:lY X.prog X.w X.A it [it] [it] x.cps.size (SignAt x) (fun i h=>h.IsStrIter it ty x t i):=by
   rcases hty with rfl|rfl
   ·exact Walks.strAscii (I.ok.hd hc) it x t
   ·exact Walks.strWide (I.ok.hd hc) it x t
  exact W.done s _ _ st fun h' tk kk=>⟨rfl,I.turned (fun b o hb e=>kk b o (by simpa using hb) e) f0 f1 f3 f4 f5⟩
 self:=by
  intro A i s Q E st h
  rcases hty with rfl|rfl
  ·exact wpAny_pyIter_striter_ascii st h
  ·exact wpAny_pyIter_striter_wide st h
section
variable {X:Cx} {tg:Expr}
end
section
variable {X:Cx} {pins:List (Addr×Obj)} {σ:St} {H:Hp} {s:aj} {h':Heap} {ch:List Addr} {t':Nat}
theorem Inv.turnedL (I:Inv X pins σ H s) (hf:∀ b∈ch,Dw X pins H b) (k:∀ b o,b∉ch->s.heap.get? b=some o->h'.get? b=some o):Inv X pins σ H { s with heap:=h',toks:=t' }:=by
 have tr:∀ b ob,H b=some ob->b∉ch:=fun b ob e hb=>by rw [(hf b hb).1] at e;cases e
 refine I.step (g':=s.gens) (d':=s.drawn) (ch:=ch) (fun b hb=>⟨(hf b hb).2.2.2.1,(hf b hb).2.1,(hf b hb).2.2.2.2.1,(hf b hb).2.2.2.2.2⟩) (fun b o _ _ hb e _=>k b o hb e) (fun b o _ _ hb e _=>⟨o.slots,k b o hb e⟩) (fun _ _ _ _ n=>n) (fun b o hb e=>⟨o,k b o hb e⟩)
  (fun _ _ e=>e) (fun _ _ _ e=>e) (fun b ps e=>⟨#[],by rw [e];simp⟩) (fun m hm=>?_) (fun b ob e=>?_) I.bare
 ·obtain⟨o,es,ep,ho,r⟩:=hm
  exact⟨o,es,ep,k _ o (fun z=>(hf _ z).2.1 rfl) ho,r⟩
 ·refine (I.hok b ob e).stay (fun b' w' hc' q=>k b' w' ?_ q) (fun _ q=>q) fun _ _ q=>q
  rcases hc' with rfl|hc'
  ·exact tr _ _ e
  ·exact tr _ _ hc'
theorem Inv.turnedN {T:Addr} {o:HO} (I:Inv X pins σ H s) (hf:∀ b∈ch,Dw X pins H b) (k:∀ b o,b∉ch->s.heap.get? b=some o->h'.get? b=some o) (hT:s.heap.objs.size<=T) (new:ObjOk X.prog X.w (upd H T o) h' T o) :
  Inv X pins σ (upd H T o) { s with heap:=h',toks:=t' }:=by
 have tr:∀ b ob,H b=some ob->b∉ch:=fun b ob e hb=>by rw [(hf b hb).1] at e;cases e
 have hn:=I.hok.fresh hT
 have nT:∀ {b o},s.heap.get? b=some o->b≠T:=fun e=>aH (aG (aB e) hT)
 refine I.step (g':=s.gens) (d':=s.drawn) (ch:=ch) (fun b hb=>⟨(hf b hb).2.2.2.1,(hf b hb).2.1,(hf b hb).2.2.2.2.1,(hf b hb).2.2.2.2.2⟩) (fun b o _ _ hb e _=>k b o hb e) (fun b o _ _ hb e _=>⟨o.slots,k b o hb e⟩) (fun b o _ e n=>by rw [Ai (nT e)];exact n) (fun b o hb e=>⟨o,k b o hb e⟩)
  (fun b zs e=>by rw [Ai (Ak e hn)];exact e) (fun b o zs e=>by rw [Ai (Ak e hn)];exact e) (fun b ps e=>⟨#[],by rw [Ai (Ak e hn),e];simp⟩) (fun m hm=>?_) (fun b ob e=>?_) I.bare
 ·obtain⟨o,es,ep,ho,r⟩:=hm
  exact⟨o,es,ep,k _ o (fun z=>(hf _ z).2.1 rfl) ho,r⟩
 ·by_cases hb:b=T
  ·subst hb
   rw [Ad] at e
   cases e
   exact new
  ·rw [Ai hb] at e
   refine (I.hok b ob e).stay (fun b' w' hc' q=>k b' w' ?_ q) (fun b' q=>by rw [Ai (Ak q hn)];exact q) fun b' zs q=>by rw [Ai (Ak q hn)];exact q
   rcases hc' with rfl|hc'
   ·exact tr _ _ e
   ·exact tr _ _ hc'
end
section
variable {X:Cx}
end
theorem Zc {bs:List Bool}:(aq bs.length).all (fun i=>bs.getD i true)=bs.all fun b=>b:=by
 rw [bQ,aW,aW]
 constructor
 ·intro h b hb
  obtain⟨i,hi,e⟩:=List.mem_iff_getElem.mp hb
  have q:=h i (List.mem_range.mpr hi)
  rw [aC,ah hi,e] at q
  exact q
 ·intro h i hi
  have hi:=List.mem_range.mp hi
  rw [aC,ah hi]
  exact h _ (cy hi)
section
variable {X:Cx}
theorem ae1 (hc:X.calm=true):Cz X (.builtin "all") (fun xs H Q=>∃ (p:Addr) (bs:List Bool),xs=[.ref p]/\SqL X.K H p (bs.map V.bl)/\Q (.bl (bs.all fun b=>b)) H):=by
 intro pins s σ H xs us Q I r h
 obtain⟨p,bs,rfl,hq,q⟩:=h
 obtain⟨u,rfl,ru⟩:=r.one
 cases ru
 obtain⟨its,rv,pl,hz⟩:=I.list hq
 have hlen:=rv.length
 rw [ae] at hlen
 obtain⟨o,n,e,c,hd,ds⟩:=id pl
 have plt:=aB e
 refine call_all_walk (gK pl.isList ?_)
 refine⟨s.heap.objs.size,_,_,_,_,_,(fun i=>bs.getD i true),rfl,Walks.list (A:=X.A.in1) (show X.A.in1.handled=none from I.ok.hd hc) s.heap.objs.size p (aH plt) its.toArray,⟨⟨_,aw _ rfl,rfl,rfl⟩,pl.isList.push _⟩,?_,fun h' tk kk=>?_⟩
 ·intro i v s' Q' E' hv hq'
  have hv:its[i]? = some v:=by simpa using hv
  have hi:i<bs.length:=by rw [hlen];exact (List.getElem?_eq_some_iff.mp hv).1
  have e1:(bs.map V.bl)[i]? = some (.bl bs[i]):=by simp [hi]
  obtain⟨u',hu',ru'⟩:=rv.get e1
  rw [hv] at hu'
  cases hu'
  cases ru'
  have e2:bs.getD i true=bs[i]:=by simp [aC,hi]
  have hq':Q' (bs.getD i true) s':=hq'
  rw [e2] at hq'
  exact eB hq'
 ·have e3:(aq its.toArray.size).all (fun i=>bs.getD i true)=bs.all fun b=>b:=by
   rw [av,<- hlen]
   exact Zc
  rw [e3]
  refine⟨.bl _,H,I.kept (t':=tk) fun b o' eb=>kk b o' ?_ (ag _ eb),rfl,q⟩
  have hb:b≠s.heap.objs.size:=aH (aB eb)
  simpa using hb
theorem ae2:Cz X (.builtin "isinstance") (fun xs H Q=>∃ x T t b,xs=[x,.ty T]/\TyOf X.K H x t/\fJ X.K t (.type T)=some b/\Q (.bl b) H):=by
 intro pins s σ H xs us Q I r h
 obtain⟨x,T,t,b,rfl,ty,e,q⟩:=h
 obtain⟨u,v,rfl,ru,rv⟩:=r.two
 cases rv
 exact Nm I ru ty e fun tk=>⟨.bl b,H,I.tok tk,rfl,q⟩
theorem Y5:OpR X (cT .LtE) (fun x y H Q=>∃ i j,x=.str i/\y=.str j/\Q (.bl (!decide (j.cps.toList<i.cps.toList))) H):=by
 intro pins s σ H x y v u Q I rx ry h
 obtain⟨i,j,rfl,rfl,q⟩:=h
 obtain⟨t,rfl⟩:=rx
 obtain⟨t',rfl⟩:=ry
 exact PySem.P.le_str ⟨.bl _,H,I,rfl,q⟩
theorem aw5:MtR X "int.bit_length" (fun x xs H Q=>∃ i,x=.int i/\xs=[]/\Q (.int (hZ i:Nat)) H):=by
 intro pins s σ H x xs v us Q I rx rs h
 obtain⟨i,rfl,rfl,q⟩:=h
 obtain⟨t,rfl⟩:=rx
 cases rs
 exact call_gives F.slot_int_bit_length (typeIs_int s i t) F.entry_int_bit_length (F.args_int_bit_length_1 _) (AutoIntG2.int_bit_length_int_0 i t) ⟨.int _,H,I.tok _,⟨_,rfl⟩,q⟩
end
noncomputable def Ki (xs ys:List V):Bool:=decide (xs.length=ys.length)&&(aq xs.length).all fun j=>eqV (xs.getD j .non) (ys.getD j .non)
theorem Hb {xs ys:List V} (h:xs.length≠ys.length):Ki xs ys=false:=by
 unfold Ki
 rw [decide_eq_false h]
 rfl
noncomputable def bk7 (K:ac) (neg:Bool):R2:=fun x y H Q=>∃ a b xs ys,x=.ref a/\y=.ref b/\SqL K H a xs/\SqL K H b ys/\xs.all B7=true/\ys.all B7=true/\Q (.bl (if neg then !Ki xs ys else Ki xs ys)) H
section
variable {X:Cx}
theorem Kr {A:bi} {s:aj} {xs ys:List V} {us ws:List Value} (rx:Vals xs us) (ry:Vals ys ws) (fx:xs.all B7=true) (fy:ys.all B7=true) (j:Nat) (h1:j<us.toArray.size) (h2:j<ws.toArray.size) :
  bE A s us.toArray[j] ws.toArray[j] (eqV (xs.getD j .non) (ys.getD j .non)):=by
 have e1:=rx.length
 have e2:=ry.length
 have h1':j<us.length:=by simpa using h1
 have h2':j<ws.length:=by simpa using h2
 have a1:xs[j]? = some (xs[j]'(by omega)):=by simp
 have a2:ys[j]? = some (ys[j]'(by omega)):=by simp
 obtain⟨u,hu,ru⟩:=rx.get a1
 obtain⟨v,hv,rv⟩:=ry.get a2
 have b1:us.toArray[j]=u:=by
  have:us[j]? = some us[j]:=by simp
  rw [this] at hu
  simpa using aF hu
 have b2:ws.toArray[j]=v:=by
  have:ws[j]? = some ws[j]:=by simp
  rw [this] at hv
  simpa using aF hv
 have c1:xs.getD j .non=xs[j]'(by omega):=by rw [aC,a1];rfl
 have c2:ys.getD j .non=ys[j]'(by omega):=by rw [aC,a2];rfl
 rw [b1,b2,c1,c2]
 exact Tv ru rv (List.all_eq_true.mp fx _ (cy _)) (List.all_eq_true.mp fy _ (cy _))
theorem bf2 (hu:X.A.units<cLine):OpR X (cT .Eq) (bk7 X.K false):=by
 intro pins s σ H x y v u Q I rx ry h
 obtain⟨a,b,xs,ys,rfl,rfl,qa,qb,fx,fy,q⟩:=h
 cases rx
 cases ry
 obtain⟨its,r,pl,hz⟩:=I.list qa
 obtain⟨its2,r2,pl2,hz2⟩:=I.list qb
 have e1:=r.length
 have e2:=r2.length
 by_cases hl:xs.length=ys.length
 ·refine SeqAt.eq_listAt (e:=fun j=>eqV (xs.getD j .non) (ys.getD j .non)) pl.isList pl2.isList (by simp;omega) hu (fun j h1 h2=>Kr r r2 fx fy j h1 h2) ⟨.bl _,H,I,rfl,?_⟩
  have e:Ki xs ys=(aq its.toArray.size).all fun j=>eqV (xs.getD j .non) (ys.getD j .non):=by
   unfold Ki
   rw [decide_eq_true hl,av,<- e1]
   rfl
  rw [<- e]
  exact q
 ·refine SeqAt.eq_list_lengthsAt pl.isList pl2.isList (by simp;omega) hu ⟨.bl _,H,I,rfl,?_⟩
  rw [Hb hl] at q
  exact q
theorem bf6 (hu:X.A.units<cLine):OpR X (cT .NotEq) (bk7 X.K true):=by
 intro pins s σ H x y v u Q I rx ry h
 obtain⟨a,b,xs,ys,rfl,rfl,qa,qb,fx,fy,q⟩:=h
 cases rx
 cases ry
 obtain⟨its,r,pl,hz⟩:=I.list qa
 obtain⟨its2,r2,pl2,hz2⟩:=I.list qb
 have e1:=r.length
 have e2:=r2.length
 by_cases hl:xs.length=ys.length
 ·refine SeqAt.RcNeAt.lists (e:=fun j=>eqV (xs.getD j .non) (ys.getD j .non)) pl.isList pl2.isList (by simp;omega) hu (fun j h1 h2=>Kr r r2 fx fy j h1 h2) _ _ _ _ ⟨.bl _,H,I,rfl,?_⟩
  have e:Ki xs ys=(aq its.toArray.size).all fun j=>eqV (xs.getD j .non) (ys.getD j .non):=by
   unfold Ki
   rw [decide_eq_true hl,av,<- e1]
   rfl
  rw [<- e]
  exact q
 ·refine SeqAt.RcNeAt.lists_lengths pl.isList pl2.isList (by simp;omega) hu _ _ _ _ ⟨.bl _,H,I,rfl,?_⟩
  rw [Hb hl] at q
  exact q
end
theorem aj0 {cl:List (Str×Addr)} {x:Str} (h:x∈cl.map (·.1)):∃ c,cl.lookup x=some c:=by
 induction cl with
 | nil=>simp at h
 | cons p r ih=>
  obtain⟨n,a⟩:=p
  rw [jg]
  cases e:x==n with
  | true=>exact⟨a,rfl⟩
  | false=>
   refine ih ?_
   rcases List.mem_cons.mp h with q|q
   ·rw [show x=n from q] at e;simp at e
   ·exact q
section
variable {X:Cx} {e:Expr} {te:TE} {lo hi:Option Expr} {tl th:TO} {pos p2:Pos}
theorem Wb {ys:List Str}:∀ {us:List Value},Vals (ys.map V.str) us->StrsAre us ys:=by
 induction ys with
 | nil=>intro us r;rw [gO] at r;cases r;exact .nil
 | cons y ys ih=>
  intro us r
  rw [be] at r
  cases r with
  | cons r1 r2=>
   obtain⟨t,e⟩:=r1
   subst e
   exact .cons y t (ih r2)
theorem aw6:MtR X "str.join" (fun x xs H Q=>∃ z p ys,x=.str z/\xs=[.ref p]/\SqL X.K H p (ys.map V.str)/\(ys.map (·.length)).sum+ys.length * z.length<=16777216/\Q (.str (Txt.join z ys)) H):=by
 intro pins s σ H x xs v us Q I rx rs h
 obtain⟨z,p,ys,rfl,rfl,hq,hz,q⟩:=h
 obtain⟨t,rfl⟩:=rx
 obtain⟨u,rfl,ru⟩:=rs.one
 cases ru
 obtain⟨its,rv,pl,_⟩:=I.list hq
 exact PyProof.Rows.join_list pl.isList (by simpa using Wb rv) hz fun t' k=>⟨.str _,H,I.tok k,⟨_,rfl⟩,q⟩
end
end L2
set_option maxHeartbeats 4000000
namespace L2
open PySem PySem.Spec PyProof.Rows
section
variable {κ:Type} [DecidableEq κ]
noncomputable def Bn (kvs:List (κ×V)) (k:κ):Option V:=(kvs.find? fun kv=>decide (kv.1=k)).map (·.2)
noncomputable def Dl (kvs:List (κ×V)) (k:κ) (v:V):List (κ×V):=
 if (kvs.any fun kv=>decide (kv.1=k))=true then kvs.map (fun kv=>if kv.1=k then (kv.1,v) else kv) else kvs++[(k,v)]
theorem B3 {p:κ×V} {r:List (κ×V)} {k:κ} (e:p.1=k):Bn (p::r) k=some p.2:=by simp [Bn,bR,e]
theorem Bt {p:κ×V} {r:List (κ×V)} {k:κ} (e:¬ p.1=k):Bn (p::r) k=Bn r k:=by simp [Bn,bR,e]
theorem Fx (k:κ):∀ kvs:List (κ×V),(kvs.any fun kv=>decide (kv.1=k))=(Bn kvs k).isSome
 | []=>rfl
 | p::r=>by
  rw [dM]
  by_cases e:p.1=k
  ·simp only [B3 e,decide_eq_true e,Bool.true_or,Option.isSome_some]
  ·rw [Bt e,decide_eq_false e,i3];exact Fx k r
theorem Sy (k j:κ) (y:V):∀ kvs:List (κ×V),Bn (kvs.map fun kv=>if kv.1=k then (kv.1,y) else kv) j=(Bn kvs j).map fun x=>if j=k then y else x
 | []=>rfl
 | p::r=>by
  have ih:=Sy k j y r
  rw [be]
  by_cases h:p.1=k
  ·rw [if_pos h]
   by_cases e:p.1=j
   ·rw [B3 (p:=(p.1,y)) e,B3 e,il,if_pos (e.symm.trans h)]
   ·rw [Bt (p:=(p.1,y)) e,Bt e,ih]
  ·rw [if_neg h]
   by_cases e:p.1=j
   ·rw [B3 (p:=p) e,B3 e,il,if_neg (fun z=>h (e.trans z))]
   ·rw [Bt (p:=p) e,Bt e,ih]
theorem Ob (k j:κ) (y:V):∀ kvs:List (κ×V),Bn kvs k=none->Bn (kvs++[(k,y)]) j=if j=k then some y else Bn kvs j
 | [],_=>by
  by_cases e:k=j
  ·rw [if_pos e.symm];exact B3 (p:=(k,y)) e
  ·rw [if_neg (fun z=>e z.symm)];exact Bt (p:=(k,y)) e
 | p::r,hn=>by
  rw [eK]
  have hk:¬ p.1=k:=fun z=>by rw [B3 z] at hn;cases hn
  rw [Bt hk] at hn
  have ih:=Ob k j y r hn
  by_cases e:p.1=j
  ·rw [B3 e,B3 e,if_neg (fun z=>hk (e.trans z))]
  ·rw [Bt e,Bt e,ih]
theorem ar0 (kvs:List (κ×V)) (k j:κ) (y:V):Bn (Dl kvs k y) j=if j=k then some y else Bn kvs j:=by
 unfold Dl
 by_cases a:(kvs.any fun kv=>decide (kv.1=k))=true
 ·rw [if_pos a,Sy]
  rw [Fx] at a
  by_cases e:j=k
  ·obtain⟨x,hx⟩:=Option.isSome_iff_exists.mp a
   rw [if_pos e,e,hx,il,if_pos rfl]
  ·rw [if_neg e]
   cases Bn kvs j with
   | none=>rfl
   | some x=>rw [il,if_neg e]
 ·rw [if_neg a]
  refine Ob k j y kvs ?_
  rw [Fx] at a
  cases q:Bn kvs k with
  | none=>rfl
  | some x=>rw [q] at a;exact (a rfl).elim
theorem Ei (kvs:List (κ×V)) (k:κ) (v:V):(Dl kvs k v).length<=kvs.length+1:=by
 unfold Dl
 split
 ·rw [ae];omega
 ·rw [aJ,aN,jF];omega
theorem Hj {kvs:List (κ×V)} {k:κ} (v:V) (h:Bn kvs k=none):Dl kvs k v=kvs++[(k,v)]:=by
 unfold Dl
 rw [Fx,h]
 exact if_neg (by decide)
theorem RelO.isSome_eq {o:Option V} {u:Option Value} (r:RelO o u):o.isSome=u.isSome:=by
 cases o with
 | none=>cases u with
  | none=>rfl
  | some _=>exact (show False from r).elim
 | some _=>cases u with
  | none=>exact (show False from r).elim
  | some _=>rfl
theorem KV.val {kvs:List (κ×V)} {vs:List (κ×Value)} (r:KV kvs vs) (k:κ):RelO (Bn kvs k) (k_ vs k):=by
 unfold KV at r
 induction r with
 | nil=>exact bC
 | @cons p q ps qs h t ih=>
  obtain⟨h1,h2⟩:=h
  by_cases e:p.1=k
  ·have e':q.1=k:=h1.symm.trans e
   have b:k_ (q::qs) k=some q.2:=by simp [k_,bR,e']
   rw [B3 e,b];exact h2
  ·have e':¬ q.1=k:=fun z=>e (h1.trans z)
   have b:k_ (q::qs) k=k_ qs k:=by simp [k_,bR,e']
   rw [Bt e,b];exact ih
theorem KV.any {kvs:List (κ×V)} {vs:List (κ×Value)} (r:KV kvs vs) (k:κ):(kvs.any fun kv=>decide (kv.1=k))=vs.any fun kv=>decide (kv.1=k):=by
 unfold KV at r
 induction r with
 | nil=>rfl
 | cons h t ih=>rw [dM,dM,ih,h.1]
theorem KV.repl {kvs:List (κ×V)} {vs:List (κ×Value)} (r:KV kvs vs) (k:κ) {y:V} {u:Value} (ry:RelV y u) :
  KV (kvs.map fun kv=>if kv.1=k then (kv.1,y) else kv) (vs.map fun kv=>if kv.1=k then (kv.1,u) else kv):=by
 unfold KV at r ⊢
 induction r with
 | nil=>exact .nil
 | @cons p q ps qs h t ih=>
  rw [be,be]
  refine .cons ?_ ih
  obtain⟨h1,h2⟩:=h
  by_cases e:p.1=k
  ·rw [if_pos e,if_pos (h1.symm.trans e)];exact⟨h1,ry⟩
  ·rw [if_neg e,if_neg (fun z=>e (h1.trans z))];exact⟨h1,h2⟩
theorem KV.put {kvs:List (κ×V)} {vs:List (κ×Value)} (r:KV kvs vs) (k:κ) {y:V} {u:Value} (ry:RelV y u):KV (Dl kvs k y) (stored vs k u):=by
 unfold Dl stored
 rw [r.any k]
 by_cases e:(vs.any fun kv=>decide (kv.1=k))=true
 ·rw [if_pos e,if_pos e];exact r.repl k ry
 ·rw [if_neg e,if_neg e];exact Paired.snoc r ⟨rfl,ry⟩
theorem KV.length {kvs:List (κ×V)} {vs:List (κ×Value)} (r:KV kvs vs):kvs.length=vs.length:=g9 r
end
theorem No {P:aV} {w:bM} {k:Key} {u:Value} (r:RelV (kV k) u):(A7 P w).is k u=true:=by
 cases k with
 | inl i=>obtain⟨t,e⟩:=(show ∃ t,u=kK i t from r);subst e;exact Rr P w i t
 | inr x=>obtain⟨t,e⟩:=(show ∃ t,u=kL x t from r);subst e;exact Rs P w x t
theorem Nn {P:aV} {w:bM}:∀ {ks:List Key} {us:List Value},Vals (ks.map kV) us->ItemsAre (A7 P w) ks us
 | [],_,r=>by rw [gO] at r;cases r;exact .nil
 | k::ks,_,r=>by
  rw [be] at r
  cases r with
  | cons h t=>exact .cons (No h) (Nn t)
noncomputable abbrev KT (H:Hp):List (List Key×V)->List (List Key×Addr×Value)->Prop:=gQ fun p q=>p.1=q.1/\H q.2.1=some (.tup (p.1.map kV))/\RelV p.2 q.2.2
theorem KT.val {H:Hp} {kvs:List (List Key×V)} {xs:List (List Key×Addr×Value)} (r:KT H kvs xs) (k:List Key):RelO (Bn kvs k) ((lG xs k).map (·.2)):=by
 induction r with
 | nil=>exact bC
 | @cons p q ps qs h t ih=>
  obtain⟨h1,_,h2⟩:=h
  by_cases e:p.1=k
  ·have e':q.1=k:=h1.symm.trans e
   have b:lG (q::qs) k=some q.2:=by simp [lG,bR,e']
   rw [B3 e,b];exact h2
  ·have e':¬ q.1=k:=fun z=>e (h1.trans z)
   have b:lG (q::qs) k=lG qs k:=by simp [lG,bR,e']
   rw [Bt e,b];exact ih
theorem KT.repl {H:Hp} {kvs:List (List Key×V)} {xs:List (List Key×Addr×Value)} (r:KT H kvs xs) (k:List Key) {y:V} {u:Value} (ry:RelV y u) :
  KT H (kvs.map fun kv=>if kv.1=k then (kv.1,y) else kv) (xs.map (putAt k u)):=by
 induction r with
 | nil=>exact .nil
 | @cons p q ps qs h t ih=>
  rw [be,be]
  refine .cons ?_ ih
  obtain⟨h1,h2,h3⟩:=h
  unfold putAt
  by_cases e:p.1=k
  ·rw [if_pos e,if_pos (h1.symm.trans e)];exact⟨h1,h2,ry⟩
  ·rw [if_neg e,if_neg (fun z=>e (h1.trans z))];exact⟨h1,h2,h3⟩
theorem KT.put {H:Hp} {kvs:List (List Key×V)} {xs:List (List Key×Addr×Value)} (r:KT H kvs xs) (k:List Key) {b:Addr} {y:V} {u:Value} (hb:H b=some (.tup (k.map kV))) (ry:RelV y u) :
  KT H (Dl kvs k y) (storedH xs k b u):=by
 have e:(kvs.any fun kv=>decide (kv.1=k))=(lG xs k).isSome:=by
  rw [Fx,(r.val k).isSome_eq,iP]
 unfold Dl storedH
 rw [e]
 by_cases q:(lG xs k).isSome=true
 ·rw [if_pos q,if_pos q];exact r.repl k ry
 ·rw [if_neg q,if_neg q];exact Paired.snoc r ⟨rfl,hb,ry⟩
theorem KT.keeps {H H':Hp} {kvs:List (List Key×V)} {xs:List (List Key×Addr×Value)} (r:KT H kvs xs) (ht:∀ b ys,H b=some (.tup ys)->H' b=some (.tup ys)):KT H' kvs xs:=
 Paired.mapP r fun _ _ z=>⟨z.1,ht _ _ z.2.1,z.2.2⟩
section
variable {P:aV} {w:bM} {H:Hp} {h:Heap} {a:Addr}
theorem a58 {u:HO} (ok:HOk P w H h) (e:Rd H a u):ObjOk P w H h a u:=e.ok ok
theorem Iz {kvs:List (Key×V)} (ok:HOk P w H h) (e:Rd H a (.dK kvs)):kvs.length<=sizeLine/\(a==dI)=false /\ ∃ vs,KV kvs vs/\h.DictOf (A7 P w) a vs:=
 show ObjOk P w H h a (.dK kvs) from a58 ok e
theorem af0 {kvs:List (Key×V)} (ok:HOk P w H h) (e:H a=some (.dK kvs)):kvs.length<=sizeLine/\(a==dI)=false /\ ∃ vs,KV kvs vs/\h.DictOf (A7 P w) a vs:=Iz ok (.inl e)
theorem Ib {ks:List Key} (ok:HOk P w H h) (e:H a=some (.tup (ks.map kV))):(jQ (A7 P w)).is h ks a:=by
 obtain⟨_,its,r,o,h1,h2,n,h3⟩:=(show ObjOk P w H h a (.tup (ks.map kV)) from ok a _ e)
 exact⟨o,its.toArray,n,h1,h2,h3,by simpa using Nn r⟩
theorem Rf {kvs:List (List Key×V)} (ok:HOk P w H h) (e:Rd H a (.dT kvs)):kvs.length<=sizeLine/\(a==dI)=false /\
  ∃ xs,KT H kvs xs/\h.DictOfH (jQ (A7 P w)) a xs:=by
 obtain⟨z,y,xs,r,o,es,ep,h1,h2,h3,h4,h5⟩:=(show ObjOk P w H h a (.dT kvs) from a58 ok e)
 refine⟨z,y,xs,r,o,es,ep,h1,h2,h3,h4,fun x hx=>?_,h5⟩
 have all:∀ {l:List (List Key×V)} {m:List (List Key×Addr×Value)},KT H l m -> ∀ x∈m,(jQ (A7 P w)).is h x.1 x.2.1:=by
  intro l m q
  induction q with
  | nil=>intro x hx;exact nomatch hx
  | @cons p q ps qs hq t ih=>
   intro x hx
   rcases List.mem_cons.mp hx with e|hx
   ·subst e
    exact Ib ok (by rw [<- hq.1];exact hq.2.1)
   ·exact ih x hx
 exact all r x hx
theorem a28 {kvs:List (List Key×V)} (ok:HOk P w H h) (e:H a=some (.dT kvs)):kvs.length<=sizeLine/\(a==dI)=false /\
  ∃ xs,KT H kvs xs/\h.DictOfH (jQ (A7 P w)) a xs:=Rf ok (.inl e)
end
noncomputable def DGet (H:Hp) (a:Addr) (y:V) (r:Option V):Prop:=
 (∃ kvs k,Rd H a (.dK kvs)/\y=kV k/\r=Bn kvs k) \/ ∃ kvs k b,Rd H a (.dT kvs)/\y=.ref b/\H b=some (.tup (k.map kV))/\r=Bn kvs k
noncomputable def DPut (H:Hp) (a:Addr) (y v:V) (H':Hp):Prop:=
 (∃ kvs k,H a=some (.dK kvs)/\y=kV k/\kvs.length<sizeLine/\H'=upd H a (.dK (Dl kvs k v))) \/
 ∃ kvs k b,H a=some (.dT kvs)/\y=.ref b/\H b=some (.tup (k.map kV))/\kvs.length<sizeLine/\H'=upd H a (.dT (Dl kvs k v))
theorem DGet.k {H:Hp} {a:Addr} {kvs:List (Key×V)} {k:Key} (e:H a=some (.dK kvs)):DGet H a (kV k) (Bn kvs k):=.inl ⟨kvs,k,.inl e,rfl,rfl⟩
theorem DGet.t {H:Hp} {a b:Addr} {kvs:List (List Key×V)} {k:List Key} (e:H a=some (.dT kvs)) (eb:H b=some (.tup (k.map kV))):DGet H a (.ref b) (Bn kvs k):=.inr ⟨kvs,k,b,.inl e,rfl,eb,rfl⟩
theorem DPut.k {H:Hp} {a:Addr} {kvs:List (Key×V)} {k:Key} {v:V} (e:H a=some (.dK kvs)) (hl:kvs.length<sizeLine):DPut H a (kV k) v (upd H a (.dK (Dl kvs k v))):=.inl ⟨kvs,k,e,rfl,hl,rfl⟩
theorem DPut.t {H:Hp} {a b:Addr} {kvs:List (List Key×V)} {k:List Key} {v:V} (e:H a=some (.dT kvs)) (eb:H b=some (.tup (k.map kV))) (hl:kvs.length<sizeLine) :
  DPut H a (.ref b) v (upd H a (.dT (Dl kvs k v))):=.inr ⟨kvs,k,b,e,rfl,eb,hl,rfl⟩
section
variable {X:Cx} {pins:List (Addr×Obj)} {σ:St} {H:Hp} {s:aj} {a:Addr} {y v:V} {u r:Value} {o:Option V} {A:bi} {E:Value->aj->Prop}
theorem Inv.big (I:Inv X pins σ H s):dI<s.heap.objs.size:=by
 have h:a_<s.heap.objs.size:=(I.mod.glob.keeps I.bk).lt
 exact Nat.lt_trans (by decide) h
theorem X5 {Q:Value->aj->Prop} (hu:A.units+1<cLine) (I:Inv X pins σ H s) (g:DGet H a y (some v)) (ry:RelV y u) (h:∀ w' s',Inv X pins σ H s'->RelV v w'->Q w' s') :
  aI (model X.prog X.w) A (lS (.ref a) u) Q E s:=by
 rcases g with ⟨kvs,k,e,ey,l⟩|⟨kvs,k,b,e,ey,eb,l⟩
 ·subst ey
  obtain⟨z,hd,vs,rel,dd⟩:=Iz I.hok e
  obtain⟨w',hw,rw'⟩:=RelO.some_of (v:=v) (o:=k_ vs k) (by rw [l];exact rel.val k)
  exact wpAny_getItem_of (No ry) dd.mapOf hw (h w' _ (I.tok _) rw')
 ·subst ey
  cases (show u=aY b from ry)
  obtain⟨z,hd,xs,rel,dd⟩:=Rf I.hok e
  obtain⟨w',hw,rw'⟩:=RelO.some_of (v:=v) (o:=(lG xs k).map (·.2)) (by rw [l];exact rel.val k)
  obtain⟨p,hp,hp2⟩:=Option.map_eq_some_iff.mp hw
  refine wpAny_getItem_heap (eR hu) (Ib I.hok eb) dd hp ?_
  rw [hp2]
  exact h w' _ (I.tok _) rw'
theorem cd1 {Q:Value->aj->Prop} (hu:A.units+1<cLine) (I:Inv X pins σ H s) (g:DGet H a y o) (ry:RelV y u) (h:∀ s',Inv X pins σ H s'->Q (.bool o.isSome) s') :
  aI (model X.prog X.w) A (cT .In u (.ref a)) Q E s:=by
 rcases g with ⟨kvs,k,e,ey,l⟩|⟨kvs,k,b,e,ey,eb,l⟩
 ·subst ey
  obtain⟨z,hd,vs,rel,dd⟩:=Iz I.hok e
  refine wpAny_in_of (No ry) hd dd.mapOf ?_
  rw [<- (rel.val k).isSome_eq,<- l]
  exact h _ (I.tok _)
 ·subst ey
  cases (show u=aY b from ry)
  obtain⟨z,hd,xs,rel,dd⟩:=Rf I.hok e
  refine wpAny_in_heap (eR hu) (Ib I.hok eb) hd dd ?_
  have q:=(rel.val k).isSome_eq
  rw [iP] at q
  rw [<- q,<- l]
  exact h _ (I.tok _)
theorem at8 {Q:Value->aj->Prop} (hu:A.units+1<cLine) (I:Inv X pins σ H s) (g:DGet H a y o) (ry:RelV y u) (h:∀ s',Inv X pins σ H s'->Q (.bool (!o.isSome)) s') :
  aI (model X.prog X.w) A (cT .NotIn u (.ref a)) Q E s:=by
 rcases g with ⟨kvs,k,e,ey,l⟩|⟨kvs,k,b,e,ey,eb,l⟩
 ·subst ey
  obtain⟨z,hd,vs,rel,dd⟩:=Iz I.hok e
  refine wpAny_notIn_of (No ry) hd dd.mapOf ?_
  rw [<- (rel.val k).isSome_eq,<- l]
  exact h _ (I.tok _)
 ·subst ey
  cases (show u=aY b from ry)
  obtain⟨z,hd,xs,rel,dd⟩:=Rf I.hok e
  refine wpAny_notIn_heap (eR hu) (Ib I.hok eb) hd dd ?_
  have q:=(rel.val k).isSome_eq
  rw [iP] at q
  rw [<- q,<- l]
  exact h _ (I.tok _)
theorem G8 {h':Heap} {t':Nat} {ob:HO} (I:Inv X pins σ H s) (mu:Mut (H a)) (hs:bc a s.heap h') (he:∃ q,h'.get? a=some q) (new:ObjOk X.prog X.w (upd H a ob) h' a ob) :
  Inv X pins σ (upd H a ob) { s with heap:=h',toks:=t' }:=
 I.write (x:=a) (e:=a) mu (.inl rfl) (fun b q hb z=>(hs.2 b hb).trans z) he new
theorem Tr {P:aV} {w:bM} {H':Hp} {h':Heap} {kvs:List (Key×V)} {vs:List (Key×Value)} (z:kvs.length<=sizeLine) (hd:(a==dI)=false) (rel:KV kvs vs) (dd:h'.DictOf (A7 P w) a vs) :
  ObjOk P w H' h' a (.dK kvs):=⟨z,hd,vs,rel,dd⟩
theorem X6 {H':Hp} {Q:Unit->aj->Prop} (hu:A.units+1<cLine) (I:Inv X pins σ H s) (g:DPut H a y v H') (ry:RelV y u) (rv:RelV v r) (h:∀ s',Inv X pins σ H' s'->Q () s') :
  aI (model X.prog X.w) A (setItem (.ref a) u r) Q E s:=by
 rcases g with ⟨kvs,k,e,ey,l,eH⟩|⟨kvs,k,b,e,ey,eb,l,eH⟩
 ·subst ey eH
  obtain⟨z,hd,vs,rel,dd⟩:=af0 I.hok e
  have hz:vs.length<=sizeLine:=by rw [<- rel.length];exact z
  have hl:(Dl kvs k v).length<=sizeLine:=by have:=Ei kvs k v;omega
  refine wpAny_setItem_pairs (hsz:=hz) (No ry) dd fun h' dd' hs=>h _ ?_
  have he:∃ q,h'.get? a=some q:=let ⟨q,_,_,hq,_⟩:=dd';⟨q,hq⟩
  exact G8 I (by rw [e];exact bC) hs he (Tr hl hd (rel.put k rv) dd')
 ·subst ey eH
  cases (show u=aY b from ry)
  obtain⟨z,hd,xs,rel,dd⟩:=a28 I.hok e
  have hz:xs.length<=sizeLine:=by rw [<- g9 rel];exact z
  have hl:(Dl kvs k v).length<=sizeLine:=by have:=Ei kvs k v;omega
  refine wpAny_setItem_heap (hsz:=hz) (eR hu) (Ib I.hok eb) dd fun h' dd' hs=>h _ ?_
  obtain⟨q,es,ep,hq,h2,h3,h4,_,h5⟩:=dd'
  refine G8 I (by rw [e];exact bC) hs ⟨q,hq⟩ ⟨hl,hd,_,(rel.put k eb rv).keeps fun c ys ec=>?_,q,es,ep,hq,h2,h3,h4,h5⟩
  rw [Ai (a50 ec e (fun z=>nomatch z))]
  exact ec
end
section
variable {X:Cx} {pins:List (Addr×Obj)} {σ:St} {H:Hp} {s:aj} {a:Addr} {kvs:List (Key×V)} {k:Key} {u:Value} {A:bi} {E:Value->aj->Prop}
theorem at7 {Q:Value->aj->Prop} (I:Inv X pins σ H s) (e:H a=some (.dK kvs)) (h:∀ s',Inv X pins σ (upd H a (.dK [])) s'->Q .none s'):aI (model X.prog X.w) A (call (.builtin "dict.clear") [.ref a]) Q E s:=by
 obtain⟨z,hd,vs,rel,dd⟩:=af0 I.hok e
 refine lB i9 dd.typeIs PySem.F.entry_dict_clear (PySem.F.args_dict_clear_1 _) (meets_dict_clear (A7 X.prog X.w) a) ⟨vs,dd,by rw [<- rel.length];exact z,fun h' dd' hs=>h _ ?_⟩
 have he:∃ q,h'.get? a=some q:=let ⟨q,_,_,hq,_⟩:=dd';⟨q,hq⟩
 exact G8 (t':=s.toks) I (by rw [e];exact bC) hs he (Tr (cq _) hd .nil dd')
theorem bt6 {Q:Value->aj->Prop} (I:Inv X pins σ H s) (e:Rd H a (.dK kvs)) (h:∀ t s',Inv X pins σ H s'->Q (.int kvs.length t) s'):aI (model X.prog X.w) A (call (.builtin "len") [.ref a]) Q E s:=by
 obtain⟨z,hd,vs,rel,dd⟩:=Iz I.hok e
 refine call_len_dict hd dd (by rw [<- rel.length];rw [cZ] at z;omega) ?_
 rw [<- rel.length]
 exact h _ _ (I.tok _)
end
theorem Rc {X:Cx} {pins:List (Addr×Obj)} {σ:St} {H:Hp} {s:aj} {a:Addr} {y:V} {o:Option V} (I:Inv X pins σ H s) (g:DGet H a y o):s.TypeIs (.ref a) "dict" := by
 rcases g with ⟨kvs,k,e,_,_⟩|⟨kvs,k,b,e,_,_,_⟩
 ·obtain⟨_,_,vs,_,dd⟩:=Iz I.hok e
  exact dd.typeIs
 ·obtain⟨_,_,xs,_,dd⟩:=Rf I.hok e
  exact dd.typeIs
section
variable {X:Cx} {o i e value:Expr} {pos pos' tpos:Pos} {td ty tv:TE}
end
theorem Re {P:aV} {w:bM} {H:Hp} (h:Heap) (hb:dI<h.objs.size):ObjOk P w H (h.push { cls:=.type "dict", data:=.dict #[] }) h.objs.size (.dK []):=
 ⟨cq _,beq_eq_false_iff_ne.mpr (ck (aH hb)),[],.nil,Heap.DictOf.new h⟩
theorem af1 {P:aV} {w:bM} {H:Hp} (h:Heap) (hb:dI<h.objs.size):ObjOk P w H (h.push { cls:=.type "dict", data:=.dict #[] }) h.objs.size (.dT []):=
 ⟨cq _,beq_eq_false_iff_ne.mpr (ck (aH hb)),[],.nil,_,#[],0,aw _ rfl,⟨rfl,rfl,rfl⟩,rfl,rfl,List.nodup_nil⟩
section
variable {X:Cx} {pos:Pos}
end
noncomputable def P6:List (TE×TE)->St->Hp->(List (V×V)->Hp->Prop)->Prop
 | [],_,H,Q=>Q [] H
 | (tk,tv)::r,σ,H,Q=>tk σ H fun x H1=>tv σ H1 fun y H2=>P6 r σ H2 fun ps H3=>Q ((x,y)::ps) H3
noncomputable abbrev VV:List (V×V)->List (Value×Value)->Prop:=gQ fun p q=>RelV p.1 q.1/\RelV p.2 q.2
noncomputable def PPs (X:Cx) (pos:Pos) (keys:List (Option Expr)) (values:List Expr) (trs:List (TE×TE)):Prop:=
 ∀ (pins:List (Addr×Obj)) (s:aj) (σ:St) (H:Hp) (Q:List (V×V)->Hp->Prop),Inv X pins σ H s->P6 trs σ H Q ->
  aI (model X.prog X.w) X.A (evalPairs (pairTrees keys values X.env pos)) (fun vs s'=>∃ ps H',Inv X pins σ H' s'/\VV ps vs/\Q ps H') X.xe s
theorem ay5 {X:Cx} {pos:Pos}:PPs X pos [] [] []:=fun pins s σ H Q I h=>pairTrees_nil_walk ⟨[],H,I,.nil,h⟩
theorem al2 {X:Cx} {pos:Pos} {k v:Expr} {ks:List (Option Expr)} {vs:List Expr} {tk tv:TE} {trs:List (TE×TE)} (hk:PE X k tk) (hv:PE X v tv) (hr:PPs X pos ks vs trs) :
  PPs X pos (some k::ks) (v::vs) ((tk,tv)::trs):=fun pins s σ H Q I h=>
 pairTrees_cons_walk (thn (hk pins s σ H _ I h) fun u s1 ⟨x,H1,I1,rx,q1⟩=>thn (hv pins s1 σ H1 _ I1 q1) fun w2 s2 ⟨y,H2,I2,ry,q2⟩=>
  thn (hr pins s2 σ H2 _ I2 q2) fun ws s3 ⟨ps,H3,I3,rel,q3⟩=>⟨(x,y)::ps,H3,I3,.cons ⟨rx,ry⟩ rel,q3⟩)
noncomputable def D4 (kvs more:List (Key×V)):List (Key×V):=more.foldl (fun acc kv=>Dl acc kv.1 kv.2) kvs
theorem KV.merge:∀ {more:List (Key×V)} {rs:List (Key×Value)} {kvs:List (Key×V)} {vs:List (Key×Value)},KV more rs->KV kvs vs->KV (D4 kvs more) (merged vs rs):=by
 intro more rs kvs vs r
 unfold KV at r
 induction r generalizing kvs vs with
 | nil=>intro q;exact q
 | @cons p q ps qs h t ih=>
  intro r0
  have e:KV (Dl kvs p.1 p.2) (stored vs q.1 q.2):=by
   have:=r0.put p.1 h.2
   rw [<- h.1];exact this
  exact ih e
theorem Gm:∀ (more kvs:List (Key×V)),(D4 kvs more).length<=kvs.length+more.length
 | [],kvs=>by show kvs.length<=kvs.length+0;omega
 | p::r,kvs=>by
  have h1:=Gm r (Dl kvs p.1 p.2)
  have h2:=Ei kvs p.1 p.2
  show (D4 (Dl kvs p.1 p.2) r).length<=_
  rw [aN];omega
theorem Ke {P:aV} {w:bM}:∀ {kvs:List (Key×V)} {ws:List (Value×Value)},VV (kvs.map fun kv=>(kV kv.1,kv.2)) ws -> ∃ rs,Carries (A7 P w) ws rs/\KV kvs rs
 | [],_,r=>by rw [gO] at r;cases r;exact⟨[],bC,.nil⟩
 | p::kvs,_,r=>by
  rw [be] at r
  cases r with
  | @cons a b as bs h t=>
   obtain⟨rs,c,q⟩:=Ke (P:=P) (w:=w) t
   obtain⟨b1,b2⟩:=b
   exact⟨(p.1,b2)::rs,⟨No h.1,rfl,c⟩,.cons ⟨rfl,h.2⟩ q⟩
noncomputable def b71 (trs:List (TE×TE)):TE:=fun σ H Q=>∀ p,H p=none->P6 trs σ (upd H p (.dK [])) fun ps H2=>H2 p=some (.dK []) /\ ∃ kvs:List (Key×V),ps=kvs.map (fun kv=>(kV kv.1,kv.2))/\kvs.length<=15/\Q (.ref p) (upd H2 p (.dK (D4 [] kvs)))
theorem ay1 {X:Cx} {pos:Pos} {keys:List (Option Expr)} {values:List Expr} {trs:List (TE×TE)} (h:PPs X pos keys values trs) (hall:keys.all (·.isSome)=true) (hl:keys.length=values.length) (h0:keys≠[])
  (h15:keys.length<=15):PE X (.Dict keys values pos) (b71 trs):=by
 intro pins s σ H Q I q
 have hn:=I.hok.fresh (ay s.heap.objs.size)
 have I1:=I.laid (a:=s.heap.objs.size) (o:=.dK []) (h':=s.heap.push { cls:=.type "dict", data:=.dict #[] }) (t':=s.toks) (fun _ _ q=>ag _ q) (ay _) (Re s.heap I.big)
 refine wpAny_Dict_walk (knd:=A7 X.prog X.w) hall hl h0 h15 (thn (h pins _ σ _ _ I1 (q _ hn)) fun ws s2 ⟨ps,H2,I2,rel,e,kvs,ep,lk,q2⟩=>?_)
 subst ep
 obtain⟨rs,c,rk⟩:=Ke (P:=X.prog) (w:=X.w) rel
 obtain⟨z,hd,vs0,r0,dd⟩:=af0 I2.hok e
 cases r0
 refine⟨rs,c,dd,fun h' dd' hs=>⟨.ref s.heap.objs.size,_,?_,rfl,q2⟩⟩
 have hz:(D4 [] kvs).length<=sizeLine:=by
  have h1:=Gm kvs []
  rw [jF] at h1
  rw [cZ];omega
 have he:∃ q,h'.get? s.heap.objs.size=some q:=let ⟨q,_,_,hq,_⟩:=dd';⟨q,hq⟩
 exact G8 I2 (by rw [e];exact bC) hs he (Tr hz hd (rk.merge .nil) dd')
section
variable {X:Cx} {pins:List (Addr×Obj)} {σ:St} {H:Hp} {s:aj} {a:Addr} {y d:V} {u r:Value} {o:Option V} {A:bi} {E:Value->aj->Prop}
end
section
variable {X:Cx} {o e f:Expr} {apos cpos:Pos} {td ty tx:TE}
end
section
variable {X:Cx} {pins:List (Addr×Obj)} {σ:St} {H:Hp} {s:aj} {a:Addr} {kvs:List (Key×V)} {A:bi} {E:Value->aj->Prop}
end
section
variable {X:Cx} {pins:List (Addr×Obj)} {σ:St} {H:Hp} {s:aj} {a:Addr} {y:V} {u:Value} {A:bi} {E:Value->aj->Prop}
end
noncomputable abbrev EK:=Addr->Hp->Prop
noncomputable abbrev DE:=St->Hp->VK->EK->Prop
noncomputable abbrev DT:=St->Hp->(Bool->Hp->Prop)->EK->Prop
noncomputable abbrev DA:=St->Hp->(List V->Hp->Prop)->EK->Prop
structure J8 where
 nx:St->Hp->Prop
 rt:VK
 bk:St->Hp->Prop
 ct:St->Hp->Prop
 ex:St->EK
noncomputable abbrev DS:=J8->St->Hp->Prop
noncomputable abbrev A0 (C:Addr) (dx:Option Addr) (vs:Array Value):Obj:={ cls:=.ref C,dict:=dx,data:=.fields vs }
noncomputable def Mq (a C:Addr) (dx:Option Addr):HO:=.ext fun h=>∃ vs:Array Value,h.get? a=some (A0 C dx vs)/\vs.size=6/\vs[1]? = some .none/\vs[2]? = some .none
noncomputable def flO (a C:Addr) (dx:Option Addr):HO:=.ext fun h=>∃ vs:Array Value,h.get? a=some (A0 C dx vs)/\vs.size=6/\vs[2]? = some .none
noncomputable def fcO (a C:Addr) (dx:Option Addr):HO:=.ext fun h=>∃ vs:Array Value,h.get? a=some (A0 C dx vs)/\vs.size=6
noncomputable def FlO (H:Hp) (a C:Addr) (dx:Option Addr):Prop:=H a=some (flO a C dx)\/H a=some (fcO a C dx)
noncomputable def xdO (dx:Addr) (fs:List (Str×V)):HO:=.ext fun h=>fs.length<=1000 /\ ∃ mA,h.Ns1 dx mA/\(∀ f,RelO (fs.lookup f) (mA f))/\gS mA (fs.map (·.1))
noncomputable def Gi (X:Cx) (pins:List (Addr×Obj)) (H:Hp) (a:Addr) (s:aj):Prop:=
 ∃ (C:Addr) (dx:Option Addr) (vs:Array Value),FlO H a C dx/\s.heap.get? a=some (A0 C dx vs)/\vs.size=6 /\
  (vs[1]? = some .none \/ ∃ (T:Addr) (oT:Obj) (ts:Array Value),vs[1]? = some (.ref T)/\T≠a/\s.heap.get? T=some oT/\oT.data=.fields ts/\(∃ z,ts[3]? = some z)/\Dw X pins H T)
noncomputable def Meets (X:Cx) (Ex:St->EK):Prop:=
 ∀ (pins:List (Addr×Obj)) (σ:St) (H:Hp) (s:aj) (a:Addr),Inv X pins σ H s->Gi X pins H a s->Ex σ a H->X.xe (.ref a) s
noncomputable def QE (X:Cx) (e:Expr) (t:DE):Prop:=∀ Ex,Meets X Ex->PE X e (fun σ H Q=>t σ H Q (Ex σ))
noncomputable def QT (X:Cx) (e:Expr) (t:DT):Prop:=∀ Ex,Meets X Ex->PT X e (fun σ H Q=>t σ H Q (Ex σ))
noncomputable def QW (X:Cx) (e:Expr) (t:DT):Prop:=∀ Ex,Meets X Ex->PW X e (fun σ H Q=>t σ H Q (Ex σ))
noncomputable def QA (X:Cx) (es:List Expr) (t:DA):Prop:=∀ Ex,Meets X Ex->PA X es (fun σ H Q=>t σ H Q (Ex σ))
noncomputable def ax7 (Ex:St->EK) (D:Mi):J8:=⟨D.nx,D.rt,D.bk,D.ct,Ex⟩
noncomputable def QS (X:Cx) (st:Stmt) (t:DS):Prop:=∀ Ex,Meets X Ex->PS X st (fun D σ H=>t (ax7 Ex D) σ H)
noncomputable def QSs (X:Cx) (st:List Stmt) (t:DS):Prop:=∀ Ex,Meets X Ex->PSs X st (fun D σ H=>t (ax7 Ex D) σ H)
noncomputable def dNo:DE:=fun _ _ _ _=>False
noncomputable def Aa (i:Nat):DE:=fun σ H Q _=>match σ[i]? with
 | some (some v)=>Q v H
 | _=>False
noncomputable def dC (v:V):DE:=fun _ H Q _=>Q v H
noncomputable def Ae (r:R2) (a b:DE):DE:=fun σ H Q E=>a σ H (fun x H1=>b σ H1 (fun y H2=>r x y H2 Q) E) E
noncomputable def dUn (r:V->Hp->VK->Prop) (a:DE):DE:=fun σ H Q E=>a σ H (fun x H1=>r x H1 Q) E
noncomputable def Dx (r r':R2) (a b c:DE):DE:=fun σ H Q E=>a σ H (fun x H1=>b σ H1 (fun y H2=>r x y H2 fun z H3=>match z with
 | .bl k=>if k=true then c σ H3 (fun w H4=>r' y w H4 Q) E else Q (.bl false) H3
 | _=>False) E) E
noncomputable def Kg (a b:DT):DT:=fun σ H Q E=>a σ H (fun k H1=>if k=true then b σ H1 Q E else Q false H1) E
noncomputable def dOr (a b:DT):DT:=fun σ H Q E=>a σ H (fun k H1=>if k=true then Q true H1 else b σ H1 Q E) E
noncomputable def Dq (a:DT):DT:=fun σ H Q E=>a σ H (fun k H1=>Q (!k) H1) E
noncomputable def bt4 (t:DT) (a b:DE):DE:=fun σ H Q E=>t σ H (fun k H1=>if k=true then a σ H1 Q E else b σ H1 Q E) E
noncomputable def aq6 (K:ac) (x:V) (H:Hp) (Q:Bool->Hp->Prop):Prop:=match x with
 | .bl k=>Q k H
 | .non=>Q false H
 | .int i=>Q (i != 0) H
 | .str y=>y.length<=sizeLine/\Q ((y.length:Int) != 0) H
 | .ref p=>∃ k,bt1 K (.ref p) H k/\Q k H
 | _=>False
noncomputable def M9 (K:ac) (a b:DE):DE:=fun σ H Q E=>a σ H (fun x H1=>aq6 K x H1 fun k H2=>if k=true then b σ H2 Q E else Q x H2) E
noncomputable def bt5 (K:ac) (a b:DE):DE:=fun σ H Q E=>a σ H (fun x H1=>aq6 K x H1 fun k H2=>if k=true then Q x H2 else b σ H2 Q E) E
noncomputable def ae7 (K:ac) (a:DE):DE:=fun σ H Q E=>a σ H (fun x H1=>aq6 K x H1 fun k H2=>Q (.bl (!k)) H2) E
noncomputable def C6 (K:ac) (a:DE):DT:=fun σ H Q E=>a σ H (fun x H1=>aq6 K x H1 Q) E
noncomputable def Az (a:DE):DT:=fun σ H Q E=>a σ H (fun x H1=>match x with
 | .bl k=>Q k H1
 | _=>False) E
noncomputable def Aj:DA:=fun _ H Q _=>Q [] H
noncomputable def Ac (a:DE) (r:DA):DA:=fun σ H Q E=>a σ H (fun x H1=>r σ H1 (fun xs H2=>Q (x::xs) H2) E) E
noncomputable def Hv (t:DA):DE:=fun σ H Q E=>t σ H (fun xs H1=>xs.length<=sizeLine /\ ∀ p,H1 p=none->Q (.ref p) (upd H1 p (.tup xs))) E
noncomputable def Dh (t:DA):DE:=fun σ H Q E=>t σ H (fun xs H1=>xs.length<=sizeLine /\ ∀ p,H1 p=none->Q (.ref p) (upd H1 p (.lst xs))) E
noncomputable def dFn (r:List V->Hp->VK->EK->Prop) (t:DA):DE:=fun σ H Q E=>t σ H (fun vs H1=>r vs H1 Q E) E
noncomputable def dMt (r:V->Hp->(Hp->(List V->Hp->Prop)->Prop)->VK->Prop) (o:DE) (t:DA):DE:=fun σ H Q E=>o σ H (fun x H1=>r x H1 (fun H2 R=>t σ H2 R E) Q) E
noncomputable def Af:DS:=fun D σ H=>D.nx σ H
noncomputable def Ck:DS:=fun _ _ _=>False
noncomputable def Ag (t u:DS):DS:=fun D σ H=>t { D with nx:=u D } σ H
noncomputable def As (e:DE):DS:=fun D σ H=>e σ H D.rt (D.ex σ)
noncomputable def a27:DS:=fun D _ H=>D.rt .non H
noncomputable def Ef (e:DE):DS:=fun D σ H=>e σ H (fun _ H1=>D.nx σ H1) (D.ex σ)
noncomputable def dIf (c:DT) (t u:DS):DS:=fun D σ H=>c σ H (fun b H1=>if b=true then t D σ H1 else u D σ H1) (D.ex σ)
noncomputable def bt2:DS:=fun D σ H=>D.bk σ H
noncomputable def bt3:DS:=fun D σ H=>D.ct σ H
noncomputable def Ap (i:Nat) (e:DE):DS:=fun D σ H=>e σ H (fun v H1=>D.nx (σ.set i (some v)) H1) (D.ex σ)
noncomputable abbrev DG:=TG
noncomputable def Mn (e:DE) (g:DG):DS:=fun D σ H=>e σ H (fun v H1=>g v σ H1 D.nx) (D.ex σ)
noncomputable abbrev DI:=St->Hp->(It->Hp->Prop)->EK->Prop
noncomputable def Xu (J:It) (g:DG) (tb:DS) (D:J8) (σ:St) (H:Hp):Prop:=∃ W:Nat->Nat->St->Hp->Prop,(∃ m,W 0 m σ H) /\ ∀ i m σ H,W i m σ H ->
 (J.stop i H/\D.nx σ H)\/(J.go i H /\ ∃ N:St->Hp->Prop,(∀ σ' H',N σ' H' -> ∃ m',m'<m/\W (i+1) m' σ' H') /\ ∀ x H',J.yld i H x H'->g x σ H' (fun σ2 H2=>tb { D with nx:=N,ct:=N,bk:=D.nx } σ2 H2))
noncomputable def Thaw (H0 H:Hp) (P:Hp->Prop):Prop:=P H \/ ∃ p o kvs,H0 p=some (.dK kvs)/\H p=some (.frz o (.dK kvs))/\P (upd H p (.dK kvs))
noncomputable def Co (wi:DI) (g:DG) (tb:DS):DS:=fun D σ H=>wi σ H (fun J H1=>Xu J g tb { D with nx:=fun σ' H'=>Thaw H H' (D.nx σ') } σ H1) (D.ex σ)
noncomputable def Fg (J:It) (g:DG) (tc:DT) (te:DE) (D:Addr) (R:Hp->Prop) (σ:St) (H:Hp) (E:EK):Prop:=
 ∃ W:Nat->Nat->St->Hp->Prop,(∃ m,W 0 m σ H) /\ ∀ i m σ' H',W i m σ' H' ->
  (J.stop i H'/\R H')\/(J.go i H' /\ ∃ N:St->Hp->Prop,(∀ σ2 H2,N σ2 H2 -> ∃ m',m'<m/\W (i+1) m' σ2 H2) /\ ∀ x H2,J.yld i H' x H2->g x σ' H2 (fun σ3 H3=>tc σ3 H3 (fun b H4=>if b=true then
    te σ3 H4 (fun v H5=>∃ ys,H5 D=some (.lst ys)/\ys.length<sizeLine/\N σ3 (upd H5 D (.lst (ys++[v])))) E
   else N σ3 H4) E))
noncomputable def Bg (srcs:List (Option Nat)) (wi:DI) (g:DG) (tc:DT) (te:DE):DE:=fun σ H Q E=>wi σ H (fun J H1=>∀ D,H1 D=none->Fg J g tc te D (fun H'=>Q (.ref D) H') (Tm srcs σ) (upd H1 D (.lst [])) E) E
noncomputable def B5:DT:=fun _ H Q _=>Q true H
noncomputable def gdN (i:Nat):DG:=fun v σ H Q=>Q (σ.set i (some v)) H
end L2
namespace L2
open PySem PySem.Spec PyProof.Rows PySem.W
section
variable {prog:aV} {w:bM} {A:bi} {E:Value->aj->Prop} {s:aj} {K:ac} {x C:Addr} {ox:Obj} {od:Option Obj} {name:Str} {expr:Bool} {Q:Value->aj->Prop}
theorem ad8 (self:Value):lR (.builtin "BaseException.__getattribute__") self=pure (.builtin "BaseException.__getattribute__", [self]):=by
 have hop:withoutEnding? "BaseException.__getattribute__" "#opaque" = none:=by decide +kernel
 have hdat:withoutEnding? "BaseException.__getattribute__" "#data" = none:=by decide +kernel
 have hk:builtinKind "BaseException.__getattribute__" = some .slot:=by decide +kernel
 simp only [lR,typeOf,builtinType,hop,hdat,hk];rfl
end
end L2
namespace L2
open PySem PySem.Spec PyProof.Rows PySem.W Builtin Builtin.ObjectAttr
noncomputable def Bi:List Value->Bool
 | [.type a,.type b,.type c,.type d]=>a == "ValueError" && b == "Exception" && c == "BaseException" && d == "object"
 | .ref _::r=>Bi r
 | _=>false
noncomputable def valTail:List Value:=[.type "ValueError", .type "Exception", .type "BaseException", .type "object"]
theorem E4:∀ {l:List Value},Bi l=true -> ∃ rs:List Addr,l=rs.map aY++valTail
 | [.type a,.type b,.type c,.type d],e=>by
  have e:(a == "ValueError" && b == "Exception" && c == "BaseException" && d == "object")=true:=e
  simp only [ax,beq_iff_eq] at e
  obtain⟨⟨⟨rfl,rfl⟩,rfl⟩,rfl⟩:=e
  exact⟨[],rfl⟩
 | .ref a::r,e=>by
  have e:Bi r=true:=by cases r <;> first|exact e|cases e
  obtain⟨rs,h⟩:=E4 e
  exact⟨a::rs,by rw [h];rfl⟩
theorem aq3 (rs:List Addr) {T:String} (h:valTail.contains (.type T)=true):(rs.map aY++valTail).contains (.type T)=true:=by
 induction rs with
 | nil=>exact h
 | cons a r ih=>rw [be,eK,cr,ih,eX]
section
variable {prog:aV} {w:bM} {A:bi} {s:aj} {K:ac} {x C:Addr} {R:j9->aj->Prop}
end
section
variable {prog:aV} {w:bM} {A:bi} {E:Value->aj->Prop} {s:aj} {K:ac} {x dx C f:Addr} {mA:Str->Option Value} {name:Str} {v:Value} {vs:Array Value}
end
end L2
namespace L2
open PySem PySem.Spec PySem.W Builtin Builtin.ObjectAttr
open Sem (wp)
structure ECls (K:ac) (C:Addr):Prop where
 obj:∃ nm q N bs bm hdct sn sub ab col dd k0 k1 k2 k3 k5,K.lookup C=some (fS nm q C N bs bm hdct sn sub ab col dd k0 k1 k2 k3 k5 "ValueError.__new__")/\Bi bm=true/\hdct=true
 sa:findIn K (.ref C) "__setattr__" = some (some (.builtin "object.__setattr__"))
 ga:findIn K (.ref C) "__getattribute__" = some (some (.builtin "BaseException.__getattribute__"))
 gt:findIn K (.ref C) "__getattr__" = some none
 ca:findIn K (.ref C) "__class__" = some (some (.builtin "object.__class__"))
 hn:specialIn K (.builtin "object.__class__") "__get__" = some (some (.builtin "getset_descriptor.__get__"))
 htk:takesIn K (.builtin "object.__class__")=some true
theorem Bv {bm:List Value} (h:Bi bm=true) {T:String} {b:Bool} (hb:valTail.contains (.type T)=b):bm.contains (.type T)=b:=by
 obtain⟨rs,rfl⟩:=E4 h
 induction rs with
 | nil=>exact hb
 | cons a r ih=>
  have h':Bi (r.map aY++valTail)=true:=by
   cases r <;> exact h
  rw [be,eK,cr,ih h']
  rfl
section
variable {M:mf} {A:bi} {E:Value->aj->Prop} {h:Heap} {g:Array jU} {d:Drawn} {t:Nat} {os:OsState}
variable {nm q:Str} {C N:Addr} {bs bm:List Value} {hdct:Bool} {sn:List Str} {sub:List Value} {ab:Bool} {col:Option Bool} {dd:Option Addr} {k0 k1 k2 k3 k5:Option Value}
theorem Ho (T:Bi bm=true) {rest:List Value} {Q:Unit->aj->Prop} (hC:h.get? C=some (fS nm q C N bs bm hdct sn sub ab col dd k0 k1 k2 k3 k5 "ValueError.__new__"))
  (hq:Q () ⟨h,g,d,t,os⟩):aI M A (gX "ValueError.__new__" ⟨.ref C::rest,[]⟩) Q E ⟨h,g,d,t,os⟩:=by
 have F:=fB
 have hcont:(aY C::bm).contains (.type "ValueError")=true:=by rw [cr,Bv T (show valTail.contains (.type "ValueError")=true by decide +kernel),eX]
 have hstar:=F.noStar
 simp only [gX,F.newKind,F.newSplit,F.newRow]
 repeat (first|refine bI hC ?_|(refine cO hC ?_;rw [hcont])|refine wpAny_staticBase_exc hC ?_|refine wpAny_madeBy_exc hC ?_|simp only [bne_self_eq_false,bz,if_false] | wp_step)
 exact hq
end
section
variable {prog:aV} {w:bM} {A:bi} {R:j9->aj->Prop} {h:Heap} {g:Array jU} {d:Drawn} {t:Nat} {os:OsState}
variable {nm q:Str} {C N:Addr} {bs bm:List Value} {hdct:Bool} {sn:List Str} {sub:List Value} {ab:Bool} {col:Option Bool} {dd:Option Addr} {k0 k1 k2 k3 k5:Option Value}
theorem G6 (T:Bi bm=true) {rest:List Value} (hC:h.get? C=some (fS nm q C N bs bm hdct sn sub ab col dd k0 k1 k2 k3 k5 "ValueError.__new__"))
  (hq:R (.ok (.ret (.ref (h.objs.size+1)))) ⟨(h.push { cls:=.type "tuple", data:=.seq rest.toArray }).push
   {cls:=.ref C,data:=.fields #[.ref h.objs.size,.none,.none,.none,.bool false,.none] },g,d,t,os⟩) (hrest:rest.length<=sizeLine) :
  eO (model prog w) A (.builtin "ValueError.__new__" ⟨.ref C::rest,[]⟩) R ⟨h,g,d,t,os⟩:=by
 have F:=fB
 have hends:=F.ends
 have hcB:(aY C::bm).contains (.type "ValueError")=true:=by rw [cr,Bv T (show valTail.contains (.type "ValueError")=true by decide +kernel),eX]
 have hcA:(aY C::bm).contains (.type "AttributeError")=false:=by rw [cr,Bv T (show valTail.contains (.type "AttributeError")=false by decide +kernel)];rfl
 have hcN:(aY C::bm).contains (.type "NameError")=false:=by rw [cr,Bv T (show valTail.contains (.type "NameError")=false by decide +kernel)];rfl
 refine codeAny_builtinAt F.entry ?_
 unfold ar.«BaseException.__new__»
 refine wpAt_bind ?_
 show wpAt _ _ _ (stack >>= _) _ _ _
 refine wpAt_bind (wpAt_stack fun p below=>wpAt_of_wpAny ?_)
 wp_walk
 refine wpAt_of_wpAny ?_
 rw [F.owner]
 repeat (first|with_reducible refine wpAny_madeHere_exc F.canon hC ?_|with_reducible refine bI hC ?_|(with_reducible refine cO hC ?_;first|rw [hcB] | rw [hcA] | rw [hcN])|wp_step)
 show R _ _
 rw [bJ]
 exact hq
end
end L2
namespace L2
open PySem PySem.Spec PySem.W Builtin Builtin.ObjectAttr
open Sem (wp)
section
variable {prog:aV} {w:bM} {A:bi} {E:Value->aj->Prop} {h:Heap} {g:Array jU} {d:Drawn} {t:Nat} {os:OsState}
variable {nm q:Str} {C N f:Addr} {bs bm:List Value} {hdct:Bool} {sn:List Str} {sub:List Value} {ab:Bool} {col:Option Bool} {dd:Option Addr} {k0 k1 k2 k3 k5:Option Value}
noncomputable abbrev Ju (h:Heap) (C:Addr) (rest:List Value):Heap:=(h.push { cls:=.type "tuple", data:=.seq rest.toArray }).push { cls:=.ref C,data:=.fields #[.ref h.objs.size,.none,.none,.none,.bool false,.none] }
theorem G0 (T:Bi bm=true) {rest:List Value} {Q:Fin->aj->Prop}
  (hC:h.get? C=some (fS nm q C N bs bm hdct sn sub ab col dd k0 k1 k2 k3 k5 "ValueError.__new__"))
  (hi:Looks (model prog w) h (f6 (.ref C) "__init__") (some (.builtin "ValueError.__init__")))
  (hq:∀ h' e,Heap.MadeExcOf h h' e (.ref C) rest->e=h.objs.size+1->Q (.done (.ret (.ref e))) ⟨h',g,d,t,os⟩) (hrest:rest.length<=sizeLine) :
  aI (model prog w) A (ar.«type.__call__» ⟨.ref C::rest,[]⟩) Q E ⟨h,g,d,t,os⟩:=by
 have F:=fB
 repeat (first|with_reducible refine bI hC ?_|with_reducible refine wpAny_madeBy_exc hC ?_|wp_step)
 refine codeAny_call_builtin_code (iB _ F.quiet) (Ho T hC ?_)
 refine G6 T hC ?_ hrest
 show aI _ _ _ _ _ _
 have kp:∀ b o,h.get? b=some o->(Ju h C rest).get? b=some o:=fun b o e=>ag _ (ag _ e)
 have hC₁:=kp _ _ hC
 have hget:(Ju h C rest).get? (h.objs.size+1)=some { cls:=.ref C,data:=.fields #[.ref h.objs.size,.none,.none,.none,.bool false,.none] }:=by heap_get
 have hcC:(aY C::bm).contains (.ref C)=true:=by simp
 have hcB:(aY C::bm).contains (.type "ValueError")=true:=by rw [cr,Bv T (show valTail.contains (.type "ValueError")=true by decide +kernel),eX]
 unfold kZ
 repeat (first|with_reducible refine bI hget ?_|(with_reducible refine cO hC₁ ?_;rw [hcC])|wp_step)
 show aI _ _ (f6 (.ref C) _) _ _ _
 refine (hi.keeps kp).at ?_
 refine bx (af (lX (F.init.bind _) ?_))
 have chk:∀ {Q':Unit->aj->Prop} {E':Value->aj->Prop} {A':bi},Q' () ⟨Ju h C rest,g,d,t,os⟩->aI (model prog w) A' (gX "ValueError.__init__" ⟨.ref (h.objs.size+1)::rest,[]⟩) Q' E' ⟨Ju h C rest,g,d,t,os⟩:=fun {Q' E' A'} hq'=>by
  have hshort:=F.noStar
  simp only [gX,F.initKind,F.initSplit,F.initRow]
  repeat (first|with_reducible refine bI hget ?_|with_reducible refine bI hC₁ ?_|(with_reducible refine cO hC₁ ?_;rw [hcB])|wp_step)
  refine kU ?_
  rw [show ∀ (a b:String) (n:Nat),Bind.check ⟨.positional, "*", "ValueError", .self,[⟨"args", .varPos,false⟩]⟩ a b n (i7 (fun x=>x.fst) ({ pos:=aY (h.objs.size+1)::rest }:Args).kw)=pure () from
   fun a b n=>check_star_args _ _ _ _ _ _]
  exact al hq'
 refine af (gG (fG F.init.plain F.initEntry (chk ?_)))
 wp_walk
 refine hq _ _ ⟨fun b o hb=>?_,gZ (cE _),h.objs.size+2,?_,gZ (by omega),?_⟩ rfl
 ·rw [aP _ _ (cx (cb (aB hb)))]
  exact ag _ (ag _ (ag _ hb))
 ·rw [aU _ (ag _ hget) rfl]
  simp only [bJ]
  rfl
 ·rw [aP _ _ (show h.objs.size+1≠h.objs.size+2 by omega)]
  exact Heap.get?_push_at (by simp only [bJ]) rfl
theorem Yw (T:Bi bm=true) {rest:List Value} {R:j9->aj->Prop}
  (hC:h.get? C=some (fS nm q C N bs bm hdct sn sub ab col dd k0 k1 k2 k3 k5 "ValueError.__new__"))
  (hi:Looks (model prog w) h (f6 (.ref C) "__init__") (some (.builtin "ValueError.__init__")))
  (hq:∀ h' e,Heap.MadeExcOf h h' e (.ref C) rest->e=h.objs.size+1->R (.ok (.ret (.ref e))) ⟨h',g,d,t,os⟩) (hrest:rest.length<=sizeLine) :
  eO (model prog w) A (.call (.ref C) ⟨rest,[]⟩) R ⟨h,g,d,t,os⟩:=by
 have f1:=tc_lookup
 have f2:=tc_bind (.ref C)
 have hT:(⟨h,g,d,t,os⟩:aj).TypeIs (.ref C) "type" := ⟨_,hC,rfl⟩
 refine codeAny_of_tree ?_
 show aI _ _ (callAny (.ref C) _) _ _ _
 repeat (any_goals (first|assumption|with_reducible refine bI hC ?_|wp_step))
 refine⟨rfl,?_⟩
 exact codeAny_call_builtin_at (iB _ (by decide +kernel)) entry_typeCall (wpAny_check_type_call_sub hC (G0 T hC hi hq hrest))
end
end L2
namespace L2
open PySem PySem.Spec PySem.W PyProof.Rows
theorem ECls.cls {K:ac} {C:Addr} (c:ECls K C):∃ cd,clsIn K C=some cd/\Bi cd.mro=true/\cd.hasDict=true:=by
 obtain⟨nm,q,N,bs,bm,hdct,sn,sub,ab,col,dd,k0,k1,k2,k3,k5,hl,ht,hd⟩:=c.obj
 refine⟨_,by unfold clsIn;rw [hl],?_,hd⟩
 obtain⟨rs,e⟩:=E4 ht
 show Bi (aY C::bm)=true
 rw [e]
 clear e
 show Bi (i7 aY (C::rs)++valTail)=true
 have:∀ l:List Addr,Bi (i7 aY l++valTail)=true:=fun l=>by
  induction l with
  | nil=>decide +kernel
  | cons a r ih=>cases r <;> exact ih
 exact this _
theorem ECls.sub {K:ac} {C:Addr} (c:ECls K C) {T:String} (h:valTail.contains (.type T)=true):mroIn K C (.type T)=some true:=by
 obtain⟨cd,h1,h2,_⟩:=c.cls
 obtain⟨rs,e⟩:=E4 h2
 unfold mroIn
 rw [h1,gW,e,aq3 rs h,if_neg]
 cases rs <;> exact am
section
variable {prog:aV} {w:bM} {A:bi} {E:Value->aj->Prop} {s:aj} {K:ac} {x C:Addr} {ox:Obj} {od:Option Obj} {name:Str}
theorem ag3 {g a v:Value} {Q:Option Value->aj->Prop} (X:K.In s.heap) (I:PySem.W.InstAt s.heap x ox C od) (hga:aD K (.ref C) "__getattribute__" = some (some (.builtin "BaseException.__getattribute__"))) (hgt:aD K (.ref C) "__getattr__" = some none)
  (hB:hU K C (.type "BaseException")=some true) (hf:PySem.W.findObj K C od name=some (.bind g a)) (hh:jj v=true)
  (h:∀ {A':bi} {R:j9->aj->Prop},R (.ok (.ret v)) { s with toks:=s.toks+1 }->eO (model prog w) A' (.call g ⟨[a,.ref x,.ref C],[]⟩) R { s with toks:=s.toks+1 }) (hq:Q (some v) { s with toks:=s.toks+1 }) :
  aI (model prog w) A (getAttr? (.ref x) name) Q E s:=by
 obtain⟨hp,gg,d,t,os⟩:=s
 have L0:=I.type (M:=model prog w)
 have L1:=fF (M:=model prog w) X hga
 have L2:=fF (M:=model prog w) X hgt
 have L3:=PySem.W.looks_find (M:=model prog w) X I hf
 have L4:=PySem.W.looks_mroIn (M:=model prog w) X hB
 unfold getAttr? getAttrBy? getAttrBy
 refine af (wpAny_mkText (af (eI (bx (af (L0.at (af (L1.at ?_))))))))
 have hx2:(hV "BaseException.__getattribute__" == hV "object.__getattribute__")=false:=by decide +kernel
 have hx1:(onTheHeap (aY C)&&hV "BaseException.__getattribute__" == hV "object.__getattribute__")=false:=by rw [hx2];rfl
 dsimp only
 rw [hx1,if_neg am]
 unfold getAttrByItsOwn
 refine af (show aI _ _ (f6 (.ref C) "__getattr__") _ _ _ from L2.at ?_)
 refine af (eI (bx ?_))
 have hx0:(false&&onTheHeap (hV "BaseException.__getattribute__"))=false:=rfl
 unfold callGetattribute
 rw [hx0,if_neg am]
 unfold boundAndCalled
 rw [ad8]
 refine af (al ?_)
 refine gG (fG (by decide +kernel) F.entry_bexc_ga (check_slot (i := "BaseException.__getattribute__") (owner := "BaseException") (n := "__getattribute__") (by decide +kernel) (by decide +kernel) (L0.andThen L4) (F.args_bexc_ga _ _) ?_))
 unfold ar.«object.__getattribute__»
 refine af (al (af (al (af (L0.at (af (L3.at ?_)))))))
 refine af (bx (gG (h ?_)))
 refine al ?_
 show aI _ _ (handedOut v) _ _ _
 rw [PySem.W.handedOut_of hh]
 exact al (al hq)
theorem Mr {a g:Value} (hc:(clsIn K C).isSome=true) (ha:findIn K (.ref C) name=some (some a)) (hg:specialIn K a "__get__" = some (some g)) (ht:takesIn K a=some true):findObj K C od name=some (.bind g a):=by
 obtain⟨cd,hc⟩:=Option.isSome_iff_exists.mp hc
 unfold findObj
 rw [hc,gW,ha,gW]
 simp [hg,ht]
theorem Yb {Q:Option Value->aj->Prop} (c:ECls K C) (X:K.In s.heap) (I:InstAt s.heap x ox C od) (h:Q (some (.ref C)) { s with toks:=s.toks+1 }):aI (model prog w) A (getAttr? (.ref x) "__class__") Q E s:=by
 have hf:findObj K C od "__class__" = some (.bind (.builtin "getset_descriptor.__get__") (.builtin "object.__class__")):=Mr (by obtain⟨cd,hc,_⟩:=c.cls;rw [hc];rfl) c.ca c.hn c.htk
 exact ag3 (v:=.ref C) X I c.ga c.gt (c.sub (by decide +kernel)) hf rfl (fun q=>class_get (s:={ s with toks:=s.toks+1 }) (ox:=ox) (od:=od) X I (c.sub (by decide +kernel)) q) h
end
theorem ah4 {K:ac} {x D:Addr} (c:ECls K D):KitX K (.ref x) (.ref D) (fun h=>∃ ox od,InstAt h x ox D od) where
 ty:=fun _ _ _ ⟨_,_,I⟩=>I.type
 it:=fun _ _ X _=>by
  obtain⟨cdD,hcD,_⟩:=c.cls
  unfold clsIn at hcD
  split at hcD
  ·rename_i c' d' cd' sl' ho
   intro A' Q' E' s' k q
   unfold isType loadHead
   exact af (wpAny_loadPart (k _ _ (X _ _ ho)) (al q))
  ·cases hcD
 ne:=fun h tp dd its n sl X htp=>by
  obtain⟨cdD,hcD,_⟩:=c.cls
  refine Bool.eq_false_iff.mpr fun q=>?_
  have e:D=tp:=Value.ref.inj (beq_iff_eq.mp q)
  subst e
  unfold clsIn at hcD
  split at hcD
  ·rename_i c' d' cd' sl' ho
   have z:=(X _ _ ho).symm.trans htp
   cases z
  ·cases hcD
 ca:=fun X ⟨_,_,I⟩ k=>Yb c X I k
noncomputable def ExcAt (H:Hp) (a C:Addr) (fs:List (Str×V)):Prop:=(fs=[]/\(H a=some (Mq a C none)\/FlO H a C none)) \/ ∃ dx,dx≠a/\(H a=some (Mq a C (some dx))\/FlO H a C (some dx))/\H dx=some (xdO dx fs)
inductive TyX (K:ac) (H:Hp) (x:V) (t:Value):Prop where
 | of (h:TyOf K H x t)
 | exc {a C:Addr} {fs:List (Str×V)} (ex:x=.ref a) (e:ExcAt H a C fs) (c:ECls K C) (et:t=.ref C)
 | sqT {a:Addr} {xs:List V} (ex:x=.ref a) (e:SqT K H a xs) (et:t=.type "tuple")
 | sqL {a:Addr} {xs:List V} (ex:x=.ref a) (e:SqL K H a xs) (et:t=.type "list")
section
variable {X:Cx} {pins:List (Addr×Obj)} {σ:St} {H:Hp} {s:aj} {A:bi} {E:Value->aj->Prop} {a C:Addr} {fs:List (Str×V)}
theorem Tx {dx:Option Addr} (I:Inv X pins σ H s) (e:H a=some (Mq a C dx)):∃ vs:Array Value,s.heap.get? a=some (A0 C dx vs)/\vs.size=6/\vs[1]? = some .none/\vs[2]? = some .none:=(I.hok a _ e).1
theorem af9 {dx:Option Addr} (I:Inv X pins σ H s) (e:H a=some (flO a C dx)):∃ vs:Array Value,s.heap.get? a=some (A0 C dx vs)/\vs.size=6/\vs[2]? = some .none:=(I.hok a _ e).1
theorem Wu {dx:Option Addr} (I:Inv X pins σ H s) (e:H a=some (Mq a C dx)\/FlO H a C dx):∃ vs:Array Value,s.heap.get? a=some (A0 C dx vs)/\vs.size=6:=by
 rcases e with e|e|e
 ·obtain⟨vs,h1,h2,_⟩:=Tx I e;exact⟨vs,h1,h2⟩
 ·obtain⟨vs,h1,h2,_⟩:=af9 I e;exact⟨vs,h1,h2⟩
 ·exact (I.hok a _ e).1
theorem cc5 {dx:Addr} (I:Inv X pins σ H s) (e:H dx=some (xdO dx fs)):fs.length<=1000 /\ ∃ mA,s.heap.Ns1 dx mA/\(∀ f,RelO (fs.lookup f) (mA f))/\gS mA (fs.map (·.1)):=(I.hok dx _ e).1
theorem ExcAt.inst (I:Inv X pins σ H s) (e:ExcAt H a C fs):∃ vs dx od,InstAt s.heap a (A0 C dx vs) C od/\(∀ o,od=some o -> ∀ name,∃ v,lookIn name o=some v/\RelO (fs.lookup name) v)/\(od=none->fs=[]):=by
 rcases e with ⟨rfl,e⟩|⟨dx,ne,e,ed⟩
 ·obtain⟨vs,h1,_⟩:=Wu I e
  exact⟨vs,none,none,⟨h1,rfl,rfl,bC⟩,fun o z=>(nomatch z),fun _=>rfl⟩
 ·obtain⟨vs,h1,_⟩:=Wu I e
  obtain⟨_,mA,hn,hr,_⟩:=cc5 I ed
  obtain⟨od,ho,hl⟩:=Nu hn
  refine⟨vs,some dx,some od,⟨h1,rfl,rfl,ho⟩,fun o z name=>?_,fun z=>nomatch z⟩
  cases z
  exact⟨_,hl name,hr name⟩
theorem Kq {Q:Value->aj->Prop} {c:Value} {b:Bool} {x:V} {u t:Value} (I:Inv X pins σ H s) (rx:RelV x u) (ty:TyX X.K H x t) (e:fJ X.K t c=some b) (h:∀ tk,Q (.bool b) { s with toks:=tk }) :
  aI (model X.prog X.w) A (call (.builtin "isinstance") [u,c]) Q E s:=by
 cases ty with
 | of ty=>exact Nm I rx ty e h
 | @exc a C fs ex ea cl et=>
  subst ex et
  cases (show u=aY a from rx)
  obtain⟨vs,dx,od,J,_⟩:=ea.inst I
  exact cj (ah4 cl) I.kIn ⟨_,_,J⟩ e (fun z=>nomatch z) h
 | @sqT a xs ex q et=>
  subst ex et
  cases (show u=aY a from rx)
  obtain⟨_,_,⟨o,h1,h2,_⟩,_⟩:=I.tuple q
  exact cj kF I.kIn ⟨o,h1,h2⟩ e (fun z=>nomatch z) h
 | @sqL a xs ex q et=>
  subst ex et
  cases (show u=aY a from rx)
  obtain⟨_,_,⟨o,_,h1,h2,_⟩,_⟩:=I.list q
  exact cj iT I.kIn ⟨o,h1,h2⟩ e (fun z=>nomatch z) h
theorem au8 {P:aV} {w:bM} {H:Hp} {h:Heap} {dx:Option Addr} {vs:Array Value} (h1:h.get? a=some (A0 C dx vs)) (h2:vs.size=6) (h3:vs[1]? = some .none) (h4:vs[2]? = some .none):ObjOk P w H h a (Mq a C dx):=
 ⟨⟨vs,h1,h2,h3,h4⟩,⟨_,h1⟩,fun _ _ ⟨vs',q1,q2⟩ k=>⟨vs',k _ q1,q2⟩⟩
theorem af8 {P:aV} {w:bM} {H:Hp} {h:Heap} {dx:Option Addr} {vs:Array Value} (h1:h.get? a=some (A0 C dx vs)) (h2:vs.size=6) (h4:vs[2]? = some .none):ObjOk P w H h a (flO a C dx):=
 ⟨⟨vs,h1,h2,h4⟩,⟨_,h1⟩,fun _ _ ⟨vs',q1,q2⟩ k=>⟨vs',k _ q1,q2⟩⟩
theorem af7 {P:aV} {w:bM} {H:Hp} {h:Heap} {dx:Option Addr} {vs:Array Value} (h1:h.get? a=some (A0 C dx vs)) (h2:vs.size=6):ObjOk P w H h a (fcO a C dx):=
 ⟨⟨vs,h1,h2⟩,⟨_,h1⟩,fun _ _ ⟨vs',q1,q2⟩ k=>⟨vs',k _ q1,q2⟩⟩
variable {CX:CXT} {k:Nat} {f:Addr} {fd:aA} {ps:List Str} {sp:Sp} {dvs:List V} {ds us:List Value} {vs:List V} {Q:VK}
theorem Vc (c:ECls X.K C) (hi:findIn X.K (.ref C) "__init__" = some (some (.builtin "ValueError.__init__"))) (I:Inv X pins σ H s) (r:Vals vs us) (hl:vs.length<=1000) (h:∀ a,H a=none->Q (.ref a) (upd H a (Mq a C none))) :
  aI (model X.prog X.w) X.A (call (.ref C) us) (EP X pins σ Q) X.xe s:=by
 obtain⟨nm,q,N,bs,bm,hdct,sn,sub,ab,col,dd,k0,k1,k2,k3,k5,hC,ht,_⟩:=c.obj
 obtain⟨hh,g,d,t,os⟩:=s
 refine gG (Yw ht (I.kIn _ _ hC) (looks_findIn I.kIn hi) (fun h' e M ee=>?_) (by rw [<- r.length,cZ];omega))
 subst ee
 obtain⟨kp,_,t0,q1,_,_⟩:=M
 refine⟨.ref (hh.objs.size+1),upd H (hh.objs.size+1) (Mq (hh.objs.size+1) C none),?_,rfl,h _ (I.hok.fresh (cE _))⟩
 exact I.laid (t':=t) kp (cE _) (au8 q1 rfl rfl rfl)
end
end L2
namespace L2
open PySem PySem.Spec PyProof.Rows
noncomputable def Ite (K:ac) (l:Addr):It:=
  ⟨fun i H=>∃ xs x,SqL K H l xs/\xs[i]? = some x,
   fun i H v H'=>∃ T x,H T=none/\v=.ref T/\(∀ xs,SqL K H l xs->xs[i]? = some x)/\H'=upd H T (.tup [.int i,x]),
   fun i H=>∃ xs,SqL K H l xs/\xs.length<=i⟩
theorem Zo {P:aV} {w:bM} {K:ac} {elts:List Expr} {kt:Nat} {pt:Pos} {e it l:Addr} (ne:e≠it) :
  Oe P w K (.Tuple elts kt pt) (Ite K l) [e,it] e (fun i h=>(∃ old,jD h e it (i:Int) old)/\h.IsListIter it l i) where
 mem:=by simp
 obj:=fun i h st b hb=>by
  obtain⟨⟨old,he⟩,⟨o1,e1,c1,d1⟩⟩:=st
  have hb:b=e\/b=it:=by simpa using hb
  rcases hb with rfl|rfl
  ·exact⟨_,he,fun v q=>nomatch q⟩
  ·exact⟨o1,e1,fun v q=>by rw [d1] at q;cases q⟩
 keep:=fun i h h' st k=>by
  obtain⟨⟨old,he⟩,h1⟩:=st
  exact⟨⟨old,k e (by simp) _ he⟩,h1.at fun o q=>k it (by simp) o q⟩
 item:=by
  intro X hP hw hK hc i pins s σ H E I hf st hg
  subst hP hw hK
  obtain⟨xs,x,q1,hx⟩:=hg
  obtain⟨its1,r1,p1,z1⟩:=I.list q1
  obtain⟨u,hu,ru⟩:=r1.get hx
  obtain⟨⟨old,he⟩,h1⟩:=st
  refine wpAny_pyNext_enum_item he h1 p1.isList (x:=u) (by simpa using hu) ne fun h' a1 a2 a3 a4 hk=>?_
  refine⟨_,rfl,iz a1 fun h'' hz' hs'=>?_⟩
  have hT:=I.hok.fresh (ay s.heap.objs.size)
  have up':∀ b o,b∉[e,it]->s.heap.get? b=some o->h''.get? b=some o:=fun b o hb q=>by
   have b1:b≠e:=by rintro rfl;exact hb (by simp)
   have b2:b≠it:=by rintro rfl;exact hb (by simp)
   exact hs'.extBut b o b1 (hk b o b1 b2 q)
  have nT:∀ {b o},s.heap.get? b=some o->b≠s.heap.objs.size:=fun q=>aH (aB q)
  have Tnew:h''.get? s.heap.objs.size=some { cls:=.type "tuple", data:=.seq #[.int i s.toks,u] }:=hs'.extBut _ _ (ck (nT he)) a3
  have I1:Inv X pins σ (upd H s.heap.objs.size (.tup [.int i,x])) { s with heap:=h'',toks:=s.toks+1 }:=
   I.turnedN (t':=s.toks+1) (ch:=[e,it]) (fun b hb=>hf b hb) up' (ay _) ⟨by show 2<=sizeLine;decide,[.int i s.toks,u],.cons ⟨_,rfl⟩ (.cons ru .nil),⟨_,Tnew,rfl,_,rfl⟩⟩
  refine⟨.ref s.heap.objs.size,_,I1,rfl,⟨s.heap.objs.size,x,hT,rfl,fun xs' h'=>by rw [I.list_inj h' q1];exact hx,rfl⟩,⟨⟨_,hz'⟩,a2.at fun o q=>hs'.extBut _ o (ck ne) q⟩,fun b hb=>?_⟩
  have q:=(hf b hb).1
  rw [Ai ?_]
  ·exact q
  ·have hb:b=e\/b=it:=by simpa using hb
   rcases hb with rfl|rfl
   ·exact nT he
   ·obtain⟨_,q,_⟩:=h1;exact nT q
 done:=by
  intro X hP hw hK hc i pins s σ H E I hf st hg
  subst hP hw hK
  obtain⟨xs,q1,hx⟩:=hg
  obtain⟨its1,r1,p1,z1⟩:=I.list q1
  have e1:=r1.length
  obtain⟨⟨old,he⟩,h1⟩:=st
  refine wpAny_pyNext_enum_end (I.ok.hd hc) he h1 p1.isList (by simp;omega) fun h' hk=>⟨rfl,?_⟩
  refine I.turnedL (t':=s.toks) (ch:=[e,it]) (fun b hb=>hf b hb) fun b o hb q=>?_
  have b2:b≠it:=by rintro rfl;exact hb (by simp)
  exact hk b o b2 q
 self:=fun A i s Q E st h=>let ⟨_,he⟩:=st.1;gJ he h
section
variable {X:Cx} {pins:List (Addr×Obj)} {σ σ0:St} {H H0:Hp} {s s0:aj} {p:Addr} {kvs:List (Key×V)} {o:Obj}
noncomputable def Xt (o:Obj) (ep:Nat):Prop:=∃ es,o.data=.dict es ep
theorem Inv.froze (I:Inv X pins σ H s) (h:H p=some (.dK kvs)):∃ ob ep,s.heap.get? p=some ob/\Xt ob ep/\Inv X pins σ (upd H p (.frz ob (.dK kvs))) s:=by
 have K:=I.hok p _ h
 obtain⟨z,y,vs,r,ob,es,ep,e,c,d,q⟩:=id K
 refine⟨ob,ep,e,⟨es,d⟩,?_⟩
 exact I.write (x:=p) (e:=p) (t':=s.toks) (h':=s.heap) (by rw [h];trivial) (.inl rfl) (fun b u _ q=>q) ⟨ob,e⟩ ⟨e,K⟩
theorem Inv.thaw (I0:Inv X pins σ0 H0 s0) (h0:H0 p=some (.dK kvs)) (I:Inv X pins σ H s) (h:H p=some (.frz o (.dK kvs))):Inv X pins σ (upd H p (.dK kvs)) s:=by
 have ne:∀ b,H b=none->b≠p:=fun b e z=>by rw [z,h] at e;cases e
 have ntup:∀ b xs,H b=some (.tup xs)->b≠p:=fun b xs e z=>by rw [z,h] at e;cases e
 have nown:∀ b c,H b=some (.own c)->b≠p:=fun b c e z=>by rw [z,h] at e;cases e
 refine⟨I.ok,I.os,I.bare,⟨I.base.keep,I.base.slot,fun b ob e n hx=>?_,I.base.there,fun b xs e=>?_,fun b ob u e=>?_,fun b ps e=>?_⟩,I.loc,I.cell,?_,fun x c e=>?_,fun q hq=>?_,fun b u e=>?_,I.len⟩
 ·have q:=I.base.free b ob e n hx
  rw [Ai (ne b q)];exact q
 ·have q:=I.base.tups b xs e
  rw [Ai (ntup b xs q)];exact q
 ·have q:=I.base.frzs b ob u e
  have n:b≠p:=fun z=>by
   have q0:=I0.base.frzs b ob u e
   rw [z,h0] at q0;cases q0
  rw [Ai n];exact q
 ·obtain⟨more,q⟩:=I.base.tbls b ps e
  have n:b≠p:=fun z=>by rw [z,h] at q;cases q
  exact⟨more,by rw [Ai n];exact q⟩
 ·rw [Ai (ne _ I.free)];exact I.free
 ·have q:=I.freeC x c e
  rw [Ai (ne _ q)];exact q
 ·obtain⟨a,b,c⟩:=I.pin q hq
  exact⟨a,by rw [Ai (ne _ b)];exact b,c⟩
 ·by_cases z:b=p
  ·subst z
   rw [Ad] at e
   cases e
   exact (I.hok b _ h).2
  ·rw [Ai z] at e
   exact (I.hok b u e).stay (fun _ _ _ q=>q) (fun c q=>by rw [Ai (nown c b q)];exact q) fun c xs q=>by rw [Ai (ntup c xs q)];exact q
theorem Thaw.inv {P:Hp->Prop} (I0:Inv X pins σ0 H0 s0) (I:Inv X pins σ H s) (t:Thaw H0 H P):∃ H',Inv X pins σ H' s/\P H':=by
 rcases t with t|⟨p,o,kvs,h0,h,t⟩
 ·exact⟨H,I,t⟩
 ·exact⟨_,I0.thaw h0 I h,t⟩
theorem Inv.kdict (I:Inv X pins σ H s) (h:H p=some (.frz o (.dK kvs))) {ep:Nat} (he:Xt o ep):∃ vs,KV kvs vs/\s.heap.DictAt (A7 X.prog X.w) p vs ep/\(p==dI)=false:=by
 obtain⟨e1,z,y,vs,r,ob,es,ep',e,c,d,q⟩:=I.hok p _ h
 obtain⟨es',d'⟩:=he
 rw [e1] at e
 cases e
 have d2:=d
 rw [d'] at d2
 cases d2
 exact⟨vs,r,⟨o,_,e1,c,d,q⟩,y⟩
end
noncomputable def Itd (p:Addr) (o:Obj) (kvs:List (Key×V)):It:=
 ⟨fun i H=>H p=some (.frz o (.dK kvs))/\i<kvs.length,fun i H x H'=>H'=H /\ ∃ k v,kvs[i]? = some (k,v)/\x=kV k,fun i H=>H p=some (.frz o (.dK kvs))/\kvs.length<=i⟩
theorem Wz:∀ {kvs:List (Key×V)} {vs:List (Key×Value)} {i:Nat} {k:Key} {v:V},KV kvs vs->kvs[i]? = some (k,v) -> ∃ u,vs[i]? = some (k,u)/\RelV v u
 | _,_,0,k,v,.cons (b:=q) r _,e=>by
  simp only [dN,iQ] at e
  subst e
  exact⟨q.2,congrArg some (Prod.ext r.1.symm rfl),r.2⟩
 | _,_,i+1,k,v,.cons r t,e=>by
  simp only [bN] at e ⊢
  exact Wz t e
theorem ah2 {P:aV} {w:bM} {k:Key} {u:Value} (h:(A7 P w).is k u=true):RelV (kV k) u:=by
 cases k with
 | inl i=>obtain⟨t,rfl⟩:=Value.isInt_shape (show lQ i u=true from h);exact⟨t,rfl⟩
 | inr z=>obtain⟨t,rfl⟩:=km (show hW z u=true from h);exact⟨t,rfl⟩
theorem Zn {P:aV} {w:bM} {K:ac} {tg:Expr} (p it:Addr) (o:Obj) (kvs:List (Key×V)) {ep:Nat} (he:Xt o ep):Oe P w K tg (Itd p o kvs) [it] it (fun i h=>h.IsKeyIter it p i kvs.length ep) where
 mem:=by simp
 obj:=fun i h st b hb=>by
  have e:b=it:=by simpa using hb
  subst e
  obtain⟨o,e,c,d⟩:=st
  exact⟨o,e,fun v z=>by rw [d] at z;cases z⟩
 keep:=fun i h h' st k=>st.at fun o e=>k it (by simp) o e
 item:=by
  intro X hP hw hK hc i pins s σ H E I hf st hg
  subst hP hw hK
  obtain⟨hH,hi⟩:=hg
  obtain⟨vs,rel,hd,hm⟩:=I.kdict hH he
  obtain⟨f0,f1,f2,f3,f4,f5⟩:=hf it (by simp)
  obtain⟨⟨k,v⟩,hx⟩:∃ q,kvs[i]? = some q:=⟨kvs[i],by simp [hi]⟩
  obtain⟨u,hu,_⟩:=Wz rel hx
  have hl:kvs.length=vs.length:=rel.length
  rw [hl] at st
  refine jz st hd hu fun key h' hk st' sb=>?_
  have I1:Inv X pins σ H { s with heap:=h' }:=I.turned (t':=s.toks) (fun b o hb e=>sb.extBut b o hb e) f0 f1 f3 f4 f5
  obtain⟨o1,e,c,d⟩:=id st'
  exact⟨key,rfl,Nj (s:={ s with heap:=h' }) e c d (by decide) ⟨kV k,H,I1,ah2 hk,⟨rfl,k,v,hx,rfl⟩,by rw [hl];exact st',fun b hb=>(hf b hb).1⟩⟩
 done:=by
  intro X hP hw hK hc i pins s σ H E I hf st hg
  subst hP hw hK
  obtain⟨hH,hi⟩:=hg
  obtain⟨vs,rel,hd,hm⟩:=I.kdict hH he
  obtain⟨f0,f1,f2,f3,f4,f5⟩:=hf it (by simp)
  have hl:kvs.length=vs.length:=rel.length
  rw [hl] at st
  exact wpAny_pyNext_dict_end (I.ok.hd hc) st hd (by simp;omega) fun h' eb=>⟨rfl,I.turned (t':=s.toks) (fun b o hb e=>eb b o hb e) f0 f1 f3 f4 f5⟩
 self:=fun _ _ _ _ _ st h=>wpAny_pyIter_keyiter st h
theorem au0 {X:Cx} {tg:Expr} {pins:List (Addr×Obj)} {σ:St} {H:Hp} {s:aj} {R:It->Hp->Prop} {E:Value->aj->Prop} {p:Addr} {o:Obj} {kvs:List (Key×V)} (I:Inv X pins σ H s) (h:H p=some (.frz o (.dK kvs)))
  (q:R (Itd p o kvs) H):aI (model X.prog X.w) X.A (l3 (.ref p)) (PIE X pins σ tg R) E s:=by
 have he:∃ ep,Xt o ep:=by
  obtain⟨e1,z,y,vs,r,ob,es,ep,e,c,d,_⟩:=I.hok p _ h
  rw [e1] at e;cases e
  exact⟨ep,es,d⟩
 obtain⟨ep,he⟩:=he
 obtain⟨vs,rel,hd,hm⟩:=I.kdict h he
 refine fz hm hd ?_
 refine⟨s.heap.objs.size,[s.heap.objs.size],_,_,H,rfl,I.kept (t':=s.toks) fun b o e=>ag _ e,Zn p _ o kvs he,⟨_,aw _ rfl,rfl,by rw [rel.length];rfl⟩,fun b hb=>?_,q⟩
 have e:b=s.heap.objs.size:=by simpa using hb
 subst e
 exact I.fpOk (ay _) (I.hok.fresh (ay _))
end L2
namespace PySem
theorem Sem.wp_never {α:Type} (M:mf) (Γ:Ctx):∀ (t:Sem α) (p:Pos) (s:aj),Sem.wp M Γ t (fun _ _ _=>False) (fun _ _ _=>False) p s->False:=by
 intro t
 induction t with
 | pure a=>intro p s h;exact h
 | raise e=>intro p s h;exact h
 | unsupported w=>intro p s h;exact h
 | finish e=>intro p s h;exact h
 | rule tag k ih=>intro p s h;exact ih () p s h
 | «at» q k ih=>intro p s h;exact ih () q s h
 | load a part k ih=>intro p s h;obtain⟨o,_,h⟩:=h;exact ih o p s h
 | update a part f k ih=>intro p s h;exact ih () p _ h.2
 | alloc o k ih=>intro p s h;exact ih _ p _ h
 | loadIfAlive a k ih=>intro p s h;exact ih _ p s h
 | point l k ih=>intro p s h;exact ih () p s h
 | register a k ih=>intro p s h;exact h
 | fresh k ih=>intro p s h;exact ih _ p _ h
 | ask k ih=>intro p s h;exact ih _ p s h
 | choose src n k ih=>intro p s h;exact ih _ p _ h.2
 | os q l k ih=>intro p s h;exact ih _ p _ h
 | call c hd g l k ih=>intro p s h;obtain⟨r,s',_,h⟩:=h;exact ih r p s' h
 | handled own k ih=>intro p s h;exact ih _ p s h
 | newGen c k ih=>intro p s h;exact ih _ p _ h
 | genState g k ih=>intro p s h;obtain⟨st,_,h⟩:=h;exact ih _ p s h
 | resume g r l k ih=>intro p s h;obtain⟨res,s',_,h⟩:=h;exact ih res p s' h
 | yield v g l k ih=>intro p s h;exact h
 | stack k ih=>intro p s h;exact ih _ p s h
 | fork c k ih=>intro p s h;exact h
 | thread k ih=>intro p s h;first|exact ih _ p s h|exact h
 | await a tk d l k ih=>intro p s h;first|exact h|exact ih _ p s h
section
variable {prog:aV} {w:bM} {A:bi} {E:Value->aj->Prop} {s:aj}
theorem Y2 {v:Value} {P:Value->aj->Prop} (h:aI (model prog w) A (fC v) (fun r s'=>∃ u,r=some u/\P u s') (fun _ _=>False) s):aI (model prog w) A (aT v) P E s:=by
 intro Γ p hΓ
 have h:=h Γ p hΓ
 unfold fC Sem.attempt at h
 unfold aT
 rw [lz,Sem.wp_tryCatch,Sem.wp_bind] at h
 rw [lz]
 refine Sem.wp_mono _ _ _ (fun o p' s' q=>?_) (fun e p' s' q=>?_) p s h
 ·cases o with
  | none=>exact (show False from q).elim
  | some u=>
   obtain⟨u',e,q⟩:=q
   cases e
   exact q
 ·refine (Sem.wp_never (model prog w) Γ (kZ e (.type "StopIteration")) p' s' ?_).elim
  have q:Sem.wp (model prog w) Γ (kZ e (.type "StopIteration") >>= fun b=>if b=true then pure none else throw e) (fun r _ s'=>∃ u,r=some u/\P u s') (fun _ _ _=>False) p' s':=q
  rw [lz] at q
  refine Sem.wp_mono _ _ _ (fun b p2 s2 q=>?_) (fun _ _ _ z=>z) p' s' q
  cases b with
  | true=>obtain⟨u,z,_⟩:=q;cases z
  | false=>exact q
variable {κ:Type} [DecidableEq κ] {knd:KeyKind prog w κ} {d it:Addr} {ep i:Nat} {kvs:List (κ×Value)}
theorem Jo {Q:Value->aj->Prop} (hh:A.handled=none) (hit:s.heap.IsKeyIter it d i kvs.length ep) (hm:s.heap.DictAt knd d kvs ep) (hx:kvs[i]? = none)
  (hE:∀ h' x,lJ it s.heap h'->(∃ o,h'.get? x=some o/\o.cls=.type "StopIteration")->E (.ref x) { s with heap:=h' }):aI (model prog w) A (aT (.ref it)) Q E s:=by
 have ⟨oi,ei,ci,di⟩:=hit
 have ⟨od,es,ed,_,dd,_,pr,_⟩:=hm
 have size:es.size=kvs.length:=pr.length▸(by simp)
 have past:es.size<=i:=by rw [size];simpa using hx
 have own:eQ "dict_keyiterator" = false:=by decide
 have nx:¬ ((i:Int)<0):=by omega
 have noNone:¬ ((aY d==bh)=true):=am
 unfold aT
 refine af (bW (name:=cS "__next__") hit.typeIs g8 (cM g8 hit.typeIs F.entry_dict_keyiterator_next ?_ (F.args_dict_keyiterator_next_1 _)))
 refine af (al (af (af ?_)))
 first|refine af (gY hit.typeIs (al (af (fM ei di ?_))))|refine af (iZ hit.typeIs (al (af (fM ei di ?_))))
 simp only [own,bz,if_false]
 show aI _ _ (if (aY d==bh)=true then _ else _) _ _ s
 rw [if_neg noNone]
 refine af (al (af (gH ed dd ?_)))
 rw [if_neg (show ¬ _ by rw [size];simp)]
 refine af (al (af (jR ed dd ?_)))
 rw [if_neg (show ¬ _ by simp)]
 refine al ?_
 simp only [nx,if_false,aK,jn past]
 refine af ?_
 first|refine af (gY hit.typeIs (al ?_))|refine af (iZ hit.typeIs (al ?_))
 show aI _ _ (je (.ref it) 0 .none >>= fun _=>newExc (.type "StopIteration") [] >>= _) _ _ s
 refine af (eN ei di (by simp) (af ?_))
 simp only [newExc,newTuple]
 refine af (cB (af (m:=iK _ _) (lX (a:=bh) (by first|rfl|(simp only [iK];rfl)) (cB ?_ (by size_fits)))) (by size_fits))
 simp only [ma]
 refine af (kT ?_)
 rw [show A.in1.handled=none from hh]
 refine af (al (ky ?_))
 exact hE _ _ (((cu ..).extBut.push _).push _) ⟨_,aw _ rfl,rfl⟩
theorem Ig {k:κ} {v:Value} {Q:Value->aj->Prop} (hit:s.heap.IsKeyIter it d i kvs.length ep) (hm:s.heap.DictAt knd d kvs ep) (hx:kvs[i]? = some (k,v))
  (hQ:∀ key h',knd.is k key=true->h'.IsKeyIter it d (i+1) kvs.length ep->bc it s.heap h'->Q key { s with heap:=h' }):aI (model prog w) A (aT (.ref it)) Q E s:=
 Y2 (jz hit hm hx fun key h' a b c=>⟨key,rfl,hQ key h' a b c⟩)
theorem Ya {e:Addr} {old:Value} {J:Value->Heap->Prop} {Q:Value->aj->Prop} (he:jD s.heap e it i old) (hne:e≠it)
  (nx:∀ (A:bi) (P:Value->aj->Prop) (E:Value->aj->Prop),(∀ x h1,J x h1->bc it s.heap h1->P x { s with heap:=h1 })->aI (model prog w) A (aT (.ref it)) P E s)
  (hJ:∀ x h1 h2,J x h1->(∀ o,h1.get? it=some o->h2.get? it=some o)->J x h2)
  (hQ:∀ x h',IsEnumOut h' e it ((i:Int)+1) x s.heap.objs.size->J x h'->h'.get? s.heap.objs.size=some { cls:=.type "tuple", data:=.seq #[.int i s.toks,x] } ->
   (∀ b o,b≠e->b≠it->s.heap.get? b=some o->h'.get? b=some o)->Q (.ref s.heap.objs.size) { s with heap:=h',toks:=s.toks+1 }) :
  aI (model prog w) A (ar.«enumerate.__next__» ⟨[.ref e],[]⟩) (fun fin s'=>∃ v,fin=.done (.ret v)/\Q v s') E s:=by
 have lt:e<s.heap.objs.size:=aB he
 obtain⟨h0,gs,dr,tk,ops⟩:=s
 show aI _ _ (lZ (.ref e) 2 >>= fun z=>aT z >>= _) _ _ _
 refine af (bd he rfl (x:=.ref it) rfl (af (nx _ _ _ fun x h1 j1 s1=>?_)))
 have k1:bc it h0 h1:=s1
 have e1:jD h1 e it i old:=(k1.2 e hne).trans he
 refine af (bd (s:=⟨h1,gs,dr,tk,ops⟩) e1 rfl (x:=eC i) rfl ?_)
 refine af (m:=lZ (.ref e) 4) (bd (s:=⟨h1,gs,dr,tk,ops⟩) e1 rfl (x:=.none) rfl ?_)
 show aI _ _ (mkInt i >>= _) _ _ ⟨h1,gs,dr,tk,ops⟩
 refine af (wpAny_mkInt ?_)
 show aI _ _ (je (.ref e) 3 (eC ((i:Int)+1)) >>= fun _=>je (.ref e) 4 .none >>= _) _ _ ⟨h1,gs,dr,tk+1,ops⟩
 refine af (br e1 (by simp) fun h2 e2 s2=>af (br (s:=⟨h2,gs,dr,tk+1,ops⟩) (show jD h2 e it ((i:Int)+1) old from e2) (by simp) fun h3 e3 s3=>?_))
 have k2:bc e h1 h2:=s2
 have k3:bc e h2 h3:=s3
 have e3:jD h3 e it ((i:Int)+1) old:=e3
 show aI _ _ (newTuple [.int i tk,x] >>= _) _ _ ⟨h3,gs,dr,tk+1,ops⟩
 refine af (gL ?_)
 have size:h3.objs.size=h0.objs.size:=by rw [k3.1,k2.1,k1.1]
 have up:∃ h4:Heap,h4=h3.push { cls:=.type "tuple", data:=.seq #[.int i tk,x] }:=⟨_,rfl⟩
 obtain⟨h4,eh4⟩:=up
 rw [<- eh4]
 have e4:jD h4 e it ((i:Int)+1) old:=by rw [eh4];exact ag _ e3
 have t4:h4.get? h0.objs.size=some { cls:=.type "tuple", data:=.seq #[.int i tk,x] }:=by rw [eh4,<- size];exact aw _ rfl
 have j4:J x h4:=hJ x h1 h4 j1 fun o q=>by rw [eh4];exact ag _ (k3.extBut it o (ck hne) (k2.extBut it o (ck hne) q))
 have all4:∀ b o,b≠e->b≠it->h0.get? b=some o->h4.get? b=some o:=fun b o b1 b2 q=>by
  rw [eh4]
  exact ag _ (k3.extBut b o b1 (k2.extBut b o b1 (k1.extBut b o b2 q)))
 show aI _ _ (bo (.ref e) >>= _) _ _ ⟨h4,gs,dr,tk+1,ops⟩
 rw [size]
 refine af ?_
 unfold bo
 refine af (bd e4 rfl (x:=.none) rfl (al ?_))
 simp only [if_true]
 refine af (hX (af (bd e4 rfl (x:=old) rfl (af (br e4 (by simp) fun h5 e5 s5=>?_)))))
 have e5:jD h5 e it ((i:Int)+1) x:=e5
 have k5:bc e h4 h5:=s5
 show aI _ _ (cH (.ref e) (.ref h0.objs.size) >>= _) _ _ ⟨h5,gs,dr,tk+1,ops⟩
 refine af ?_
 unfold cH
 refine af (br e5 (by simp) fun h6 e6 s6=>br (s:=⟨h6,gs,dr,tk+1,ops⟩) (show IsEnumOut h6 e it ((i:Int)+1) x h0.objs.size from e6) (by simp) fun h7 e7 s7=>?_)
 have k6:bc e h5 h6:=s6
 have k7:bc e h6 h7:=s7
 have on:∀ b o,b≠e->h4.get? b=some o->h7.get? b=some o:=fun b o n q=>k7.extBut b o n (k6.extBut b o n (k5.extBut b o n q))
 exact af (gI (al ⟨_,rfl,hQ x h7 e7 (hJ x h4 h7 j4 fun o q=>on it o (ck hne) q) (on _ _ (cx lt) t4) fun b o b1 b2 q=>on b o b1 (all4 b o b1 b2 q)⟩))
theorem K7 {e:Addr} {old:Value} {J:Value->Heap->Prop} {Q:Option Value->aj->Prop} (he:jD s.heap e it i old) (hne:e≠it)
  (nx:∀ (A:bi) (P:Value->aj->Prop) (E:Value->aj->Prop),(∀ x h1,J x h1->bc it s.heap h1->P x { s with heap:=h1 })->aI (model prog w) A (aT (.ref it)) P E s)
  (hJ:∀ x h1 h2,J x h1->(∀ o,h1.get? it=some o->h2.get? it=some o)->J x h2)
  (hQ:∀ x h',IsEnumOut h' e it ((i:Int)+1) x s.heap.objs.size->J x h'->h'.get? s.heap.objs.size=some { cls:=.type "tuple", data:=.seq #[.int i s.toks,x] } ->
   (∀ b o,b≠e->b≠it->s.heap.get? b=some o->h'.get? b=some o)->Q (some (.ref s.heap.objs.size)) { s with heap:=h',toks:=s.toks+1 }):aI (model prog w) A (fC (.ref e)) Q E s:=by
 have ty:s.TypeIs (.ref e) "enumerate" := ⟨_,he,rfl⟩
 unfold fC
 exact af (eI (bW (name:=cS "__next__") ty eZ (cM eZ ty jo (Ya he hne nx hJ fun x h' a b c d=>al (hQ x h' a b c d)) (i4 _))))
theorem Im {e:Addr} {old:Value} {Q:Option Value->aj->Prop} (hh:A.handled=none) (he:jD s.heap e it i old) (hit:s.heap.IsKeyIter it d i kvs.length ep) (hm:s.heap.DictAt knd d kvs ep) (hx:kvs[i]? = none)
  (hQ:∀ h',lJ it s.heap h'->Q none { s with heap:=h' }):aI (model prog w) A (fC (.ref e)) Q E s:=by
 have ty:s.TypeIs (.ref e) "enumerate" := ⟨_,he,rfl⟩
 unfold fC
 refine af (eI (bW (name:=cS "__next__") ty eZ (cM eZ ty jo ?_ (i4 _))))
 show aI _ _ (lZ (.ref e) 2 >>= fun z=>aT z >>= _) _ _ _
 refine af (bd he rfl (x:=.ref it) rfl (af (Jo hh hit hm hx fun h' x hk ⟨o,ho,hc⟩=>?_)))
 exact af (fO (T := "StopIteration") (b:=true) ⟨o,ho,hc⟩ kc (al (hQ _ hk)))
theorem Tk {Q:Value->aj->Prop} (hd:(d==dI)=false) (hm:s.heap.DictAt knd d kvs ep)
  (h:∀ h',jD h' (s.heap.objs.size+1) s.heap.objs.size 0 .none->h'.IsKeyIter s.heap.objs.size d 0 kvs.length ep->(∀ b o,s.heap.get? b=some o->h'.get? b=some o)->Q (.ref (s.heap.objs.size+1)) { s with heap:=h' }) :
  aI (model prog w) A (call (.type "enumerate") [.ref d]) Q E s:=by
 have g:MeetsIn prog w (ar.«enumerate.__new__» ⟨[.type "enumerate", .ref d],[]⟩) (fun _ R s=>s.heap.DictAt knd d kvs ep /\
   R (.ok (.ret (.ref (s.heap.objs.size+1)))) { s with heap:=(s.heap.push { cls:=.type "dict_keyiterator", data:=.fields #[.ref d,.int 0 0,.int kvs.length 0,.int ep 0] }).push { cls:=.type "enumerate", data:=.fields #[.none,.bool false,.ref s.heap.objs.size,eC 0,.none,.none] } }):=by
  refine .of_wp fun A R s h=>?_
  obtain⟨hp,g,d',tk,os⟩:=s
  obtain⟨hm,h⟩:=h
  have hsub:=sub_enumerate
  obtain⟨o,es,ho,hcl,hdat,q⟩:=id hm
  have hz:(hp.push { cls:=.type "dict_keyiterator", data:=.fields #[.ref d,.int 0 0,.int kvs.length 0,.int ep 0] }).objs.size=hp.objs.size+1:=bJ ..
  wp_walk using fz hd hm
  refine wpAny_stack_any fun st=>al ?_
  have h2:R (.ok (.ret (.ref (hp.push { cls:=.type "dict_keyiterator", data:=.fields #[.ref d,.int 0 0,.int kvs.length 0,.int ep 0] }).objs.size))) ⟨(hp.push { cls:=.type "dict_keyiterator", data:=.fields #[.ref d,.int 0 0,.int kvs.length 0,.int ep 0] }).push { cls:=.type "enumerate", data:=.fields #[.none,.bool false,.ref hp.objs.size,eC 0,.none,.none] },g,d',tk,os⟩:=by rw [hz];exact h
  split
  ·rename_i c _ _ _ _ _
   cases (c==c7 "enumerate")
   ·wp_walk using fz hd hm
    exact⟨_,rfl,h2⟩
   ·wp_walk using fz hd hm
    exact⟨_,rfl,h2⟩
  ·wp_walk using fz hd hm
   exact⟨_,rfl,h2⟩
 refine callType_newIn F.called_enumerate (by decide) (F.typeCall_enumerate_1 _) (F.newCall_enumerate_1 _) (fun obj=>F.args_object_init_2 obj _) F.entry_enumerate_new g ⟨hm,?_⟩
 have hz:(s.heap.push { cls:=.type "dict_keyiterator", data:=.fields #[.ref d,.int 0 0,.int kvs.length 0,.int ep 0] }).objs.size=s.heap.objs.size+1:=bJ ..
 have he:jD ((s.heap.push { cls:=.type "dict_keyiterator", data:=.fields #[.ref d,.int 0 0,.int kvs.length 0,.int ep 0] }).push { cls:=.type "enumerate", data:=.fields #[.none,.bool false,.ref s.heap.objs.size,eC 0,.none,.none] }) (s.heap.objs.size+1) s.heap.objs.size 0 .none:=hz▸aw _ rfl
 exact⟨⟨_,he,rfl⟩,h _ he ⟨_,ag _ (aw _ rfl),rfl,rfl⟩ fun b o x=>ag _ (ag _ x)⟩
end
end PySem
namespace L2
open PySem PySem.Spec PyProof.Rows
noncomputable def Zx (p:Addr) (o:Obj) (kvs:List (Key×V)):It:=
  ⟨fun i H=>H p=some (.frz o (.dK kvs))/\i<kvs.length,
   fun i H x H'=>∃ T k v,H T=none/\x=.ref T/\kvs[i]? = some (k,v)/\H'=upd H T (.tup [.int i,kV k]),
   fun i H=>H p=some (.frz o (.dK kvs))/\kvs.length<=i⟩
theorem Wc {P:aV} {w:bM} {K:ac} {elts:List Expr} {kt:Nat} {pt:Pos} {e it p:Addr} {o:Obj} {kvs:List (Key×V)} {ep:Nat} (ne:e≠it) (he:Xt o ep) :
  Oe P w K (.Tuple elts kt pt) (Zx p o kvs) [e,it] e (fun i h=>(∃ old,jD h e it (i:Int) old)/\h.IsKeyIter it p i kvs.length ep) where
 mem:=by simp
 obj:=fun i h st b hb=>by
  obtain⟨⟨old,he⟩,⟨o1,e1,c1,d1⟩⟩:=st
  rcases List.mem_cons.mp hb with rfl|hb
  ·exact⟨_,he,fun v q=>nomatch q⟩
  ·rw [List.mem_singleton.mp hb];exact⟨o1,e1,fun v q=>by rw [d1] at q;cases q⟩
 keep:=fun i h h' st k=>let ⟨⟨old,he⟩,h1⟩:=st;⟨⟨old,k e (by simp) _ he⟩,h1.at fun o q=>k it (by simp) o q⟩
 item:=by
  intro X hP hw hK hc i pins s σ H E I hf st hg
  subst hP hw hK
  obtain⟨hH,hi⟩:=hg
  obtain⟨vs,rel,hd,hm⟩:=I.kdict hH he
  obtain⟨⟨k,v⟩,hx⟩:∃ q,kvs[i]? = some q:=⟨kvs[i],by simp [hi]⟩
  obtain⟨u,hu,_⟩:=Wz rel hx
  have hl:kvs.length=vs.length:=rel.length
  obtain⟨⟨old,en⟩,h1⟩:=st
  rw [hl] at h1
  refine K7 en ne (J:=fun x h=>(A7 X.prog X.w).is k x=true/\h.IsKeyIter it p (i+1) vs.length ep) (fun A P E hQ=>Ig h1 hd hu fun key h' a b c=>hQ key h' ⟨a,b⟩ c) (fun x h1 h2 j k=>⟨j.1,j.2.at k⟩) fun key h' a1 ⟨hk,a2⟩ a3 hk'=>?_
  refine⟨_,rfl,iz a1 fun h'' hz' hs'=>?_⟩
  have hT:=I.hok.fresh (ay s.heap.objs.size)
  have nT:∀ {b ob},s.heap.get? b=some ob->b≠s.heap.objs.size:=fun q=>aH (aB q)
  have up:∀ b ob,b∉[e,it]->s.heap.get? b=some ob->h''.get? b=some ob:=fun b ob hb q=>by
   have b1:b≠e:=by rintro rfl;exact hb (by simp)
   have b2:b≠it:=by rintro rfl;exact hb (by simp)
   exact hs'.extBut b ob b1 (hk' b ob b1 b2 q)
  have Tnew:h''.get? s.heap.objs.size=some { cls:=.type "tuple", data:=.seq #[.int i s.toks,key] }:=hs'.extBut _ _ (ck (nT en)) a3
  have I1:Inv X pins σ (upd H s.heap.objs.size (.tup [.int i,kV k])) { s with heap:=h'',toks:=s.toks+1 }:=
   I.turnedN (t':=s.toks+1) (ch:=[e,it]) (fun b hb=>hf b hb) up (ay _) ⟨by show 2<=sizeLine;decide,[.int i s.toks,key],.cons ⟨_,rfl⟩ (.cons (ah2 hk) .nil),⟨_,Tnew,rfl,_,rfl⟩⟩
  refine⟨.ref s.heap.objs.size,_,I1,rfl,⟨s.heap.objs.size,k,v,hT,rfl,hx,rfl⟩,⟨⟨_,hz'⟩,by rw [hl];exact a2.at fun o q=>hs'.extBut _ o (ck ne) q⟩,fun b hb=>?_⟩
  have q:=(hf b hb).1
  rw [Ai ?_]
  ·exact q
  ·rcases List.mem_cons.mp hb with rfl|hb
   ·exact nT en
   ·rw [List.mem_singleton.mp hb];obtain⟨_,q,_⟩:=h1;exact nT q
 done:=by
  intro X hP hw hK hc i pins s σ H E I hf st hg
  subst hP hw hK
  obtain⟨hH,hi⟩:=hg
  obtain⟨vs,rel,hd,hm⟩:=I.kdict hH he
  have hl:kvs.length=vs.length:=rel.length
  obtain⟨⟨old,en⟩,h1⟩:=st
  rw [hl] at h1
  refine Im (I.ok.hd hc) en h1 hd (by simp;omega) fun h' hk=>⟨rfl,?_⟩
  refine I.turnedL (t':=s.toks) (ch:=[e,it]) (fun b hb=>hf b hb) fun b o hb q=>hk b o (by rintro rfl;exact hb (by simp)) q
 self:=fun A i s Q E st h=>let ⟨_,he⟩:=st.1;gJ he h
theorem af3 {X:Cx} {elts:List Expr} {kt:Nat} {pt:Pos} {pins:List (Addr×Obj)} {σ:St} {H:Hp} {s:aj} {R:It->Hp->Prop} {E:Value->aj->Prop} {p:Addr} {o:Obj} {kvs:List (Key×V)} (I:Inv X pins σ H s) (h:H p=some (.frz o (.dK kvs)))
  (q:R (Zx p o kvs) H):aI (model X.prog X.w) X.A (call (.type "enumerate") [.ref p]) (fun v s1=>aI (model X.prog X.w) X.A (l3 v) (PIE X pins σ (.Tuple elts kt pt) R) E s1) E s:=by
 have he:∃ ep,Xt o ep:=by
  obtain⟨e1,z,y,vs,r,ob,es,ep,e,c,d,_⟩:=I.hok p _ h
  rw [e1] at e;cases e
  exact⟨ep,es,d⟩
 obtain⟨ep,he⟩:=he
 obtain⟨vs,rel,hd,hm⟩:=I.kdict h he
 refine Tk hm hd fun h' en hit hk=>gJ en ?_
 refine⟨_,_,_,_,H,rfl,I.kept (t':=s.toks) hk,Wc (ji _) he,⟨⟨_,en⟩,by rw [rel.length];exact hit⟩,fun b hb=>?_,q⟩
 have hb:b=s.heap.objs.size+1\/b=s.heap.objs.size:=by simpa using hb
 have le:s.heap.objs.size<=b:=hb.elim (fun e=>e▸bK _ 1) fun e=>e▸ay _
 exact I.fpOk le (I.hok.fresh le)
end L2
namespace PySem
open PyProof.Rows
section
variable {κ:Type} [DecidableEq κ]
noncomputable def Eu (xs:List κ):List κ:=xs.foldl (fun σ k=>if σ.any (fun j=>decide (j=k)) then σ else σ++[k]) []
theorem Nw (xs:List κ) (k:κ):Eu (xs++[k])=if (Eu xs).any (fun j=>decide (j=k)) then Eu xs else Eu xs++[k]:=by
 unfold Eu
 rw [fm]
 rfl
theorem aj1 (xs:List κ) (k j:κ):(Eu (xs++[k])).any (fun i=>decide (i=j))=((Eu xs).any (fun i=>decide (i=j))||decide (j=k)):=by
 rw [Nw]
 by_cases h:(Eu xs).any (fun i=>decide (i=k))=true
 ·rw [if_pos h]
  by_cases e:j=k
  ·subst e;rw [h];rfl
  ·simp [e]
 ·rw [if_neg h,List.any_append]
  congr 1
  simp [eq_comm]
theorem Rq (xs:List κ):(Eu xs).length<=xs.length:=by
 have:∀ (ys acc:List κ),(ys.foldl (fun σ k=>if σ.any (fun j=>decide (j=k)) then σ else σ++[k]) acc).length<=acc.length+ys.length:=by
  intro ys
  induction ys with
  | nil=>intro acc;exact ay _
  | cons y ys ih=>
   intro acc
   refine aQ (ih _) ?_
   rw [aN]
   dsimp only
   split
   ·omega
   ·rw [aJ,cw];omega
 exact aQ (this xs []) (by simp)
end
section
variable {prog:aV} {w:bM} {A:bi} {R:j9->aj->Prop} {I:Addr} {fp wr:List Addr} {G:Array jU->Array jU->Prop} {P:Nat->Value->Prop} {St:Nat->aj->Prop} {κ:Type} [DecidableEq κ] {knd:KeyKind prog w κ} {ks:List κ}
noncomputable abbrev Fk (knd:KeyKind prog w κ) (h:Heap) (S:Addr) (ks:List κ):Prop:=h.SetOf knd S (fun k=>(Eu ks).any (fun j=>decide (j=k))) (Eu ks).length
theorem Nc {h h':Heap} {S:Addr} (x:Fk knd h S ks) (k:∀ o,h.get? S=some o->h'.get? S=some o):Fk knd h' S ks:=
 let ⟨o,es,ep,t,ho,r⟩:=x;⟨o,es,ep,t,k o ho,r⟩
theorem Sn (W:WalksS prog w A.in1 I fp wr G ks.length P St) (S:Addr) (out:S∉fp) (hv:∀ i v,P i v -> ∃ k,ks[i]? = some k/\knd.is k v=true/\v.scannable=true) (few:ks.length+1<scanBound) (left:Nat) :
  ∀ (i:Nat) (s:aj),i+left=ks.length->St i s->Fk knd s.heap S (ks.take i)->(∀ s',Moved (S::wr) G s s'->Fk knd s'.heap S ks->R (.ok (.ret .none)) s') ->
   eO (model prog w) A (.builtin "set.update.loop" ⟨[.ref S,.ref I],[]⟩) R s:=by
 have outw:S∉wr:=fun z=>out (W.sub _ z)
 have into:∀ b∈wr,b∈S::wr:=fun b z=>.tail _ z
 induction left with
 | zero=>
  intro i s hi st fl hR
  have ei:i=ks.length:=hi
  subst ei
  rw [aX] at fl
  refine cY i5 (cC f8 _ ▸ ?_)
  show aI _ A.in1 (fC (.ref I) >>= _) _ _ s
  exact af (W.done s _ _ st fun s' mv=>al (hR s' (mv.mono into) (Nc fl fun o e=>mv.heap S o outw e)))
 | succ left ih=>
  intro i s hi st fl hR
  have lt:i<ks.length:=by omega
  refine cY i5 (cC f8 _ ▸ ?_)
  show aI _ A.in1 (fC (.ref I) >>= _) _ _ s
  refine af (W.item i s _ _ lt st fun v s1 pv st1 mv=>?_)
  obtain⟨k,ek,ik,sk⟩:=hv i v pv
  have fl1:Fk knd s1.heap S (ks.take i):=Nc fl fun o e=>mv.heap S o outw e
  have tk:ks.take (i+1)=ks.take i++[k]:=by rw [List.take_succ,ek];rfl
  show aI _ A.in1 (lT [v] (setAdd S v) >>= _) _ _ s1
  refine af (bx ?_)
  unfold setAdd
  refine bx (af (knd.pyHash (k:=k) ik ?_))
  have room:(Eu (ks.take i)).length+1<scanBound:=by
   have:=Rq (ks.take i)
   rw [aO] at this
   omega
  refine wpAny_setAddHashed_of (knd:=knd) (s:={ s1 with toks:=s1.toks+1 }) ik sk fl1 room fun h' sb fl2=>?_
  have fl3:Fk knd h' S (ks.take (i+1)):=by
   have eS:(fun j=>(Eu (ks.take i)).any (fun m=>decide (m=j))||decide (j=k))=fun j=>(Eu (ks.take i++[k])).any (fun m=>decide (m=j)):=funext fun j=>(aj1 (ks.take i) k j).symm
   have en:(if (Eu (ks.take i)).any (fun m=>decide (m=k))=true then (Eu (ks.take i)).length else (Eu (ks.take i)).length+1)=(Eu (ks.take i++[k])).length:=by
    rw [Nw];split <;> simp
   rw [tk]
   show h'.SetOf knd S _ _
   rw [<- eS,<- en]
   exact fl2
  refine al ⟨dv f8 _,ih (i+1) _ (by omega) (W.frame _ s1 _ _ st1 (cE _) fun b hb o e=>?_) fl3 fun s2 mv2 fl4=>?_⟩
  ·exact (sb.2 b fun z=>out (z▸hb)).trans e
  ·exact hR s2 (Moved.trans W.gtrans ((mv.mono into).then_heap (cE _) fun b o hb e=>(sb.2 b fun z=>hb (z▸aZ)).trans e) mv2) fl4
end
section
variable {prog:aV} {w:bM} {A:bi} {E:Value->aj->Prop} {s:aj} {κ:Type} [DecidableEq κ] {knd:KeyKind prog w κ} {ks:List κ}
noncomputable abbrev Da (led:Bool):Obj:={ cls:=.type "set", dict:=none,data:=.set #[] 0 (.fresh 0 0 led) }
theorem So {l:Addr} {items:Array Value} {Q:Value->aj->Prop} (hh:A.handled=none) (hl:s.heap.IsList l items) (hv:∀ (i:Nat) (v:Value),items[i]? = some v -> ∃ k,ks[i]? = some k/\knd.is k v=true/\v.scannable=true) (hs:items.size=ks.length) (few:ks.length+1<scanBound)
  (h:∀ (h':Heap) (tk:Nat),Fk knd h' s.heap.objs.size ks->(∀ b o,b<s.heap.objs.size->s.heap.get? b=some o->h'.get? b=some o)->Q (.ref s.heap.objs.size) { s with heap:=h',toks:=tk }) :
  aI (model prog w) A (call (.type "set") [.ref l]) Q E s:=by
 obtain⟨c,tl,hmro⟩:=F.called_set.mro
 have m1:=F.called_set.made
 have m2:=F.called_set.sub
 have m3:=F.called_set.notType
 have m4:=F.called_set.canCreate
 have m5:=F.typeCall_set_1 (.ref l)
 refine gG (codeAny_of_tree (show aI _ _ (callAny (.type "set") _) _ _ _ from al ⟨iB _ (by decide +kernel),cY F.entry_type_call ?_⟩))
 rw [Around.under_plain (weight_type_call_type "set" [.ref l] []) rfl]
 repeat (any_goals (first|assumption|wp_step))
 refine gT (code_set_new_1 (.ref l) (E:=E) (Q₁:=fun obj s₁=>∃ led:Bool,obj=.ref s.heap.objs.size/\s₁={ s with heap:=s.heap.push (Da led) }) fun led=>⟨led,rfl,rfl⟩) fun r s₁ hr=>?_
 cases r with
 | error e=>exact hr
 | ok fl=>
  cases fl with
  | ret obj=>
   obtain⟨led,rfl,rfl⟩:=hr
   have new:(s.heap.push (Da led)).get? s.heap.objs.size=some (Da led):=aw _ rfl
   have ty:ja { s with heap:=s.heap.push (Da led) } (.ref s.heap.objs.size) "set" := ⟨_,new,rfl⟩
   have m6:=F.called_set.init.lookup
   have m7:=F.called_set.init.bind (.ref s.heap.objs.size)
   repeat (any_goals (first|assumption|wp_step))
   refine gT (fG (R:=wants (fun r s₂=>r=.none /\ ∃ h' tk,s₂={ s with heap:=h',toks:=tk }/\Fk knd h' s.heap.objs.size ks/\(∀ b o,b<s.heap.objs.size->s.heap.get? b=some o->h'.get? b=some o)) E) F.called_set.init.plain F.entry_set_init (check_set_init_1 ty ?_)) fun r2 s2 hr2=>?_
   ·obtain⟨⟨oc,odict,od,osl⟩,ol,hc,n,hd⟩:=hl
    simp only at hc hd
    subst hc;subst hd
    have lt:l<s.heap.objs.size:=aB ol
    have ol2:(s.heap.push (Da led)).get? l=some { cls:=.type "list", dict:=odict,data:=.seq items n,slots:=osl }:=ag _ ol
    have m8:=F.sub_list_set
    have m9:=F.sub_list_frozenset
    have m10:(c7 "list" == c7 "dict")=false:=by decide
    have isl:(s.heap.push (Da led)).IsList l items:=⟨_,ol2,rfl,n,rfl⟩
    have size:(s.heap.push (Da led)).objs.size=s.heap.objs.size+1:=bJ ..
    unfold ar.«set.__init__» noKeywords Builtin.Frozenset.updateFrom
    generalize hPI:l3=PI
    wp_walk
    subst hPI
    refine gK isl (af (wpAny_runValue ?_))
    have quiet:A.in1.in1.in1.handled=none:=by simp [hh]
    have ne1:l≠(s.heap.push (Da led)).objs.size:=size▸aH (cb lt)
    have out:s.heap.objs.size∉[(s.heap.push (Da led)).objs.size,l]:=by
     simp only [size,aE,dL,or_false,not_or]
     exact⟨aH (df _),cx lt⟩
    have W:=(Walks.list (prog:=prog) (w:=w) quiet (s.heap.push (Da led)).objs.size l ne1 items).toS
    rw [hs] at W
    refine Sn (ks:=ks) W s.heap.objs.size out hv few ks.length 0 _ (dg _) ⟨⟨_,aw _ rfl,rfl,rfl⟩,isl.push _⟩ ?_ fun s' mv fl=>?_
    ·exact (setObjOf_fresh (knd:=knd) led).setOf (ag _ new) (by unfold scanBound;omega)
    ·obtain⟨h',g',d',tk',os'⟩:=s'
     have e1:g'=s.gens:=mv.gens
     have e2:d'=s.drawn:=mv.drawn
     have e3:os'=s.os:=mv.os
     subst e1;subst e2;subst e3
     refine (show aI _ _ _ _ _ _ from al (show aI _ _ (ret bh) _ _ _ from al ⟨rfl,h',tk',rfl,fl,fun b o hb e=>?_⟩))
     refine mv.heap b o ?_ (ag _ (ag _ e))
     simp only [size,aE,dL,or_false,not_or]
     exact⟨aH hb,aH (cb hb)⟩
   ·cases r2 with
    | error e=>exact hr2
    | ok f2=>
     cases f2 with
     | ret r=>
      obtain⟨rfl,h',tk,rfl,fl,kept⟩:=hr2
      repeat (any_goals (first|assumption|wp_step))
      exact h _ _ fl kept
     | _=>exact hr2.elim
  | _=>exact hr.elim
end
end PySem
namespace L2
open PySem PySem.Spec PyProof.Rows
section
variable {X:Cx} {e:Expr} {de:DE} {p p2 pos pos2:Pos}
noncomputable def Jz (K:ac):V->Hp->VK->Prop:=fun x H Q=>match x with
 | .ref l=>∃ ys:List Str,SqL K H l (ys.map V.str)/\ys.length<30/\Q (.int (Eu ys).length) H
 | _=>False
theorem Xk:∀ {ys:List Str} {us:List Value} {i:Nat} {v:Value},Vals (ys.map V.str) us->us[i]? = some v -> ∃ k t,ys[i]? = some k/\v=.str k t
 | [],_,i,v,r,e=>by rw [gO] at r;cases r;simp at e
 | y::ys,_,i,v,r,e=>by
  rw [be] at r
  cases r with
  | cons r1 r2=>
   obtain⟨t,rfl⟩:=r1
   cases i with
   | zero=>simp only [dN,iQ] at e;exact⟨y,t,rfl,e.symm⟩
   | succ i=>simp only [bN] at e ⊢;exact Xk r2 e
theorem av9 {pins:List (Addr×Obj)} {σ:St} {H:Hp} {s:aj} {x:V} {u:Value} {Q:VK} (hc:X.calm=true) (I:Inv X pins σ H s) (rx:RelV x u) (h:Jz X.K x H Q) :
  aI (model X.prog X.w) X.A (call (.type "set") [u]) (fun v s1=>aI (model X.prog X.w) X.A (call (.builtin "len") [v]) (EP X pins σ Q) X.xe s1) X.xe s:=by
 cases x with
 | ref l=>
  cases rx
  obtain⟨ys,hq,few,q⟩:=h
  obtain⟨its,rv,pl,hz⟩:=I.list hq
  have hl:its.length=ys.length:=by rw [<- rv.length,ae]
  refine So (knd:=PySem.strKind X.prog X.w) (ks:=ys) (I.ok.hd hc) pl.isList (fun i v e=>?_) (by simpa using hl) (by unfold scanBound;omega) fun h' tk fl kept=>?_
  ·obtain⟨k,t,ek,rfl⟩:=Xk rv (by simpa using e)
   exact⟨k,ek,by show hW k (.str k t)=true;simp [hW],rfl⟩
  ·have I1:Inv X pins σ H { s with heap:=h',toks:=tk }:=I.kept (t':=tk) fun b o e=>kept b o (aB e) e
   obtain⟨o,es,ep,t,ho,hex,hd,hel,hmem,hb,hf,hn⟩:=fl
   refine call_len_set ho hex hd hf ?_ ?_
   ·have:=Rq ys
    rw [hn];omega
   ·rw [hn]
    exact⟨.int _,H,I1.tok _,⟨_,rfl⟩,q⟩
 | _=>exact (show False from h).elim
end
end L2
namespace PySem
open PyProof.Rows
section
variable {prog:aV} {w:bM} {A:bi} {E:Value->aj->Prop} {s:aj} {κ:Type} [DecidableEq κ] {knd:KeyKind prog w κ} {d it:Addr} {ep i:Nat} {kvs:List (κ×Value)}
noncomputable def ItemsAt (h:Heap) (it d:Addr) (i n ep:Nat):Prop:=
 ∃ f0 f1 k v,h.get? it=some { cls:=.type "dict_itemiterator", dict:=none,data:=.fields #[f0,f1,.ref d,.int i 0,.int n 0,.int ep 0,k,v],slots:=#[] }/\(f0=.none \/ ∃ a:Nat,f0=eC a/\a≠it /\ ∃ o,h.get? a=some o)
theorem ItemsAt.on {h h':Heap} {n:Nat} (x:ItemsAt h it d i n ep) (k:∀ o,h.get? it=some o->h'.get? it=some o) (t:∀ b o,h.get? b=some o -> ∃ o',h'.get? b=some o'):ItemsAt h' it d i n ep:=
 let ⟨f0,f1,a,b,e,r⟩:=x;⟨f0,f1,a,b,k _ e,r.imp id fun⟨c,e,n,o,q⟩=>⟨c,e,n,t c o q⟩⟩
theorem Ug {k:κ} {v:Value} {Q:Option Value->aj->Prop} (hit:ItemsAt s.heap it d i kvs.length ep) (hm:s.heap.DictAt knd d kvs ep) (hx:kvs[i]? = some (k,v))
  (hQ:∀ key h',knd.is k key=true->ItemsAt h' it d (i+1) kvs.length ep->h'.get? s.heap.objs.size=some { cls:=.type "tuple", data:=.seq #[key,v] } ->
   (∀ b o,b≠it->s.heap.get? b=some o->h'.get? b=some o)->Q (some (.ref s.heap.objs.size)) { s with heap:=h' }):aI (model prog w) A (fC (.ref it)) Q E s:=by
 obtain⟨f0,f1,ok,ov,ei,hf0⟩:=hit
 obtain⟨h0,gs,dr,tk,ops⟩:=s
 obtain⟨od,es,ed,_,dd,_,pr,_⟩:=id hm
 have lt:i<kvs.length:=by
  rcases dA i kvs.length with h|h
  ·exact h
  ·simp [dy h] at hx
 have size:es.size=kvs.length:=pr.length▸(by simp)
 have lt2:i<es.size:=size▸lt
 obtain⟨isk,isv⟩:=pr.get? (e:=es[i]) (by simp [lt2]) hx
 have ty:ja ⟨h0,gs,dr,tk,ops⟩ (.ref it) "dict_itemiterator" := ⟨_,ei,rfl⟩
 have own:eQ "dict_itemiterator" = true:=by decide
 have noNone:¬ ((aY d==bh)=true):=am
 have nx:¬ ((i:Int)<0):=by omega
 unfold fC
 refine af (eI (bW (name:=cS "__next__") ty dJ (cM dJ ty gN ?_ (gy _))))
 refine af (al (af (af ?_)))
 first|refine af (dG ty (al (af (fM ei rfl ?_))))|refine af (d6 ty (al (af (fM ei rfl ?_))))
 simp only [own,if_true]
 show aI _ _ (if (aY d==bh)=true then _ else _) _ _ _
 rw [if_neg noNone]
 refine af (al (af (gH ed dd ?_)))
 rw [if_neg (show ¬ _ by rw [size];simp)]
 refine af (al (af (jR ed dd ?_)))
 rw [if_neg (show ¬ _ by simp)]
 refine al ?_
 simp only [nx,if_false,aK,iG lt2]
 refine af ?_
 first|refine af (dG ty (al (af (eP ty ?_))))|refine af (d6 ty (al (af (eP ty ?_))))
 show aI _ _ (je (.ref it) 3 (eC ((i:Int)+1)) >>= _) _ _ ⟨h0,gs,dr,tk,ops⟩
 refine af (br ei (by simp) fun h1 e1 s1=>?_)
 have k1:bc it h0 h1:=s1
 have e1:h1.get? it=some { cls:=.type "dict_itemiterator", dict:=none,data:=.fields #[f0,f1,.ref d,.int (i+1:Nat) 0,.int kvs.length 0,.int ep 0,ok,ov],slots:=#[] }:=by
  have e:((i+1:Nat):Int)=(i:Int)+1:=by omega
  rw [e];simpa [eC] using e1
 have ty1:ja ⟨h1,gs,dr,tk,ops⟩ (.ref it) "dict_itemiterator" := ⟨_,e1,rfl⟩
 refine af (bx (af (eP (s:=⟨h1,gs,dr,tk,ops⟩) ty1 (af (eP (s:=⟨h1,gs,dr,tk,ops⟩) ty1 ?_)))))
 show aI _ _ (gr (.ref it) 6 es[i].key es[i].val) _ _ ⟨h1,gs,dr,tk,ops⟩
 unfold gr
 refine af (gL ?_)
 have up:∃ h2:Heap,h2=h1.push { cls:=.type "tuple", data:=.seq #[es[i].key,es[i].val] }:=⟨_,rfl⟩
 obtain⟨h2,eh2⟩:=up
 rw [<- eh2,show h1.objs.size=h0.objs.size from k1.1]
 have e2:=ag { cls:=.type "tuple", data:=.seq #[es[i].key,es[i].val] } e1
 have t2:h2.get? h0.objs.size=some { cls:=.type "tuple", data:=.seq #[es[i].key,v] }:=by rw [eh2,<- isv,<- show h1.objs.size=h0.objs.size from k1.1];exact aw _ rfl
 have all2:∀ b o,b≠it->h0.get? b=some o->h2.get? b=some o:=fun b o hb e=>by rw [eh2];exact ag _ (k1.extBut b o hb e)
 rw [<- eh2] at e2
 have lti:it<h0.objs.size:=aB ei
 have ne:h0.objs.size≠it:=cx lti
 refine af ?_
 unfold Builtin.Dict_items.ownedTupleIsFree
 refine af (bd (s:=⟨h2,gs,dr,tk,ops⟩) e2 rfl (x:=f0) rfl ?_)
 rcases hf0 with rfl|⟨a,rfl,na,oa,ea⟩
 ·refine al ?_
  simp only [if_true]
  refine af (bd (s:=⟨h2,gs,dr,tk,ops⟩) e2 rfl (x:=ok) rfl (af (bd (s:=⟨h2,gs,dr,tk,ops⟩) e2 rfl (x:=ov) rfl ?_)))
  refine af (br (s:=⟨h2,gs,dr,tk,ops⟩) e2 (by simp) fun h3 e3 s3=>af (br (s:=⟨h3,gs,dr,tk,ops⟩) e3 (by simp) fun h4 e4 s4=>?_))
  refine af (br (s:=⟨h4,gs,dr,tk,ops⟩) e4 (by simp) fun h5 e5 s5=>af (br (s:=⟨h5,gs,dr,tk,ops⟩) e5 (by simp) fun h6 e6 s6=>?_))
  have on:∀ b o,b≠it->h2.get? b=some o->h6.get? b=some o:=fun b o n q=>s6.extBut b o n (s5.extBut b o n (s4.extBut b o n (s3.extBut b o n q)))
  refine af (gI (al (al ⟨_,rfl,al (hQ es[i].key h6 isk ?_ (on _ _ ne t2) fun b o n q=>on b o n (all2 b o n q))⟩)))
  exact⟨eC h0.objs.size,_,_,_,e6,.inr ⟨_,rfl,ne,_,on _ _ ne t2⟩⟩
 ·show aI _ _ (loadIfAlive (a:Int).toNat >>= _) _ _ ⟨h2,gs,dr,tk,ops⟩
  have a2:h2.get? a=some oa:=all2 a oa na ea
  have la:∀ {α:Type} {k:Option Obj->Sem α} {Q':α->aj->Prop} {E':Value->aj->Prop},aI (model prog w) A.in1 (k (some oa)) Q' E' ⟨h2,gs,dr,tk,ops⟩->aI (model prog w) A.in1 (loadIfAlive (a:Int).toNat >>= k) Q' E' ⟨h2,gs,dr,tk,ops⟩:=fun {α k Q' E'} h Γ p hΓ=>by
   have z:=h Γ p hΓ
   show Sem.wp _ _ (Sem.loadIfAlive (a:Int).toNat fun x=>k x) _ _ _ _
   rw [kG]
   rw [aK]
   rw [show (lO ⟨h2,gs,dr,tk,ops⟩).get? a=some oa from a2]
   exact z
  refine la ?_
  simp only [iD,bz,if_false]
  refine af (bd (s:=⟨h2,gs,dr,tk,ops⟩) e2 rfl (x:=f1) rfl ?_)
  have fin:∀ h3:Heap,(∀ b o,b≠it->h2.get? b=some o->h3.get? b=some o)->ItemsAt h3 it d (i+1) kvs.length ep->Q (some (.ref h0.objs.size)) ⟨h3,gs,dr,tk,ops⟩:=fun h3 on at3=>hQ es[i].key h3 isk at3 (on _ _ ne t2) fun b o n q=>on b o n (all2 b o n q)
  by_cases c:(f1 != gC true)=true
  ·rw [if_pos c]
   refine af (br (s:=⟨h2,gs,dr,tk,ops⟩) e2 (by simp) fun h3 e3 s3=>al ?_)
   simp only [bz,if_false]
   exact al (al ⟨_,rfl,al (fin h3 (fun b o n q=>s3.extBut b o n q) ⟨_,_,_,_,e3,.inr ⟨a,rfl,na,oa,s3.extBut _ _ na a2⟩⟩)⟩)
  ·rw [if_neg c]
   refine al ?_
   simp only [bz,if_false]
   exact al (al ⟨_,rfl,al (fin h2 (fun b o n q=>q) ⟨_,_,_,_,e2,.inr ⟨a,rfl,na,oa,a2⟩⟩)⟩)
theorem Yp {Q:Option Value->aj->Prop} (hh:A.handled=none) (hit:ItemsAt s.heap it d i kvs.length ep) (hm:s.heap.DictAt knd d kvs ep) (hx:kvs[i]? = none)
  (hQ:∀ h',lJ it s.heap h'->Q none { s with heap:=h' }):aI (model prog w) A (fC (.ref it)) Q E s:=by
 obtain⟨f0,f1,ok,ov,ei,_⟩:=hit
 obtain⟨od,es,ed,_,dd,_,pr,_⟩:=id hm
 have size:es.size=kvs.length:=pr.length▸(by simp)
 have past:es.size<=i:=by rw [size];simpa using hx
 have ty:s.TypeIs (.ref it) "dict_itemiterator" := ⟨_,ei,rfl⟩
 have own:eQ "dict_itemiterator" = true:=by decide
 have noNone:¬ ((aY d==bh)=true):=am
 have nx:¬ ((i:Int)<0):=by omega
 unfold fC
 refine af (eI (bW (name:=cS "__next__") ty dJ (cM dJ ty gN ?_ (gy _))))
 refine af (al (af (af ?_)))
 first|refine af (dG ty (al (af (fM ei rfl ?_))))|refine af (d6 ty (al (af (fM ei rfl ?_))))
 simp only [own,if_true]
 show aI _ _ (if (aY d==bh)=true then _ else _) _ _ s
 rw [if_neg noNone]
 refine af (al (af (gH ed dd ?_)))
 rw [if_neg (show ¬ _ by rw [size];simp)]
 refine af (al (af (jR ed dd ?_)))
 rw [if_neg (show ¬ _ by simp)]
 refine al ?_
 simp only [nx,if_false,aK,jn past]
 refine af ?_
 first|refine af (dG ty (al ?_))|refine af (d6 ty (al ?_))
 show aI _ _ (je (.ref it) 2 .none >>= fun _=>newExc (.type "StopIteration") [] >>= _) _ _ s
 refine af (eN ei rfl (by simp) (af ?_))
 simp only [newExc,newTuple]
 refine af (cB (af (m:=iK _ _) (lX (a:=bh) (by first|rfl|(simp only [iK];rfl)) (cB ?_ (by size_fits)))) (by size_fits))
 simp only [ma]
 refine af (kT ?_)
 rw [show A.in1.handled=none from hh]
 refine af (al (ky ?_))
 exact af (fO (T := "StopIteration") (b:=true) ⟨_,aw _ rfl,rfl⟩ kc (al (hQ _ (((cu ..).extBut.push _).push _))))
end
end PySem
namespace L2
open PySem PySem.Spec PyProof.Rows
noncomputable abbrev Mx (H H':Hp):Prop:=∀ b o,H b=some o->H' b=some o
section
variable {X:Cx} {pins:List (Addr×Obj)} {σ:St} {A:bi} {E:Value->aj->Prop} {R:j9->aj->Prop} {p it S:Addr} {ep:Nat} {kvs:List (Key×V)} {vs:List (Key×Value)} {res:Value}
noncomputable def as1 (H0 H:Hp) (kvs:List (Key×V)) (Ts:List Addr):Prop:=∀ (j:Nat) k v T,kvs[j]? = some (k,v)->Ts[j]? = some T->H0 T=none/\H T=some (.tup [kV k,v])
theorem Uf (H0:Hp) (rel:KV kvs vs) (hh:A.handled=none) (small:vs.length<sizeLine) (n1:it≠S) (n2:p≠it) (n3:p≠S) (left:Nat) :
  ∀ (i:Nat) (s:aj) (H:Hp) (Ts:List Addr),i+left=vs.length->Inv X pins σ H s->Dw X pins H it->(∀ b o,b≠S->H0 b=some o->H b=some o)->H S=some (.lst (Ts.map V.ref))->H0 S=none->ItemsAt s.heap it p i vs.length ep->s.heap.DictAt (A7 X.prog X.w) p vs ep->Ts.length=i ->
   as1 H0 H kvs Ts->(∀ s' H' Ts',Inv X pins σ H' s'->Mx H0 H'->H' S=some (.lst (Ts'.map V.ref))->Ts'.length=vs.length->as1 H0 H' kvs Ts'->R (.ok (.ret res)) s') ->
   eO (model X.prog X.w) A (.builtin "list.extend.loop" ⟨[.ref S,.ref it,res],[]⟩) R s:=by
 induction left with
 | zero=>
  intro i s H Ts hi I fp top hS h0 at1 hd hl laid hR
  refine cY fP (cC cJ _ ▸ ?_)
  show aI _ A.in1 (fC (.ref it) >>= _) _ _ s
  obtain⟨f0,f1,f2,f3,f4,f5⟩:=fp
  refine af (Yp hh at1 hd (by simp;omega) fun h' ext=>al (hR _ H Ts (I.turned (t':=s.toks) (fun b o hb e=>ext b o hb e) f0 f1 f3 f4 f5) (fun b o e=>top b o (fun z=>by rw [z,h0] at e;cases e) e) hS (by omega) laid))
 | succ left ih=>
  intro i s H Ts hi I fp top hS h0 at1 hd hl laid hR
  have lt:i<kvs.length:=by rw [rel.length];omega
  obtain⟨⟨k,v⟩,hx⟩:∃ q,kvs[i]? = some q:=⟨kvs[i],by simp [lt]⟩
  obtain⟨u,hu,ru⟩:=Wz rel hx
  refine cY fP (cC cJ _ ▸ ?_)
  show aI _ A.in1 (fC (.ref it) >>= _) _ _ s
  refine af (Ug at1 hd hu fun key h' isk at2 t2 all2=>?_)
  have fresh:H s.heap.objs.size=none:=I.hok.fresh (ay _)
  have ltS:S<s.heap.objs.size:=(I.hok S _ hS).lt
  have lti:it<s.heap.objs.size:=by obtain⟨_,_,_,_,e,_⟩:=at1;exact aB e
  have I1:Inv X pins σ (upd H s.heap.objs.size (.tup [kV k,v])) { s with heap:=h' }:=
   I.turnedN (t':=s.toks) (ch:=[it]) (fun b hb=>by rw [List.mem_singleton.mp hb];exact fp) (fun b o hb e=>all2 b o (fun z=>hb (by simp [z])) e) (ay _) ⟨by show 2<=sizeLine;decide,[key,u],.cons (ah2 isk) (.cons ru .nil),⟨_,t2,rfl,_,rfl⟩⟩
  have S1:upd H s.heap.objs.size (.tup [kV k,v]) S=some (.lst (Ts.map V.ref)):=by rw [Ai (aH ltS)];exact hS
  obtain⟨its,n,r,ho,hz⟩:=I1.lst S1
  have li:its.length=i:=by rw [<- r.length,ae];exact hl
  show aI _ A.in1 (fK S (·.push (.ref s.heap.objs.size)) >>= _) _ _ { s with heap:=h' }
  refine af ?_
  refine cK ho rfl (al ⟨dv cJ _,?_⟩) (by rw [av,li];omega) (by show (its.toArray.push _).size<=sizeLine+1;rw [Array.size_push,av,li];omega)
  have I2:=I1.lset (t':=s.toks) (f:=fun z=>z.push (.ref s.heap.objs.size)) (its':=its++[.ref s.heap.objs.size]) (ys:=(Ts++[s.heap.objs.size]).map V.ref) S1 ho (by simp) (by rw [az];exact r.append (.cons rfl .nil)) (by rw [ae,aJ,cw,hl];omega)
  have nS:∀ b,b≠S->(h'.update S (bt fun z=>z.push (.ref s.heap.objs.size))).get? b=h'.get? b:=fun b n=>aP _ _ (ck n)
  refine ih (i+1) _ _ (Ts++[s.heap.objs.size]) (by omega) I2 ?_ (fun b o n e=>?_) Ad h0 (at2.on (fun o e=>(nS it n1).trans e) fun b o e=>?_) ?_ (by rw [aJ,cw,hl]) (fun j k' v' T e1 e2=>?_) hR
  ·obtain⟨f0,f1,f2,f3,f4,f5⟩:=fp
   exact⟨by rw [Ai n1,Ai (aH lti)];exact f0,f1,f2,f3,f4,f5⟩
  ·rw [Ai n,Ai (Ak (top b o n e) fresh)];exact top b o n e
  ·by_cases z:b=S
   ·subst z;exact⟨_,aU _ e (by rw [ho] at e;cases e;rfl)⟩
   ·exact⟨o,(nS b z).trans e⟩
  ·obtain⟨od,es,ed,q⟩:=hd
   exact⟨od,es,(nS p n3).trans (all2 p od n2 ed),q⟩
  ·by_cases hj:j<Ts.length
   ·rw [cI hj] at e2
    obtain⟨q1,q2⟩:=laid j k' v' T e1 e2
    refine⟨q1,?_⟩
    have nT:T≠S:=fun z=>by rw [z,hS] at q2;cases q2
    rw [Ai nT,Ai (Ak q2 fresh)];exact q2
   ·have hj2:j=i:=by
     have:j<(Ts++[s.heap.objs.size]).length:=by
      rcases dA j (Ts++[s.heap.objs.size]).length with h|h
      ·exact h
      ·rw [dy h] at e2;cases e2
     rw [aJ,cw] at this
     omega
    subst hj2
    rw [bL (by omega),hl,fV] at e2
    cases e2
    rw [hx] at e1
    cases e1
    refine⟨?_,by rw [Ai (cx ltS)];exact Ad⟩
    cases q:H0 s.heap.objs.size with
    | none=>rfl
    | some o=>exact absurd (top _ o (cx ltS) q) (by rw [fresh];intro z;cases z)
end
section
variable {X:Cx} {pins:List (Addr×Obj)} {σ:St} {A:bi} {E:Value->aj->Prop}
theorem Ud {s:aj} {r:Addr} {Q:Bool->aj->Prop} {prog:aV} {w:bM} (ty:s.TypeIs (.ref r) "dict_items") (h:Q false s):aI (model prog w) A (b7 (.ref r)) Q E s:=by
 unfold b7
 refine af (gp ty PySem.F.slot_dict_items_len.lookup ?_)
 generalize eid:("dict_items.__len__" : String)=name
 wp_delta
 rw [show splitId name=some ("dict_items", "__len__") from eid▸by decide +kernel]
 subst eid
 refine af (fO (T := "dict_items") (b:=true) ty (by rw [isSubtype_type];kernel_rfl) (c5 (fun z=>absurd z (by decide)) fun _=>c5 (fun _=>af (iF ty (al h))) fun z=>absurd (by decide +kernel) z))
theorem Um {H:Hp} {s:aj} {p:Addr} {kvs:List (Key×V)} {Q:Value->aj->Prop} (hc:X.calm=true) (I:Inv X pins σ H s) (e:Rd H p (.dK kvs)) (few:kvs.length<1000)
  (h:∀ l Ts H' s',Inv X pins σ H' s'->Mx H H'->H l=none->H' l=some (.lst (Ts.map V.ref))->Ts.length=kvs.length->as1 H H' kvs Ts->Q (.ref l) s') :
  aI (model X.prog X.w) X.A (call (.builtin "dict.items") [.ref p]) (fun v s1=>aI (model X.prog X.w) X.A (call (.type "list") [v]) Q X.xe s1) X.xe s:=by
 obtain⟨z,lo,vs,rel,dof⟩:=Iz I.hok e
 obtain⟨ep,dat⟩:=dof.dictAt
 have lp:p<s.heap.objs.size:=dat.lt_size
 refine lB i_ dof.typeIs PySem.F.entry_dict_items (PySem.F.args_dict_items_1 _) (meets_dict_items _ p lo) ⟨⟨vs,dof⟩,?_⟩
 have zv:(s.heap.push { cls:=.type "dict_items", data:=.fields #[.ref p] }).objs.size=s.heap.objs.size+1:=bJ ..
 have view:(s.heap.push { cls:=.type "dict_items", data:=.fields #[.ref p] }).get? s.heap.objs.size=some { cls:=.type "dict_items", data:=.fields #[.ref p] }:=aw _ rfl
 have on1:∀ b o,s.heap.get? b=some o->(s.heap.push { cls:=.type "dict_items", data:=.fields #[.ref p] }).get? b=some o:=fun b o q=>ag _ q
 generalize s.heap.push { cls:=.type "dict_items", data:=.fields #[.ref p] }=h1 at zv view on1 ⊢
 refine j_ (s:={ s with heap:=h1 }) (Q₁:=fun obj s2=>obj=.ref (s.heap.objs.size+1)/\s2={ s with heap:=h1.push { cls:=.type "list", data:=.seq #[] } }) im (gj _) ge
  (kN _ ⟨by show aY h1.objs.size=_;rw [zv],rfl⟩) fun obj s2 hs=>?_
 obtain⟨rfl,rfl⟩:=hs
 have S2:(h1.push { cls:=.type "list", data:=.seq #[] }).get? (s.heap.objs.size+1)=some { cls:=.type "list", data:=.seq #[] }:=zv▸aw _ rfl
 have z2:(h1.push { cls:=.type "list", data:=.seq #[] }).objs.size=s.heap.objs.size+2:=by rw [bJ,zv]
 have view2:=ag { cls:=.type "list", data:=.seq #[] } view
 have on2:∀ b o,s.heap.get? b=some o->(h1.push { cls:=.type "list", data:=.seq #[] }).get? b=some o:=fun b o q=>ag _ (on1 b o q)
 generalize h1.push { cls:=.type "list", data:=.seq #[] }=h2 at S2 z2 view2 on2 ⊢
 refine⟨⟨_,S2,rfl⟩,fW _ _,?_⟩
 show aI _ _ (do let old <- dn (.ref (s.heap.objs.size+1));f7 (.ref (s.heap.objs.size+1)) (fun _=>#[]);letGo old.toList.reverse;bF (.ref (s.heap.objs.size+1)) (.ref s.heap.objs.size) .none) _ _ { s with heap:=h2 }
 refine af ?_
 unfold dn
 refine af (dw (s:={ s with heap:=h2 }) S2 rfl (al ?_))
 show aI _ _ (fK (s.heap.objs.size+1) (fun _=>#[]) >>= fun _=>letGo (#[]:Array Value).toList.reverse >>= fun _=>bF (.ref (s.heap.objs.size+1)) (.ref s.heap.objs.size) .none) _ _ { s with heap:=h2 }
 refine af (cK (s:={ s with heap:=h2 }) S2 rfl (af (gI ?_)))
 have S3:∃ c,(h2.update (s.heap.objs.size+1) (bt (fun _=>(#[]:Array Value)))).get? (s.heap.objs.size+1)=some { cls:=.type "list", data:=.seq #[] c }:=⟨_,aU _ S2 rfl⟩
 have o3:∀ b o,b≠s.heap.objs.size+1->h2.get? b=some o->(h2.update (s.heap.objs.size+1) (bt (fun _=>(#[]:Array Value)))).get? b=some o:=fun b o n q=>(aP _ _ (ck n)).trans q
 have z3:(h2.update (s.heap.objs.size+1) (bt (fun _=>(#[]:Array Value)))).objs.size=s.heap.objs.size+2:=by rw [(cu ..).1,z2]
 generalize h2.update (s.heap.objs.size+1) (bt (fun _=>(#[]:Array Value)))=h3 at S3 o3 z3 ⊢
 obtain⟨c3,S3⟩:=S3
 have view3:h3.get? s.heap.objs.size=some { cls:=.type "dict_items", data:=.fields #[.ref p] }:=o3 _ _ (aH (df _)) view2
 have on3:∀ b o,s.heap.get? b=some o->h3.get? b=some o:=fun b o q=>o3 b o (aH (cb (aB q))) (on2 b o q)
 have isv:Heap.IsItemsView h3 s.heap.objs.size p:=⟨_,view3,rfl,rfl⟩
 have dat3:h3.DictAt (A7 X.prog X.w) p vs ep:=dat.keep on3
 unfold bF
 refine af (iF (s:={ s with heap:=h3 }) (T := "dict_items") isv.typeIs ?_)
 have t1:cP (.ref (s.heap.objs.size+1)) (.ref s.heap.objs.size)=false:=by simp [cP]
 have t2:(c7 "dict_items" == c7 "list")=false:=by decide
 have t3:(c7 "dict_items" == c7 "tuple")=false:=by decide
 simp only [t1,t2,t3,eE,bz,if_false]
 refine af (wpAny_pyIter_items (s:={ s with heap:=h3 }) isv dat3 ?_)
 have it4:(h3.push { cls:=.type "dict_itemiterator", data:=.fields #[.none,.bool false,.ref p,.int 0 0,.int vs.length 0,.int ep 0,.none,.none] }).get? (s.heap.objs.size+2)=some { cls:=.type "dict_itemiterator", data:=.fields #[.none,.bool false,.ref p,.int 0 0,.int vs.length 0,.int ep 0,.none,.none] }:=z3▸aw _ rfl
 have o4:∀ b o,h3.get? b=some o->(h3.push { cls:=.type "dict_itemiterator", data:=.fields #[.none,.bool false,.ref p,.int 0 0,.int vs.length 0,.int ep 0,.none,.none] }).get? b=some o:=fun b o q=>ag _ q
 show aI _ _ (lT [.ref h3.objs.size] (b7 (.ref s.heap.objs.size)) >>= _) _ _ { s with heap:=h3.push _ }
 rw [z3]
 generalize h3.push { cls:=.type "dict_itemiterator", data:=.fields #[.none,.bool false,.ref p,.int 0 0,.int vs.length 0,.int ep 0,.none,.none] }=h4 at it4 o4 ⊢
 refine af (bx (Ud (s:={ s with heap:=h4 }) ⟨_,o4 _ _ view3,rfl⟩ ?_))
 have S4:=o4 _ _ S3
 have loop:∀ (h:Heap) (c tk:Nat),(∀ b o,b≠s.heap.objs.size+1->h4.get? b=some o->h.get? b=some o)->h.get? (s.heap.objs.size+1)=some { cls:=.type "list", data:=.seq #[] c } ->
   eO (model X.prog X.w) X.A.in1 (.builtin "list.extend.loop" ⟨[.ref (s.heap.objs.size+1),.ref (s.heap.objs.size+2),.none],[]⟩) (wants (fun r s₂=>r=.none/\Q (.ref (s.heap.objs.size+1)) s₂) X.xe) { s with heap:=h,toks:=tk }:=by
  intro hh c tk k5 S5
  have on5:∀ b o,s.heap.get? b=some o->hh.get? b=some o:=fun b o q=>k5 b o (aH (cb (aB q))) (o4 b o (on3 b o q))
  have fr:H (s.heap.objs.size+1)=none:=I.hok.fresh (bK _ 1)
  have I5:Inv X pins σ (upd H (s.heap.objs.size+1) (.lst [])) { s with heap:=hh,toks:=tk }:=I.laid (t':=tk) on5 (bK _ 1) ⟨cq _,[],c,.nil,S5⟩
  have ni:s.heap.objs.size+2≠s.heap.objs.size+1:=by omega
  refine Uf (X:=X) (pins:=pins) (σ:=σ) (A:=X.A.in1) (kvs:=kvs) (ep:=ep) H rel (by simp [I.ok.hd hc]) (by rw [<- rel.length,cZ];omega) ni (aH (aG lp (bK _ 2))) (aH (cb lp)) vs.length 0 _ _ [] (dg _) I5
   (I.fpOk (bK _ 2) (by rw [Ai ni];exact I.hok.fresh (bK _ 2))) (fun b o n q=>by rw [Ai n];exact q) Ad fr ⟨_,_,_,_,k5 _ _ ni it4,.inl rfl⟩ (dat.keep on5) rfl (fun j k v T _ e2=>by simp at e2) fun s' H' Ts' I' top hS hl laid=>?_
  exact⟨rfl,h _ Ts' H' s' I' top fr hS (by rw [hl,rel.length]) laid⟩
 refine c5 (fun _=>?_) (fun _=>al ⟨dv cJ _,loop h4 c3 s.toks (fun b o _ q=>q) S4⟩)
 refine af (hX (af ?_))
 show aI _ _ (fK (s.heap.objs.size+1) (·.push .none) >>= fun _=>fK (s.heap.objs.size+1) (·.pop)) _ _ _
 have S5:=aU (bt (·.push bh)) S4 rfl
 refine af (cK (s:={ s with heap:=h4 }) S4 rfl (cK (hz:=by seq_fits) S5 rfl (al ⟨dv cJ _,loop _ _ s.toks (fun b o n q=>?_) (aU (bt (·.pop)) S5 rfl)⟩)))
 exact (aP _ _ (ck n)).trans ((aP _ _ (ck n)).trans q)
end
section
variable {X:Cx}
noncomputable def a55 (K:ac):R2:=fun x y H Q=>∃ a b ys,x=.ref a/\y=.ref b/\SqT K H a []/\SqT K H b ys/\Q (.ref b) H
theorem ax4:OpR X (d9 .Add) (a55 X.K):=by
 intro pins s σ H x y v u Q I rx ry h
 obtain⟨a,b,ys,rfl,rfl,ha,hb,q⟩:=h
 cases rx
 cases ry
 obtain⟨its,r1,p1,_⟩:=I.tuple ha
 obtain⟨its2,r2,p2,_⟩:=I.tuple hb
 cases r1
 obtain⟨⟨c1,d1,da1,s1⟩,ho,hc,n,hd⟩:=id p1
 obtain⟨⟨c2,d2,da2,s2⟩,ho2,hc2,n2,hd2⟩:=id p2
 simp only at hc hd hc2 hd2
 subst hc hd hc2 hd2
 exact lC ⟨_,ho,rfl⟩ ⟨_,ho2,rfl⟩ jm kP gx gf (fX _ _)
   (tuple_addW0 a b _ _ n n2 d1 d2 s1 s2 rfl) ⟨ho,ho2,⟨.ref b,H,I,rfl,q⟩⟩
theorem Wy (hu:X.A.units+64<cLine):IxR X (fun x y H Q=>∃ a v,x=.ref a/\DGet H a y (some v)/\Q v H):=by
 intro value slice pins s σ H x y v u Q I rx ry h hs
 obtain⟨a,w',rfl,g,q⟩:=h
 cases rx
 exact tail_any (Rc I g) PySem.F.slot_dict_getitem.lookup (X5 (by omega) I g ry fun w1 s' I' r'=>⟨w',H,I',r',q⟩) hs
end
end L2
namespace PySem
open PyProof.Rows
section
variable {prog:aV} {w:bM} {A:bi} {E:Value->aj->Prop} {s:aj}
theorem Cn {it t:Addr} {i:Nat} {items} {x:Value} {Q:Value->aj->Prop} (hit:s.heap.IsTupleIter it t i)
  (ht:s.heap.IsTuple t items) (hx:items[i]? = some x)
  (hQ:∀ h',h'.IsTupleIter it t (i+1)->bc it s.heap h'->Q x { s with heap:=h' }) :
  aI (model prog w) A (aT (.ref it)) Q E s:=by
 obtain⟨o,ho,hc,hd⟩:=id hit
 obtain⟨ol,hol,_,nl,hdl⟩:=ht
 unfold aT
 refine af (bW (name:=cS "__next__") hit.typeIs ix
  (cM ix hit.typeIs F.entry_tuple_iterator_next ?_ (F.args_tuple_iterator_next_1 _)))
 show aI _ _ (lZ (.ref it) 0 >>= _) _ _ s
 refine af (bd ho hd (x:=.ref t) rfl ?_)
 show aI _ _ (if (aY t==bh)=true then _ else _) _ _ s
 rw [if_neg (show ¬ ((aY t==bh)=true) from am)]
 show aI _ _ (lZ (.ref it) 1 >>= _) _ _ s
 refine af (bd ho hd (x:=.int i 0) rfl ?_)
 show aI _ _ (seqItems? (.ref t) >>= _) _ _ s
 refine af (dw hol hdl ?_)
 simp only [aK,hx]
 refine af (eN ho hd (by simp) (al ⟨x,rfl,al (hQ _ ?_ (cu ..))⟩))
 exact⟨_,aU _ ho (dD (kE hd _)),(Obj.cls_mapFields ..).trans hc,by
  rw [kE hd];simp [eC]⟩
noncomputable def ZipAt (h:Heap) (z TI TO i1 i2 l t:Addr) (k:Nat):Prop:=
 j6 h TI (.ref i1) (.ref i2)/\(∃ a b,j6 h TO a b)/\h.IsListIter i1 l k/\h.IsTupleIter i2 t k/\(lF h z TI TO .none \/
  ∃ (c:Nat) (f1:Value) (o:Obj),h.get? z=some { cls:=.type "zip", dict:=none,data:=.fields #[eC c,f1,.bool false,.ref TI,.ref TO],slots:=#[] }/\c≠z/\c≠i1/\c≠i2/\h.get? c=some o)
theorem ZipAt.on {h h':Heap} {z TI TO i1 i2 l t S:Addr} {k:Nat} (x:ZipAt h z TI TO i1 i2 l t k) (hk:∀ b o,b≠S->h.get? b=some o->h'.get? b=some o) (hS:∀ o,h.get? S=some o -> ∃ o',h'.get? S=some o') (n1:z≠S) (n2:TI≠S) (n3:TO≠S) (n4:i1≠S) (n5:i2≠S):ZipAt h' z TI TO i1 i2 l t k:=by
 obtain⟨a,⟨u,v,q⟩,b,c,d⟩:=x
 refine⟨hk _ _ n2 a,⟨u,v,hk _ _ n3 q⟩,b.at fun o e=>hk _ o n4 e,?_,?_⟩
 ·obtain⟨o,e,r⟩:=c;exact⟨o,hk _ o n5 e,r⟩
 ·rcases d with p|⟨c,f1,o,p,q1,q2,q3,q4⟩
  ·exact .inl (hk _ _ n1 p)
  ·by_cases e:c=S
   ·subst e
    obtain⟨o',e'⟩:=hS o q4
    exact .inr ⟨_,f1,o',hk _ _ n1 p,q1,q2,q3,e'⟩
   ·exact .inr ⟨c,f1,o,hk _ _ n1 p,q1,q2,q3,hk _ o e q4⟩
theorem Nz {h:Heap} {z TI TO:Addr} {c:Int} {f1 f2 f3 f4:Value} (e:h.get? z=some { cls:=.type "zip", dict:=none,data:=.fields #[eC c,f1,f2,f3,f4],slots:=#[] }):¬ lF h z TI TO .none:=fun q=>by
 have q:h.get? z=some { cls:=.type "zip", dict:=none,data:=.fields #[.none,.bool false,.bool false,.ref TI,.ref TO],slots:=#[] }:=q
 rw [e] at q
 simp [eC] at q
theorem Te {c:Nat} {oc:Obj} {α:Type} {k:Option Obj->Sem α} {Q':α->aj->Prop} (hc:s.heap.get? c=some oc) (h:aI (model prog w) A (k (some oc)) Q' E s):aI (model prog w) A (loadIfAlive (c:Int).toNat >>= k) Q' E s:=fun Γ p hΓ=>by
 have z:=h Γ p hΓ
 show Sem.wp _ _ (Sem.loadIfAlive (c:Int).toNat fun x=>k x) _ _ _ _
 rw [kG,aK,hc]
 exact z
theorem Zt {z TI TO i1 i2 l t:Addr} {k:Nat} {xs ys:Array Value} {x y:Value} {Q:Value->aj->Prop} (D:lH z TI TO i1 i2 l t) (hz:ZipAt s.heap z TI TO i1 i2 l t k) (hl1:s.heap.IsList l xs) (hl2:s.heap.IsTuple t ys) (hx:xs[k]? = some x) (hy:ys[k]? = some y)
  (hQ:∀ h',ZipAt h' z TI TO i1 i2 l t (k+1) -> ¬ lF h' z TI TO .none->j6 h' s.heap.objs.size x y->(∀ c o,c≠z->c≠TO->c≠i1->c≠i2->s.heap.get? c=some o->h'.get? c=some o)->Q (.ref s.heap.objs.size) { s with heap:=h' }) :
  aI (model prog w) A (ar.«zip.__next__» ⟨[.ref z],[]⟩) (fun fin s'=>∃ v,fin=.done (.ret v)/\Q v s') E s:=by
 obtain⟨hTI,⟨a,b,hTO⟩,h1,h2,hz⟩:=hz
 have tup:∀ {h:Heap} {h':Heap} {c:Addr},h.IsTuple t ys->bc c h h'->t≠c->h'.IsTuple t ys:=fun a b n=>by obtain⟨o,e,r⟩:=a;exact⟨o,(b.2 t n).trans e,r⟩
 have ti:∀ {h:Heap} {h':Heap} {c:Addr} {k:Nat},h.IsTupleIter i2 t k->bc c h h'->i2≠c->h'.IsTupleIter i2 t k:=fun a b n=>by obtain⟨o,e,r⟩:=a;exact⟨o,(b.2 i2 n).trans e,r⟩
 rcases hz with hz|⟨c,f1,oc,hz,nc1,nc2,nc3,hc⟩
 ·show aI _ _ (lZ (.ref z) 2 >>= _) _ _ _
  refine af (bd hz rfl (x:=.bool false) rfl ?_)
  show aI _ _ (lZ (.ref z) 3 >>= _) _ _ _
  refine af (bd hz rfl (x:=.ref TI) rfl ?_)
  refine af (dw hTI rfl ?_)
  show aI _ _ (bo (.ref z) >>= _) _ _ _
  refine af ?_
  unfold bo
  refine af (bd hz rfl (x:=.none) rfl (al ?_))
  simp only [if_true]
  refine af (hX ?_)
  refine af (bd hz rfl (x:=.ref TO) rfl ?_)
  refine af (br hz (by simp) fun h₁ hz₁ hs₁=>?_)
  replace hz₁:lF h₁ z TI TO .ellipsis:=hz₁
  refine af ?_
  simp only [List.zipIdx_cons,List.zipIdx_nil,f_,iH]
  refine af (af (kU ?_))
  show aI _ _ (aT (.ref i1) >>= _) _ _ _
  refine af (jx (h1.extBut hs₁.extBut D.i1z) (hl1.extBut hs₁.extBut D.l1z) hx fun h₂ h1₂ hs₂=>al ?_)
  have hTO₂:j6 h₂ TO a b:=hs₂.extBut _ _ D.TOi1 (hs₁.extBut _ _ D.TOz hTO)
  refine af (dw hTO₂ rfl ?_)
  refine af (j3 hTO₂ fun h₃ hTO₃ hs₃=>?_)
  replace hTO₃:j6 h₃ TO x b:=hTO₃
  refine af (gI (al ?_))
  refine af (af (kU ?_))
  show aI _ _ (aT (.ref i2) >>= _) _ _ _
  refine af (Cn (ti (ti (ti h2 hs₁ D.i2z) hs₂ D.i12.symm) hs₃ D.TOi2.symm) (tup (tup (tup hl2 hs₁ D.l2z) hs₂ D.l2i1) hs₃ D.l2TO) hy fun h₄ h2₄ hs₄=>al ?_)
  have hTO₄:j6 h₄ TO x b:=hs₄.extBut _ _ D.TOi2 hTO₃
  refine af (dw hTO₄ rfl ?_)
  refine af (j3 hTO₄ fun h₅ hTO₅ hs₅=>?_)
  replace hTO₅:j6 h₅ TO x y:=hTO₅
  refine af (gI (al (al ?_)))
  refine af (dw hTO₅ rfl ?_)
  refine af (gL ?_)
  have hsz:h₅.objs.size=s.heap.objs.size:=by rw [hs₅.1,hs₄.1,hs₃.1,hs₂.1,hs₁.1]
  have hz₅:lF h₅ z TI TO .ellipsis:=hs₅.extBut _ _ D.TOz.symm (hs₄.extBut _ _ D.i2z.symm (hs₃.extBut _ _ D.TOz.symm (hs₂.extBut _ _ D.i1z.symm hz₁)))
  have hk₅:∀ c o,c≠z->c≠TO->c≠i1->c≠i2->s.heap.get? c=some o->h₅.get? c=some o:=fun c o c1 c2 c3 c4 e=>
   hs₅.extBut _ _ c2 (hs₄.extBut _ _ c4 (hs₃.extBut _ _ c2 (hs₂.extBut _ _ c3 (hs₁.extBut _ _ c1 e))))
  have h1₅:h₅.IsListIter i1 l (k+1):=((h1₂.extBut hs₃.extBut D.TOi1.symm).extBut hs₄.extBut D.i12).extBut hs₅.extBut D.TOi1.symm
  have h2₅:h₅.IsTupleIter i2 t (k+1):=ti h2₄ hs₅ D.TOi2.symm
  have hzlt:z<h₅.objs.size:=aB hz₅
  have hTOlt:TO<h₅.objs.size:=aB hTO₅
  have hi1lt:i1<h₅.objs.size:=by obtain⟨_,e,_⟩:=h1₅;exact aB e
  have hi2lt:i2<h₅.objs.size:=by obtain⟨_,e,_⟩:=h2₅;exact aB e
  show aI _ _ (cH (.ref z) (.ref h₅.objs.size) >>= _) _ _ _
  refine af ?_
  unfold cH
  have hz₆:lF (h₅.push { cls:=.type "tuple", data:=.seq #[x,y] }) z TI TO .ellipsis:=ag _ hz₅
  refine af (br hz₆ (by simp) fun h₇ hz₇ hs₇=>?_)
  replace hz₇:lF h₇ z TI TO (eC h₅.objs.size):=hz₇
  refine br hz₇ (by simp) fun h₈ hz₈ hs₈=>?_
  replace hz₈:lF h₈ z TI TO (eC h₅.objs.size):=hz₈
  have up:∀ c o,c≠z->h₅.get? c=some o->h₈.get? c=some o:=fun c o c1 e=>hs₈.extBut _ _ c1 (hs₇.extBut _ _ c1 (ag _ e))
  have hT₈:j6 h₈ h₅.objs.size x y:=hs₈.extBut _ _ (cx hzlt) (hs₇.extBut _ _ (cx hzlt) (aw _ rfl))
  rw [hsz] at hz₈ hT₈
  refine al ⟨_,rfl,?_⟩
  show Q (.ref h₅.objs.size) _
  rw [hsz]
  rw [hsz] at hzlt hi1lt hi2lt
  refine hQ h₈ ⟨up _ _ D.TIz (hk₅ _ _ D.TIz D.TITO D.TIi1 D.TIi2 hTI),⟨_,_,up _ _ D.TOz hTO₅⟩,h1₅.at fun o e=>up _ o D.i1z e,?_,.inr ⟨s.heap.objs.size,_,_,hz₈,cx hzlt,cx hi1lt,cx hi2lt,hT₈⟩⟩ (Nz hz₈) hT₈ fun c o c1 c2 c3 c4 e=>up c o c1 (hk₅ c o c1 c2 c3 c4 e)
  obtain⟨o,e,r⟩:=h2₅
  exact⟨o,up _ o D.i2z e,r⟩
 ·show aI _ _ (lZ (.ref z) 2 >>= _) _ _ _
  refine af (bd hz rfl (x:=.bool false) rfl ?_)
  show aI _ _ (lZ (.ref z) 3 >>= _) _ _ _
  refine af (bd hz rfl (x:=.ref TI) rfl ?_)
  refine af (dw hTI rfl ?_)
  show aI _ _ (bo (.ref z) >>= _) _ _ _
  refine af ?_
  unfold bo
  refine af (bd hz rfl (x:=eC c) rfl ?_)
  show aI _ _ (loadIfAlive (c:Int).toNat >>= _) _ _ s
  refine Te hc ?_
  simp only [iD,bz,if_false]
  refine af (bd hz rfl (x:=f1) rfl ?_)
  refine c5 (fun cf=>af (br hz (by simp) fun h₁ hz₁ hs₁=>al ?_)) (fun cf=>al ?_)
  rotate_left
  have hs₁:bc z s.heap s.heap:=⟨rfl,fun _ _=>rfl⟩
  have hz₁:=hz
  obtain⟨h₁,eh⟩:∃ h₁,h₁=s.heap:=⟨_,rfl⟩
  rw [show s={ s with heap:=h₁ } by rw [eh]]
  rw [<- eh] at hz₁
  replace hs₁:bc z s.heap h₁:=by rw [eh];exact hs₁
  clear eh
  all_goals
   simp only [bz,if_false]
   rw [<- iA]
   simp only [f_,iH]
   refine af (af (af (bx ?_)))
   show aI _ _ (aT (.ref i1) >>= _) _ _ _
   refine af (jx (h1.extBut hs₁.extBut D.i1z) (hl1.extBut hs₁.extBut D.l1z) hx fun h₂ h1₂ hs₂=>al ?_)
   refine al ?_
   dsimp only
   refine af (af (bx ?_))
   show aI _ _ (aT (.ref i2) >>= _) _ _ _
   refine af (Cn (ti (ti h2 hs₁ D.i2z) hs₂ D.i12.symm) (tup (tup hl2 hs₁ D.l2z) hs₂ D.l2i1) hy fun h₄ h2₄ hs₄=>al ?_)
   refine al (al ?_)
   dsimp only
   refine af (gL ?_ (by show 2<=_;rw [cZ];decide))
   have hs₂:bc i1 h₁ h₂:=hs₂
   have hs₄:bc i2 h₂ h₄:=hs₄
   have hsz:h₄.objs.size=s.heap.objs.size:=by rw [hs₄.1,hs₂.1,hs₁.1]
   show aI _ _ (ret (.ref h₄.objs.size)) _ _ { s with heap:=h₄.push { cls:=.type "tuple", data:=.seq #[x,y] } }
   refine al ⟨_,rfl,?_⟩
   have up:∀ c o,c≠z->c≠i1->c≠i2->s.heap.get? c=some o->(h₄.push { cls:=.type "tuple", data:=.seq #[x,y] }).get? c=some o:=fun c o n1 n3 n4 e=>ag _ (hs₄.extBut _ _ n4 (hs₂.extBut _ _ n3 (hs₁.extBut _ _ n1 e)))
   have tp:(h₄.push { cls:=.type "tuple", data:=.seq #[x,y] }).get? h₄.objs.size=some { cls:=.type "tuple", data:=.seq #[x,y] }:=aw _ rfl
   rw [hsz] at tp ⊢
   refine hQ _ ⟨up _ _ D.TIz D.TIi1 D.TIi2 hTI,⟨_,_,up _ _ D.TOz D.TOi1 D.TOi2 hTO⟩,?_,?_,.inr ⟨c,_,oc,ag _ (hs₄.extBut _ _ D.i2z.symm (hs₂.extBut _ _ D.i1z.symm hz₁)),nc1,nc2,nc3,up _ _ nc1 nc2 nc3 hc⟩⟩ (Nz (ag _ (hs₄.extBut _ _ D.i2z.symm (hs₂.extBut _ _ D.i1z.symm hz₁)))) tp fun c o n1 n2 n3 n4 e=>up c o n1 n3 n4 e
   ·exact (h1₂.extBut hs₄.extBut D.i12).at fun o e=>ag _ e
   ·obtain⟨o,e,r⟩:=h2₄
    exact⟨o,ag _ e,r⟩
theorem ar7 {z TI TO i1 i2 l t:Addr} {k:Nat} {xs:Array Value} {Q:Fin->aj->Prop} (hh:A.handled=none) (D:lH z TI TO i1 i2 l t) (hz:ZipAt s.heap z TI TO i1 i2 l t k) (hn:¬ lF s.heap z TI TO .none) (hl1:s.heap.IsList l xs) (hx:xs[k]? = none)
  (hE:∀ h' e,(∀ c o,c≠z->c≠i1->s.heap.get? c=some o->h'.get? c=some o)->(∃ o,h'.get? e=some o/\o.cls=.type "StopIteration")->E (.ref e) { s with heap:=h' }) :
  aI (model prog w) A (ar.«zip.__next__» ⟨[.ref z],[]⟩) Q E s:=by
 obtain⟨hTI,_,h1,h2,hz⟩:=hz
 rcases hz with hz|⟨c,f1,oc,hz,nc1,nc2,nc3,hc⟩
 ·exact absurd hz hn
 ·show aI _ _ (lZ (.ref z) 2 >>= _) _ _ _
  refine af (bd hz rfl (x:=.bool false) rfl ?_)
  show aI _ _ (lZ (.ref z) 3 >>= _) _ _ _
  refine af (bd hz rfl (x:=.ref TI) rfl ?_)
  refine af (dw hTI rfl ?_)
  show aI _ _ (bo (.ref z) >>= _) _ _ _
  refine af ?_
  unfold bo
  refine af (bd hz rfl (x:=eC c) rfl ?_)
  show aI _ _ (loadIfAlive (c:Int).toNat >>= _) _ _ s
  refine Te hc ?_
  simp only [iD,bz,if_false]
  refine af (bd hz rfl (x:=f1) rfl ?_)
  refine c5 (fun cf=>af (br hz (by simp) fun h₁ hz₁ hs₁=>al ?_)) (fun cf=>al ?_)
  rotate_left
  ·have hs₁:bc z s.heap s.heap:=⟨rfl,fun _ _=>rfl⟩
   revert hs₁
   rcases s with ⟨h₁,g,d,tk,os⟩
   intro hs₁
   simp only [bz,if_false]
   rw [<- iA]
   simp only [f_,iH]
   refine af (af (af (bx ?_)))
   show aI _ _ (aT (.ref i1) >>= _) _ _ _
   exact af (jT hh (h1.extBut hs₁.extBut D.i1z) (hl1.extBut hs₁.extBut D.l1z) hx fun h₂ e hs₂ he=>hE h₂ e (fun c o n1 n3 q=>hs₂ _ _ n3 (hs₁.extBut _ _ n1 q)) he)
  ·simp only [bz,if_false]
   rw [<- iA]
   simp only [f_,iH]
   refine af (af (af (bx ?_)))
   show aI _ _ (aT (.ref i1) >>= _) _ _ _
   exact af (jT hh (h1.extBut hs₁.extBut D.i1z) (hl1.extBut hs₁.extBut D.l1z) hx fun h₂ e hs₂ he=>hE h₂ e (fun c o n1 n3 q=>hs₂ _ _ n3 (hs₁.extBut _ _ n1 q)) he)
theorem Zv {z TI TO i1 i2 l t:Addr} {k:Nat} {xs ys:Array Value} {x y:Value} {Q:Option Value->aj->Prop} (D:lH z TI TO i1 i2 l t) (hz:ZipAt s.heap z TI TO i1 i2 l t k) (hl1:s.heap.IsList l xs) (hl2:s.heap.IsTuple t ys) (hx:xs[k]? = some x) (hy:ys[k]? = some y)
  (hQ:∀ h',ZipAt h' z TI TO i1 i2 l t (k+1) -> ¬ lF h' z TI TO .none->j6 h' s.heap.objs.size x y->(∀ c o,c≠z->c≠TO->c≠i1->c≠i2->s.heap.get? c=some o->h'.get? c=some o)->Q (some (.ref s.heap.objs.size)) { s with heap:=h' }) :
  aI (model prog w) A (fC (.ref z)) Q E s:=by
 have hT:s.TypeIs (.ref z) "zip" := by
  obtain⟨_,_,_,_,e|⟨c,f1,oc,e,_⟩⟩:=hz
  ·exact⟨_,e,rfl⟩
  ·exact⟨_,e,rfl⟩
 unfold fC
 exact af (eI (bW (name:=cS "__next__") hT h_
  (cM h_ hT F.entry_zip_next
   (Zt D hz hl1 hl2 hx hy fun h' a1 a2 a3 a4=>al (hQ h' a1 a2 a3 a4)) (F.args_zip_next_1 _))))
theorem Zu {z TI TO i1 i2 l t:Addr} {k:Nat} {xs:Array Value} {Q:Option Value->aj->Prop} (hh:A.handled=none) (D:lH z TI TO i1 i2 l t) (hz:ZipAt s.heap z TI TO i1 i2 l t k) (hn:¬ lF s.heap z TI TO .none) (hl1:s.heap.IsList l xs) (hx:xs[k]? = none)
  (hQ:∀ h',(∀ c o,c≠z->c≠i1->s.heap.get? c=some o->h'.get? c=some o)->Q none { s with heap:=h' }):aI (model prog w) A (fC (.ref z)) Q E s:=by
 have hT:s.TypeIs (.ref z) "zip" := by
  obtain⟨_,_,_,_,e|⟨c,f1,oc,e,_⟩⟩:=hz
  ·exact⟨_,e,rfl⟩
  ·exact⟨_,e,rfl⟩
 unfold fC
 refine af (eI (bW (name:=cS "__next__") hT h_
  (cM h_ hT F.entry_zip_next (ar7 hh D hz hn hl1 hx fun h' e hk he=>?_) (F.args_zip_next_1 _))))
 obtain⟨o,ho,hc⟩:=he
 refine af (fO (T := "StopIteration") (b:=true) ⟨o,ho,hc⟩ kc ?_)
 exact al (hQ _ hk)
end
noncomputable abbrev Xq (h:Heap) (l1 l2:Addr):Heap:=(zipH1 h l1).push { cls:=.type "tuple_iterator", data:=.fields #[.ref l2,.int 0 0] }
noncomputable abbrev Xr (h:Heap) (l1 l2:Addr):Heap:=(Xq h l1 l2).push { cls:=.type "tuple", data:=.seq #[.ref h.objs.size,.ref (zipH1 h l1).objs.size] }
noncomputable abbrev Xs (h:Heap) (l1 l2:Addr):Heap:=(Xr h l1 l2).push { cls:=.type "tuple", data:=.seq #[.none,.none] }
noncomputable abbrev Mh (h:Heap) (l1 l2:Addr):Heap:=(Xs h l1 l2).push { cls:=.type "zip", data:=.fields #[.none,.bool false,.bool false,.ref (Xq h l1 l2).objs.size,.ref (Xr h l1 l2).objs.size] }
theorem Kw (l1 l2:Addr) (xs ys:Array Value) :
  Meets (ar.«zip.__new__» ⟨[.type "zip", .ref l1,.ref l2],[]⟩) (fun _ R s=>s.heap.IsList l1 xs/\s.heap.IsTuple l2 ys /\
   R (.ok (.ret (.ref (Xs s.heap l1 l2).objs.size))) { s with heap:=Mh s.heap l1 l2 }):=
 .of_wp fun prog w A R s h=>by
  obtain⟨hp,g,d,tk,os⟩:=s;obtain⟨hl1,hl2,h⟩:=h
  have hsub:=sub_zip
  have hL1:Heap.IsList (lO ⟨hp,g,d,tk,os⟩) l1 xs:=hl1
  have hL2:Heap.IsTuple (lO ⟨hp.push { cls:=.type "list_iterator", data:=.fields #[.ref l1,.int 0 0] },g,d,tk,os⟩) l2 ys:=by obtain⟨o,e,r⟩:=hl2;exact⟨o,ag _ e,r⟩
  wp_walk using gK hL1,kX hL2
  exact⟨_,rfl,h⟩
section
variable {prog:aV} {w:bM} {A:bi} {E:Value->aj->Prop} {s:aj}
theorem X1 {l1 l2:Addr} {xs ys:Array Value} {Q:Value->aj->Prop} (hl1:s.heap.IsList l1 xs) (hl2:s.heap.IsTuple l2 ys)
  (h:∀ h',lF h' (s.heap.objs.size+4) (s.heap.objs.size+2) (s.heap.objs.size+3) .none->j6 h' (s.heap.objs.size+2) (.ref s.heap.objs.size) (.ref (s.heap.objs.size+1)) ->
   j6 h' (s.heap.objs.size+3) .none .none->h'.IsListIter s.heap.objs.size l1 0->h'.IsTupleIter (s.heap.objs.size+1) l2 0->h'.objs.size=s.heap.objs.size+5 ->
   (∀ c o,s.heap.get? c=some o->h'.get? c=some o)->Q (.ref (s.heap.objs.size+4)) { s with heap:=h' }) :
  aI (model prog w) A (call (.type "zip") [.ref l1,.ref l2]) Q E s:=by
 refine callType_new F.called_zip (by decide) (F.typeCall_zip_2 _ _) (F.newCall_zip_2 _ _) (fun obj=>F.args_object_init_3 obj _ _) F.entry_zip_new
  (Kw l1 l2 xs ys) ⟨hl1,hl2,?_⟩
 have z1:(zipH1 s.heap l1).objs.size=s.heap.objs.size+1:=bJ ..
 have z2:(Xq s.heap l1 l2).objs.size=s.heap.objs.size+2:=by rw [bJ,z1]
 have z3:(Xr s.heap l1 l2).objs.size=s.heap.objs.size+3:=by rw [bJ,z2]
 have z4:(Xs s.heap l1 l2).objs.size=s.heap.objs.size+4:=by rw [bJ,z3]
 have z5:(Mh s.heap l1 l2).objs.size=s.heap.objs.size+5:=by rw [bJ,z4]
 have g5:(Mh s.heap l1 l2).get? (Xs s.heap l1 l2).objs.size=some _:=aw _ rfl
 have g4:(Mh s.heap l1 l2).get? (Xr s.heap l1 l2).objs.size=some _:=ag _ (aw _ rfl)
 have g3:(Mh s.heap l1 l2).get? (Xq s.heap l1 l2).objs.size=some _:=ag _ (ag _ (aw _ rfl))
 have g2:(Mh s.heap l1 l2).get? (zipH1 s.heap l1).objs.size=some _:=ag _ (ag _ (ag _ (aw _ rfl)))
 have g1:(Mh s.heap l1 l2).get? s.heap.objs.size=some _:=ag _ (ag _ (ag _ (ag _ (aw _ rfl))))
 show _/\_
 rw [z2,z3,z4] at g5
 rw [z1,z2] at g3
 rw [z3] at g4
 rw [z1] at g2
 rw [z4]
 exact⟨⟨_,g5,rfl⟩,h _ g5 g3 g4 ⟨_,g1,rfl,rfl⟩ ⟨_,g2,rfl,rfl⟩ z5 fun c o x=>
  ag _ (ag _ (ag _ (ag _ (ag _ x))))⟩
end
end PySem
namespace L2
open PySem PySem.Spec PyProof.Rows
section
variable {X:Cx} {pins:List (Addr×Obj)} {σ:St} {A:bi} {E:Value->aj->Prop} {R:j9->aj->Prop} {z TI TO i1 i2 l t S:Addr} {xs ys:List V} {res:Value}
noncomputable def Wj (H0 H:Hp) (xs ys:List V) (Ts:List Addr):Prop:=∀ (j:Nat) x y T,xs[j]? = some x->ys[j]? = some y->Ts[j]? = some T->H0 T=none/\H T=some (.tup [x,y])
theorem ar9 (H0:Hp) (hh:A.handled=none) (D:lH z TI TO i1 i2 l t) (nS:z≠S/\TI≠S/\TO≠S/\i1≠S/\i2≠S /\ ∀ o,¬ H0 S=some o) (hl0:H0 l=some (.lst xs)) (ht0:H0 t=some (.tup ys)) (len:xs.length=ys.length) (pos:0<xs.length) (small:xs.length<sizeLine) (left:Nat) :
  ∀ (i:Nat) (s:aj) (H:Hp) (Ts:List Addr),i+left=xs.length->Inv X pins σ H s->(∀ b∈[z,TO,i1,i2],Dw X pins H b)->(∀ b o,b≠S->H0 b=some o->H b=some o)->H S=some (.lst (Ts.map V.ref))->H0 S=none->ZipAt s.heap z TI TO i1 i2 l t i->(0<i -> ¬ lF s.heap z TI TO .none)->Ts.length=i ->
   Wj H0 H xs ys Ts->(∀ s' H' Ts',Inv X pins σ H' s'->Mx H0 H'->H' S=some (.lst (Ts'.map V.ref))->Ts'.length=xs.length->Wj H0 H' xs ys Ts'->R (.ok (.ret res)) s') ->
   eO (model X.prog X.w) A (.builtin "list.extend.loop" ⟨[.ref S,.ref z,res],[]⟩) R s:=by
 have nl:l≠S:=fun e=>by rw [e] at hl0;exact nS.2.2.2.2.2 _ hl0
 have nt:t≠S:=fun e=>by rw [e] at ht0;exact nS.2.2.2.2.2 _ ht0
 have off:∀ {b:Addr},b∉[z,TO,i1,i2]->b≠z/\b≠TO/\b≠i1/\b≠i2:=fun hb=>by
  simpa using hb
 induction left with
 | zero=>
  intro i s H Ts hi I fp top hS h0 at1 nz hl laid hR
  refine cY fP (cC cJ _ ▸ ?_)
  show aI _ A.in1 (fC (.ref z) >>= _) _ _ s
  obtain⟨its,ri,pl,_⟩:=I.list (SqL.of (top l _ nl hl0))
  have e1:=ri.length
  refine af (Zu hh D at1 (nz (by omega)) pl.isList (by simp;omega) fun h' ext=>al (hR _ H Ts ?_ (fun b o e=>top b o (fun z=>by rw [z,h0] at e;cases e) e) hS (by omega) laid))
  exact I.turnedL (t':=s.toks) (ch:=[z,TO,i1,i2]) fp fun b o hb e=>ext b o (off hb).1 (off hb).2.2.1 e
 | succ left ih=>
  intro i s H Ts hi I fp top hS h0 at1 nz hl laid hR
  obtain⟨its,ri,pl,_⟩:=I.list (SqL.of (top l _ nl hl0))
  obtain⟨its2,ri2,pl2,_⟩:=I.tuple (SqT.of (top t _ nt ht0))
  have hx:xs[i]? = some (xs[i]'(by omega)):=ah _
  have hy:ys[i]? = some (ys[i]'(by omega)):=ah _
  generalize xs[i]'(by omega)=x at hx
  generalize ys[i]'(by omega)=y at hy
  obtain⟨u,hu,ru⟩:=ri.get hx
  obtain⟨v,hv,rv⟩:=ri2.get hy
  refine cY fP (cC cJ _ ▸ ?_)
  show aI _ A.in1 (fC (.ref z) >>= _) _ _ s
  refine af (Zv D at1 pl.isList pl2 (x:=u) (y:=v) (by simpa using hu) (by simpa using hv) fun h' at2 nz2 t2 all2=>?_)
  have fresh:H s.heap.objs.size=none:=I.hok.fresh (ay _)
  have ltS:S<s.heap.objs.size:=(I.hok S _ hS).lt
  have lts:∀ b∈[z,TO,i1,i2],b≠s.heap.objs.size:=fun b hb=>by
   obtain⟨q1,⟨_,_,q0⟩,⟨o1,q2,_⟩,⟨o2,q3,_⟩,q4⟩:=at1
   have hb:b=z\/b=TO\/b=i1\/b=i2:=by simpa using hb
   rcases hb with rfl|rfl|rfl|rfl
   ·rcases q4 with q|⟨_,_,_,q,_⟩
    ·exact aH (aB q)
    ·exact aH (aB q)
   ·exact aH (aB q0)
   ·exact aH (aB q2)
   ·exact aH (aB q3)
  have I1:Inv X pins σ (upd H s.heap.objs.size (.tup [x,y])) { s with heap:=h' }:=
   I.turnedN (t':=s.toks) (ch:=[z,TO,i1,i2]) fp (fun b o hb e=>all2 b o (off hb).1 (off hb).2.1 (off hb).2.2.1 (off hb).2.2.2 e) (ay _) ⟨by show 2<=sizeLine;decide,[u,v],.cons ru (.cons rv .nil),⟨_,t2,rfl,_,rfl⟩⟩
  have S1:upd H s.heap.objs.size (.tup [x,y]) S=some (.lst (Ts.map V.ref)):=by rw [Ai (aH ltS)];exact hS
  obtain⟨its3,n,r,ho,hz⟩:=I1.lst S1
  have li:its3.length=i:=by rw [<- r.length,ae];exact hl
  show aI _ A.in1 (fK S (·.push (.ref s.heap.objs.size)) >>= _) _ _ { s with heap:=h' }
  refine af ?_
  refine cK ho rfl (al ⟨dv cJ _,?_⟩) (by rw [av,li];omega) (by show (its3.toArray.push _).size<=sizeLine+1;rw [Array.size_push,av,li];omega)
  have I2:=I1.lset (t':=s.toks) (f:=fun z=>z.push (.ref s.heap.objs.size)) (its':=its3++[.ref s.heap.objs.size]) (ys:=(Ts++[s.heap.objs.size]).map V.ref) S1 ho (by simp) (by rw [az];exact r.append (.cons rfl .nil)) (by rw [ae,aJ,cw,hl];omega)
  have nSb:∀ b,b≠S->(h'.update S (bt fun z=>z.push (.ref s.heap.objs.size))).get? b=h'.get? b:=fun b n=>aP _ _ (ck n)
  refine ih (i+1) _ _ (Ts++[s.heap.objs.size]) (by omega) I2 (fun b hb=>?_) (fun b o n e=>?_) Ad h0 (at2.on (fun b o n e=>(nSb b n).trans e) (fun o e=>⟨_,aU _ e (by rw [ho] at e;cases e;rfl)⟩) nS.1 nS.2.1 nS.2.2.1 nS.2.2.2.1 nS.2.2.2.2.1) (fun _ q=>nz2 ?_) (by rw [aJ,cw,hl]) (fun j x' y' T e1 e2 e3=>?_) hR
  ·obtain⟨f0,f1,f2,f3,f4,f5⟩:=fp b hb
   have nb:b≠S:=by
    have hb:b=z\/b=TO\/b=i1\/b=i2:=by simpa using hb
    rcases hb with rfl|rfl|rfl|rfl
    ·exact nS.1
    ·exact nS.2.2.1
    ·exact nS.2.2.2.1
    ·exact nS.2.2.2.2.1
   exact⟨by rw [Ai nb,Ai (lts b hb)];exact f0,f1,f2,f3,f4,f5⟩
  ·rw [Ai n,Ai (Ak (top b o n e) fresh)];exact top b o n e
  ·exact (nSb z nS.1).symm.trans q
  ·by_cases hj:j<Ts.length
   ·rw [cI hj] at e3
    obtain⟨q1,q2⟩:=laid j x' y' T e1 e2 e3
    refine⟨q1,?_⟩
    have nT:T≠S:=fun z=>by rw [z,hS] at q2;cases q2
    rw [Ai nT,Ai (Ak q2 fresh)];exact q2
   ·have hj2:j=i:=by
     have:j<(Ts++[s.heap.objs.size]).length:=by
      rcases dA j (Ts++[s.heap.objs.size]).length with h|h
      ·exact h
      ·rw [dy h] at e3;cases e3
     rw [aJ,cw] at this
     omega
    subst hj2
    rw [bL (by omega),hl,fV] at e3
    cases e3
    rw [hx] at e1
    rw [hy] at e2
    cases e1
    cases e2
    refine⟨?_,by rw [Ai (cx ltS)];exact Ad⟩
    cases q:H0 s.heap.objs.size with
    | none=>rfl
    | some o=>exact absurd (top _ o (cx ltS) q) (by rw [fresh];intro z;cases z)
theorem a22:f6 (.type "zip") "__len__" = pure none:=by rw [ir,fg];kernel_rfl
theorem ar8:f6 (.type "zip") "__length_hint__" = pure none:=by rw [ir,fg];kernel_rfl
theorem ag7 {s:aj} {r:Addr} {Q:Bool->aj->Prop} {prog:aV} {w:bM} (ty:s.TypeIs (.ref r) "zip") (h:Q true s):aI (model prog w) A (b7 (.ref r)) Q E s:=by
 unfold b7
 refine af (gp ty a22 ?_)
 wp_delta
 refine af (gp ty ar8 ?_)
 wp_delta
 exact al h
theorem ai0 {H:Hp} {s:aj} {Q:Value->aj->Prop} (hc:X.calm=true) (I:Inv X pins σ H s) (hl0:H l=some (.lst xs)) (ht0:H t=some (.tup ys)) (len:xs.length=ys.length) (pos:0<xs.length) (few:xs.length<1000)
  (h:∀ D Ts H' s',Inv X pins σ H' s'->Mx H H'->H D=none->H' D=some (.lst (Ts.map V.ref))->Ts.length=xs.length->Wj H H' xs ys Ts->Q (.ref D) s') :
  aI (model X.prog X.w) X.A (call (.type "zip") [.ref l,.ref t]) (fun v s1=>aI (model X.prog X.w) X.A (call (.type "list") [v]) Q X.xe s1) X.xe s:=by
 obtain⟨its,ri,pl,_⟩:=I.list (SqL.of hl0)
 obtain⟨its2,ri2,pl2,_⟩:=I.tuple (SqT.of ht0)
 have l1:l<s.heap.objs.size:=(I.hok l _ hl0).lt
 have l2:t<s.heap.objs.size:=(I.hok t _ ht0).lt
 refine X1 pl.isList pl2 fun h1 hz hTI hTO hi1 hi2 zv on1=>?_
 refine j_ (s:={ s with heap:=h1 }) (Q₁:=fun obj s2=>obj=.ref (s.heap.objs.size+5)/\s2={ s with heap:=h1.push { cls:=.type "list", data:=.seq #[] } }) im (gj _) ge
  (kN _ ⟨by show aY h1.objs.size=_;rw [zv],rfl⟩) fun obj s2 hs=>?_
 obtain⟨rfl,rfl⟩:=hs
 have S2:(h1.push { cls:=.type "list", data:=.seq #[] }).get? (s.heap.objs.size+5)=some { cls:=.type "list", data:=.seq #[] }:=zv▸aw _ rfl
 have on2:∀ b o,h1.get? b=some o->(h1.push { cls:=.type "list", data:=.seq #[] }).get? b=some o:=fun b o q=>ag _ q
 generalize h1.push { cls:=.type "list", data:=.seq #[] }=h2 at S2 on2 ⊢
 refine⟨⟨_,S2,rfl⟩,fW _ _,?_⟩
 show aI _ _ (do let old <- dn (.ref (s.heap.objs.size+5));f7 (.ref (s.heap.objs.size+5)) (fun _=>#[]);letGo old.toList.reverse;bF (.ref (s.heap.objs.size+5)) (.ref (s.heap.objs.size+4)) .none) _ _ { s with heap:=h2 }
 refine af ?_
 unfold dn
 refine af (dw (s:={ s with heap:=h2 }) S2 rfl (al ?_))
 show aI _ _ (fK (s.heap.objs.size+5) (fun _=>#[]) >>= fun _=>letGo (#[]:Array Value).toList.reverse >>= fun _=>bF (.ref (s.heap.objs.size+5)) (.ref (s.heap.objs.size+4)) .none) _ _ { s with heap:=h2 }
 refine af (cK (s:={ s with heap:=h2 }) S2 rfl (af (gI ?_)))
 have S3:∃ c,(h2.update (s.heap.objs.size+5) (bt (fun _=>(#[]:Array Value)))).get? (s.heap.objs.size+5)=some { cls:=.type "list", data:=.seq #[] c }:=⟨_,aU _ S2 rfl⟩
 have o3:∀ b o,b≠s.heap.objs.size+5->h2.get? b=some o->(h2.update (s.heap.objs.size+5) (bt (fun _=>(#[]:Array Value)))).get? b=some o:=fun b o n q=>(aP _ _ (ck n)).trans q
 generalize h2.update (s.heap.objs.size+5) (bt (fun _=>(#[]:Array Value)))=h3 at S3 o3 ⊢
 obtain⟨c3,S3⟩:=S3
 have k3:∀ b o,b<s.heap.objs.size+5->h1.get? b=some o->h3.get? b=some o:=fun b o hb q=>o3 b o (aH hb) (on2 b o q)
 have hz3:=k3 _ _ (df _) hz
 have on3:∀ b o,s.heap.get? b=some o->h3.get? b=some o:=fun b o q=>k3 b o (aG (aB q) (bK _ 5)) (on1 b o q)
 have at3:ZipAt h3 (s.heap.objs.size+4) (s.heap.objs.size+2) (s.heap.objs.size+3) s.heap.objs.size (s.heap.objs.size+1) l t 0:=by
  refine⟨k3 _ _ (by omega) hTI,⟨_,_,k3 _ _ (by omega) hTO⟩,?_,?_,.inl hz3⟩
  ·obtain⟨o,e,r⟩:=hi1;exact⟨o,k3 _ o (by omega) e,r⟩
  ·obtain⟨o,e,r⟩:=hi2;exact⟨o,k3 _ o (by omega) e,r⟩
 unfold bF
 have ty3:ja { s with heap:=h3 } (.ref (s.heap.objs.size+4)) "zip" := ⟨_,hz3,rfl⟩
 refine af (iF (s:={ s with heap:=h3 }) (T := "zip") ty3 ?_)
 have t1:cP (.ref (s.heap.objs.size+5)) (.ref (s.heap.objs.size+4))=false:=by simp [cP]
 have t2:(c7 "zip" == c7 "list")=false:=by decide
 have t3:(c7 "zip" == c7 "tuple")=false:=by decide
 simp only [t1,t2,t3,eE,bz,if_false]
 refine af (wpAny_pyIter_zip (s:={ s with heap:=h3 }) hz3 ?_)
 refine af (bx (ag7 (s:={ s with heap:=h3 }) ty3 ?_))
 have loop:∀ (hh:Heap) (c tk:Nat),(∀ b o,b≠s.heap.objs.size+5->h3.get? b=some o->hh.get? b=some o)->hh.get? (s.heap.objs.size+5)=some { cls:=.type "list", data:=.seq #[] c } ->
   eO (model X.prog X.w) X.A.in1 (.builtin "list.extend.loop" ⟨[.ref (s.heap.objs.size+5),.ref (s.heap.objs.size+4),.none],[]⟩) (wants (fun r s₂=>r=.none/\Q (.ref (s.heap.objs.size+5)) s₂) X.xe) { s with heap:=hh,toks:=tk }:=by
  intro hh c tk k5 S5
  have on5:∀ b o,s.heap.get? b=some o->hh.get? b=some o:=fun b o q=>k5 b o (aH (aG (aB q) (bK _ 5))) (on3 b o q)
  have fr:H (s.heap.objs.size+5)=none:=I.hok.fresh (bK _ 5)
  have I5:Inv X pins σ (upd H (s.heap.objs.size+5) (.lst [])) { s with heap:=hh,toks:=tk }:=I.laid (t':=tk) on5 (bK _ 5) ⟨cq _,[],c,.nil,S5⟩
  have m4:s.heap.objs.size+4≠s.heap.objs.size+5:=by omega
  have m3:s.heap.objs.size+3≠s.heap.objs.size+5:=by omega
  have m2:s.heap.objs.size+2≠s.heap.objs.size+5:=by omega
  have m1:s.heap.objs.size+1≠s.heap.objs.size+5:=by omega
  have m0:s.heap.objs.size≠s.heap.objs.size+5:=by omega
  refine ar9 (X:=X) (pins:=pins) (σ:=σ) (A:=X.A.in1) (xs:=xs) (ys:=ys) H (by simp [I.ok.hd hc]) (PyProof.Rows.zipApart_new l1 l2) ⟨m4,m2,m3,m0,m1,fun o e=>by rw [fr] at e;cases e⟩ hl0 ht0 len pos (by rw [cZ];omega) xs.length 0 _ _ [] (dg _) I5
   (fun b hb=>?_) (fun b o n q=>by rw [Ai n];exact q) Ad fr (at3.on (S:=s.heap.objs.size+5) k5 (fun o _=>⟨_,S5⟩) m4 m2 m3 m0 m1) (fun z=>absurd z (by omega)) rfl (fun j x y T _ _ e3=>by simp at e3) fun s' H' Ts' I' top hS hl laid=>⟨rfl,h _ Ts' H' s' I' top fr hS hl laid⟩
  have hb:b=s.heap.objs.size+4\/b=s.heap.objs.size+3\/b=s.heap.objs.size\/b=s.heap.objs.size+1:=by simpa using hb
  have le:s.heap.objs.size<=b/\b≠s.heap.objs.size+5:=by
   rcases hb with e|e|e|e <;> (rw [e];first|exact⟨bK _ _,m4⟩|exact⟨bK _ _,m3⟩|exact⟨bK _ _,m1⟩|exact⟨ay _,m0⟩)
  exact I.fpOk le.1 (by rw [Ai le.2];exact I.hok.fresh le.1)
 refine c5 (fun _=>?_) (fun _=>al ⟨dv cJ _,loop h3 c3 s.toks (fun b o _ q=>q) S3⟩)
 refine af (hX (af ?_))
 show aI _ _ (fK (s.heap.objs.size+5) (·.push .none) >>= fun _=>fK (s.heap.objs.size+5) (·.pop)) _ _ _
 have S5:=aU (bt (·.push bh)) S3 rfl
 refine af (cK (s:={ s with heap:=h3 }) S3 rfl (cK (hz:=by seq_fits) S5 rfl (al ⟨dv cJ _,loop _ _ s.toks (fun b o n q=>?_) (aU (bt (·.pop)) S5 rfl)⟩)))
 exact (aP _ _ (ck n)).trans ((aP _ _ (ck n)).trans q)
end
section
variable {X:Cx}
theorem a20 {ys:List V} {us:List Value} (r:Vals ys us):∀ {i:Nat} {u:Value},us[i]? = some u -> ∃ y,ys[i]? = some y/\RelV y u:=by
 induction r with
 | nil=>intro i u e;simp at e
 | @cons y v ys us h t ih=>
  intro i u e
  cases i with
  | zero=>rw [dN] at e;cases e;exact⟨y,rfl,h⟩
  | succ i=>rw [bN] at e;exact ih e
end
section
variable {prog:aV} {w:bM} {A:bi} {E:Value->aj->Prop} {s:aj}
theorem aw2:f6 (.type "list_reverseiterator") "__len__" = pure none:=by rw [ir,fg];kernel_rfl
theorem ai1:f6 (.type "list_reverseiterator") "__length_hint__" = pure (some (.builtin "list_reverseiterator.__length_hint__")):=by rw [ir,fg];kernel_rfl
theorem ag6 {r:Addr} {Q:Bool->aj->Prop} (ty:s.TypeIs (.ref r) "list_reverseiterator") (h:Q false s):aI (model prog w) A (b7 (.ref r)) Q E s:=by
 unfold b7
 refine af (gp ty aw2 ?_)
 generalize eid:("list_reverseiterator.__length_hint__" : String)=name
 have lh:=ai1
 rw [eid] at lh
 wp_delta
 refine af (gp ty lh ?_)
 wp_delta
 rw [show splitId name=some ("list_reverseiterator", "__length_hint__") from eid▸by decide +kernel]
 subst eid
 refine af (fO (T := "list_reverseiterator") (b:=true) ty (by rw [isSubtype_type];kernel_rfl) (c5 (fun z=>absurd z (by decide)) fun _=>c5 (fun _=>?_) fun z=>absurd (by decide +kernel) z))
 exact c5 (fun z=>absurd z (by decide)) fun _=>al h
theorem an7 {l:Addr} {items:Array Value} {Q:Value->aj->Prop} (hh:A.handled=none) (hl:s.heap.IsList l items) (small:items.size<=sizeLine)
  (h:∀ h' tk acc c,(∀ b o,s.heap.get? b=some o->h'.get? b=some o)->h'.get? (s.heap.objs.size+1)=some { cls:=.type "list", dict:=none,data:=.seq acc c,slots:=#[] }->ItemsOf (fun i v=>items[items.size - 1 - i]? = some v) acc items.size->Q (.ref (s.heap.objs.size+1)) { s with heap:=h',toks:=tk }) :
  aI (model prog w) A (call (.type "reversed") [.ref l]) (fun v s1=>aI (model prog w) A (call (.type "list") [v]) Q E s1) E s:=by
 have lp:l<s.heap.objs.size:=by obtain⟨_,e,_⟩:=hl;exact aB e
 refine call_reversed_list hl ?_
 have zv:(s.heap.push (mh l ((items.size:Int) - 1))).objs.size=s.heap.objs.size+1:=bJ ..
 have view:(s.heap.push (mh l ((items.size:Int) - 1))).get? s.heap.objs.size=some (mh l ((items.size:Int) - 1)):=aw _ rfl
 have on1:∀ b o,s.heap.get? b=some o->(s.heap.push (mh l ((items.size:Int) - 1))).get? b=some o:=fun b o q=>ag _ q
 generalize s.heap.push (mh l ((items.size:Int) - 1))=h1 at zv view on1 ⊢
 refine j_ (s:={ s with heap:=h1 }) (Q₁:=fun obj s2=>obj=.ref (s.heap.objs.size+1)/\s2={ s with heap:=h1.push { cls:=.type "list", data:=.seq #[] } }) im (gj _) ge
  (kN _ ⟨by show aY h1.objs.size=_;rw [zv],rfl⟩) fun obj s2 hs=>?_
 obtain⟨rfl,rfl⟩:=hs
 have S2:(h1.push { cls:=.type "list", data:=.seq #[] }).get? (s.heap.objs.size+1)=some { cls:=.type "list", data:=.seq #[] }:=zv▸aw _ rfl
 have view2:=ag { cls:=.type "list", data:=.seq #[] } view
 have on2:∀ b o,s.heap.get? b=some o->(h1.push { cls:=.type "list", data:=.seq #[] }).get? b=some o:=fun b o q=>ag _ (on1 b o q)
 generalize h1.push { cls:=.type "list", data:=.seq #[] }=h2 at S2 view2 on2 ⊢
 refine⟨⟨_,S2,rfl⟩,fW _ _,?_⟩
 show aI _ _ (do let old <- dn (.ref (s.heap.objs.size+1));f7 (.ref (s.heap.objs.size+1)) (fun _=>#[]);letGo old.toList.reverse;bF (.ref (s.heap.objs.size+1)) (.ref s.heap.objs.size) .none) _ _ { s with heap:=h2 }
 refine af ?_
 unfold dn
 refine af (dw (s:={ s with heap:=h2 }) S2 rfl (al ?_))
 show aI _ _ (fK (s.heap.objs.size+1) (fun _=>#[]) >>= fun _=>letGo (#[]:Array Value).toList.reverse >>= fun _=>bF (.ref (s.heap.objs.size+1)) (.ref s.heap.objs.size) .none) _ _ { s with heap:=h2 }
 refine af (cK (s:={ s with heap:=h2 }) S2 rfl (af (gI ?_)))
 have S3:∃ c,(h2.update (s.heap.objs.size+1) (bt (fun _=>(#[]:Array Value)))).get? (s.heap.objs.size+1)=some { cls:=.type "list", data:=.seq #[] c }:=⟨_,aU _ S2 rfl⟩
 have o3:∀ b o,b≠s.heap.objs.size+1->h2.get? b=some o->(h2.update (s.heap.objs.size+1) (bt (fun _=>(#[]:Array Value)))).get? b=some o:=fun b o n q=>(aP _ _ (ck n)).trans q
 generalize h2.update (s.heap.objs.size+1) (bt (fun _=>(#[]:Array Value)))=h3 at S3 o3 ⊢
 obtain⟨c3,S3⟩:=S3
 have view3:h3.get? s.heap.objs.size=some (mh l ((items.size:Int) - 1)):=o3 _ _ (aH (df _)) view2
 have on3:∀ b o,s.heap.get? b=some o->h3.get? b=some o:=fun b o q=>o3 b o (aH (cb (aB q))) (on2 b o q)
 have isr:h3.IsRevIter s.heap.objs.size l ((items.size:Int) - 1):=⟨_,view3,rfl,rfl⟩
 have isl:h3.IsList l items:=hl.at fun o q=>on3 l o q
 unfold bF
 refine af (iF (s:={ s with heap:=h3 }) (T := "list_reverseiterator") (jC (s:={ s with heap:=h3 }) isr) ?_)
 have t1:cP (.ref (s.heap.objs.size+1)) (.ref s.heap.objs.size)=false:=by simp [cP]
 have t2:(c7 "list_reverseiterator" == c7 "list")=false:=by decide
 have t3:(c7 "list_reverseiterator" == c7 "tuple")=false:=by decide
 simp only [t1,t2,t3,eE,bz,if_false]
 refine af (wpAny_pyIter_revIter (s:={ s with heap:=h3 }) isr ?_)
 refine af (bx (ag6 (s:={ s with heap:=h3 }) (jC (s:={ s with heap:=h3 }) isr) ?_))
 have nS:s.heap.objs.size+1∉[s.heap.objs.size,l]:=by
  simp only [aE,dL,or_false,not_or]
  exact⟨ji _,(aH (cb lp)).symm⟩
 have loop:∀ (h0:Heap) (c tk:Nat),(∀ b o,b≠s.heap.objs.size+1->h3.get? b=some o->h0.get? b=some o)->h0.get? (s.heap.objs.size+1)=some { cls:=.type "list", data:=.seq #[] c } ->
   eO (model prog w) A.in1 (.builtin "list.extend.loop" ⟨[.ref (s.heap.objs.size+1),.ref s.heap.objs.size,.none],[]⟩) (wants (fun r s₂=>r=.none/\Q (.ref (s.heap.objs.size+1)) s₂) E) { s with heap:=h0,toks:=tk }:=by
  intro h0 c tk k5 S5
  have n1:s.heap.objs.size≠s.heap.objs.size+1:=by omega
  have n2:l≠s.heap.objs.size+1:=aH (cb lp)
  have W:=Walks.listRev (prog:=prog) (w:=w) (A:=A.in1.in1) (by simpa using hh) s.heap.objs.size l (aH lp) items
  refine codeAny_extend_loopS W.toS small _ nS .none items.size 0 _ #[] c rfl (cq _) ⟨cq _,?_,isl.at fun o q=>k5 l o n2 q⟩ S5 (ItemsOf.nil _) fun s' acc' c' hm hS' hacc=>?_
  ·have e:(items.size:Int) - 1 - ((0:Nat):Int)=(items.size:Int) - 1:=by omega
   rw [e]
   exact isr.at fun o q=>k5 _ o n1 q
  ·rw [Moved.eq_with hm]
   refine⟨rfl,h s'.heap s'.toks acc' c' (fun b o q=>hm.heap b o (fun hmem=>?_) (k5 b o (aH (cb (aB q))) (on3 b o q))) hS' hacc⟩
   have hb:=aB q
   simp only [aE,dL,or_false] at hmem
   rcases hmem with rfl|rfl
   ·exact absurd hb (Nat.not_lt.mpr (cE _))
   ·exact absurd hb (fu _)
 refine c5 (fun _=>?_) (fun _=>al ⟨dv cJ _,loop h3 c3 s.toks (fun b o _ q=>q) S3⟩)
 refine af (hX (af ?_))
 show aI _ _ (fK (s.heap.objs.size+1) (·.push .none) >>= fun _=>fK (s.heap.objs.size+1) (·.pop)) _ _ _
 have S5:=aU (bt (·.push bh)) S3 rfl
 refine af (cK (s:={ s with heap:=h3 }) S3 rfl (cK (hz:=by seq_fits) S5 rfl (al ⟨dv cJ _,loop _ _ s.toks (fun b o n q=>?_) (aU (bt (·.pop)) S5 rfl)⟩)))
 exact (aP _ _ (ck n)).trans ((aP _ _ (ck n)).trans q)
end
section
variable {X:Cx} {pins:List (Addr×Obj)} {σ:St} {H:Hp} {s:aj} {Q:VK}
noncomputable def K8 (K:ac):V->Hp->VK->Prop:=fun x H Q=>match x with
 | .ref p=>∃ ys,SqL K H p ys /\ ∀ D,H D=none->Q (.ref D) (upd H D (.lst ys.reverse))
 | _=>False
theorem P9:∀ {ys:List V} {us:List Value},ys.length=us.length->(∀ (i:Nat) y u,ys[i]? = some y->us[i]? = some u->RelV y u)->Vals ys us
 | [],[],_,_=>.nil
 | y::ys,u::us,hl,h=>.cons (h 0 y u rfl rfl) (P9 (by simpa using hl) fun i y u e1 e2=>h (i+1) y u (by rw [bN];exact e1) (by rw [bN];exact e2))
 | [],_::_,hl,_=>by simp at hl
 | _::_,[],hl,_=>by simp at hl
theorem Mw {ys:List V} {its:List Value} (r:Vals ys its) {acc:Array Value} (h:ItemsOf (fun i v=>its.toArray[its.toArray.size - 1 - i]? = some v) acc its.toArray.size):Vals ys.reverse acc.toList:=by
 have hl:=r.length
 have hs:its.toArray.size=its.length:=av
 have ha:acc.toList.length=its.length:=by rw [dR,h.1,hs]
 refine P9 (by rw [ig,ha,hl]) fun i y u e1 e2=>?_
 rw [gM] at e2
 have e3:=h.2 i u e2
 have hi:i<its.length:=by
  have:=(Array.getElem?_eq_some_iff.mp e2).1
  rw [h.1,hs] at this
  exact this
 rw [hs,List.getElem?_toArray] at e3
 obtain⟨y',g1,g2⟩:=a20 r e3
 rw [List.getElem?_reverse (by omega),hl,g1] at e1
 cases e1
 exact g2
theorem ah8 {p:Addr} {ys:List V} (hc:X.calm=true) (I:Inv X pins σ H s) (hq:SqL X.K H p ys) (q:∀ D,H D=none->Q (.ref D) (upd H D (.lst ys.reverse))) :
  aI (model X.prog X.w) X.A (call (.type "reversed") [.ref p]) (fun v s1=>aI (model X.prog X.w) X.A (call (.type "list") [v]) (EP X pins σ Q) X.xe s1) X.xe s:=by
 obtain⟨its,r,pl,hz⟩:=I.list hq
 have hl:=r.length
 refine an7 (I.ok.hd hc) pl.isList (by rw [av];omega) fun h' tk acc c k e it=>?_
 exact⟨.ref (s.heap.objs.size+1),_,I.laid (t':=tk) (a:=s.heap.objs.size+1) k (cE _) (show ObjOk X.prog X.w _ h' _ (.lst ys.reverse) from⟨by rw [ig];exact hz,acc.toList,c,Mw r it,by simpa using e⟩),rfl,q _ (I.hok.fresh (cE _))⟩
noncomputable def Sc:V->Hp->VK->Prop:=fun x H Q=>match x with
 | .int n=>n<=1000 /\ -(2 ^ 62)<=n /\ ∀ D,H D=none->Q (.ref D) (upd H D (.lst ((aq n.toNat).map fun i:Nat=>V.int (i:Int))))
 | _=>False
theorem ah9 {n:Int} {t:Tok} (hc:X.calm=true) (I:Inv X pins σ H s) (hn:n<=1000) (h0:-(2 ^ 62)<=n) (q:∀ D,H D=none->Q (.ref D) (upd H D (.lst ((aq n.toNat).map fun i:Nat=>V.int (i:Int))))) :
  aI (model X.prog X.w) X.A (call (.type "range") [.int n t]) (fun v s1=>aI (model X.prog X.w) X.A (call (.type "list") [v]) (EP X pins σ Q) X.xe s1) X.xe s:=by
 refine call_range_1 ?_
 have zv:(s.heap.push { cls:=.type "range", data:=.fields #[.int 0 s.toks,.int n t,.int 1 (s.toks+1)] }).objs.size=s.heap.objs.size+1:=bJ ..
 have hr:IsRange (s.heap.push { cls:=.type "range", data:=.fields #[.int 0 s.toks,.int n t,.int 1 (s.toks+1)] }) s.heap.objs.size 0 n 1 s.toks t (s.toks+1):=lL ..
 have on1:∀ b o,s.heap.get? b=some o->(s.heap.push { cls:=.type "range", data:=.fields #[.int 0 s.toks,.int n t,.int 1 (s.toks+1)] }).get? b=some o:=fun b o q=>ag _ q
 generalize s.heap.push { cls:=.type "range", data:=.fields #[.int 0 s.toks,.int n t,.int 1 (s.toks+1)] }=h1 at zv hr on1 ⊢
 refine call_list_range (n:=(n - 0).toNat) (I.ok.hd hc) hr (small_one (by omega) (by omega) (by omega) (by omega)) (rangeSize_nat _ _) (by omega) fun h' tk acc c k e it=>?_
 rw [zv] at e ⊢
 rw [ll] at it
 refine⟨.ref (s.heap.objs.size+1),_,I.laid (t':=tk) (a:=s.heap.objs.size+1) (fun b o q=>k b o (on1 b o q)) (cE _) (show ObjOk X.prog X.w _ h' _ (.lst ((aq n.toNat).map fun i:Nat=>V.int (i:Int))) from⟨?_,acc.toList,c,P9 ?_ fun i y u e1 e2=>?_,by simpa using e⟩),rfl,q _ (I.hok.fresh (cE _))⟩
 ·rw [ae,bB]
  exact aQ (show n.toNat<=1000 by omega) (by decide)
 ·rw [ae,bB,dR,it.1]
 ·rw [gM] at e2
  obtain⟨tt,ev⟩:=it.2 i u e2
  have hi:i<n.toNat:=by
   have:=(Array.getElem?_eq_some_iff.mp e2).1
   rw [it.1] at this
   exact this
  rw [ak,dU hi] at e1
  cases e1
  exact⟨tt,by rw [ev];congr 1;omega⟩
end
open Sem (wp)
section
variable {M:mf} {A:bi} {E:Value->aj->Prop} {env:Env}
variable {nm q:Str} {C N:Addr} {bs bm:List Value} {hdct:Bool} {sn:List Str} {sub:List Value} {ab:Bool} {col:Option Bool} {dd:Option Addr} {k0 k1 k2 k3 k5:Option Value} {newId:String}
end
section
variable {X:Cx} {e:Expr} {te:TE} {pos:Pos}
noncomputable def an2 (K:ac) (R:EK):VK:=fun x H=>match x with
 | .ref a=>∃ C dx,H a=some (Mq a C dx)/\ECls K C/\R a (upd H a (flO a C dx))
 | _=>False
theorem al6 {Ex:St->EK} (m:Meets X Ex) (hh:X.A.handled=none) (he:PE X e te):PS X (.Raise (some e) none pos) (fun _ σ H=>te σ H (an2 X.K (Ex σ))):=by
 intro pins s σ H D I h
 rw [arm_exec_Raise]
 show aI _ _ (do k9 pos;lU X.env (some (do let v <- eval e X.env;k9 pos;pure v)) none) _ _ s
 refine af (eJ ?_)
 unfold lU
 refine af (af (thn (he pins s σ H _ I h) fun v s1 ⟨x,H1,I1,r1,q1⟩=>af (eJ (al ?_))))
 cases x with
 | ref a=>
  cases r1
  obtain⟨C,dx,ea,c,q⟩:=q1
  obtain⟨vs,g1,g2,g3,g4⟩:=Tx I1 ea
  obtain⟨nm,qn,N,bs,bm,hdct,sn,sub,ab,col,dd,k0,k1,k2,k3,k5,hl,ht,hd⟩:=c.obj
  have hC:=I1.kIn _ _ hl
  have hb:bm.contains (.type "BaseException")=true:=Bv ht (by decide +kernel)
  have I2:Inv X pins σ (upd H1 a (flO a C dx)) s1:=by
   have:=I1.write (x:=a) (e:=a) (h':=s1.heap) (t':=s1.toks) (o:=flO a C dx) (by rw [ea];exact bC) (.inl rfl) (fun b u _ z=>z) ⟨_,g1⟩ (af8 g1 g2 g4)
   exact this
  have hx:=m pins σ _ s1 a I2 ⟨C,dx,vs,.inl Ad,g1,g2,.inl g3⟩ q
  have hcB:(aY C::bm).contains (.type "BaseException")=true:=by rw [cr,hb,eX]
  obtain⟨hp,g,d,tk,os⟩:=s1
  repeat (first|with_reducible refine bd g1 rfl g3 ?_|with_reducible refine bI g1 ?_|with_reducible refine bI hC ?_|(with_reducible refine cO hC ?_;rw [hcB])|wp_step)
  exact wpAny_raiseNew_none hh hx
 | _=>exact (show False from q1).elim
end
end L2
namespace L2
open PySem PySem.Spec PyProof.Rows
inductive Dt where
 | at_ (v:V)
 | lst (l:List Dt)
 | tup (l:List Dt)
mutual
noncomputable def deq:Dt->Dt->Bool
 | .at_ v,.at_ w=>eqV v w
 | .lst xs,.lst ys=>Fi xs ys
 | .tup xs,.tup ys=>Fi xs ys
 | _,_=>false
noncomputable def Fi:List Dt->List Dt->Bool
 | [],[]=>true
 | x::xs,y::ys=>deq x y&&Fi xs ys
 | _,_=>false
end
mutual
noncomputable def dep:Dt->Nat
 | .at_ _=>0
 | .lst l=>Gf l+1
 | .tup l=>Gf l+1
noncomputable def Gf:List Dt->Nat
 | []=>0
 | x::xs=>Nat.max (dep x) (Gf xs)
end
mutual
noncomputable def At (K:ac) (H:Hp):Dt->V->Prop
 | .at_ v,x=>x=v/\B7 v=true
 | .lst ds,x=>∃ a xs,x=.ref a/\SqL K H a xs/\AtL K H ds xs
 | .tup ds,x=>∃ a xs,x=.ref a/\SqT K H a xs/\AtL K H ds xs
noncomputable def AtL (K:ac) (H:Hp):List Dt->List V->Prop
 | [],xs=>xs=[]
 | d::ds,xs=>∃ y ys,xs=y::ys/\At K H d y/\AtL K H ds ys
end
theorem AtL.length {K:ac} {H:Hp}:∀ {ds:List Dt} {xs:List V},AtL K H ds xs->xs.length=ds.length
 | [],xs,h=>by unfold AtL at h;subst h;rfl
 | d::ds,xs,h=>by
  unfold AtL at h
  obtain⟨y,ys,rfl,_,h2⟩:=h
  rw [aN,aN,AtL.length h2]
theorem af6 {v:V} (h:B7 v=true):eqV v v=true:=by
 cases v <;> first|rfl|(exact beq_self_eq_true _)|exact absurd (show false=true from h) am
mutual
theorem G9 {K:ac} {H:Hp}:∀ {d:Dt} {x:V},At K H d x->deq d d=true
 | .at_ v,x,h=>by unfold At at h;unfold deq;exact af6 h.2
 | .lst l,x,h=>by unfold At at h;obtain⟨a,xs,_,_,h⟩:=h;unfold deq;exact Hw h
 | .tup l,x,h=>by unfold At at h;obtain⟨a,xs,_,_,h⟩:=h;unfold deq;exact Hw h
theorem Hw {K:ac} {H:Hp}:∀ {ds:List Dt} {xs:List V},AtL K H ds xs->Fi ds ds=true
 | [],xs,h=>by unfold Fi;rfl
 | d::ds,xs,h=>by
  unfold AtL at h
  obtain⟨y,ys,rfl,h1,h2⟩:=h
  unfold Fi
  rw [G9 h1,Hw h2]
  rfl
end
theorem Fn:∀ {xs ys:List Dt},xs.length≠ys.length->Fi xs ys=false
 | [],[],h=>absurd rfl h
 | [],_::_,_=>by unfold Fi;rfl
 | _::_,[],_=>by unfold Fi;rfl
 | x::xs,y::ys,h=>by
  unfold Fi
  rw [Fn (xs:=xs) (ys:=ys) (fun e=>h (by rw [aN,aN,e])),dO]
theorem Dy (z:Dt):∀ {xs ys:List Dt},xs.length=ys.length->Fi xs ys=(aq xs.length).all fun j=>deq (xs.getD j z) (ys.getD j z)
 | [],[],_=>by unfold Fi;rfl
 | [],_::_,h=>by simp at h
 | _::_,[],h=>by simp at h
 | x::xs,y::ys,h=>by
  unfold Fi
  rw [aN,jq,bw,fU,Dy z (xs:=xs) (ys:=ys) (by simpa using h)]
  rfl
section
variable {X:Cx} {pins:List (Addr×Obj)} {σ:St} {H:Hp} {s:aj}
theorem Rv {a:Addr} {xs ys:List V} (I:Inv X pins σ H s) (h:SqL X.K H a xs) (h':SqT X.K H a ys):False:=by
 obtain⟨its,r,⟨o,n,e,c,_,d⟩,_⟩:=I.list h
 obtain⟨its',r',⟨o',e',c',n',d'⟩,_⟩:=I.tuple h'
 rw [e] at e';cases e'
 rw [c] at c'
 injection c' with c'
 exact absurd c' (by decide)
mutual
theorem Th (I:Inv X pins σ H s):∀ {d d':Dt} {x:V},At X.K H d x->At X.K H d' x->d=d'
 | .at_ v,.at_ w,x,h,h'=>by unfold At at h h';rw [<- h.1,<- h'.1]
 | .at_ v,.lst l,x,h,h'=>by
  unfold At at h h'
  obtain⟨a,xs,rfl,_⟩:=h'
  rw [<- h.1] at h
  exact absurd (show false=true from h.2) am
 | .at_ v,.tup l,x,h,h'=>by
  unfold At at h h'
  obtain⟨a,xs,rfl,_⟩:=h'
  rw [<- h.1] at h
  exact absurd (show false=true from h.2) am
 | .lst l,.at_ v,x,h,h'=>by
  unfold At at h h'
  obtain⟨a,xs,rfl,_⟩:=h
  rw [<- h'.1] at h'
  exact absurd (show false=true from h'.2) am
 | .tup l,.at_ v,x,h,h'=>by
  unfold At at h h'
  obtain⟨a,xs,rfl,_⟩:=h
  rw [<- h'.1] at h'
  exact absurd (show false=true from h'.2) am
 | .lst l,.lst l',x,h,h'=>by
  unfold At at h h'
  obtain⟨a,xs,rfl,q,h⟩:=h
  obtain⟨a',xs',e,q',h'⟩:=h'
  cases e
  rw [I.list_inj q q'] at h
  rw [Oi I h h']
 | .tup l,.tup l',x,h,h'=>by
  unfold At at h h'
  obtain⟨a,xs,rfl,q,h⟩:=h
  obtain⟨a',xs',e,q',h'⟩:=h'
  cases e
  rw [I.tuple_inj q q'] at h
  rw [Oi I h h']
 | .lst l,.tup l',x,h,h'=>by
  unfold At at h h'
  obtain⟨a,xs,rfl,q,h⟩:=h
  obtain⟨a',xs',e,q',h'⟩:=h'
  cases e
  exact (Rv I q q').elim
 | .tup l,.lst l',x,h,h'=>by
  unfold At at h h'
  obtain⟨a,xs,rfl,q,h⟩:=h
  obtain⟨a',xs',e,q',h'⟩:=h'
  cases e
  exact (Rv I q' q).elim
theorem Oi (I:Inv X pins σ H s):∀ {ds ds':List Dt} {xs:List V},AtL X.K H ds xs->AtL X.K H ds' xs->ds=ds'
 | [],[],_,_,_=>rfl
 | [],_::_,_,h,h'=>by unfold AtL at h h';obtain⟨y,ys,e,_⟩:=h';rw [h] at e;cases e
 | _::_,[],_,h,h'=>by unfold AtL at h h';obtain⟨y,ys,e,_⟩:=h;rw [h'] at e;cases e
 | d::ds,d'::ds',xs,h,h'=>by
  unfold AtL at h h'
  obtain⟨y,ys,rfl,h1,h2⟩:=h
  obtain⟨y',ys',e,h1',h2'⟩:=h'
  cases e
  rw [Th I h1 h1',Oi I h2 h2']
end
theorem Nf {A:bi} {v:V} {u:Value} {a:Addr} {its:Array Value} (f:B7 v=true) (r:RelV v u) (hl:s.heap.IsList a its) (hu:A.units<cLine):bE A s u (.ref a) false/\bE A s (.ref a) u false:=by
 cases v with
 | non=>cases r;exact⟨.none_list hl hu,.list_none hl hu⟩
 | bl b=>cases r;exact⟨.bool_list b hl hu,.list_bool b hl hu⟩
 | int i=>obtain⟨t,rfl⟩:=r;exact⟨.int_list i t hl hu,.list_int i t hl hu⟩
 | str i=>obtain⟨t,rfl⟩:=r;exact⟨.str_list i t hl hu,.list_str i t hl hu⟩
 | _=>exact absurd (show false=true from f) am
theorem Kj {A:bi} {v:V} {u:Value} {a:Addr} {its:Array Value} (f:B7 v=true) (r:RelV v u) (hl:s.heap.IsTuple a its) (hu:A.units<cLine):bE A s u (.ref a) false/\bE A s (.ref a) u false:=by
 cases v with
 | non=>cases r;exact⟨.none_tuple hl hu,.tuple_none hl hu⟩
 | bl b=>cases r;exact⟨.bool_tuple b hl hu,.tuple_bool b hl hu⟩
 | int i=>obtain⟨t,rfl⟩:=r;exact⟨.int_tuple i t hl hu,.tuple_int i t hl hu⟩
 | str i=>obtain⟨t,rfl⟩:=r;exact⟨.str_tuple i t hl hu,.tuple_str i t hl hu⟩
 | _=>exact absurd (show false=true from f) am
mutual
theorem af4 (I:Inv X pins σ H s):∀ (d d':Dt) (A:bi) (x y:V) (u v:Value),At X.K H d x->At X.K H d' y->RelV x u->RelV y v->A.units+dep d<cLine->bE A s u v (deq d d')
 | .at_ p,.at_ q,A,x,y,u,v,h,h',r,r',hu=>by
  unfold At at h h';unfold deq
  obtain⟨rfl,f⟩:=h
  obtain⟨rfl,f'⟩:=h'
  exact Tv r r' f f'
 | .at_ p,.lst l,A,x,y,u,v,h,h',r,r',hu=>by
  unfold At at h h';unfold deq
  obtain⟨rfl,f⟩:=h
  obtain⟨a,xs,rfl,q,_⟩:=h'
  obtain⟨its,_,pl,_⟩:=I.list q
  cases r'
  exact (Nf f r pl.isList (by omega)).1
 | .at_ p,.tup l,A,x,y,u,v,h,h',r,r',hu=>by
  unfold At at h h';unfold deq
  obtain⟨rfl,f⟩:=h
  obtain⟨a,xs,rfl,q,_⟩:=h'
  obtain⟨its,_,pl,_⟩:=I.tuple q
  cases r'
  exact (Kj f r pl (by omega)).1
 | .lst l,.at_ p,A,x,y,u,v,h,h',r,r',hu=>by
  unfold At at h h';unfold deq
  obtain⟨rfl,f⟩:=h'
  obtain⟨a,xs,rfl,q,_⟩:=h
  obtain⟨its,_,pl,_⟩:=I.list q
  cases r
  exact (Nf f r' pl.isList (by omega)).2
 | .tup l,.at_ p,A,x,y,u,v,h,h',r,r',hu=>by
  unfold At at h h';unfold deq
  obtain⟨rfl,f⟩:=h'
  obtain⟨a,xs,rfl,q,_⟩:=h
  obtain⟨its,_,pl,_⟩:=I.tuple q
  cases r
  exact (Kj f r' pl (by omega)).2
 | .lst l,.tup l',A,x,y,u,v,h,h',r,r',hu=>by
  unfold At at h h';unfold deq
  obtain⟨a,xs,rfl,q,_⟩:=h
  obtain⟨b,ys,rfl,q',_⟩:=h'
  obtain⟨its,_,pl,_⟩:=I.list q
  obtain⟨its',_,pl',_⟩:=I.tuple q'
  cases r;cases r'
  exact .list_tuple pl.isList pl' (by omega)
 | .tup l,.lst l',A,x,y,u,v,h,h',r,r',hu=>by
  unfold At at h h';unfold deq
  obtain⟨a,xs,rfl,q,_⟩:=h
  obtain⟨b,ys,rfl,q',_⟩:=h'
  obtain⟨its,_,pl,_⟩:=I.tuple q
  obtain⟨its',_,pl',_⟩:=I.list q'
  cases r;cases r'
  exact .tuple_list pl pl'.isList (by omega)
 | .lst l,.lst l',A,x,y,u,v,h,h',r,r',hu=>by
  by_cases e:x=y
  ·subst e
   have:=Th I h h'
   rw [<- this,G9 h]
   have hx:∃ a,x=.ref a:=by unfold At at h;obtain⟨a,_,e,_⟩:=h;exact⟨a,e⟩
   obtain⟨a,rfl⟩:=hx
   cases r;cases r'
   exact .same _
  ·unfold At at h h';unfold deq
   unfold dep at hu
   obtain⟨a,xs,rfl,q,h⟩:=h
   obtain⟨b,ys,rfl,q',h'⟩:=h'
   obtain⟨its,ri,pl,_⟩:=I.list q
   obtain⟨its',ri',pl',_⟩:=I.list q'
   cases r;cases r'
   have ne:a≠b:=fun z=>e (by rw [z])
   have e1:=h.length
   have e2:=h'.length
   have e3:=ri.length
   have e4:=ri'.length
   refine .of_refs ne ?_
   by_cases hl:l.length=l'.length
   ·rw [Dy (.lst []) hl]
    have hsz:its.toArray.size=l.length:=by simp;omega
    rw [<- hsz]
    exact .lists pl.isList pl'.isList (by simp;omega) (by omega) fun j h1 h2=>by
     have:=Ha I l l' A.in1 xs ys its its' h h' ri ri' (by show A.units+1+Gf l<cLine;omega) j (by simpa using h1) (by simpa using h2)
     simpa using this
   ·rw [Fn hl]
    exact .lists_lengths pl.isList pl'.isList (by simp;omega) (by omega)
 | .tup l,.tup l',A,x,y,u,v,h,h',r,r',hu=>by
  by_cases e:x=y
  ·subst e
   have:=Th I h h'
   rw [<- this,G9 h]
   have hx:∃ a,x=.ref a:=by unfold At at h;obtain⟨a,_,e,_⟩:=h;exact⟨a,e⟩
   obtain⟨a,rfl⟩:=hx
   cases r;cases r'
   exact .same _
  ·unfold At at h h';unfold deq
   unfold dep at hu
   obtain⟨a,xs,rfl,q,h⟩:=h
   obtain⟨b,ys,rfl,q',h'⟩:=h'
   obtain⟨its,ri,pl,_⟩:=I.tuple q
   obtain⟨its',ri',pl',_⟩:=I.tuple q'
   cases r;cases r'
   have ne:a≠b:=fun z=>e (by rw [z])
   have e1:=h.length
   have e2:=h'.length
   have e3:=ri.length
   have e4:=ri'.length
   refine .of_refs ne ?_
   have T:=SeqAt.RcAt.tuples (A:=A) (s:=s) (e:=fun j=>deq (l.getD j (.lst [])) (l'.getD j (.lst []))) pl pl' (by omega) fun j h1 h2=>by
     have:=Ha I l l' A.in1 xs ys its its' h h' ri ri' (by show A.units+1+Gf l<cLine;omega) j (by simpa using h1) (by simpa using h2)
     simpa using this
   by_cases hl:l.length=l'.length
   ·rw [Dy (.lst []) hl]
    have hsz:its.toArray.size=l.length:=by simp;omega
    have hsz':its'.toArray.size=l.length:=by simp;omega
    rw [hsz,hsz',Nat.min_self,beq_self_eq_true,kz] at T
    exact T
   ·rw [Fn hl]
    have hne:(its.toArray.size==its'.toArray.size)=false:=by
     rw [beq_eq_false_iff_ne];simp;omega
    rw [hne,dO] at T
    exact T
theorem Ha (I:Inv X pins σ H s):∀ (ds ds':List Dt) (A:bi) (xs ys:List V) (us vs:List Value),AtL X.K H ds xs->AtL X.K H ds' ys->Vals xs us->Vals ys vs->A.units+Gf ds<cLine ->
  ∀ (j:Nat) (h1:j<us.length) (h2:j<vs.length),bE A s us[j] vs[j] (deq (ds.getD j (.lst [])) (ds'.getD j (.lst [])))
 | [],_,A,xs,ys,us,vs,h,h',r,r',hu=>fun j h1 h2=>by
  unfold AtL at h
  subst h
  cases r
  cases h1
 | _::_,[],A,xs,ys,us,vs,h,h',r,r',hu=>fun j h1 h2=>by
  unfold AtL at h'
  subst h'
  cases r'
  cases h2
 | d::ds,d'::ds',A,xs,ys,us,vs,h,h',r,r',hu=>fun j h1 h2=>by
  unfold AtL at h h'
  obtain⟨y,ys,rfl,q1,q2⟩:=h
  obtain⟨z,zs,rfl,q1',q2'⟩:=h'
  cases r with
  | cons r1 r2=>
   cases r' with
   | cons r1' r2'=>
    unfold Gf at hu
    have m1:dep d<=Nat.max (dep d) (Gf ds):=Nat.le_max_left _ _
    have m2:Gf ds<=Nat.max (dep d) (Gf ds):=Nat.le_max_right _ _
    cases j with
    | zero=>exact af4 I d d' A _ _ _ _ q1 q1' r1 r1' (by omega)
    | succ j=>exact Ha I ds ds' A _ _ _ _ q2 q2' r2 r2' (by omega) j (by simpa using h1) (by simpa using h2)
end
theorem F7 {K:ac} {d:Dt} {a:Addr} (h:At K H d (.ref a)):(∃ l xs,d=.lst l/\SqL K H a xs/\AtL K H l xs)\/(∃ l xs,d=.tup l/\SqT K H a xs/\AtL K H l xs):=by
 cases d with
 | at_ v=>
  unfold At at h
  rw [<- h.1] at h
  exact absurd (show false=true from h.2) am
 | lst l=>unfold At at h;obtain⟨b,xs,e,q,h⟩:=h;cases e;exact .inl ⟨l,xs,rfl,q,h⟩
 | tup l=>unfold At at h;obtain⟨b,xs,e,q,h⟩:=h;cases e;exact .inr ⟨l,xs,rfl,q,h⟩
theorem Ru {K:ac} {d:Dt} {x:V} (h:At K H d x) (f:∀ a,x≠.ref a):d=.at_ x/\B7 x=true:=by
 cases d with
 | at_ v=>unfold At at h;rw [h.1];exact⟨rfl,h.2⟩
 | lst l=>unfold At at h;obtain⟨b,xs,e,_⟩:=h;exact absurd e (f b)
 | tup l=>unfold At at h;obtain⟨b,xs,e,_⟩:=h;exact absurd e (f b)
theorem ce6 (I:Inv X pins σ H s) {A:bi} {d d':Dt} {a b:Addr} (h:At X.K H d (.ref a)) (h':At X.K H d' (.ref b)) (hu:A.units+dep d<cLine):iW A s (.ref a) (.ref b) (deq d d')/\fY A s (.ref a) (.ref b) (!deq d d'):=by
 rcases F7 h with ⟨l,xs,rfl,q,h⟩|⟨l,xs,rfl,q,h⟩
 ·rcases F7 h' with ⟨l',ys,rfl,q',h'⟩|⟨l',ys,rfl,q',h'⟩
  ·unfold deq
   unfold dep at hu
   obtain⟨its,ri,pl,_⟩:=I.list q
   obtain⟨its',ri',pl',_⟩:=I.list q'
   have e1:=h.length
   have e2:=h'.length
   have e3:=ri.length
   have e4:=ri'.length
   have it:∀ j (h1:j<its.toArray.size) (h2:j<its'.toArray.size),bE A.in1 s its.toArray[j] its'.toArray[j] (deq (l.getD j (.lst [])) (l'.getD j (.lst []))):=fun j h1 h2=>by
    have:=Ha I l l' A.in1 xs ys its its' h h' ri ri' (by show A.units+1+Gf l<cLine;omega) j (by simpa using h1) (by simpa using h2)
    simpa using this
   by_cases hl:l.length=l'.length
   ·rw [Dy (.lst []) hl]
    have hsz:its.toArray.size=l.length:=by simp;omega
    rw [<- hsz]
    exact⟨.lists pl.isList pl'.isList (by simp;omega) (by omega) it,.lists pl.isList pl'.isList (by simp;omega) (by omega) it⟩
   ·rw [Fn hl]
    exact⟨.lists_lengths pl.isList pl'.isList (by simp;omega) (by omega),.lists_lengths pl.isList pl'.isList (by simp;omega) (by omega)⟩
  ·unfold deq
   obtain⟨its,ri,pl,_⟩:=I.list q
   obtain⟨its',ri',pl',_⟩:=I.tuple q'
   exact⟨.list_tuple pl.isList pl' (by omega),.list_tuple pl.isList pl' (by omega)⟩
 ·rcases F7 h' with ⟨l',ys,rfl,q',h'⟩|⟨l',ys,rfl,q',h'⟩
  ·unfold deq
   obtain⟨its,ri,pl,_⟩:=I.tuple q
   obtain⟨its',ri',pl',_⟩:=I.list q'
   exact⟨.tuple_list pl pl'.isList (by omega),.tuple_list pl pl'.isList (by omega)⟩
  ·unfold deq
   unfold dep at hu
   obtain⟨its,ri,pl,_⟩:=I.tuple q
   obtain⟨its',ri',pl',_⟩:=I.tuple q'
   have e1:=h.length
   have e2:=h'.length
   have e3:=ri.length
   have e4:=ri'.length
   have it:∀ j (h1:j<its.toArray.size) (h2:j<its'.toArray.size),bE A.in1 s its.toArray[j] its'.toArray[j] (deq (l.getD j (.lst [])) (l'.getD j (.lst []))):=fun j h1 h2=>by
    have:=Ha I l l' A.in1 xs ys its its' h h' ri ri' (by show A.units+1+Gf l<cLine;omega) j (by simpa using h1) (by simpa using h2)
    simpa using this
   have T:=SeqAt.RcAt.tuples pl pl' (by omega) it
   have T':=SeqAt.RcNeAt.tuples pl pl' (by omega) it
   by_cases hl:l.length=l'.length
   ·rw [Dy (.lst []) hl]
    have hsz:its.toArray.size=l.length:=by simp;omega
    have hsz':its'.toArray.size=l.length:=by simp;omega
    rw [hsz,hsz',Nat.min_self,beq_self_eq_true,kz] at T T'
    exact⟨T,T'⟩
   ·rw [Fn hl]
    have hne:(its.toArray.size==its'.toArray.size)=false:=by
     rw [beq_eq_false_iff_ne];simp;omega
    rw [hne,dO] at T T'
    exact⟨T,T'⟩
theorem Xc (I:Inv X pins σ H s) {A:bi} {d:Dt} {a:Addr} {v:V} {u:Value} (h:At X.K H d (.ref a)) (f:B7 v=true) (r:RelV v u) (hu:A.units<cLine) :
  iW A s (.ref a) u false/\fY A s (.ref a) u true/\iW A s u (.ref a) false/\fY A s u (.ref a) true:=by
 rcases F7 h with ⟨l,xs,rfl,q,h⟩|⟨l,xs,rfl,q,h⟩
 ·obtain⟨its,ri,pl,_⟩:=I.list q
  cases v with
  | non=>cases r;exact⟨.list_none pl.isList hu,.list_none pl.isList hu,.none_list pl.isList hu,.none_list pl.isList hu⟩
  | bl b=>cases r;exact⟨.list_bool b pl.isList hu,.list_bool b pl.isList hu,.bool_list b pl.isList hu,.bool_list b pl.isList hu⟩
  | int b=>obtain⟨t,rfl⟩:=r;exact⟨.list_int b t pl.isList hu,.list_int b t pl.isList hu,.int_list b t pl.isList hu,.int_list b t pl.isList hu⟩
  | str b=>obtain⟨t,rfl⟩:=r;exact⟨.list_str b t pl.isList hu,.list_str b t pl.isList hu,.str_list b t pl.isList hu,.str_list b t pl.isList hu⟩
  | _=>exact absurd (show false=true from f) am
 ·obtain⟨its,ri,pl,_⟩:=I.tuple q
  cases v with
  | non=>cases r;exact⟨.tuple_none pl hu,.tuple_none pl hu,.none_tuple pl hu,.none_tuple pl hu⟩
  | bl b=>cases r;exact⟨.tuple_bool b pl hu,.tuple_bool b pl hu,.bool_tuple b pl hu,.bool_tuple b pl hu⟩
  | int b=>obtain⟨t,rfl⟩:=r;exact⟨.tuple_int b t pl hu,.tuple_int b t pl hu,.int_tuple b t pl hu,.int_tuple b t pl hu⟩
  | str b=>obtain⟨t,rfl⟩:=r;exact⟨.tuple_str b t pl hu,.tuple_str b t pl hu,.str_tuple b t pl hu,.str_tuple b t pl hu⟩
  | _=>exact absurd (show false=true from f) am
noncomputable def am9 (K:ac) (neg:Bool):R2:=fun x y H Q=>∃ d d',At K H d x/\At K H d' y/\dep d<=40/\Q (.bl (if neg then !deq d d' else deq d d')) H
theorem an5 (I:Inv X pins σ H s) {A:bi} {d d':Dt} {x y:V} {u v:Value} (h:At X.K H d x) (h':At X.K H d' y) (r:RelV x u) (r':RelV y v) (hr:(∃ a,x=.ref a) \/ ∃ b,y=.ref b) (hu:A.units+dep d<cLine) :
  iW A s u v (deq d d')/\fY A s u v (!deq d d'):=by
 by_cases hx:∃ a,x=.ref a
 ·obtain⟨a,rfl⟩:=hx
  cases r
  by_cases hy:∃ b,y=.ref b
  ·obtain⟨b,rfl⟩:=hy
   cases r'
   exact ce6 I h h' hu
  ·obtain⟨rfl,f⟩:=Ru h' (fun b e=>hy ⟨b,e⟩)
   obtain⟨q1,q2,_⟩:=Xc I h f r' (show A.units<cLine by omega)
   have e:deq d (.at_ y)=false:=by
    rcases F7 h with ⟨l,xs,rfl,_⟩|⟨l,xs,rfl,_⟩ <;> (unfold deq;rfl)
   rw [e]
   exact⟨q1,q2⟩
 ·have hy:∃ b,y=.ref b:=hr.resolve_left hx
  obtain⟨b,rfl⟩:=hy
  cases r'
  obtain⟨rfl,f⟩:=Ru h (fun b e=>hx ⟨b,e⟩)
  obtain⟨_,_,q1,q2⟩:=Xc I h' f r (show A.units<cLine by omega)
  have e:deq (.at_ x) d'=false:=by
   rcases F7 h' with ⟨l,xs,rfl,_⟩|⟨l,xs,rfl,_⟩ <;> (unfold deq;rfl)
  rw [e]
  exact⟨q1,q2⟩
theorem Uy (hu:X.A.units+64<cLine) {x y:V} {u v:Value} {Q:VK} (I:Inv X pins σ H s) (rx:RelV x u) (ry:RelV y v) (hr:(∃ a,x=.ref a) \/ ∃ b,y=.ref b) (h:am9 X.K false x y H Q):aI (model X.prog X.w) X.A (cT .Eq u v) (EP X pins σ Q) X.xe s:=by
 obtain⟨d,d',h1,h2,hd,q⟩:=h
 exact (an5 I h1 h2 rx ry hr (A:=X.A) (by omega)).1 _ _ _ _ ⟨.bl _,H,I,rfl,q⟩
theorem Uz (hu:X.A.units+64<cLine) {x y:V} {u v:Value} {Q:VK} (I:Inv X pins σ H s) (rx:RelV x u) (ry:RelV y v) (hr:(∃ a,x=.ref a) \/ ∃ b,y=.ref b) (h:am9 X.K true x y H Q):aI (model X.prog X.w) X.A (cT .NotEq u v) (EP X pins σ Q) X.xe s:=by
 obtain⟨d,d',h1,h2,hd,q⟩:=h
 exact (an5 I h1 h2 rx ry hr (A:=X.A) (by omega)).2 _ _ _ _ ⟨.bl _,H,I,rfl,q⟩
end
open AutoSeq1 (wpAny_loadPart')
open MeetsSeq MeetsSeq2 MeetsSeq3 SeqRoads2
section
variable {P:aV} {w:bM} {l b:Addr} {items items2:Array Value} {n n2:Nat} {dd dd2:Option Addr} {sl sl2:Array (Option Value)}
end
section
variable {P:aV} {w:bM}
end
section
variable {X:Cx} {pins:List (Addr×Obj)} {σ:St} {H:Hp} {s:aj}
end
end L2
namespace L2
open PySem PySem.Spec PyProof.Rows
noncomputable def rNo:R2:=fun _ _ _ _=>False
noncomputable def Bb (K:ac):R2:=fun x y H Q=>match x,y with
 | .int i,.int j=>Q (.int (i+j)) H
 | .str a,.str b=>a.length+b.length<=sizeLine/\Q (.str (a++b)) H
 | .ref a,.ref b=>b08 (.ref a) (.ref b) H Q\/a56 K (.ref a) (.ref b) H Q\/a55 K (.ref a) (.ref b) H Q
 | _,_=>False
noncomputable def Xb:R2:=fun x y H Q=>match x,y with
 | .int i,.int j=>Q (.int (i - j)) H
 | _,_=>False
noncomputable def Cd:R2:=fun x y H Q=>match x,y with
 | .int i,.int j=>CMul i j/\Q (.int (i * j)) H
 | _,_=>False
noncomputable def Ca:R2:=fun x y H Q=>match x,y with
 | .int i,.int j=>bs8 i j/\Q (.int (i / j)) H
 | _,_=>False
noncomputable def Av:R2:=fun x y H Q=>match x,y with
 | .int i,.int j=>0<j/\Q (.int (i % j)) H
 | _,_=>False
noncomputable def R8:R2:=fun x y H Q=>match x,y with
 | .int i,.int j=>as0 i j/\Q (.int (i ^ j.toNat)) H
 | _,_=>False
noncomputable def Jh:R2:=fun x y H Q=>match x,y with
 | .int i,.int j=>as0 i j/\Q (.int (i * 2 ^ j.toNat)) H
 | _,_=>False
noncomputable def D8:R2:=fun x y H Q=>match x,y with
 | .int i,.int j=>0<=j/\Q (.int (i / 2 ^ j.toNat)) H
 | _,_=>False
noncomputable def B9:R2:=fun x y H Q=>match x,y with
 | .int i,.int j=>Q (.int (bj i j)) H
 | _,_=>False
noncomputable def an1:R2:=fun x y H Q=>match x,y with
 | .int i,.int j=>Q (.int (cV i j)) H
 | _,_=>False
noncomputable def b11:R2:=fun x y H Q=>match x,y with
 | _,_=>False
noncomputable def rOp (K:ac):l7->R2
 | .Add=>Bb K
 | .Sub=>Xb
 | .Mult=>Cd
 | .FloorDiv=>Ca
 | .Mod=>Av
 | .Pow=>R8
 | .LShift=>Jh
 | .RShift=>D8
 | .BitAnd=>B9
 | .BitOr=>an1
 | .BitXor=>b11
 | _=>rNo
section
variable {X:Cx}
theorem cd7 (op:l7):OpR X (d9 op) (rOp X.K op):=by
 intro pins s σ H x y v u Q I rx ry h
 cases op with
 | Add=>
  cases x <;> cases y <;> first
   | exact (show False from h).elim
   | exact bf0 pins s σ H _ _ v u Q I rx ry ⟨_,_,rfl,rfl,h⟩
   | exact Ux pins s σ H _ _ v u Q I rx ry ⟨_,_,rfl,rfl,h⟩
   | exact (op_cat.or (op_catT.or ax4)) pins s σ H _ _ v u Q I rx ry h
 | Sub=>cases x <;> cases y <;> first|exact (show False from h).elim|exact bg0 pins s σ H _ _ v u Q I rx ry ⟨_,_,rfl,rfl,h⟩
 | Mult=>cases x <;> cases y <;> first|exact (show False from h).elim|exact bf5 pins s σ H _ _ v u Q I rx ry ⟨_,_,rfl,rfl,h⟩
 | FloorDiv=>cases x <;> cases y <;> first|exact (show False from h).elim|exact ax5 pins s σ H _ _ v u Q I rx ry ⟨_,_,rfl,rfl,h⟩
 | Mod=>cases x <;> cases y <;> first|exact (show False from h).elim|exact bf4 pins s σ H _ _ v u Q I rx ry ⟨_,_,rfl,rfl,h⟩
 | Pow=>cases x <;> cases y <;> first|exact (show False from h).elim|exact bf7 pins s σ H _ _ v u Q I rx ry ⟨_,_,rfl,rfl,h⟩
 | LShift=>cases x <;> cases y <;> first|exact (show False from h).elim|exact bf8 pins s σ H _ _ v u Q I rx ry ⟨_,_,rfl,rfl,h⟩
 | RShift=>cases x <;> cases y <;> first|exact (show False from h).elim|exact bf9 pins s σ H _ _ v u Q I rx ry ⟨_,_,rfl,rfl,h⟩
 | BitAnd=>cases x <;> cases y <;> first|exact (show False from h).elim|exact bf1 pins s σ H _ _ v u Q I rx ry ⟨_,_,rfl,rfl,h⟩
 | BitOr=>cases x <;> cases y <;> first|exact (show False from h).elim|exact bz3 pins s σ H _ _ v u Q I rx ry ⟨_,_,rfl,rfl,h⟩
 | BitXor=>exact (show False from h).elim
 | _=>exact (show False from h).elim
end
noncomputable def A3 (K:ac) (neg:Bool):R2:=fun x y H Q=>match x,y with
 | .ref a,.ref b=>bk7 K neg (.ref a) (.ref b) H Q\/am9 K neg (.ref a) (.ref b) H Q\/False
 | .ref a,y=>am9 K neg (.ref a) y H Q
 | x,.ref b=>am9 K neg x (.ref b) H Q
 | .int i,.int j=>Q (.bl (if neg then !decide (i=j) else decide (i=j))) H
 | .str i,.str j=>Q (.bl (if neg then !decide (i=j) else decide (i=j))) H
 | .bl i,.bl j=>Q (.bl (if neg then !(i==j) else (i==j))) H
 | x,y=>bp3 x y=true/\Q (.bl (if neg then !decide (x=y) else decide (x=y))) H
noncomputable def bk8:R2:=fun x y H Q=>match x,y with
 | .int i,.int j=>Q (.bl (decide (i<j))) H
 | .str i,.str j=>Q (.bl (decide (i.cps.toList<j.cps.toList))) H
 | _,_=>False
noncomputable def Gh:R2:=fun x y H Q=>match x,y with
 | .int i,.int j=>Q (.bl (decide (i<=j))) H
 | .str i,.str j=>Q (.bl (!decide (j.cps.toList<i.cps.toList))) H
 | _,_=>False
noncomputable def Zb:R2:=fun x y H Q=>match x,y with
 | .int i,.int j=>Q (.bl (decide (j<i))) H
 | _,_=>False
noncomputable def cd9:R2:=fun x y H Q=>match x,y with
 | .int i,.int j=>Q (.bl (decide (j<=i))) H
 | _,_=>False
noncomputable def U9 (K:ac) (neg:Bool):R2:=fun x y H Q=>match x,y with
 | x,.ref p=>rIn K neg x (.ref p) H Q \/ ∃ o,DGet H p x o/\Q (.bl (if neg then !o.isSome else o.isSome)) H
 | _,_=>False
noncomputable def Va (neg:Bool):R2:=fun x y H Q=>match y with
 | .non=>Q (.bl (if neg then !decide (x=.non) else decide (x=.non))) H
 | .bl d=>(match x with
  | .bl c=>Q (.bl (if neg then !(c==d) else (c==d))) H
  | _=>False)
 | _=>False
noncomputable def Mu (K:ac):l4->R2
 | .Eq=>A3 K false
 | .NotEq=>A3 K true
 | .Lt=>bk8
 | .LtE=>Gh
 | .Gt=>Zb
 | .GtE=>cd9
 | .In=>U9 K false
 | .NotIn=>U9 K true
 | .Is=>Va false
 | .IsNot=>Va true
section
variable {X:Cx}
theorem M7 (hu:X.A.units+64<cLine) (op:l4):OpR X (cT op) (Mu X.K op):=by
  intro pins s σ H x y v u Q I rx ry h
  cases op with
  | Eq=>
    cases x <;> cases y <;> first
      | (rcases h with h|h|h
         . exact bf2 (by omega) pins s σ H _ _ v u Q I rx ry h
         . exact Uy hu I rx ry (.inl ⟨_,rfl⟩) h
         . exact h.elim)
      | exact Uy hu I rx ry (.inl ⟨_,rfl⟩) h
      | exact Uy hu I rx ry (.inr ⟨_,rfl⟩) h
      | exact W0 pins s σ H _ _ v u Q I rx ry h
      | exact W0 pins s σ H _ _ v u Q I rx ry ⟨rfl,by rw [Jr,eV];exact h⟩
      | exact W0 pins s σ H _ _ v u Q I rx ry ⟨rfl,by rw [Js,eV];exact h⟩
      | exact W0 pins s σ H _ _ v u Q I rx ry ⟨rfl,by rw [Ov];exact h⟩
  | NotEq=>
    cases x <;> cases y <;> first
      | (rcases h with h|h|h
         . exact bf6 (by omega) pins s σ H _ _ v u Q I rx ry h
         . exact Uz hu I rx ry (.inl ⟨_,rfl⟩) h
         . exact h.elim)
      | exact Uz hu I rx ry (.inl ⟨_,rfl⟩) h
      | exact Uz hu I rx ry (.inr ⟨_,rfl⟩) h
      | exact W2 pins s σ H _ _ v u Q I rx ry h
      | exact W2 pins s σ H _ _ v u Q I rx ry ⟨rfl,by rw [Jr,eV];exact h⟩
      | exact W2 pins s σ H _ _ v u Q I rx ry ⟨rfl,by rw [Js,eV];exact h⟩
      | exact W2 pins s σ H _ _ v u Q I rx ry ⟨rfl,by rw [Ov];exact h⟩
  | Lt=>cases x <;> cases y <;> first|exact (show False from h).elim|exact bz2 pins s σ H _ _ v u Q I rx ry ⟨_,_,rfl,rfl,h⟩|exact Y6 pins s σ H _ _ v u Q I rx ry ⟨_,_,rfl,rfl,h⟩
  | LtE=>cases x <;> cases y <;> first|exact (show False from h).elim|exact bz1 pins s σ H _ _ v u Q I rx ry ⟨_,_,rfl,rfl,h⟩|exact Y5 pins s σ H _ _ v u Q I rx ry ⟨_,_,rfl,rfl,h⟩
  | Gt=>cases x <;> cases y <;> first|exact (show False from h).elim|exact bz0 pins s σ H _ _ v u Q I rx ry ⟨_,_,rfl,rfl,h⟩
  | GtE=>cases x <;> cases y <;> first|exact (show False from h).elim|exact by9 pins s σ H _ _ v u Q I rx ry ⟨_,_,rfl,rfl,h⟩
  | In=>cases x <;> cases y <;> first|exact (show False from h).elim|exact h.elim (Y4 pins s σ H _ _ v u Q I rx ry) fun⟨o,g,q⟩=>by cases ry;exact cd1 (by omega) I g rx fun s' I'=>⟨.bl _,H,I',rfl,q⟩
  | NotIn=>cases x <;> cases y <;> first|exact (show False from h).elim|exact h.elim (Pj pins s σ H _ _ v u Q I rx ry) fun⟨o,g,q⟩=>by cases ry;exact at8 (by omega) I g rx fun s' I'=>⟨.bl _,H,I',rfl,q⟩
  | Is=>cases y <;> first|exact (show False from h).elim|exact bf3 pins s σ H _ _ v u Q I rx ry ⟨rfl,h⟩|(cases x <;> first|exact (show False from h).elim|(cases rx;cases ry;exact is_bool ⟨.bl _,H,I,rfl,h⟩))
  | IsNot=>cases y <;> first|exact (show False from h).elim|exact ax6 pins s σ H _ _ v u Q I rx ry ⟨rfl,h⟩|(cases x <;> first|exact (show False from h).elim|(cases rx;cases ry;exact isnot_bool ⟨.bl _,H,I,rfl,h⟩))
end
noncomputable def R7:V->Hp->VK->Prop:=fun x H Q=>match x with
 | .int i=>Q (.int (-i)) H
 | _=>False
theorem ci4 {X:Cx}:UnR X (me .USub) R7:=by
 intro pins s σ H x v Q I rx h
 cases x <;> first|exact (show False from h).elim|exact bq1 pins s σ H _ v Q I rx ⟨_,rfl,h⟩
noncomputable def N4:V->Hp->VK->Prop:=fun x H Q=>match x with
 | .int i=>Q (.int (bv i)) H
 | _=>False
theorem bv9 {X:Cx}:UnR X (me .Invert) N4:=by
 intro pins s σ H x v Q I rx h
 cases x <;> first|exact (show False from h).elim|exact bq0 pins s σ H _ v Q I rx ⟨_,rfl,h⟩
theorem Xp {X:Cx}:bt0 X (aq6 X.K):=by
 intro pins s σ H x v Q I rx h
 cases x with
 | non=>exact Ma pins s σ H _ v Q I rx ⟨_,rfl,h⟩
 | bl b=>exact Ma pins s σ H _ v Q I rx ⟨_,rfl,h⟩
 | int i=>exact Ma pins s σ H _ v Q I rx ⟨_,rfl,h⟩
 | str y=>exact Ma pins s σ H _ v Q I rx ⟨_,⟨h.1,rfl⟩,h.2⟩
 | ref p=>exact Ma pins s σ H _ v Q I rx h
 | _=>exact (show False from h).elim
inductive SqX (K:ac) (H:Hp) (p:Addr) (i:Int) (xs:List V):Prop where
 | inl (h:SqL K H p xs)
 | inr (h:SqT K H p xs)
 | dk (h:∀ v,atI xs i=some v->DGet H p (.int i) (some v))
noncomputable def Aq (K:ac):R2:=fun x y H Q=>match x,y with
 | .str z,.int i=>z.length<=sizeLine /\ ∃ c,atI z.cps.toList i=some c/\Q (.str ⟨#[c]⟩) H
 | .ref p,.int i=>∃ xs v,SqX K H p i xs/\atI xs i=some v/\Q v H
 | .ref p,.str k=>∃ v,DGet H p (.str k) (some v)/\Q v H
 | .ref p,.ref b=>∃ v,DGet H p (.ref b) (some v)/\Q v H
 | _,_=>False
theorem cd5 {X:Cx} (hu:X.A.units+64<cLine):IxR X (Aq X.K):=by
  intro value slice pins s σ H x y v u Q I rx ry h hs
  cases x <;> cases y <;> first
    | exact (show False from h).elim
    | (obtain⟨h1,c,h2,h3⟩:=h;exact bc0 value slice pins s σ H _ _ v u Q I rx ry ⟨_,_,c,rfl,rfl,h1,h2,h3⟩ hs)
    | (obtain⟨xs,w,h1|h1|h1,h2,h3⟩:=h
       . exact av4 value slice pins s σ H _ _ v u Q I rx ry ⟨_,_,_,_,rfl,rfl,h1,h2,h3⟩ hs
       . exact bc1 value slice pins s σ H _ _ v u Q I rx ry ⟨_,_,_,_,rfl,rfl,h1,h2,h3⟩ hs
       . exact Wy hu value slice pins s σ H _ _ v u Q I rx ry ⟨_,w,rfl,h1 w h2,h3⟩ hs)
    | (obtain⟨w,h1,h2⟩:=h;exact Wy hu value slice pins s σ H _ _ v u Q I rx ry ⟨_,w,rfl,h1,h2⟩ hs)
noncomputable def a57:V->V->V->Hp->(Hp->Prop)->Prop:=fun o i v H N=>match o,i with
 | .ref p,.int k=>(∃ xs j,H p=some (.lst xs)/\ixN xs.length k=some j/\N (upd H p (.lst (xs.set j v)))) \/ ∃ H',DPut H p (.int k) v H'/\N H'
 | .ref p,i=>∃ H',DPut H p i v H'/\N H'
 | _,_=>False
theorem b68 {X:Cx} (hu:X.A.units+64<cLine):ba3 X a57:=by
 intro pins s σ H o i v ov iv u Q I ro ri rv h
 cases o with
 | ref p=>
  have dp:∀ {H'},DPut H p i v H'->Q H'->aI (model X.prog X.w) X.A (setItem ov iv u) (fun _ s'=>∃ H',Inv X pins σ H' s'/\Q H') X.xe s:=fun {H'} g q=>by
   cases ro
   exact X6 (by omega) I g ri rv fun s' I'=>⟨H',I',q⟩
  cases i with
  | int k=>
   rcases h with ⟨xs,j,h1,h2,h3⟩|⟨H',g,q⟩
   ·exact ao1 pins s σ H _ _ v ov iv u Q I ro ri rv ⟨p,xs,k,j,rfl,rfl,h1,h2,h3⟩
   ·exact dp g q
  | _=>obtain⟨H',g,q⟩:=h;exact dp g q
 | _=>exact (show False from h).elim
noncomputable def De (K:ac) (f:Str):V->Hp->VK->Prop:=fun x H Q=>match x with
 | .ref a=>(∃ C dx fs v,H a=some (.ins C dx fs)/\Cls K C/\NoAttr K C f/\fs.lookup f=some v/\Q v H)\/False
 | _=>False
noncomputable def an3 (K:ac) (f:Str):V->V->Hp->(Hp->Prop)->Prop:=fun x y H N=>match x with
 | .ref a=>(∃ C dx fs,H a=some (.ins C dx fs)/\Cls K C/\NoAttr K C f/\fs.length<1000/\N (upd H a (.ins C dx (Fr f y fs))))\/False
 | _=>False
section
variable {X:Cx} {pins:List (Addr×Obj)} {σ:St} {H:Hp} {s:aj} {A:bi} {E:Value->aj->Prop}
theorem bu2 {f:Str} {x:V} {u:Value} {b:Bool} {Q:VK} (I:Inv X pins σ H s) (rx:RelV x u) (h:De X.K f x H Q):aI (model X.prog X.w) A (getAttr u f b) (EP X pins σ Q) E s:=by
 cases x with
 | ref a=>
  cases rx
  rcases h with ⟨C,dx,fs,v,ea,c,n,l,q⟩|h
  ·exact Uc I ea c n l fun u' s2 I2 ru=>⟨v,H,I2,ru,q⟩
  ·exact h.elim
 | _=>exact (show False from h).elim
theorem b67 {f:Str} {x y:V} {u v:Value} {N:Hp->Prop} {Q:Unit->aj->Prop} (I:Inv X pins σ H s) (rx:RelV x u) (ry:RelV y v) (h:an3 X.K f x y H N) (hQ:∀ H' s',Inv X pins σ H' s'->N H'->Q () s') :
  aI (model X.prog X.w) A (setAttr u f v) Q E s:=by
 cases x with
 | ref a=>
  cases rx
  rcases h with ⟨C,dx,fs,ea,c,n,l,q⟩|h
  ·exact V3 I ea c n l ry fun s3 I3=>hQ _ _ I3 q
  ·exact h.elim
 | _=>exact (show False from h).elim
end
structure FI where
 f:Addr
 fd:aA
 ps:List Str
 k:Nat
 sp:Sp
 dfs:List V
 ds:List Value
structure MI where
 C:Addr
 i:FI
inductive GB where
 | fn (i:FI)
 | cls (C:Addr) (i:Option FI)
 | met (m:Str) (l:List MI)
 | val (v:V) (u:Value)
 | exc (C:Addr) (i:Option FI)
noncomputable def Bz:List (Str×GB)->Str->Option (List MI)
 | [],_=>none
 | (_,.met m l)::r,x=>if m=x then some l else Bz r x
 | _::r,x=>Bz r x
theorem Cl:∀ {gb:List (Str×GB)} {x:Str} {l:List MI},Bz gb x=some l -> ∃ k,(k,GB.met x l)∈gb
 | (k,.met m l')::r,x,l,h=>by
  unfold Bz at h
  by_cases e:m=x
  ·rw [if_pos e] at h;cases h;subst e;exact⟨k,by simp⟩
  ·rw [if_neg e] at h;obtain⟨k,q⟩:=Cl h;exact⟨k,aL _ q⟩
 | (_,.fn _)::r,x,l,h=>by unfold Bz at h;obtain⟨k,q⟩:=Cl h;exact⟨k,aL _ q⟩
 | (_,.cls _ _)::r,x,l,h=>by unfold Bz at h;obtain⟨k,q⟩:=Cl h;exact⟨k,aL _ q⟩
 | (_,.val _ _)::r,x,l,h=>by unfold Bz at h;obtain⟨k,q⟩:=Cl h;exact⟨k,aL _ q⟩
 | (_,.exc _ _)::r,x,l,h=>by unfold Bz at h;obtain⟨k,q⟩:=Cl h;exact⟨k,aL _ q⟩
structure Sg where
 K:ac
 N:List Str
 sc:List (Str×cG)
 gb:List (Str×GB)
 bl:List Str
 top:Bool
 calm:Bool
noncomputable def Cm:List Str->Str->Nat->Option Nat
 | [],_,_=>none
 | y::r,x,i=>if y=x then some i else Cm r x (i+1)
theorem N8:∀ {N:List Str} {x:Str} {i j:Nat},Cm N x j=some i->j<=i/\N[i - j]? = some x
 | [],_,_,_,h=>by cases h
 | y::r,x,i,j,h=>by
  unfold Cm at h
  by_cases e:y=x
  ·rw [if_pos e] at h
   cases h
   refine⟨ay _,?_⟩
   rw [fV,e]
   rfl
  ·rw [if_neg e] at h
   obtain⟨h1,h2⟩:=N8 h
   refine⟨by omega,?_⟩
   have:i - j=(i - (j+1))+1:=by omega
   rw [this,bN]
   exact h2
theorem E0 {N:List Str} {x:Str} {i:Nat} (h:Cm N x 0=some i):N[i]? = some x:=(N8 h).2
noncomputable def Ey (x:Str):Bool:=!(x==("__debug__" : Str)) && !(x==("__classdict__" : Str)) && !(x==("__name__" : Str))
noncomputable def Jn (G:Sg) (x:Str):Bool:=(G.sc.lookup x==some .globalImplicit)&&Ey x
noncomputable def Wg (x:Str):Option String:=
 if x = "int" then some "int" else if x = "bool" then some "bool" else if x = "str" then some "str" else if x = "list" then some "list" else if x = "tuple" then some "tuple" else if x = "dict" then some "dict" else if x = "ValueError" then some "ValueError" else none
theorem at5:dF "ValueError" = some (.type "ValueError"):=by decide +kernel
theorem Zr {x:Str} {T:String} (h:Wg x=some T):dF x=some (.type T):=by
 unfold Wg at h
 by_cases e1:x = "int"
 ·rw [if_pos e1] at h;cases h;rw [e1];exact jK
 rw [if_neg e1] at h
 by_cases e2:x = "bool"
 ·rw [if_pos e2] at h;cases h;rw [e2];exact PyProof.Rows.boot_bool
 rw [if_neg e2] at h
 by_cases e3:x = "str"
 ·rw [if_pos e3] at h;cases h;rw [e3];exact PyProof.Rows.boot_str
 rw [if_neg e3] at h
 by_cases e4:x = "list"
 ·rw [if_pos e4] at h;cases h;rw [e4];exact dq
 rw [if_neg e4] at h
 by_cases e5:x = "tuple"
 ·rw [if_pos e5] at h;cases h;rw [e5];exact i8
 rw [if_neg e5] at h
 by_cases e6:x = "dict"
 ·rw [if_pos e6] at h;cases h;rw [e6];exact PyProof.Rows.boot_dict
 rw [if_neg e6] at h
 by_cases e7:x = "ValueError"
 ·rw [if_pos e7] at h;cases h;rw [e7];exact at5
 rw [if_neg e7] at h
 cases h
noncomputable def Qy (CX:CXT) (X:Cx):Prop:=∀ Ex,Meets X Ex -> ∀ (pins:List (Addr×Obj)) (σ:St) (H:Hp) (s:aj) (e:Value) (s':aj),Inv X pins σ H s->CX X.stack H s (fun v _ H'=>∃ a,v=.ref a/\Ex σ a H') e s'->X.xe e s'
structure J6 (X:Cx) (i:FI):Prop where
 kp:aR X.K (.ref i.f)=true
 ok:∃ CX,(∀ X':Cx,X'.prog=X.prog->X'.w=X.w->Qy CX X')/\FnOk X.prog X.w X.K X.mg X.base CX i.k i.f i.fd i.ps i.sp
 room:Room i.k X.A
 binds:∀ j,j<=i.dfs.length->Binds X.K i.fd i.ps (i.ds.drop j)
 vals:Vals i.dfs i.ds
noncomputable def Hq (X:Cx) (C:Addr):Option FI->Prop
 | none=>aD X.K (.ref C) "__init__" = some (some (.builtin "ValueError.__init__"))
 | some i=>aD X.K (.ref C) "__init__" = some (some (.ref i.f))/\dE X.K (.ref i.f)=true/\J6 X i/\Room (i.k+1) X.A
noncomputable def as2 (X:Cx) (C:Addr):Option FI->Prop
 | none=>cX X.K C=true/\aD X.K (.ref C) "__init__" = some (some (.builtin "object.__init__"))
 | some i=>cX X.K C=true/\aD X.K (.ref C) "__init__" = some (some (.ref i.f))/\dE X.K (.ref i.f)=true/\J6 X i/\Room (i.k+1) X.A
noncomputable def FrH (X:Cx):Prop:=∃ (e0:Env) (o0:List Env) (L:Addr),X.stack=e0::o0/\e0.frame=some L/\X.env.frame=some L
structure GOk (X:Cx) (G:Sg):Prop where
 K:X.K=G.K
 kind:X.env.scope.kind=.function
 own:G.top=true->iS (model X.prog X.w) X.A X.env X.xe
 N:X.N=G.N
 nd:G.N.Nodup
 sc:∀ x,X.env.scope.names.lookup x=G.sc.lookup x
 vis:∀ x∈G.N,Vis X.env.scope x
 top:G.top=true -> ∀ x,X.fn x=true
 calm:G.calm=X.calm
 hd:X.calm=true->X.A.handled=none
 units:X.A.units+64<cLine
 cel:∀ x,(X.env.scope.names.lookup x=some .cell\/X.env.scope.names.lookup x=some .free) -> ∃ c,X.env.cells.lookup x=some c
 fn:∀ x i,G.gb.lookup x=some (.fn i)->X.mg x=some (.ref i.f)/\J6 X i
 val:∀ x v u,G.gb.lookup x=some (.val v u)->X.mg x=some u/\RelV v u
 bl:∀ x,G.bl.contains x=true->X.mg x=none
 exc:∀ x C oi,G.gb.lookup x=some (.exc C oi)->X.mg x=some (.ref C)/\aR X.K (.ref C)=true/\ECls X.K C/\Hq X C oi
 cls:∀ x C oi,G.gb.lookup x=some (.cls C oi)->X.mg x=some (.ref C)/\aR X.K (.ref C)=true/\as2 X C oi
 met:∀ m l,Bz G.gb m=some l -> ∀ mi∈l,Cls X.K mi.C/\Gp X.K mi.C m mi.i.f/\J6 X mi.i
 frm:G.top=true->X.stack=X.env::X.outer/\X.env.frame=some X.env.locals
 fr:FrH X
section
variable {X:Cx} {G:Sg}
theorem GOk.gl (O:GOk X G) {x:Str} (h:Jn G x=true):Gl X x:=by
 unfold Jn at h
 rw [ax] at h
 have:=cU h.1
 unfold Gl
 show X.env.scope.names.lookup x=_
 rw [O.sc x]
 exact this
theorem Pm {x:Str} (h:Ey x=true):(x==("__debug__" : Str))=false/\(x==("__classdict__" : Str))=false/\x ≠ "__name__" := by
 unfold Ey at h
 simp only [ax,fh] at h
 exact⟨h.1.1,h.1.2,fun e=>by rw [e] at h;simp at h⟩
theorem Ko {x:Str} (h:Jn G x=true):(x==("__debug__" : Str))=false/\(x==("__classdict__" : Str))=false/\x ≠ "__name__" := by
 unfold Jn at h
 rw [ax] at h
 exact Pm h.2
noncomputable def ar4 (G:Sg) (x:Str):DE:=
 match Cm G.N x 0 with
 | some i=>if Ey x=true then Aa i else dNo
 | none=>if Jn G x=true then (match G.gb.lookup x with
   | some (.val v _)=>dC v
   | some (.exc C _)=>dC (.ref C)
   | some (.cls C _)=>dC (.ref C)
   | some _=>dNo
   | none=>if G.bl.contains x=true then (match Wg x with
    | some T=>dC (.ty T)
    | none=>dNo) else dNo) else dNo
theorem Bp {e:Expr}:QE X e dNo:=fun _ _ _ _ _ _ _ _ h=>h.elim
theorem bj2 {i:Nat} {x:Str} {pos:Pos} (hN:X.N[i]? = some x) (hv:Vis X.env.scope x) (hp:Ey x=true):QE X (.Name x pos) (Aa i):=by
 intro Ex _ pins s σ H Q I h
 unfold Aa at h
 split at h
 ·rename_i v e
  exact bg9 hN hv (Pm hp).1 (Pm hp).2.1 pins s σ H Q I ⟨v,e,h⟩
 ·exact h.elim
theorem az7 (O:GOk X G) (x:Str) (pos:Pos):QE X (.Name x pos) (ar4 G x):=by
 unfold ar4
 split
 ·rename_i i e
  split
  ·rename_i hp
   have hi:=E0 e
   exact bj2 (by rw [O.N];exact hi) (O.vis x (ai hi)) hp
  ·exact Bp
 ·split
  ·rename_i hg
   have dd:=Ko hg
   split
   ·rename_i v u e
    obtain⟨h1,h2⟩:=O.val x v u e
    exact fun _ _=>Pl (O.gl hg) h1 h2 dd.1
   ·rename_i C oi e
    exact fun _ _=>Pl (v:=.ref C) (O.gl hg) (O.exc x C oi e).1 rfl dd.1
   ·rename_i C oi e
    exact fun _ _=>Pl (v:=.ref C) (O.gl hg) (O.cls x C oi e).1 rfl dd.1
   ·exact Bp
   ·split
    ·rename_i hb
     split
     ·rename_i T e
      exact fun _ _=>ax9 (O.gl hg) (O.bl x hb) (Zr e) rfl dd.2.2 dd.1
     ·exact Bp
    ·exact Bp
  ·exact Bp
noncomputable def ar2:Const->DE
 | .int i=>dC (.int i)
 | .bool b=>dC (.bl b)
 | .none=>dC .non
 | .str x=>dC (.str x)
 | _=>dNo
theorem R4 (c:Const) (j:Nat) (pos:Pos):QE X (.Constant c j pos) (ar2 c):=by
 cases c with
 | int i=>exact fun _ _=>bg3
 | bool b=>exact fun _ _=>bz5
 | none=>exact fun _ _=>bg5
 | str x=>exact fun _ _=>bg7
 | _=>exact Bp
variable {a b c:Expr} {da db dc:DE} {ta tb:DT} {es:List Expr} {r:DA} {pos:Pos}
theorem bi0 (op:l7) (ha:QE X a da) (hb:QE X b db):QE X (.BinOp a op b pos) (Ae (rOp X.K op) da db):=fun Ex m=>bz7 (cd7 op) (ha Ex m) (hb Ex m)
theorem bi7 (ha:QE X a da):QE X (.UnaryOp .USub a pos) (dUn R7 da):=fun Ex m=>a52 ci4 (ha Ex m)
theorem bi3 (ha:QE X a da):QE X (.UnaryOp .Invert a pos) (dUn N4 da):=fun Ex m=>a52 bv9 (ha Ex m)
theorem bi2 (hu:X.A.units+64<cLine) (op:l4) (ha:QE X a da) (hb:QE X b db) (hm:jc op b=false):QE X (.Compare a [op] [b] pos) (Ae (Mu X.K op) da db):=fun Ex m=>ay0 (M7 hu op) (ha Ex m) (hb Ex m) hm
theorem bk2 (hu:X.A.units+64<cLine) (op:l4) (ha:QE X a da) (hb:QE X b db) (hm:jc op b=false):QT X (.Compare a [op] [b] pos) (Az (Ae (Mu X.K op) da db)):=by
 intro Ex m pins s σ H Q I h
 refine wpAny_isTrue_Compare1 (thn (ha Ex m pins s σ H _ I h) fun v s1 ⟨x,H1,I1,r1,q1⟩=>thn (hb Ex m pins s1 σ H1 _ I1 q1) fun u s2 ⟨y,H2,I2,r2,q2⟩=>
  thn (M7 hu op pins s2 σ H2 x y v u _ I2 r1 r2 q2) fun c s3 ⟨z,H3,I3,r3,q3⟩=>?_) hm
 cases z with
 | bl k=>cases r3;exact eB ⟨H3,I3,q3⟩
 | _=>exact (show False from q3).elim
theorem am1 (hu:X.A.units+64<cLine) (op op':l4) (ha:QE X a da) (hb:QE X b db) (hc:QE X c dc) (hm:lastMarks [op,op'] [b,c]=false) :
  QE X (.Compare a [op,op'] [b,c] pos) (Dx (Mu X.K op) (Mu X.K op') da db dc):=by
 intro Ex m pins s σ H Q I h
 refine Compare_chain (thn (ha Ex m pins s σ H _ I h) fun v s1 ⟨x,H1,I1,r1,q1⟩=>chain_link (thn (hb Ex m pins s1 σ H1 _ I1 q1) fun u s2 ⟨y,H2,I2,r2,q2⟩=>
  thn (M7 hu op pins s2 σ H2 x y v u _ I2 r1 r2 q2) fun d s3 ⟨z,H3,I3,r3,q3⟩=>?_)) hm
 cases z with
 | bl k=>
  cases r3
  refine eB ?_
  cases k with
  | false=>exact ite_ff ⟨.bl false,H3,I3,rfl,q3⟩
  | true=>exact ite_tt (chain_last (thn (hc Ex m pins s3 σ H3 _ I3 q3) fun w' s4 ⟨z',H4,I4,r4,q4⟩=>M7 hu op' pins s4 σ H4 y z' u w' Q I4 r2 r4 q4))
 | _=>exact (show False from q3).elim
theorem am8 (hu:X.A.units+64<cLine) (op op':l4) (ha:QE X a da) (hb:QE X b db) (hc:QE X c dc) (hm:lastMarks [op,op'] [b,c]=false) :
  QT X (.Compare a [op,op'] [b,c] pos) (Az (Dx (Mu X.K op) (Mu X.K op') da db dc)):=by
 intro Ex m pins s σ H Q I h
 refine isTrue_chain (thn (ha Ex m pins s σ H _ I h) fun v s1 ⟨x,H1,I1,r1,q1⟩=>test_link (thn (hb Ex m pins s1 σ H1 _ I1 q1) fun u s2 ⟨y,H2,I2,r2,q2⟩=>
  thn (M7 hu op pins s2 σ H2 x y v u _ I2 r1 r2 q2) fun d s3 ⟨z,H3,I3,r3,q3⟩=>?_)) hm
 cases z with
 | bl k=>
  cases r3
  refine eB ?_
  cases k with
  | false=>exact ite_ff ⟨H3,I3,q3⟩
  | true=>
   refine ite_tt (test_last (thn (hc Ex m pins s3 σ H3 _ I3 q3) fun w' s4 ⟨z',H4,I4,r4,q4⟩=>thn (M7 hu op' pins s4 σ H4 y z' u w' _ I4 r2 r4 q4) fun d' s5 ⟨z2,H5,I5,r5,q5⟩=>?_))
   cases z2 with
   | bl k2=>cases r5;exact eB ⟨H5,I5,q5⟩
   | _=>exact (show False from q5).elim
 | _=>exact (show False from q3).elim
noncomputable def al1:Expr->Bool
 | .UnaryOp .Not _ _=>false
 | .BoolOp _ _ _=>false
 | .IfExp _ _ _ _=>false
 | .Compare _ _ _ _=>false
 | _=>true
theorem Y8 {e:Expr} (h:al1 e=true) (whole:Sem Value):isTrue e X.env whole=(do let v <- whole;k9 e.pos;lT [v] (truthy v)):=by
 cases e with
 | UnaryOp op _ _=>cases op <;> first|rfl|cases h
 | BoolOp _ _ _=>cases h
 | IfExp _ _ _ _=>cases h
 | Compare _ _ _ _=>cases h
 | _=>rfl
theorem bk4 (ha:QE X a da) (h:al1 a=true):QT X a (C6 X.K da):=by
 intro Ex m pins s σ H Q I hw
 exact isTrue_plain (thn (ha Ex m pins s σ H _ I hw) fun v s1 ⟨x,H1,I1,r1,q1⟩=>Xp pins s1 σ H1 x v Q I1 r1 q1) (Y8 h _)
theorem bk3 (ha:QT X a ta):QT X (.UnaryOp .Not a pos) (Dq ta):=fun Ex m=>bh6 (ha Ex m)
theorem a05 (ha:QT X a ta):QW X (.BoolOp .And [a] pos) ta:=fun Ex m=>az0 (ha Ex m)
theorem bk6 (ha:QT X a ta):QW X (.BoolOp .Or [a] pos) ta:=fun Ex m=>bh8 (ha Ex m)
theorem bk5 (ha:QT X a ta) (hb:QW X (.BoolOp .And (b::es) pos) tb):QW X (.BoolOp .And (a::b::es) pos) (Kg ta tb):=fun Ex m=>bh7 (ha Ex m) (hb Ex m)
theorem b07 (ha:QT X a ta) (hb:QW X (.BoolOp .Or (b::es) pos) tb):QW X (.BoolOp .Or (a::b::es) pos) (dOr ta tb):=fun Ex m=>b01 (ha Ex m) (hb Ex m)
theorem bi9 {op:BoolOp} (ha:QE X a da):QE X (.BoolOp op [a] pos) da:=fun Ex m=>bg6 (ha Ex m)
theorem bh9 (ha:QE X a da) (hb:QE X (.BoolOp .And (b::es) pos) db):QE X (.BoolOp .And (a::b::es) pos) (M9 X.K da db):=by
 intro Ex m pins s σ H Q I h
 refine BoolOp_and (thn (ha Ex m pins s σ H _ I h) fun v s1 ⟨x,H1,I1,r1,q1⟩=>thn (Xp pins s1 σ H1 x v _ I1 r1 q1) fun k s2 ⟨H2,I2,q2⟩=>?_)
 cases k with
 | true=>exact hb Ex m pins s2 σ H2 Q I2 q2
 | false=>exact⟨x,H2,I2,r1,q2⟩
theorem b05 (ha:QE X a da) (hb:QE X (.BoolOp .Or (b::es) pos) db):QE X (.BoolOp .Or (a::b::es) pos) (bt5 X.K da db):=by
 intro Ex m pins s σ H Q I h
 refine BoolOp_or (thn (ha Ex m pins s σ H _ I h) fun v s1 ⟨x,H1,I1,r1,q1⟩=>thn (Xp pins s1 σ H1 x v _ I1 r1 q1) fun k s2 ⟨H2,I2,q2⟩=>?_)
 cases k with
 | false=>exact hb Ex m pins s2 σ H2 Q I2 q2
 | true=>exact⟨x,H2,I2,r1,q2⟩
theorem bi8 (ha:QE X a da):QE X (.UnaryOp .Not a pos) (ae7 X.K da):=by
 intro Ex m pins s σ H Q I h
 refine UnaryOp_ (thn (ha Ex m pins s σ H _ I h) fun v s1 ⟨x,H1,I1,r1,q1⟩=>not_of (thn (Xp pins s1 σ H1 x v _ I1 r1 q1) fun k s2 ⟨H2,I2,q2⟩=>?_))
 exact⟨.bl (!k),H2,I2,rfl,q2⟩
theorem b02 {t:Expr} (ht:QT X t ta) (ha:QE X a da) (hb:QE X b db):QE X (.IfExp t a b pos) (bt4 ta da db):=fun Ex m=>ak5 (ht Ex m) (ha Ex m) (hb Ex m)
noncomputable def noStar:Expr->Bool
 | .Starred _ _=>false
 | _=>true
theorem Aw {e:Expr} (h:noStar e=true) (es:List Expr) (env:Env):dm (e::es) env=(false,eval e env)::dm es env:=by
 cases e with
 | Starred _ _=>cases h
 | _=>rfl
theorem Bf {es:List Expr} (h:es.all noStar=true) (env:Env) (pos:Pos):(iE pos (dm es env)).any (·.1)=false:=by
 induction es with
 | nil=>rfl
 | cons e es ih=>
  rw [bw,ax] at h
  rw [Aw h.1]
  show (false||(iE pos (dm es env)).any (·.1))=false
  rw [ih h.2]
  rfl
theorem Jg {es:List Expr} (h:es.all noStar=true) (env:Env) (pos:Pos):(iE pos (dm es env)).all (fun x=>!x.1)=true:=by
 induction es with
 | nil=>rfl
 | cons e es ih=>
  rw [bw,ax] at h
  rw [Aw h.1]
  show (true&&(iE pos (dm es env)).all (fun x=>!x.1))=true
  rw [ih h.2]
  rfl
theorem al8:QA X [] Aj:=fun _ _=>bg2
theorem W4 (ha:QE X a da) (hr:QA X es r) (hs:noStar a=true):QA X (a::es) (Ac da r):=fun Ex m=>ax8 (ha Ex m) (hr Ex m) (Aw hs es X.env)
theorem bj1 {k:Nat} (h:QA X es r):QE X (.Tuple es k pos) (Hv r):=fun Ex m=>bg8 (h Ex m)
theorem bi4 (h:QA X es r):QE X (.List es pos) (Dh r):=fun Ex m=>bg4 (h Ex m)
noncomputable def Hg:Expr->Bool
 | .Slice _ _ _ _=>false
 | _=>true
theorem Ut {e:Expr} (h:Hg e=true):Wl e:=by
 intro o i
 cases e with
 | Slice _ _ _ _=>cases h
 | _=>rfl
theorem b03 (hu:X.A.units+64<cLine) (ha:QE X a da) (hb:QE X b db) (h:Hg b=true):QE X (.Subscript a b pos) (Ae (Aq X.K) da db):=fun Ex m=>bz6 (cd5 hu) (ha Ex m) (hb Ex m) (Ut h)
theorem az1 {f:Str} (ha:QE X a da) (h:jb a f X.env (eval a X.env)=eval a X.env):QE X (.Attribute a f pos) (dUn (De X.K f) da):=by
 intro Ex m pins s σ H Q I hw
 exact as9 h (thn (ha Ex m pins s σ H _ I hw) fun u s1 ⟨x,H1,I1,rx,q⟩=>bu2 I1 rx q)
end
end L2
namespace PySem.SeqAt
open AutoSeq1 (wpAny_loadPart')
open MeetsSeq MeetsSeq2 MeetsSeq3
theorem Yv (l b:Addr) (items items2:Array Value) (n n2:Nat) (dd dd2:Option Addr) (sl sl2:Array (Option Value)) (e:Nat->Bool) (lt:Nat->Bool) (k:Nat) :
  ∀ i:Nat,items.size - i=k->Meets (ar.«list.__eq__.loop» ⟨[.ref l,.ref b,eC i,eC 0],[]⟩)
   (fun A R s=>s.heap.get? l=some { cls:=.type "list", dict:=dd,data:=.seq items n,slots:=sl }/\s.heap.get? b=some { cls:=.type "list", dict:=dd2,data:=.seq items2 n2,slots:=sl2 } /\
    (∀ j (h1:j<items.size) (h2:j<items2.size),EqAt A.in1 s items[j] items2[j] (e j)) /\
    (∀ j (h1:j<items.size) (h2:j<items2.size),∀ (prog:aV) (w:bM) (E:Value->aj->Prop) (Q:Value->aj->Prop),Q (.bool (lt j)) s->aI (model prog w) A.in1 (kr .Lt items[j] items2[j]) Q E s) /\
    R (.ok (.ret (.bool (match ((aq (min items.size items2.size)).drop i).find? (fun j=>!e j) with|some j=>lt j|none=>decide (items.size<items2.size))))) s):=by
 induction k with
 | zero=>
  intro i hk prog w A R s h
  obtain⟨hp,g,d,tk,os⟩:=s;obtain⟨hl,hb,he,hr,h⟩:=h
  wp_walk using bX hl,bX hb
  have hi1:items[((i:Nat):Int).toNat]? = none:=by simp;omega
  have hd:(aq (min items.size items2.size)).drop i=[]:=by simp;omega
  rw [hd] at h
  rw [hi1]
  wp_walk using bX hl,bX hb
  exact h
 | succ k ih=>
  intro i hk prog w A R s h
  obtain⟨hp,g,d,tk,os⟩:=s;obtain⟨hl,hb,he,hr,h⟩:=h
  wp_walk using bX hl,bX hb
  have hlt:i<items.size:=by omega
  have hi1:items[((i:Nat):Int).toNat]? = some items[i]:=by simp [hlt]
  by_cases hlt2:i<items2.size
  ·have hi2:items2[((i:Nat):Int).toNat]? = some items2[i]:=by simp [hlt2]
   have hm:i<min items.size items2.size:=by omega
   have hd:(aq (min items.size items2.size)).drop i=i::(aq (min items.size items2.size)).drop (i+1):=by rw [List.drop_eq_getElem_cons (by simpa using hm)];simp
   have hc:((i:Int)+1)=((i+1:Nat):Int):=by push_cast;rfl
   rw [hd,bR] at h
   rw [hi1,hi2]
   refine af (he i hlt hlt2 prog w _ _ ?_)
   cases hb':e i with
   | true=>
    rw [hb'] at h
    wp_walk
    rw [hc]
    exact⟨dv jd _,cY entry_eq_loop (by
     rw [cC jd _]
     exact ih (i+1) (by omega) prog w A R _ ⟨hl,hb,he,hr,h⟩)⟩
   | false=>
    rw [hb'] at h
    wp_walk using bX hl,bX hb
    rw [hi1,hi2]
    refine af (hr i hlt hlt2 prog w _ _ ?_)
    wp_walk
    exact h
  ·have hi2:items2[((i:Nat):Int).toNat]? = none:=by simp;omega
   have hd:(aq (min items.size items2.size)).drop i=[]:=by simp;omega
   rw [hd] at h
   rw [hi1,hi2]
   wp_walk using bX hl,bX hb
   exact h
theorem Yu (l b:Addr) (items items2:Array Value) (n n2:Nat) (dd dd2:Option Addr) (sl sl2:Array (Option Value)) (e lt:Nat->Bool) :
  Meets (ar.«list.__lt__» ⟨[.ref l,.ref b],[]⟩)
   (fun A R s=>s.heap.get? l=some { cls:=.type "list", dict:=dd,data:=.seq items n,slots:=sl }/\s.heap.get? b=some { cls:=.type "list", dict:=dd2,data:=.seq items2 n2,slots:=sl2 } /\
    (∀ j (h1:j<items.size) (h2:j<items2.size),EqAt A.in1 s items[j] items2[j] (e j)) /\
    (∀ j (h1:j<items.size) (h2:j<items2.size),∀ (prog:aV) (w:bM) (E:Value->aj->Prop) (Q:Value->aj->Prop),Q (.bool (lt j)) s->aI (model prog w) A.in1 (kr .Lt items[j] items2[j]) Q E s) /\
    R (.ok (.ret (.bool (match (aq (min items.size items2.size)).find? (fun j=>!e j) with|some j=>lt j|none=>decide (items.size<items2.size))))) s):=by
 intro prog w A R s h
 obtain⟨hp,g,d,tk,os⟩:=s;obtain⟨hl,hb,he,hr,h⟩:=h
 have f3:=AutoSeq1.sub_list_list
 wp_walk using bX hl,bX hb
 exact⟨dv jd _,cY entry_eq_loop (by
  rw [cC jd _]
  exact Yv l b items items2 n n2 dd dd2 sl sl2 e lt _ 0 rfl prog w A R _ ⟨hl,hb,he,hr,by simpa using h⟩)⟩
theorem lt_lists {A:bi} {s:aj} {l b:Addr} {items items2:Array Value} {e lt:Nat->Bool} (hl:s.heap.IsList l items) (hb:s.heap.IsList b items2) (hu:A.units<cLine)
  (he:∀ j (h1:j<items.size) (h2:j<items2.size),EqAt A.in1 s items[j] items2[j] (e j))
  (hr:∀ j (h1:j<items.size) (h2:j<items2.size),∀ (prog:aV) (w:bM) (E:Value->aj->Prop) (Q:Value->aj->Prop),Q (.bool (lt j)) s->aI (model prog w) A.in1 (kr .Lt items[j] items2[j]) Q E s)
  {prog:aV} {w:bM} {E:Value->aj->Prop} {Q:Value->aj->Prop} (h:Q (.bool (match (aq (min items.size items2.size)).find? (fun j=>!e j) with|some j=>lt j|none=>decide (items.size<items2.size))) s) :
  aI (model prog w) A (kr .Lt (.ref l) (.ref b)) Q E s:=by
 obtain⟨⟨cls,dd,data,sl⟩,ho,hc,n,hd⟩:=id hl
 obtain⟨⟨cls2,dd2,data2,sl2⟩,ho2,hc2,n2,hd2⟩:=id hb
 simp only at hc hd hc2 hd2
 subst hc hd hc2 hd2
 exact richCompare_meets_room (op:=.Lt) ⟨_,ho,rfl⟩ ⟨_,ho2,rfl⟩ F.slot_list_lt F.entry_list_lt (F.args_list_lt_2 _ _) (Yu l b items items2 n n2 dd dd2 sl sl2 e lt)
  ⟨ho,ho2,he,hr,⟨(fun x=>nomatch x),h⟩⟩ hu
end PySem.SeqAt
namespace PySem.W
open PySem PySem.Calls PyProof.Rows
noncomputable def kRun {α:Type} (n:Nat) (lt:Nat->Nat->Bool):KasT α->Option α
 | .ret a=>some a
 | .ask i j k=>if i<n/\j<n then kRun n lt (k (lt i j)) else none
theorem kRun_wp {α:Type} {n:Nat} {lt:Nat->Nat->Bool} {cmp:Nat->Nat->(Bool->aj->Prop)->aj->Prop} {G:α->aj->Prop} {s:aj} (h:∀ i j C,i<n->j<n->C (lt i j) s->cmp i j C s) :
  ∀ {t:KasT α} {a:α},kRun n lt t=some a->G a s->t.kasWp cmp G s
 | .ret b,a,e,g=>by
  have:b=a:=aF e
  subst this
  exact g
 | .ask i j k,a,e,g=>by
  unfold kRun at e
  split at e
  ·rename_i hij
   exact h i j _ hij.1 hij.2 (kRun_wp h e g)
  ·cases e
section
variable {prog:aV} {w:bM} {A:bi} {E:Value->aj->Prop} {s:aj} {vs:List Value}
noncomputable def SoFin (a:Addr) (e:Nat) (out:List Value) (C:aj->Prop) (s:aj):Prop:=
 s.heap.get? a=some (fZ "list" #[] e) /\ ∀ h' c,h'.get? a=some (fZ "list" (gP out) c)->bc a s.heap h'->C { s with heap:=h' }
theorem SoFin.mono {a:Addr} {e:Nat} {out:List Value} {C C':aj->Prop} (h:SoFin a e out C s) (hc:∀ s,C s->C' s):SoFin a e out C' s:=⟨h.1,fun h' c x y=>hc _ (h.2 h' c x y)⟩
theorem Pt {n:Nat} {a:Addr} {P:PySem.Fin->aj->Prop} (ho:s.heap.get? a=some (fZ "list" vs.toArray n)) (h2:2<=vs.length) (h64:vs.length<64)
  (h:∀ e1 h',h'.get? a=some (fZ "list" #[] e1)->(∀ b o,b≠a->s.heap.get? b=some o->h'.get? b=some o) ->
   aI (model prog w) A (keyKind' vs.toArray) (fun κ s'=>(kas_sort vs.length).kasWp (kas_ask prog w A κ vs) (fun p s''=>SoFin a e1 (p.toList.map fun i=>vs.getD i bh) (fun s3=>P (.done (.ret .none)) s3) s'') s') (fun _ _=>False) { s with heap:=h' }) :
  aI (model prog w) A (ar.«list.sort» ⟨[.ref a],[]⟩) P E s:=by
 have ha:a<s.heap.objs.size:=aB ho
 have s1:=cu s.heap a (bt fun _=>(#[]:Array Value))
 obtain⟨e1,ho1⟩:∃ e1,(s.heap.update a (bt fun _=>(#[]:Array Value))).get? a=some (fZ "list" #[] e1):=⟨_,get?_update_seq ho fun _=>#[]⟩
 have ask:=h e1 (((s.heap.update a (bt fun _=>(#[]:Array Value))).push (fZ "tuple" vs.toArray 0)).push (fZ "list" #[] 0)) (ag _ (ag _ ho1))
  (fun b o nb e=>ag _ (ag _ ((s1.2 b nb).trans e)))
 rw [list_sort_plain]
 refine af (listItems_at ho rfl ?_)
 refine af (listUpdate_at ho rfl ?_ (by rw [av,cZ];omega) (cq _))
 refine af (seqEpoch_at ho1 rfl ?_)
 refine af (gL ?_ (by show vs.length<=_;rw [cZ];omega))
 refine af (wpAny_newList ?_ (cq _))
 refine bx ?_
 show aI (model prog w) A _ P E { s with heap:=((s.heap.update a (bt fun _=>(#[]:Array Value))).push (fZ "tuple" vs.toArray 0)).push (fZ "list" #[] 0) }
 dsimp only
 have hn2:¬ vs.toArray.size<2:=by rw [av];omega
 rw [if_neg hn2,if_neg hn2]
 refine af (c8 ask (fun κ s0 hk=>?_) fun _ _ x=>x.elim)
 refine af (c8 (kat_run (Q:=fun st' s'=>∃ p:Array Nat,p.size=vs.length/\arrOf st'=p.map (kas_item (vs.toArray.zip vs.toArray))/\failedOf st'=none/\SoFin a e1 (p.toList.map fun i=>vs.getD i bh) (fun s''=>P (.done (.ret .none)) s'') s')
  rfl h2 h64 (fun p' st' s' a1 a2 a3 a4=>⟨p',a1,a2,a3,a4⟩) hk) ?_ fun _ _ e=>e)
 rintro⟨⟨⟩,st'⟩ s' ⟨p,hp,har,hf,na,k⟩
 dsimp only
 have hout:=kat_snds rfl har
 have hsz:(gP (p.toList.map fun i=>vs.getD i bh)).size=vs.length:=by rw [av,ae,dR,hp]
 rw [hout]
 have s2:=cu s'.heap a (bt fun _=>gP (p.toList.map fun i=>vs.getD i bh))
 obtain⟨c2,hc2⟩:∃ c2,(s'.heap.update a (bt fun _=>gP (p.toList.map fun i=>vs.getD i bh))).get? a=some (fZ "list" (gP (p.toList.map fun i=>vs.getD i bh)) c2):=⟨_,get?_update_seq na fun _=>gP (p.toList.map fun i=>vs.getD i bh)⟩
 refine af (seqEpoch_at na rfl ?_)
 refine af (listUpdate_at na rfl ?_ (cq _) (aQ (ly hsz) (by rw [cZ];omega)))
 rw [hf]
 simp only [bne_self_eq_false,bz,if_false]
 exact al (k _ c2 hc2 s2)
theorem so_sorted {l:Addr} {Q:Value->aj->Prop} (hl:s.heap.IsList l vs.toArray) (h2:2<=vs.length) (h64:vs.length<64)
  (h:∀ D e1 h',s.heap.objs.size<=D->h'.get? D=some (fZ "list" #[] e1)->(∀ b o,s.heap.get? b=some o->h'.get? b=some o) ->
   aI (model prog w) A.in1.in1 (keyKind' vs.toArray) (fun κ s'=>(kas_sort vs.length).kasWp (kas_ask prog w A.in1.in1 κ vs) (fun p s''=>SoFin D e1 (p.toList.map fun i=>vs.getD i bh) (fun s3=>Q (.ref D) s3) s'') s') (fun _ _=>False) { s with heap:=h' }) :
  aI (model prog w) A (call (.builtin "sorted") [.ref l]) Q E s:=by
 refine Calls.call_function_entry kind_sorted plain_sorted entry_sorted (args_sorted1 _) ?_
 unfold ar.«sorted»
 refine af (m:=checkCount "sorted" 1 1 _) (al ?_)
 refine af (collect_list hl ?_ (by rw [cZ];omega))
 refine af (wpAny_newList ?_ (by rw [cZ];omega))
 have hsz:((s.heap.push (fZ "list" #[] 0)).update s.heap.objs.size (bt (· ++ vs.toArray))).objs.size=s.heap.objs.size+1:=by
  rw [Heap.size_update,size_push']
 have hoL:(((s.heap.push (fZ "list" #[] 0)).update s.heap.objs.size (bt (· ++ vs.toArray))).push (fZ "list" vs.toArray 0)).get? (s.heap.objs.size+1)=some (fZ "list" vs.toArray 0):=by
  rw [<- hsz];exact aw _ rfl
 have keep:∀ b o,s.heap.get? b=some o->(((s.heap.push (fZ "list" #[] 0)).update s.heap.objs.size (bt (· ++ vs.toArray))).push (fZ "list" vs.toArray 0)).get? b=some o:=fun b o q=>by
  have hlt:b<s.heap.objs.size:=aB q
  rw [Heap.get?_push_ne _ _ _ (by rw [hsz];exact aH (cb hlt)),Heap.get?_update_ne _ _ _ _ (aH hlt),Heap.get?_push_ne _ _ _ (aH hlt)]
  exact q
 show aI _ _ _ _ _ { s with heap:=((s.heap.push (fZ "list" #[] 0)).update s.heap.objs.size (bt (· ++ vs.toArray))).push (fZ "list" vs.toArray 0) }
 rw [hsz]
 refine af (bx (cM slot_list_sort ⟨_,hoL,rfl⟩ entry_list_sort ?body (args_list_sort _)))
 case body=>
  refine Pt (s:={ s with heap:=((s.heap.push (fZ "list" #[] 0)).update s.heap.objs.size (bt (· ++ vs.toArray))).push (fZ "list" vs.toArray 0) }) hoL h2 h64 fun e1 h' g k=>?_
  refine c8 (h _ e1 h' (cE _) g fun b o q=>k b o (aH (cb (aB q))) (keep b o q)) (fun κ s' hk=>?_) fun _ _ x=>x
  rw [kat_ask_eq rfl] at hk ⊢
  exact kas_wp_mono hk fun p s'' hk'=>hk'.mono fun s3 hq=>⟨_,rfl,al ⟨_,rfl,hq⟩⟩
end
end PySem.W
namespace L2
open PySem PySem.Spec PyProof.Rows
noncomputable def ltL:List Int->List Int->Bool
 | [],[]=>false
 | [],_::_=>true
 | _::_,[]=>false
 | x::xs,y::ys=>if x=y then ltL xs ys else decide (x<y)
noncomputable def ltP (p q:Int×List Int):Bool:=if p.1=q.1 then ltL p.2 q.2 else decide (p.1<q.1)
noncomputable def ai7 (ps:List (Int×List Int)) (i j:Nat):Bool:=ltP (ps.getD i (0,[])) (ps.getD j (0,[]))
theorem Ro:∀ xs:List Int,ltL xs xs=false
 | []=>rfl
 | x::xs=>by unfold ltL;rw [if_pos rfl];exact Ro xs
theorem Jk (n:Nat) (p:Nat->Bool):(aq (n+1)).find? p=if p 0=true then some 0 else ((aq n).find? fun j=>p (j+1)).map (· + 1):=by
 rw [jq,bR]
 cases e:p 0 with
 | true=>simp
 | false=>simp [List.find?_map,Function.comp_def]
theorem Rn:∀ xs ys:List Int,(match (aq (min xs.length ys.length)).find? (fun j=>!(xs.getD j 0==ys.getD j 0)) with|some j=>decide (xs.getD j 0<ys.getD j 0)|none=>decide (xs.length<ys.length))=ltL xs ys
 | [],[]=>rfl
 | [],_::_=>by simp [ltL]
 | _::_,[]=>by simp [ltL]
 | x::xs,y::ys=>by
  have ih:=Rn xs ys
  have e:min (x::xs).length (y::ys).length=min xs.length ys.length+1:=by simp only [aN];omega
  rw [e,Jk]
  unfold ltL
  by_cases h:x=y
  ·subst h
   have c:(!((x::xs).getD 0 0==(x::ys).getD 0 0))=false:=by simp
   rw [c,if_neg am,if_pos rfl,<- ih]
   have f:(fun j=>!((x::xs).getD (j+1) 0==(x::ys).getD (j+1) 0))=fun j=>!(xs.getD j 0==ys.getD j 0):=by funext j;simp
   rw [f]
   cases (aq (min xs.length ys.length)).find? (fun j=>!(xs.getD j 0==ys.getD j 0)) with
   | none=>simp
   | some j=>simp
  ·have c:(!((x::xs).getD 0 0==(y::ys).getD 0 0))=true:=by simp [h]
   rw [c,if_pos rfl,if_neg h]
   rfl
noncomputable abbrev soV (ds:List ((Int×List Int)×Addr×Addr)):List V:=ds.map fun d=>V.ref d.2.1
noncomputable def J1 (K:ac):List V->Hp->VK->Prop:=fun xs H Q=>match xs with
 | [.ref a]=>∃ (ds:List ((Int×List Int)×Addr×Addr)) (p:Array Nat),SqL K H a (soV ds)/\(∀ d∈ds,H d.2.1=some (.tup [.int d.1.1,.ref d.2.2])/\H d.2.2=some (.lst (d.1.2.map V.int)))/\2<=ds.length/\ds.length<64 /\
   PySem.W.kRun ds.length (ai7 (ds.map (·.1))) (jk ds.length)=some p/\p.toList.length=ds.length/\(p.toList.all fun i=>decide (i<ds.length))=true /\ ∀ D,H D=none->Q (.ref D) (upd H D (.lst (p.toList.map fun i=>(soV ds).getD i .non)))
 | _=>False
section
variable {X:Cx} {pins:List (Addr×Obj)} {σ:St} {H:Hp} {s:aj}
theorem aw3 {A:bi} {a b:Addr} {xs ys:List Int} (I:Inv X pins σ H s) (ha:H a=some (.lst (xs.map V.int))) (hb:H b=some (.lst (ys.map V.int))) (hu:A.units<cLine)
  {Q:Bool->aj->Prop} {E:Value->aj->Prop} (h:Q (ltL xs ys) s):aI (model X.prog X.w) A (cT .Lt (.ref a) (.ref b)) (PySem.W.BoolBack Q) E s:=by
 obtain⟨its,r,pl,_⟩:=I.list (SqL.of ha)
 obtain⟨its2,r2,pl2,_⟩:=I.list (SqL.of hb)
 have e1:xs.length=its.length:=by have:=r.length;simpa using this
 have e2:ys.length=its2.length:=by have:=r2.length;simpa using this
 have g1:∀ j (hj:j<its.length),∃ t,its[j]=.int (xs.getD j 0) t:=fun j hj=>by
  obtain⟨u,hu,ru⟩:=r.get (i:=j) (x:=.int (xs.getD j 0)) (by rw [ak,ah (by omega),aC,ah (by omega)];rfl)
  rw [ah hj] at hu
  obtain⟨t,rfl⟩:=ru
  exact⟨t,aF hu⟩
 have g2:∀ j (hj:j<its2.length),∃ t,its2[j]=.int (ys.getD j 0) t:=fun j hj=>by
  obtain⟨u,hu,ru⟩:=r2.get (i:=j) (x:=.int (ys.getD j 0)) (by rw [ak,ah (by omega),aC,ah (by omega)];rfl)
  rw [ah hj] at hu
  obtain⟨t,rfl⟩:=ru
  exact⟨t,aF hu⟩
 refine SeqAt.lt_lists (e:=fun j=>xs.getD j 0==ys.getD j 0) (lt:=fun j=>decide (xs.getD j 0<ys.getD j 0)) pl.isList pl2.isList hu (fun j j1 j2=>?_) (fun j j1 j2 prog w E Q hq=>?_) ?_
 ·obtain⟨t,e⟩:=g1 j (by simpa using j1)
  obtain⟨t',e'⟩:=g2 j (by simpa using j2)
  simp only [jV]
  rw [e,e']
  exact kH _ _ _ _
 ·obtain⟨t,e⟩:=g1 j (by simpa using j1)
  obtain⟨t',e'⟩:=g2 j (by simpa using j2)
  simp only [jV]
  rw [e,e']
  exact lt_int hq
 ·have:=Rn xs ys
  rw [av,av,<- e1,<- e2,this]
  exact h
theorem Nb:∀ xs ys:List Int,Fi (xs.map fun i=>Dt.at_ (.int i)) (ys.map fun i=>Dt.at_ (.int i))=decide (xs=ys)
 | [],[]=>by simp [Fi]
 | [],_::_=>by simp [Fi]
 | _::_,[]=>by simp [Fi]
 | x::xs,y::ys=>by
  rw [be,be]
  unfold Fi
  rw [Nb xs ys]
  unfold deq
  show ((x==y)&&decide (xs=ys))=_
  by_cases h:x=y <;> by_cases h2:xs=ys <;> simp [h,h2]
theorem Na:∀ xs:List Int,Gf (xs.map fun i=>Dt.at_ (.int i))=0
 | []=>by simp [Gf]
 | x::xs=>by rw [be];unfold Gf;rw [Na xs];unfold dep;rfl
theorem Kd {K:ac}:∀ xs:List Int,AtL K H (xs.map fun i=>Dt.at_ (.int i)) (xs.map V.int)
 | []=>by simp [AtL]
 | x::xs=>by rw [be,be];unfold AtL;exact⟨_,_,rfl,by unfold At;exact⟨rfl,rfl⟩,Kd xs⟩
theorem au7 {A:bi} {a b:Addr} {xs ys:List Int} (I:Inv X pins σ H s) (ha:H a=some (.lst (xs.map V.int))) (hb:H b=some (.lst (ys.map V.int))) (hu:A.units+1<cLine) :
  bE A s (.ref a) (.ref b) (decide (xs=ys)):=by
 have:=af4 I (.lst (xs.map fun i=>Dt.at_ (.int i))) (.lst (ys.map fun i=>Dt.at_ (.int i))) A (.ref a) (.ref b) _ _ (by unfold At;exact⟨_,_,rfl,SqL.of ha,Kd xs⟩) (by unfold At;exact⟨_,_,rfl,SqL.of hb,Kd ys⟩) rfl rfl (by unfold dep;rw [Na];exact hu)
 unfold deq at this
 rwa [Nb] at this
theorem Mg {xs:List V} {us:List Value} (r:Vals xs us) {i:Nat} (h:i<us.length):∃ x,xs[i]? = some x/\RelV x (us.getD i bh):=by
 have hl:=r.length
 obtain⟨u,hu,ru⟩:=r.get (i:=i) (x:=xs[i]'(by omega)) (ah (by omega))
 refine⟨_,ah (by omega),?_⟩
 rw [aC,hu]
 exact ru
theorem Xg (I:Inv X pins σ H s):∀ (ds:List ((Int×List Int)×Addr×Addr)) (vs:List Value),Vals (soV ds) vs->(∀ d∈ds,H d.2.1=some (.tup [.int d.1.1,.ref d.2.2])) -> ∃ fs,jL s.heap vs fs/\fs.length=ds.length /\ ∀ v∈fs,∃ i t,v=.int i t
 | [],vs,r,_=>by cases r;exact⟨[],PySem.W.KatTups.nil,rfl,fun v hv=>by cases hv⟩
 | d::ds,vs,r,h=>by
  cases r with
  | cons r1 r2=>
   obtain⟨fs,k,hl,hi⟩:=Xg I ds _ r2 fun x hx=>h x (aL _ hx)
   cases r1
   obtain⟨its,ri,⟨o,e,c,n,dd⟩,_⟩:=I.tuple (SqT.of (h d aZ))
   cases ri with
   | cons ra rr=>
    obtain⟨t,rfl⟩:=ra
    exact⟨_::fs,PySem.W.KatTups.cons e c dd rfl k,by rw [aN,aN,hl],fun v hv=>(List.mem_cons.mp hv).elim (fun z=>⟨_,_,z⟩) (hi v)⟩
theorem Od {xs:List V} {us:List Value} (r:Vals xs us):∀ (p:List Nat),(∀ i∈p,i<us.length)->Vals (p.map fun i=>xs.getD i .non) (p.map fun i=>us.getD i bh)
 | [],_=>.nil
 | i::p,h=>by
  obtain⟨x,hx,rx⟩:=Mg r (h i aZ)
  refine .cons ?_ (Od r p fun j hj=>h j (aL _ hj))
  show RelV (xs.getD i .non) _
  rw [aC,hx]
  exact rx
end
theorem ah3 {n:Nat} {lt:Nat->Nat->Bool} {p:Array Nat} (h:PySem.W.kRun n lt (jk n)=some p) (hp:(p.toList.all fun i=>decide (i<n))=true):∀ i∈p.toList,i<n:=fun i hi=>by
 simpa using List.all_eq_true.mp hp i hi
theorem Q6:dF "sorted" = some (.builtin "sorted"):=by decide +kernel
theorem Oo {X:Cx} (hu:X.A.units+64<cLine):Cz X (.builtin "sorted") (J1 X.K):=by
 intro pins s σ H xs us Q I r h
 unfold J1 at h
 split at h
 ·rename_i a
  obtain⟨ds,p,hq,hd,h2,h64,hr,hz,hp,q⟩:=h
  obtain⟨u,rfl,ru⟩:=Go r
  cases ru
  obtain⟨its,ri,pl,_⟩:=I.list hq
  have hl:its.length=ds.length:=by have:=ri.length;simpa using this.symm
  refine PySem.W.so_sorted (vs:=its) pl.isList (by omega) (by omega) fun D e1 h' hD gD keep=>?_
  have I1:Inv X pins σ H { s with heap:=h' }:=I.kept (t':=s.toks) keep
  obtain⟨fs,kt,kl,ki⟩:=Xg I1 ds its ri fun d hx=>(hd d hx).1
  refine PySem.W.kat_kind (T:=.type "int") kt (by omega) (fun v hv=>by obtain⟨i,t,rfl⟩:=ki v hv;exact .now) rfl ?_
  refine PySem.W.kRun_wp (n:=its.length) (lt:=ai7 (ds.map (·.1))) (a:=p) (fun i j C hi hj hC=>?_) (by rw [hl];exact hr) ⟨gD,fun h2 c g2 sb=>?_⟩
  ·unfold PySem.W.kas_ask
   obtain⟨x,hx,rx⟩:=Mg ri hi
   obtain⟨y,hy,ry⟩:=Mg ri hj
   rw [hl] at hi hj
   have ex:x=.ref (ds[i]'hi).2.1:=by rw [ak,ah hi] at hx;exact (aF hx).symm
   have ey:y=.ref (ds[j]'hj).2.1:=by rw [ak,ah hj] at hy;exact (aF hy).symm
   subst ex ey
   have lt:ai7 (ds.map (·.1)) i j=ltP (ds[i]'hi).1 (ds[j]'hj).1:=by
    unfold ai7
    rw [aC,aC,ak,ak,ah hi,ah hj]
    rfl
   rw [lt] at hC
   obtain⟨t1,l1⟩:=hd _ (cy hi)
   obtain⟨t2,l2⟩:=hd _ (cy hj)
   generalize (ds[i]'hi)=d1 at rx t1 l1 hC
   generalize (ds[j]'hj)=d2 at ry t2 l2 hC
   obtain⟨⟨n1,x1⟩,a1,b1⟩:=d1
   obtain⟨⟨n2,x2⟩,a2,b2⟩:=d2
   rw [show its.getD i bh=aY a1 from rx,show its.getD j bh=aY a2 from ry]
   obtain⟨i1,r1,⟨o1,e1,c1,m1,d1⟩,_⟩:=I1.tuple (SqT.of t1)
   obtain⟨i2,r2,⟨o2,e2,c2,m2,d2⟩,_⟩:=I1.tuple (SqT.of t2)
   obtain⟨u1,v1,rfl,⟨tk1,rfl⟩,rfl⟩:=r1.two
   obtain⟨u2,v2,rfl,⟨tk2,rfl⟩,rfl⟩:=r2.two
   refine PySem.W.kat_lt e1 d1 e2 d2 ?_
   refine PySem.W.kat_cons (wpAny_eqBool_int ?_)
   unfold ltP at hC
   refine PySem.W.kat_go (fun e=>?_) (fun e=>?_)
   ·have e:n1=n2:=by simpa using e
    rw [if_pos e] at hC
    refine PySem.W.kat_yes (PySem.W.kat_cons (au7 I1 l1 l2 (by show X.A.units+1+1+1<cLine;omega) _ _ _ _ ?_))
    refine PySem.W.kat_go (fun e=>?_) (fun e=>?_)
    ·have e:x1=x2:=by simpa using e
     subst e
     rw [Ro] at hC
     exact PySem.W.kat_yes (PySem.W.kat_nil hC)
    ·exact PySem.W.kat_no (PySem.W.kat_one _ _ (aw3 I1 l1 l2 (by show X.A.units+1+1<cLine;omega) hC))
   ·have e:¬ n1=n2:=by simpa using e
    rw [if_neg e] at hC
    exact PySem.W.kat_no (oneLt_int hC)
  ·refine⟨.ref D,upd H D (.lst (p.toList.map fun i=>(soV ds).getD i .non)),?_,rfl,q D (I.hok.fresh hD)⟩
   refine I.laid (t':=s.toks) (fun b u e=>(sb.2 b (aH (aG (aB e) hD))).trans (keep b u e)) hD ⟨?_,_,c,Od ri p.toList (fun i hi=>by rw [hl];exact ah3 hr hp i hi),g2⟩
   rw [ae,hz,cZ]
   omega
 ·exact h.elim
end L2
namespace PySem
section
variable {prog:aV} {w:bM} {K:Type} [DecidableEq K] {knd:HeapKind prog w K} {A:bi} {E:Value->aj->Prop} {s:aj}
theorem Ec {d a:Addr} {xs:List (K×Addr×Value)} {k:K} {v:Value} {Q:Value->aj->Prop} (hu:knd.room A) (hkey:knd.is s.heap k a) (hm:s.heap.DictOfH knd d xs)
  (h1:∀ p,lG xs k=some p->Q p.2 { s with toks:=s.toks+knd.draws k })
  (h2:lG xs k=none -> ∀ h',h'.DictOfH knd d (storedH xs k a v)->bc d s.heap h'->Q v { s with heap:=h',toks:=s.toks+knd.draws k })
  (hsz:xs.length<=sizeLine):aI (model prog w) A (ka d (.ref a) v) Q E s:=by
 obtain⟨o,es,ep,ho,hc,hd,he,his,hn⟩:=hm
 unfold ka
 try with_reducible refine bx ?_
 refine af (knd.pyHash hu hkey ?_)
 refine af (wpAny_dictFind_heap (s:={ s with toks:=s.toks+knd.draws k }) hu hkey ho hd he his hn ?_ ?_)
 ·intro hno
  have hnot:k∉xs.map (·.1):=not_mem_keys_of_get hno
  refine af (hX (af (wpAny_updateDictKeys (hz:=by have e:=size_of_entries he;omega) (s:={ s with toks:=s.toks+knd.draws k }) ho hd (al (h2 (gE hno) _ ⟨_,_,ep+1,aU _ ho (Obj.isFreed_of_dict (jY hd _)),
   hc.mapDictKeys _,jY hd _,?_,?_,?_⟩ (cu ..))))))
  ·rw [lW (gE hno)]
   simp [he,entryOfKey]
  ·rw [lW (gE hno)]
   intro x hx
   rcases List.mem_append.mp hx with hx|hx
   ·exact knd.keeps (his x hx) ho hd (cu ..)
   ·simp only [bP] at hx
    subst hx
    exact knd.keeps hkey ho hd (cu ..)
  ·rw [lW (gE hno)]
   rw [az,iN]
   refine⟨hn,by simp,?_⟩
   intro x hx y hy
   simp only [be,gO,bP] at hy
   subst hy
   exact fun e=>hnot (e▸hx)
 ·intro j p hj
  refine af (gH (s:={ s with toks:=s.toks+knd.draws k }) ho hd ?_)
  rw [entry_at he j,hj]
  exact af (hX (al (h1 p (atKey_of_get hn hj))))
theorem He (knd:HeapKind prog w K) (d a:Addr) (hd:(d==dI)=false) (dflt:Value) :
  MeetsIn prog w (ar.«dict.setdefault» ⟨[.ref d,.ref a,dflt],[]⟩) (fun A R s=>knd.room A.in1 /\ ∃ k xs,knd.is s.heap k a/\s.heap.DictOfH knd d xs/\xs.length<=sizeLine /\
   (∀ p,lG xs k=some p->R (.ok (.ret p.2)) { s with toks:=s.toks+knd.draws k }) /\
   (lG xs k=none -> ∀ h',h'.DictOfH knd d (storedH xs k a dflt)->bc d s.heap h'->R (.ok (.ret dflt)) { s with heap:=h',toks:=s.toks+knd.draws k })):=
 .of_wp fun A R s ⟨hu,k,xs,hkey,hm,hz,h1,h2⟩=>by
  unfold ar.«dict.setdefault»
  refine af ?_
  unfold Builtin.Dict.keyAndDefault
  refine af (wpAny_notOrdered_dict hm.typeIs ?_)
  show aI _ _ (pure (d,aY a,some dflt)) _ _ s
  refine al ?_
  show aI _ _ (if (d==dI)=true then _ else (ka d (.ref a) dflt >>= _)) _ _ s
  rw [if_neg (by rw [hd];exact am)]
  exact af (Ec hu hkey hm (fun p hp=>al ⟨_,rfl,h1 p hp⟩) (fun hn h' hm' hs'=>al ⟨dflt,rfl,h2 hn h' hm' hs'⟩) hz)
end
end PySem
namespace L2
open PySem PySem.Spec PyProof.Rows
noncomputable def J0:V->List V->Hp->VK->Prop:=fun x xs H Q=>∃ p b kvs ks v,x=.ref p/\xs=[.ref b,v]/\H p=some (.dT kvs)/\H b=some (.tup (i7 kV ks))/\kvs.length<sizeLine/\(match Bn kvs ks with
 | some w=>Q w H
 | none=>Q v (upd H p (.dT (Dl kvs ks v))))
theorem Y0 {X:Cx} (hu:X.A.units+64<cLine):MtR X "dict.setdefault" J0:=by
 intro pins s σ H x xs v us Q I rx rs h
 obtain⟨p,b,kvs,ks,y,rfl,rfl,e,eb,hl,q⟩:=h
 cases rx
 obtain⟨u1,u2,rfl,ru,rv⟩:=rs.two
 cases ru
 obtain⟨z,hd,ms,rel,dd⟩:=a28 I.hok e
 have hz:ms.length<=sizeLine:=by rw [<- g9 rel];exact z
 have hv:=rel.val ks
 refine lB g_ dd.typeIs PySem.F.entry_dict_setdefault (PySem.F.args_dict_setdefault_3 _ _ _) (He (jQ (A7 X.prog X.w)) p b hd u2) ⟨eR (by omega),ks,ms,Ib I.hok eb,dd,hz,fun r hr=>?_,fun hr h' dd' hs=>?_⟩
 ·rw [hr] at hv
  cases e2:Bn kvs ks with
  | none=>rw [e2] at hv;cases hv
  | some w=>rw [e2] at hv q;exact⟨w,H,I.tok _,hv,q⟩
 ·rw [hr] at hv
  cases e2:Bn kvs ks with
  | some w=>rw [e2] at hv;cases hv
  | none=>
   rw [e2] at q
   have hl2:(Dl kvs ks y).length<=sizeLine:=by have:=Ei kvs ks y;omega
   refine⟨y,_,?_,rv,q⟩
   obtain⟨q,es,ep,hq,h2,h3,h4,_,h5⟩:=dd'
   refine G8 I (by rw [e];exact bC) hs ⟨q,hq⟩ ⟨hl2,hd,_,(rel.put ks eb rv).keeps fun c ys ec=>?_,q,es,ep,hq,h2,h3,h4,h5⟩
   rw [Ai (a50 ec e (fun z=>nomatch z))]
   exact ec
noncomputable abbrev RF:=List V->Hp->VK->Prop
noncomputable def Nl (x:V) (T:String):Bool:=match x with
 | .int _=>T == "int"
 | .bl _=>T == "bool" || T == "int"
 | .str _=>T == "str"
 | _=>false
noncomputable def okT (T:String):Bool:=["int", "bool", "str", "list", "tuple", "dict"].contains T
noncomputable def Fs (K:ac):RF:=fun xs H Q=>match xs with
 | [.int i,.ty T]=>okT T=true/\Q (.bl (Nl (.int i) T)) H
 | [.bl i,.ty T]=>okT T=true/\Q (.bl (Nl (.bl i) T)) H
 | [.str i,.ty T]=>okT T=true/\Q (.bl (Nl (.str i) T)) H
 | [.non,.ty T]=>okT T=true/\Q (.bl (Nl .non T)) H
 | [x,.ty T]=>∃ t b,TyX K H x t/\fJ K t (.type T)=some b/\Q (.bl b) H
 | [x,.ref C]=>(∃ t b,TyX K H x t/\fJ K t (.ref C)=some b/\Q (.bl b) H)\/False
 | _=>False
noncomputable def Cq (K:ac):RF:=fun xs H Q=>match xs with
 | [.str z]=>z.length<=sizeLine/\Q (.int z.length) H
 | [.ref p]=>(∃ ys,(SqL K H p ys\/SqT K H p ys)/\Q (.int ys.length) H) \/ ∃ kvs,Rd H p (.dK kvs)/\Q (.int kvs.length) H
 | _=>False
noncomputable def U7 (K:ac):RF:=fun xs H Q=>match xs with
 | [.ref p]=>∃ bs:List Bool,SqL K H p (bs.map V.bl)/\Q (.bl (bs.all fun b=>b)) H
 | _=>False
noncomputable def a06:RF:=fun xs H Q=>match xs with
 | [.int i]=>Q (.int i) H
 | [.bl k]=>Q (.int (if k then 1 else 0)) H
 | _=>False
noncomputable def Ds (K:ac):RF:=fun xs H Q=>match xs with
 | [.ref p]=>∃ ys,(SqL K H p ys\/SqT K H p ys) /\ ∀ l,H l=none->Q (.ref l) (upd H l (.lst ys))
 | _=>False
noncomputable def Io (K:ac):RF:=fun xs H Q=>match xs with
 | [.ref p]=>∃ ys,(SqL K H p ys /\ ∀ l,H l=none->Q (.ref l) (upd H l (.tup ys)))\/(SqT K H p ys/\Q (.ref p) H)
 | _=>False
inductive BF where
 | bf (id:String)|ty (T:String)
noncomputable def ba7 (K:ac) (calm:Bool) (x:Str):Option (BF×RF):=
 if x = "len" then some (.bf "len", Cq K) else
 if x = "isinstance" then some (.bf "isinstance", Fs K) else
 if x = "all" then (if calm=true then some (.bf "all", U7 K) else none) else
 if x = "int" then some (.ty "int", a06) else
 if x = "list" then some (.ty "list", Ds K) else
 if x = "tuple" then some (.ty "tuple", Io K) else
 if x = "sorted" then some (.bf "sorted", J1 K) else
 none
noncomputable def BF.val:BF->Value
 | .bf id=>.builtin id
 | .ty T=>.type T
section
variable {X:Cx}
theorem Ui {K:ac} {x:V} {T:String} (hx:B7 x=true) (h:okT T=true):∃ t,(∀ H,TyOf K H x t)/\fJ K t (.type T)=some (Nl x T):=by
 have hT:T = "int" \/ T = "bool" \/ T = "str" \/ T = "list" \/ T = "tuple" \/ T = "dict" := by
  unfold okT at h
  simpa using h
 cases x with
 | int i=>refine⟨_,fun H=>TyOf.int i,?_⟩;rcases hT with rfl|rfl|rfl|rfl|rfl|rfl <;> rfl
 | bl i=>refine⟨_,fun H=>TyOf.bl i,?_⟩;rcases hT with rfl|rfl|rfl|rfl|rfl|rfl <;> rfl
 | str i=>refine⟨_,fun H=>TyOf.str i,?_⟩;rcases hT with rfl|rfl|rfl|rfl|rfl|rfl <;> rfl
 | non=>refine⟨_,fun H=>TyOf.non,?_⟩;rcases hT with rfl|rfl|rfl|rfl|rfl|rfl <;> rfl
 | _=>cases hx
theorem ae3:Cz X (.builtin "isinstance") (Fs X.K):=by
 intro pins s σ H xs us Q I r h
 have sc:∀ x T,xs=[x,.ty T]->B7 x=true->okT T=true->Q (.bl (Nl x T)) H->aI (model X.prog X.w) X.A (call (.builtin "isinstance") us) (EP X pins σ Q) X.xe s:=fun x T e hx hT q=>by
  subst e
  obtain⟨t,ht,hk⟩:=Ui (K:=X.K) hx hT
  exact ae2 pins s σ H _ us Q I r ⟨x,T,t,_,rfl,ht H,hk,q⟩
 unfold Fs at h
 split at h
 ·exact sc _ _ rfl rfl h.1 h.2
 ·exact sc _ _ rfl rfl h.1 h.2
 ·exact sc _ _ rfl rfl h.1 h.2
 ·exact sc _ _ rfl rfl h.1 h.2
 ·obtain⟨t,b,ty,e,q⟩:=h
  obtain⟨u,v,rfl,ru,rv⟩:=r.two
  cases rv
  exact Kq I ru ty e fun tk=>⟨.bl b,H,I.tok tk,rfl,q⟩
 ·obtain⟨u,v,rfl,ru,rv⟩:=r.two
  rcases h with ⟨t,b,ty,e,q⟩|h
  ·cases rv
   exact Kq I ru ty e fun tk=>⟨.bl b,H,I.tok tk,rfl,q⟩
  ·exact h.elim
 ·exact h.elim
theorem Xz:Cz X (.builtin "len") (Cq X.K):=by
 intro pins s σ H xs us Q I r h
 unfold Cq at h
 split at h
 ·exact Om pins s σ H _ us Q I r ⟨_,rfl,h.1,h.2⟩
 ·rcases h with ⟨ys,h1,h2⟩|⟨kvs,h1,h2⟩
  ·exact Ol pins s σ H _ us Q I r ⟨_,ys,rfl,h1,h2⟩
  ·obtain⟨u,rfl,ru⟩:=Go r
   cases ru
   exact bt6 I h1 fun t s' I'=>⟨.int _,H,I',⟨t,rfl⟩,h2⟩
 ·exact h.elim
theorem Xx (hc:X.calm=true):Cz X (.builtin "all") (U7 X.K):=by
 intro pins s σ H xs us Q I r h
 unfold U7 at h
 split at h
 ·obtain⟨bs,h1,h2⟩:=h
  exact ae1 hc pins s σ H _ us Q I r ⟨_,bs,rfl,h1,h2⟩
 ·exact h.elim
theorem Xy:Cz X (.type "int") a06:=by
 intro pins s σ H xs us Q I r h
 unfold a06 at h
 split at h
 ·exact M3 pins s σ H _ us Q I r (.inl ⟨_,rfl,h⟩)
 ·exact M3 pins s σ H _ us Q I r (.inr ⟨_,rfl,h⟩)
 ·exact h.elim
theorem Tl:Cz X (.type "list") (Ds X.K):=by
 intro pins s σ H xs us Q I r h
 unfold Ds at h
 split at h
 ·obtain⟨ys,h1,h2⟩:=h
  exact On pins s σ H _ us Q I r ⟨_,ys,rfl,h1,h2⟩
 ·exact h.elim
theorem X0:Cz X (.type "tuple") (Io X.K):=by
 intro pins s σ H xs us Q I r h
 unfold Io at h
 split at h
 ·obtain⟨ys,h1⟩:=h
  exact Ml pins s σ H _ us Q I r ⟨_,ys,rfl,h1⟩
 ·exact h.elim
theorem at4 (hu:X.A.units+64<cLine) {x:Str} {f:BF} {r:RF} {c:Bool} (h:ba7 X.K c x=some (f,r)) (hc:c=X.calm):dF x=some f.val/\Cz X f.val r:=by
 unfold ba7 at h
 by_cases e:x = "len"
 ·rw [if_pos e] at h;cases h;rw [e];exact⟨PySem.boot_len,Xz⟩
 rw [if_neg e] at h
 by_cases e:x = "isinstance"
 ·rw [if_pos e] at h;cases h;rw [e];exact⟨PyProof.Rows.boot_isinstance,ae3⟩
 rw [if_neg e] at h
 by_cases e:x = "all"
 ·rw [if_pos e] at h
  by_cases ec:c=true
  ·rw [if_pos ec] at h;cases h;rw [e];exact⟨PyProof.Rows.boot_all,Xx (hc▸ec)⟩
  ·rw [if_neg ec] at h;cases h
 rw [if_neg e] at h
 by_cases e:x = "int"
 ·rw [if_pos e] at h;cases h;rw [e];exact⟨jK,Xy⟩
 rw [if_neg e] at h
 by_cases e:x = "list"
 ·rw [if_pos e] at h;cases h;rw [e];exact⟨dq,Tl⟩
 rw [if_neg e] at h
 by_cases e:x = "tuple"
 ·rw [if_pos e] at h;cases h;rw [e];exact⟨i8,X0⟩
 rw [if_neg e] at h
 by_cases e:x = "sorted"
 ·rw [if_pos e] at h;cases h;rw [e];exact⟨Q6,Oo hu⟩
 rw [if_neg e] at h
 cases h
noncomputable abbrev RM:=V->List V->Hp->VK->Prop
structure BM where
 T:String
 id:String
 r:RM
noncomputable def rMt (K:ac) (bs:List BM):V->Hp->(Hp->(List V->Hp->Prop)->Prop)->VK->Prop:=fun x H1 ta Q=>
 match bs with
 | []=>False
 | [b]=>tyV K b.T x H1/\ta H1 fun xs H2=>b.r x xs H2 Q
 | b::rest=>(tyV K b.T x H1/\ta H1 fun xs H2=>b.r x xs H2 Q)\/rMt K rest x H1 ta Q
structure a72 (X:Cx) (m:Str) (b:BM):Prop where
 pa:PlainAttrs b.T
 slot:Slot b.T m b.id
 ty:typeOf (.builtin b.id)=pure (.type "method_descriptor")
 mt:MtR X b.id b.r
noncomputable def an0 (K:ac):RM:=fun x xs H Q=>∃ z p ys,x=.str z/\xs=[.ref p]/\SqL K H p (ys.map V.str)/\(ys.map (·.length)).sum+ys.length * z.length<=16777216/\Q (.str (Txt.join z ys)) H
noncomputable def Xa:RM:=fun x xs H Q=>∃ i,x=.int i/\xs=[]/\Q (.int (hZ i:Nat)) H
noncomputable def Jy:RM:=fun x xs H Q=>∃ p kvs,x=.ref p/\xs=[]/\H p=some (.dK kvs)/\Q .non (upd H p (.dK []))
theorem Yy:MtR X "dict.clear" Jy:=by
 intro pins s σ H x xs v us Q I rx rs h
 obtain⟨p,kvs,rfl,rfl,e,q⟩:=h
 cases rx
 cases rs
 exact at7 I e fun s' I'=>⟨.non,_,I',rfl,q⟩
noncomputable def mtR (K:ac) (m:Str):List BM:=
 if m = "append" then [⟨"list", "list.append", El⟩] else
 if m = "extend" then [⟨"list", "list.extend", Gc⟩] else
 if m = "clear" then [⟨"list", "list.clear", U8⟩,⟨"dict", "dict.clear", Jy⟩] else
 if m = "join" then [⟨"str", "str.join", an0 K⟩] else
 if m = "bit_length" then [⟨"int", "int.bit_length", Xa⟩] else
 if m = "setdefault" then [⟨"dict", "dict.setdefault", J0⟩] else []
theorem aj3 {m:Str} {b:BM} (hu:X.A.units+64<cLine) (h:b∈mtR X.K m):a72 X m b:=by
 unfold mtR at h
 by_cases e:m = "append"
 ·rw [if_pos e] at h
  have:b=⟨"list", "list.append", El⟩:=by simpa using h
  subst this;subst e
  exact⟨gi,PySem.F.slot_list_append,PySem.F.type_list_append,Nx⟩
 rw [if_neg e] at h
 by_cases e:m = "extend"
 ·rw [if_pos e] at h
  have:b=⟨"list", "list.extend", Gc⟩:=by simpa using h
  subst this;subst e
  exact⟨gi,PySem.F.slot_list_extend,PySem.F.type_list_extend,Yz⟩
 rw [if_neg e] at h
 by_cases e:m = "clear"
 ·rw [if_pos e] at h
  rcases List.mem_cons.mp h with this|h
  ·subst this;subst e
   exact⟨gi,PySem.F.slot_list_clear,PySem.F.type_list_clear,aj4⟩
  ·have:b=⟨"dict", "dict.clear", Jy⟩:=by simpa using h
   subst this;subst e
   exact⟨gh,i9,PySem.F.type_dict_clear,Yy⟩
 rw [if_neg e] at h
 by_cases e:m = "join"
 ·rw [if_pos e] at h
  have:b=⟨"str", "str.join", an0 X.K⟩:=by simpa using h
  subst this;subst e
  exact⟨PySem.F.plainAttrs_str,PySem.F.slot_str_join,PySem.F.type_str_join,aw6⟩
 rw [if_neg e] at h
 by_cases e:m = "bit_length"
 ·rw [if_pos e] at h
  have:b=⟨"int", "int.bit_length", Xa⟩:=by simpa using h
  subst this;subst e
  exact⟨PySem.F.plainAttrs_int,PySem.F.slot_int_bit_length,PySem.F.type_int_bit_length,aw5⟩
 rw [if_neg e] at h
 by_cases e:m = "setdefault"
 ·rw [if_pos e] at h
  have:b=⟨"dict", "dict.setdefault", J0⟩:=by simpa using h
  subst this;subst e
  exact⟨gh,g_,PySem.F.type_dict_setdefault,Y0 hu⟩
 rw [if_neg e] at h
 cases h
theorem Pr {K:ac}:∀ {bs:List BM} {x:V} {H1:Hp} {ta:Hp->(List V->Hp->Prop)->Prop} {Q:VK},rMt K bs x H1 ta Q -> ∃ b∈bs,tyV K b.T x H1/\ta H1 fun xs H2=>b.r x xs H2 Q
 | [],_,_,_,_,h=>h.elim
 | [b],_,_,_,_,h=>⟨b,by simp,h⟩
 | b::c::rest,x,H1,ta,Q,h=>by
  rcases h with h|h
  ·exact⟨b,by simp,h⟩
  ·obtain⟨d,hd,q⟩:=Pr h
   exact⟨d,aL _ hd,q⟩
noncomputable def Db:Expr->Bool
 | .Call (.Name x _) [] [] _=>!(x==("super" : Str))
 | _=>true
theorem D6 {e:Expr} (h:Db e=true) (f:Str) (env:Env) (whole:Sem Value):jb e f env whole=whole:=by
 unfold jb
 split
 ·rename_i id p pos
  have:(id==("super" : Str))=false:=by
   have h':(!(id==("super" : Str)))=true:=h
   simpa using h'
  have e2:(id != "super")=true:=by
   show (!(id == "super"))=true
   rw [this]
   rfl
  rw [e2]
  simp
 ·rfl
variable {o:Expr} {do':DE} {es:List Expr} {r:DA} {m:Str} {apos cpos:Pos}
theorem bi6 {bs:List BM} (hb:∀ b∈bs,a72 X m b) (ho:QE X o do') (h1:Db o=true) (h4:(apos.endLine==cpos.line)=true) :
  QE X (.Call (.Attribute o m apos) [] [] cpos) (dMt (rMt X.K bs) do' Aj):=by
 intro Ex mt pins s σ H Q I h
 refine jf (D6 h1 m X.env _) h4 (thn (ho Ex mt pins s σ H _ I h) fun v s1 ⟨x,H1,I1,r1,q1⟩=>?_)
 obtain⟨b,hbm,ty,q⟩:=Pr q1
 obtain⟨k1,k2⟩:=aq9 I1 r1 ty
 have B:=hb b hbm
 exact⟨b.T,b.id,B.pa,B.slot,B.ty,k1,k2,gu rfl (kh (B.mt pins s1 σ H1 x [] v [] Q I1 r1 .nil q))⟩
theorem b04 {bs:List BM} {e:Expr} (hb:∀ b∈bs,a72 X m b) (ho:QE X o do') (ha:QA X (e::es) r) (h1:Db o=true) (h2:(e::es).all noStar=true) (h3:(e::es).length<30) (h4:(apos.endLine==cpos.line)=true) :
  QE X (.Call (.Attribute o m apos) (e::es) [] cpos) (dMt (rMt X.K bs) do' r):=by
 intro Ex mt pins s σ H Q I h
 have hs:=bw▸h2
 rw [ax] at hs
 have hfew:((iE cpos (dm (e::es) X.env)).all (fun x=>!x.1)&&(l8 cpos (kq [] X.env)).all (fun x=>x.1.isSome)
   && decide ((e::es).length+([]:List lM).length+(if ([]:List lM).isEmpty then 0 else 1)<30))=true:=by
  rw [Jg h2]
  have:decide ((e::es).length+([]:List lM).length+(if ([]:List lM).isEmpty then 0 else 1)<30)=true:=by
   rw [decide_eq_true_iff]
   simpa using h3
  rw [this]
  rfl
 refine wpAny_Call_method_late (D6 h1 m X.env _) hfew h4 rfl (thn (ho Ex mt pins s σ H _ I h) fun v s1 ⟨x,H1,I1,r1,q1⟩=>?_)
 obtain⟨b,hbm,ty,q⟩:=Pr q1
 obtain⟨k1,k2⟩:=aq9 I1 r1 ty
 have B:=hb b hbm
 refine⟨b.T,b.id,B.pa,B.slot,B.ty,k1,k2,?_⟩
 have hA:=ha Ex mt cpos pins s1 σ H1 _ I1 q
 rw [Aw hs.1] at hA ⊢
 refine gu (by show (false||(iE cpos (dm es X.env)).any (·.1))=false;rw [Bf hs.2] <;> rfl) (Calls.evalArgs_plain ?_)
 exact thn hA fun us s2 ⟨vs,H2,I2,r2,q2⟩=>B.mt pins s2 σ H2 x vs v us Q I2 r1 r2 q2
variable {x:Str} {p pos:Pos} {G:Sg}
theorem bi1 {f:BF} {rf:RF} {e:Expr} (hc:Cz X f.val rf) (hg:Gl X x) (hm:X.mg x=none) (hv:dF x=some f.val) (ha:QA X (e::es) r) (hs:(e::es).all noStar=true) (hn:x ≠ "__name__") (hdb:(x==("__debug__" : Str))=false) :
  QE X (.Call (.Name x p) (e::es) [] pos) (dFn (fun vs H Q _=>rf vs H Q) r):=by
 intro Ex mt
 have h:=bw▸hs
 rw [ax] at h
 cases f with
 | bf id=>exact ak4 hc hg hm hv (ha Ex mt) hn hdb (Aw h.1 es X.env) (Bf h.2 X.env pos)
 | ty T=>exact Y7 hc hg hm hv (ha Ex mt) hn hdb (Aw h.1 es X.env) (Bf h.2 X.env pos)
noncomputable def spE (sp:Sp) (dvs:List V):List V->Hp->VK->EK->Prop:=fun vs H Q E=>sp (vs++dvs) H Q (fun v _ H'=>∃ a,v=.ref a/\E a H')
theorem J2 {i:FI} (F:J6 X i) {j:Nat} (hj:j<=i.dfs.length) {Ex:St->EK} (mt:Meets X Ex) {pins:List (Addr×Obj)} {σ:St} {H:Hp} {s:aj} {Q:VK} {us:List Value} {vs:List V}
  (I:Inv X pins σ H s) (r:Vals vs us) (h:spE i.sp (i.dfs.drop j) vs H Q (Ex σ)):aI (model X.prog X.w) X.A (call (.ref i.f) us) (EP X pins σ Q) X.xe s:=by
 obtain⟨CX,hx,FO⟩:=F.ok
 have r2:Vals (vs++i.dfs.drop j) (us++i.ds.drop j):=r.append (F.vals.drop j)
 have hl:(us++i.ds.drop j).length=i.ps.length:=by rw [<- r2.length];exact FO.len _ _ _ _ h
 refine gG (gT (FO.run X.A X.stack s H ⟨us,[]⟩ (us++i.ds.drop j) (vs++i.dfs.drop j) Q _ F.room I.env0 (F.binds j hj s us I.kIn hl) r2 h) fun r s' hq=>?_)
 cases r with
 | error e=>exact hx X rfl rfl Ex mt pins σ H s e s' I hq
 | ok fl=>
  cases fl with
  | ret u=>exact I.after hq
  | next=>exact dY hq
  | brk=>exact dY hq
  | cont=>exact dY hq
theorem al9 {i:FI} (F:J6 X i) {j:Nat} (hj:j<=i.dfs.length) (hg:Gl X x) (hm:X.mg x=some (.ref i.f)) (hdb:(x==("__debug__" : Str))=false) :
  QE X (.Call (.Name x p) [] [] pos) (dFn (spE i.sp (i.dfs.drop j)) Aj):=by
 intro Ex mt pins s σ H Q I h
 refine bp (Dr I hg hm ?_ hdb)
 exact fR I.kIn F.kp (J2 (us:=[]) F hj mt I .nil h)
theorem az2 {i:FI} {e:Expr} (F:J6 X i) {j:Nat} (hj:j<=i.dfs.length) (hg:Gl X x) (hm:X.mg x=some (.ref i.f)) (ha:QA X (e::es) r) (hs:(e::es).all noStar=true) (hdb:(x==("__debug__" : Str))=false) :
  QE X (.Call (.Name x p) (e::es) [] pos) (dFn (spE i.sp (i.dfs.drop j)) r):=by
 intro Ex mt pins s σ H Q I h
 have h2:=bw▸hs
 rw [ax] at h2
 refine bp (Dr I hg hm ?_ hdb)
 refine gk (h₀:=X.base) I.ok.mod.kin F.kp (thn (ha Ex mt pos pins s σ H _ I h) fun us s1 ⟨vs,H1,I1,r,q⟩=>⟨I1.kIn,?_⟩) (Aw h2.1 es X.env) (Bf h2.2 X.env pos)
 exact J2 F hj mt I1 r q
noncomputable def mkX (C:Addr):Option FI->Nat->List V->Hp->VK->EK->Prop
 | none,_=>fun _ H Q _=>∀ a,H a=none->Q (.ref a) (upd H a (Mq a C none))
 | some i,j=>fun _ _ _ _=>False
theorem Xe {C:Addr} {oi:Option FI} {j:Nat} (c:ECls X.K C) (hi:Hq X C oi) (hj:∀ i,oi=some i->j<=i.dfs.length) {Ex:St->EK} (mt:Meets X Ex) {pins:List (Addr×Obj)} {σ:St} {H:Hp} {s:aj} {Q:VK} {us:List Value} {vs:List V}
  (I:Inv X pins σ H s) (rv:Vals vs us) (hl:vs.length<=1000) (h:mkX C oi j vs H Q (Ex σ)):aI (model X.prog X.w) X.A (call (.ref C) us) (EP X pins σ Q) X.xe s:=by
 cases oi with
 | none=>exact Vc c hi I rv hl h
 | some i=>
  exact (show False from h).elim
theorem W7 {C:Addr} {oi:Option FI} {j:Nat} (c:ECls X.K C) (hi:Hq X C oi) (hj:∀ i,oi=some i->j<=i.dfs.length) (kp:aR X.K (.ref C)=true) (hg:Gl X x) (hm:X.mg x=some (.ref C)) (hdb:(x==("__debug__" : Str))=false) :
  QE X (.Call (.Name x p) [] [] pos) (dFn (mkX C oi j) Aj):=by
 intro Ex mt pins s σ H Q I h
 refine bp (Dr I hg hm ?_ hdb)
 exact fR I.kIn kp (Xe (us:=[]) c hi hj mt I .nil (by simp) h)
theorem U2 {C:Addr} {oi:Option FI} {j:Nat} {e:Expr} (c:ECls X.K C) (hi:Hq X C oi) (hj:∀ i,oi=some i->j<=i.dfs.length) (kp:aR X.K (.ref C)=true) (hg:Gl X x) (hm:X.mg x=some (.ref C)) (ha:QA X (e::es) r) (hs:(e::es).all noStar=true) (hdb:(x==("__debug__" : Str))=false) :
  QE X (.Call (.Name x p) (e::es) [] pos) (dFn (fun vs H Q E=>vs.length<=1000/\mkX C oi j vs H Q E) r):=by
 intro Ex mt pins s σ H Q I h
 have h2:=bw▸hs
 rw [ax] at h2
 refine bp (Dr I hg hm ?_ hdb)
 refine gk (h₀:=X.base) I.ok.mod.kin kp (thn (ha Ex mt pos pins s σ H _ I h) fun us s1 ⟨vs,H1,I1,r,q⟩=>⟨I1.kIn,?_⟩) (Aw h2.1 es X.env) (Bf h2.2 X.env pos)
 exact Xe c hi hj mt I1 r q.1 q.2
noncomputable def mkC (C:Addr):Option FI->Nat->List V->Hp->VK->EK->Prop
 | none,_=>fun vs H Q _=>vs=[] /\ ∀ a dx,H a=none->H dx=none->dx≠a->Q (.ref a) (upd (upd H dx (.own a)) a (.ins C dx []))
 | some i,j=>fun vs H Q E=>∀ a dx,H a=none->H dx=none->dx≠a ->
   i.sp (.ref a::(vs++i.dfs.drop j)) (upd (upd H dx (.own a)) a (.ins C dx [])) (fun v H2=>v=.non/\Q (.ref a) H2) (fun v _ H'=>∃ b,v=.ref b/\E b H')
theorem Zd {C:Addr} (h1:cX X.K C=true) (h2:aD X.K (.ref C) "__init__" = some (some (.builtin "object.__init__"))) {pins:List (Addr×Obj)} {σ:St} {H:Hp} {s:aj} {Q:VK}
  (I:Inv X pins σ H s) (h:∀ a dx,H a=none->H dx=none->dx≠a->Q (.ref a) (upd (upd H dx (.own a)) a (.ins C dx []))):aI (model X.prog X.w) X.A (call (.ref C) []) (EP X pins σ Q) X.xe s:=by
 have hq:=h (s.heap.objs.size+1) s.heap.objs.size (I.hok.fresh (cE _)) (I.hok.fresh (ay _)) (aH (df _))
 have I2:=Inv.made (C:=C) I
 have e2:((s.heap.push bH).push (bV C s.heap.objs.size)).get? (s.heap.objs.size+1)=some (bV C s.heap.objs.size):=by
  have z:=aw (s.heap.push bH) (o:=bV C s.heap.objs.size) rfl
  rwa [bJ] at z
 refine gG (Yx I.kIn h1 h2 (fun self=>.of_pure (PySem.W.oi_bind self)) ?_)
 have ty:hG (model X.prog X.w) ((s.heap.push bH).push (bV C s.heap.objs.size)) (typeOf (.ref (s.heap.objs.size+1))) (.ref C):=(PySem.W.Looks.ld e2).andThen .now
 have io:hG (model X.prog X.w) ((s.heap.push bH).push (bV C s.heap.objs.size)) (kZ (.ref (s.heap.objs.size+1)) (.type "object")) true:=
  ty.andThen ((jl (M:=model X.prog X.w) I.kIn h1).top.keeps fun b o e=>ag _ (ag _ e))
 refine fG PySem.W.oi_plain PySem.W.entry_oi (PySem.W.check_slot (s:={ s with heap:=(s.heap.push bH).push (bV C s.heap.objs.size) }) (i := "object.__init__") (owner := "object") (self:=.ref (s.heap.objs.size+1)) PySem.W.oi_kind PySem.W.oi_split io (PySem.W.oi_args _) ?_)
 rw [PySem.W.oi_run]
 exact al ⟨rfl,⟨.ref _,_,I2,rfl,hq⟩⟩
theorem a08 {C f:Addr} {CX:CXT} {k:Nat} {fd:aA} {ps:List Str} {sp:Sp} {ds:List Value} {dvs:List V} {E:XK} {pins:List (Addr×Obj)} {σ:St} {H:Hp} {s:aj} {Q:VK} {us:List Value} {vs:List V}
  (M:Mk X.K C f) (F:FnOk X.prog X.w X.K X.mg X.base CX k f fd ps sp) (hr:Room (k+1) X.A) (hb:Binds X.K fd ps ds) (hd:Vals dvs ds) (hx:∀ H1 s1 e s',Inv X pins σ H1 s1->CX X.stack H1 s1 E e s'->X.xe e s') (I:Inv X pins σ H s) (r:Vals vs us)
  (h:∀ x dx,H x=none->H dx=none->dx≠x->sp (.ref x::(vs++dvs)) (upd (upd H dx (.own x)) x (.ins C dx [])) (fun v H2=>v=.non/\Q (.ref x) H2) E) :
  aI (model X.prog X.w) X.A (call (.ref C) us) (EP X pins σ Q) X.xe s:=by
 have hq:=h (s.heap.objs.size+1) s.heap.objs.size (I.hok.fresh (cE _)) (I.hok.fresh (ay _)) (aH (df _))
 have I2:=Inv.made (C:=C) I
 have r2:Vals (V.ref (s.heap.objs.size+1)::(vs++dvs)) (aY (s.heap.objs.size+1)::(us++ds)):=.cons rfl (r.append hd)
 have hl:(aY (s.heap.objs.size+1)::us++ds).length=ps.length:=by
  have e:=r2.length
  rw [F.len _ _ _ _ hq] at e
  exact e.symm
 refine gG (ai9 (f:=f) I.kIn M.makes M.init (beq_iff_eq.mp M.fn) (gT (F.run _ X.stack _ _ ⟨aY (s.heap.objs.size+1)::us,[]⟩ (aY (s.heap.objs.size+1)::(us++ds)) _ _ E (hr.make C us [])
  (I2.env0.make C us []) (hb _ (aY (s.heap.objs.size+1)::us) I2.kIn hl) r2 hq) fun r s' hq'=>?_))
 cases r with
 | error e=>exact hx _ _ e s' I2 hq'
 | ok fl=>
  cases fl with
  | ret u=>
   obtain⟨v,H',I3,rv,ev,q3⟩:=I2.after hq'
   subst ev
   exact⟨rv,⟨V.ref (s.heap.objs.size+1),H',I3,rfl,q3⟩⟩
  | next=>exact dY hq'
  | brk=>exact dY hq'
  | cont=>exact dY hq'
theorem Xd {C:Addr} {oi:Option FI} {j:Nat} (hi:as2 X C oi) (hj:∀ i,oi=some i->j<=i.dfs.length) {Ex:St->EK} (mt:Meets X Ex) {pins:List (Addr×Obj)} {σ:St} {H:Hp} {s:aj} {Q:VK} {us:List Value} {vs:List V}
  (I:Inv X pins σ H s) (rv:Vals vs us) (kp:aR X.K (.ref C)=true) (h:mkC C oi j vs H Q (Ex σ)):aI (model X.prog X.w) X.A (call (.ref C) us) (EP X pins σ Q) X.xe s:=by
 cases oi with
 | none=>
  obtain⟨rfl,h⟩:=h
  cases rv
  exact Zd hi.1 hi.2 I h
 | some i=>
  obtain⟨h0,h1,h2,F,hr⟩:=hi
  obtain⟨CX,hx,FO⟩:=F.ok
  exact a08 ⟨h0,h1,h2,kp⟩ FO hr (F.binds j (hj i rfl)) (F.vals.drop j) (fun H1 s1 e s' I1 q=>hx X rfl rfl Ex mt pins σ H1 s1 e s' I1 q) I rv h
theorem W6 {C:Addr} {oi:Option FI} {j:Nat} (hi:as2 X C oi) (hj:∀ i,oi=some i->j<=i.dfs.length) (kp:aR X.K (.ref C)=true) (hg:Gl X x) (hm:X.mg x=some (.ref C)) (hdb:(x==("__debug__" : Str))=false) :
  QE X (.Call (.Name x p) [] [] pos) (dFn (mkC C oi j) Aj):=by
 intro Ex mt pins s σ H Q I h
 refine bp (Dr I hg hm ?_ hdb)
 exact fR I.kIn kp (Xd (us:=[]) hi hj mt I .nil kp h)
theorem bi5 {C:Addr} {oi:Option FI} {j:Nat} {e:Expr} (hi:as2 X C oi) (hj:∀ i,oi=some i->j<=i.dfs.length) (kp:aR X.K (.ref C)=true) (hg:Gl X x) (hm:X.mg x=some (.ref C)) (ha:QA X (e::es) r) (hs:(e::es).all noStar=true) (hdb:(x==("__debug__" : Str))=false) :
  QE X (.Call (.Name x p) (e::es) [] pos) (dFn (mkC C oi j) r):=by
 intro Ex mt pins s σ H Q I h
 have h2:=bw▸hs
 rw [ax] at h2
 refine bp (Dr I hg hm ?_ hdb)
 refine gk (h₀:=X.base) I.ok.mod.kin kp (thn (ha Ex mt pos pins s σ H _ I h) fun us s1 ⟨vs,H1,I1,r,q⟩=>⟨I1.kIn,?_⟩) (Aw h2.1 es X.env) (Bf h2.2 X.env pos)
 exact Xd hi hj mt I1 r kp q
noncomputable def Fh (m:Str) (n:Nat) (l:List MI) (o:DE) (t:DA):DE:=fun σ H Q E=>o σ H (fun x H1=>∃ a dx fs mi,x=.ref a/\mi∈l/\H1 a=some (.ins mi.C dx fs)/\fs.lookup m=none/\(n+1<=mi.i.ps.length/\mi.i.ps.length<=n+1+mi.i.dfs.length) /\
 t σ H1 (fun vs H2=>spE mi.i.sp (mi.i.dfs.drop (n+1+mi.i.dfs.length - mi.i.ps.length)) (.ref a::vs) H2 Q E) E) E
theorem Ry {es:List Expr} {P:Value->aj->Prop} {s:aj} (h1:Db o=true) (h2:es.all noStar=true) (h3:es.length<30) (h4:(apos.endLine==cpos.line)=true)
  (h:aI (model X.prog X.w) X.A (eval o X.env) (fun ov s1=>∀ pl,aI (model X.prog X.w) X.A (getMethod ov m pl) (fun fx s2=>aI (model X.prog X.w) X.A (callWith cpos fx.1 fx.2 (iE cpos (dm es X.env)) (l8 cpos (kq [] X.env))) P X.xe s2) X.xe s1) X.xe s) :
  aI (model X.prog X.w) X.A (eval (.Call (.Attribute o m apos) es [] cpos) X.env) P X.xe s:=by
 have few:methodCallForm (es.length+([]:List lM).length) (iE cpos (dm es X.env)) (l8 cpos (kq [] X.env))=true:=by
  unfold methodCallForm
  rw [Jg h2]
  simpa [l8,kq] using h3
 rw [arm_eval_Call,D6 h1]
 refine af (thn h fun ov s1 h1=>af (eJ ?_))
 unfold methodCall calleeOf
 rw [few,if_pos rfl]
 refine af (bx (thn (h1 _) fun fx s2 h2=>?_))
 have hp:methodCallPos true o X.env apos cpos=pure cpos:=by unfold methodCallPos;rw [h4];rfl
 rw [hp]
 exact af (al h2)
theorem az8 {l:List MI} (hl:∀ mi∈l,Cls X.K mi.C/\Gp X.K mi.C m mi.i.f/\J6 X mi.i) (ho:QE X o do') (h1:Db o=true) (h4:(apos.endLine==cpos.line)=true) :
  QE X (.Call (.Attribute o m apos) [] [] cpos) (Fh m 0 l do' Aj):=by
 intro Ex mt pins s σ H Q I h
 refine Ry (es:=[]) h1 rfl (by decide) h4 (thn (ho Ex mt pins s σ H _ I h) fun u s1 ⟨x,H1,I1,rx,a,dx,fs,mi,ex,hm,ea,hf,hn,q⟩ pl=>?_)
 subst ex
 obtain rfl:u=aY a:=rx
 obtain⟨c,k,F⟩:=hl mi hm
 refine Kk I1 ea c k hf ?_
 exact fR (first:=[.ref a]) I1.kIn k.kp (J2 (us:=[.ref a]) (vs:=[.ref a]) F (by omega) mt I1 (.cons rfl .nil) q)
theorem bj0 {l:List MI} {e:Expr} (hl:∀ mi∈l,Cls X.K mi.C/\Gp X.K mi.C m mi.i.f/\J6 X mi.i) (ho:QE X o do') (ha:QA X (e::es) r) (h1:Db o=true) (h2:(e::es).all noStar=true) (h3:(e::es).length<30) (h4:(apos.endLine==cpos.line)=true) :
  QE X (.Call (.Attribute o m apos) (e::es) [] cpos) (Fh m (es.length+1) l do' r):=by
 intro Ex mt pins s σ H Q I h
 refine Ry h1 h2 h3 h4 (thn (ho Ex mt pins s σ H _ I h) fun u s1 ⟨x,H1,I1,rx,a,dx,fs,mi,ex,hm,ea,hf,hn,q⟩ pl=>?_)
 subst ex
 obtain rfl:u=aY a:=rx
 obtain⟨c,k,F⟩:=hl mi hm
 refine Kk I1 ea c k hf ?_
 have hs:=bw▸h2
 rw [ax] at hs
 refine gk (first:=[.ref a]) (h₀:=X.base) I.ok.mod.kin k.kp (thn (ha Ex mt cpos pins s1 σ H1 _ I1 q) fun us s2 ⟨vs,H2,I2,r2,q2⟩=>⟨I2.kIn,?_⟩) (Aw hs.1 es X.env) (Bf hs.2 X.env cpos)
 exact J2 (us:=.ref a::us) (vs:=.ref a::vs) F (by omega) mt I2 (.cons rfl r2) q2
noncomputable def G7:DE:=fun _ H Q _=>∀ p,H p=none->Q (.ref p) (upd H p (.dK []))\/Q (.ref p) (upd H p (.dT []))
theorem az5:QE X (.Dict [] [] pos) G7:=fun Ex mt pins s σ H Q I h=>by
 have fr:=I.hok.fresh (ay s.heap.objs.size)
 rcases h _ fr with q|q
 ·exact wpAny_Dict_empty ⟨.ref _,_,I.laid (a:=s.heap.objs.size) (o:=.dK []) (t':=s.toks) (fun _ _ q=>ag _ q) (ay _) (Re s.heap I.big),rfl,q⟩
 ·exact wpAny_Dict_empty ⟨.ref _,_,I.laid (a:=s.heap.objs.size) (o:=.dT []) (t':=s.toks) (fun _ _ q=>ag _ q) (ay _) (af1 s.heap I.big),rfl,q⟩
noncomputable def Tp:List (DE×DE)->St->Hp->(List (V×V)->Hp->Prop)->EK->Prop
 | [],_,H,Q,_=>Q [] H
 | (k,v)::r,σ,H,Q,E=>k σ H (fun x H1=>v σ H1 (fun y H2=>Tp r σ H2 (fun ps H3=>Q ((x,y)::ps) H3) E) E) E
noncomputable def ae6 (trs:List (DE×DE)):DE:=fun σ H Q E=>∀ p,H p=none->Tp trs σ (upd H p (.dK [])) (fun ps H2=>H2 p=some (.dK []) /\ ∃ kvs:List (Key×V),ps=kvs.map (fun kv=>(kV kv.1,kv.2))/\kvs.length<=15/\Q (.ref p) (upd H2 p (.dK (D4 [] kvs)))) E
theorem al3 {w:Expr->DE} (h:∀ e,QE X e (w e)) {Ex:St->EK} (mt:Meets X Ex) (pos:Pos):∀ (ks vs:List Expr),ks.length=vs.length->PPs X pos (ks.map some) vs ((ks.zip vs).map fun p=>((fun σ H Q=>w p.1 σ H Q (Ex σ)),fun σ H Q=>w p.2 σ H Q (Ex σ)))
 | [],[],_=>ay5
 | k::ks,v::vs,hl=>al2 (h k Ex mt) (h v Ex mt) (al3 h mt pos ks vs (by simpa using hl))
 | [],_::_,hl=>by simp at hl
 | _::_,[],hl=>by simp at hl
theorem Rb {Ex:St->EK} {w:Expr->DE}:∀ (l:List (Expr×Expr)) (σ:St) (H:Hp) (Q:List (V×V)->Hp->Prop),Tp (l.map fun p=>(w p.1,w p.2)) σ H Q (Ex σ)=P6 (l.map fun p=>((fun σ H Q=>w p.1 σ H Q (Ex σ)),fun σ H Q=>w p.2 σ H Q (Ex σ))) σ H Q
 | [],_,_,_=>rfl
 | (k,v)::r,σ,H,Q=>by
  show w k σ H _ _=w k σ H _ _
  congr 1
  funext x H1
  congr 1
  funext y H2
  exact Rb r σ H2 _
theorem az4 {w:Expr->DE} (h:∀ e,QE X e (w e)) {ks vs:List Expr} (hl:ks.length=vs.length) (h0:ks≠[]) (h15:ks.length<=15):QE X (.Dict (ks.map some) vs pos) (ae6 ((ks.zip vs).map fun p=>(w p.1,w p.2))):=by
 intro Ex mt pins s σ H Q I q
 refine ay1 (al3 h mt pos ks vs hl) (by simp) (by simpa using hl) (by simpa using h0) (by simpa using h15) pins s σ H Q I ?_
 intro p hp
 have q:=q p hp
 rw [Rb] at q
 exact q
theorem Za {a:Expr} {da:DE} {p2 pos2:Pos} (hc:X.calm=true) (hg:Gl X "len") (hm:X.mg "len" = none) (hg2:Gl X "set") (hm2:X.mg "set" = none) (ha:QE X a da) (hs:noStar a=true) :
  QE X (.Call (.Name "len" p) [.Call (.Name "set" p2) [a] [] pos2] [] pos) (dUn (Jz X.K) da):=by
 intro Ex mt pins s σ H Q I h
 refine bp (Cs I hg hm PySem.boot_len (gR (cF ?_) rfl rfl) (by decide) (by decide))
 refine bp (Cs I hg2 hm2 PyProof.Rows.boot_set (bn ?_ (Aw hs [] X.env) rfl) (by decide) (by decide))
 rw [Aw hs]
 show aI _ _ (md ((false,eval a X.env)::iE pos2 (dm [] X.env))) _ _ s
 refine cF (thn (ha Ex mt pins s σ H _ I h) fun u s1 ⟨x,H1,I1,r1,q1⟩=>cQ ?_)
 exact thn (av9 hc I1 r1 q1) fun v s2 q=>cQ q
theorem Mj:dF "reversed" = some (.type "reversed"):=by decide +kernel
theorem U3 {a:Expr} {da:DE} {p2 pos2:Pos} (hc:X.calm=true) (hg:Gl X "list") (hm:X.mg "list" = none) (hg2:Gl X "reversed") (hm2:X.mg "reversed" = none) (ha:QE X a da) (hs:noStar a=true) :
  QE X (.Call (.Name "list" p) [.Call (.Name "reversed" p2) [a] [] pos2] [] pos) (dUn (K8 X.K) da):=by
 intro Ex mt pins s σ H Q I h
 refine bp (Cs I hg hm dq (bn (cF ?_) rfl rfl) (by decide) (by decide))
 refine bp (Cs I hg2 hm2 Mj (bn ?_ (Aw hs [] X.env) rfl) (by decide) (by decide))
 rw [Aw hs]
 show aI _ _ (md ((false,eval a X.env)::iE pos2 (dm [] X.env))) _ _ s
 refine cF (thn (ha Ex mt pins s σ H _ I h) fun u s1 ⟨x,H1,I1,r1,q1⟩=>cQ ?_)
 cases x with
 | ref b=>
  cases r1
  obtain⟨ys,hq,q⟩:=q1
  exact thn (ah8 hc I1 hq q) fun v s2 q=>cQ q
 | _=>exact (show False from q1).elim
theorem U4 {a:Expr} {da:DE} {p2 pos2:Pos} (hc:X.calm=true) (hg:Gl X "list") (hm:X.mg "list" = none) (hg2:Gl X "range") (hm2:X.mg "range" = none) (ha:QE X a da) (hs:noStar a=true) :
  QE X (.Call (.Name "list" p) [.Call (.Name "range" p2) [a] [] pos2] [] pos) (dUn Sc da):=by
 intro Ex mt pins s σ H Q I h
 refine bp (Cs I hg hm dq (bn (cF ?_) rfl rfl) (by decide) (by decide))
 refine bp (Cs I hg2 hm2 boot_range (bn ?_ (Aw hs [] X.env) rfl) (by decide) (by decide))
 rw [Aw hs]
 show aI _ _ (md ((false,eval a X.env)::iE pos2 (dm [] X.env))) _ _ s
 refine cF (thn (ha Ex mt pins s σ H _ I h) fun u s1 ⟨x,H1,I1,r1,q1⟩=>cQ ?_)
 cases x with
 | int n=>
  obtain⟨t,rfl⟩:=r1
  exact thn (ah9 hc I1 q1.1 q1.2.1 q1.2.2) fun v s2 q=>cQ q
 | _=>exact (show False from q1).elim
noncomputable def Ft:RF:=fun vs H Q=>match vs with
 | [.ref l,.ref t]=>∃ xs ys,H l=some (.lst xs)/\H t=some (.tup ys)/\xs.length=ys.length/\0<xs.length/\xs.length<1000 /\ ∀ D Ts H',Mx H H'->H D=none->H' D=some (.lst (Ts.map V.ref))->Ts.length=xs.length->Wj H H' xs ys Ts->Q (.ref D) H'
 | _=>False
theorem U5 {a b:Expr} {p2 pos2:Pos} (hc:X.calm=true) (hg:Gl X "list") (hm:X.mg "list" = none) (hg2:Gl X "zip") (hm2:X.mg "zip" = none) (ha:QA X [a,b] r) (hs:[a,b].all noStar=true) :
  QE X (.Call (.Name "list" p) [.Call (.Name "zip" p2) [a,b] [] pos2] [] pos) (dFn (fun vs H Q _=>Ft vs H Q) r):=by
 intro Ex mt pins s σ H Q I h
 have h2:=bw▸hs
 rw [ax] at h2
 refine bp (Cs I hg hm dq (bn (cF ?_) rfl rfl) (by decide) (by decide))
 refine bp (Cs I hg2 hm2 boot_zip (bn (thn (ha Ex mt pos2 pins s σ H _ I h) fun us s1 ⟨vs,H1,I1,r1,q1⟩=>?_) (Aw h2.1 [b] X.env) (Bf h2.2 X.env pos2)) (by decide) (by decide))
 have q1:Ft vs H1 Q:=q1
 unfold Ft at q1
 split at q1
 ·obtain⟨xs,ys,e1,e2,len,pos,few,q⟩:=q1
  obtain⟨u,v,rfl,ru,rv⟩:=r1.two
  cases ru
  cases rv
  exact thn (ai0 hc I1 e1 e2 len pos few fun D Ts H' s' I' top fr hl ln laid=>⟨.ref D,H',I',rfl,q D Ts H' top fr hl ln laid⟩) fun v s2 q=>cQ q
 ·exact q1.elim
noncomputable def Fa (K:ac):V->Hp->VK->Prop:=fun x H Q=>match x with
 | .ref p=>∃ kvs,Rd H p (.dK kvs)/\kvs.length<1000 /\ ∀ l Ts H',Mx H H'->H l=none->H' l=some (.lst (Ts.map V.ref))->Ts.length=kvs.length->as1 H H' kvs Ts->Q (.ref l) H'
 | _=>False
theorem Pp {o:Expr} {do':DE} {ap cp:Pos} (hc:X.calm=true) (hg:Gl X "list") (hm:X.mg "list" = none) (ho:QE X o do') (h1:Db o=true) (h4:(ap.endLine==cp.line)=true) :
  QE X (.Call (.Name "list" p) [.Call (.Attribute o "items" ap) [] [] cp] [] pos) (dUn (Fa X.K) do'):=by
 intro Ex mt pins s σ H Q I h
 refine bp (Cs I hg hm dq (bn (cF ?_) rfl rfl) (by decide) (by decide))
 refine jf (D6 h1 "items" X.env _) h4 (thn (ho Ex mt pins s σ H _ I h) fun v s1 ⟨x,H1,I1,r1,q1⟩=>?_)
 cases x with
 | ref a=>
  cases r1
  obtain⟨kvs,rd,few,q⟩:=q1
  obtain⟨_,lo,vs,rel,dof⟩:=Iz I1.hok rd
  obtain⟨ob,es,ep,e,c,_⟩:=id dof
  refine⟨"dict", "dict.items", gh,i_,PySem.F.type_dict_items,dof.typeIs,fun a' e'=>?_,gu rfl (kh ?_)⟩
  ·cases e';exact⟨ob,e,c.2.1⟩
  ·exact thn (Um hc I1 rd few fun l Ts H' s' I' top fr hl len laid=>⟨.ref l,H',I',rfl,q l Ts H' top fr hl len laid⟩) fun v s2 q=>cQ q
 | _=>exact (show False from q1).elim
end
noncomputable def a74 (lo st:Int) (n:Nat):It:=⟨fun i _=>i<n,fun i H x H'=>H'=H/\x=.int (lo+(i:Int) * st),fun i _=>n<=i⟩
theorem Zq {P:aV} {w:bM} {K:ac} {tg:Expr} (it:Addr) (lo st:Int) (n:Nat):Oe P w K tg (a74 lo st n) [it] it (fun i h=>kg h it (lo+(i:Nat) * st) ((n:Int) - (i:Nat)) st) where
 mem:=List.mem_singleton.mpr rfl
 obj:=fun i h q b hb=>by
  obtain rfl:=List.mem_singleton.mp hb
  exact⟨_,q,fun v z=>by cases (show Data.fields _=Data.cell v from z)⟩
 keep:=fun i h h' q k=>k it (List.mem_singleton.mpr rfl) _ q
 item:=by
  intro X hP hw hK hc i pins s σ H E I hf q go
  subst hP hw hK
  obtain⟨g0,g1,_,g3,g4,g5⟩:=hf it (List.mem_singleton.mpr rfl)
  refine (Walks.range (prog:=X.prog) (w:=X.w) (I.ok.hd hc) it lo st n).item i s _ _ go q fun v h' tk hv q' kk=>?_
  obtain⟨t,rfl⟩:=hv
  have I1:Inv X pins σ H { s with heap:=h',toks:=tk }:=I.turned (fun b o nb e=>kk b o (fun z=>nb (List.mem_singleton.mp z)) e) g0 g1 g3 g4 g5
  exact⟨_,rfl,Nj (s:={ s with heap:=h',toks:=tk }) (n := "range_iterator") q' rfl rfl (by decide) ⟨.int (lo+(i:Int) * st),H,I1,⟨t,rfl⟩,⟨rfl,rfl⟩,q',fun b hb=>(hf b hb).1⟩⟩
 done:=by
  intro X hP hw hK hc i pins s σ H E I hf q go
  subst hP hw hK
  obtain⟨g0,g1,_,g3,g4,g5⟩:=hf it (List.mem_singleton.mpr rfl)
  exact jA (I.ok.hd hc) q (by have:n<=i:=go;omega) fun h' eb=>⟨rfl,I.turned (t':=s.toks) (fun b o nb e=>eb b o nb e) g0 g1 g3 g4 g5⟩
 self:=fun _ _ _ _ _ q h=>jy q h
section
variable {X:Cx} {tg:Expr}
theorem a14 {pins:List (Addr×Obj)} {σ:St} {H:Hp} {s:aj} {R:It->Hp->Prop} {E:Value->aj->Prop} {lo hi st:Int} {t u v:Tok} {tk:Nat} (I:Inv X pins σ H s) (sm:ke lo hi st=true)
  (q:R (a74 lo st (cA lo hi st).toNat) H):aI (model X.prog X.w) X.A (l3 (.ref s.heap.objs.size)) (PIE X pins σ tg R) E { s with heap:=s.heap.push { cls:=.type "range", data:=.fields #[.int lo t,.int hi u,.int st v] },toks:=tk }:=by
 refine kW (lL ..) sm ?_
 have I1:Inv X pins σ H { s with heap:=s.heap.push { cls:=.type "range", data:=.fields #[.int lo t,.int hi u,.int st v] },toks:=tk }:=I.kept fun b o e=>ag _ e
 generalize s.heap.push { cls:=.type "range", data:=.fields #[.int lo t,.int hi u,.int st v] }=h1 at I1 ⊢
 refine⟨h1.objs.size,[h1.objs.size],_,_,H,rfl,I1.kept (t':=tk) fun b o e=>ag _ e,Zq _ lo st (cA lo hi st).toNat,?_,fun b hb=>?_,q⟩
 ·have e:lo+((0:Nat):Int) * st=lo:=by rw [Int.natCast_zero,Int.zero_mul,Int.add_zero]
  have f:(((cA lo hi st).toNat:Nat):Int) - ((0:Nat):Int)=cA lo hi st:=by
   rw [<- rangeSize_toNat,Int.natCast_zero,ll]
  show kg _ _ (lo+((0:Nat):Int) * st) ((((cA lo hi st).toNat:Nat):Int) - ((0:Nat):Int)) st
  rw [e,f]
  exact aw _ rfl
 ·obtain rfl:=List.mem_singleton.mp hb
  exact I1.fpOk (ay _) (I1.hok.fresh (ay _))
end
noncomputable def QI (X:Cx) (tg e:Expr) (t:DI):Prop:=∀ Ex,Meets X Ex->PI X tg e (fun σ H R=>t σ H R (Ex σ))
noncomputable def iNo:DI:=fun _ _ _ _=>False
noncomputable def onD (p:Addr) (H:Hp) (R:Obj->List (Key×V)->Hp->Prop):Prop:=(∃ kvs,H p=some (.dK kvs) /\ ∀ o,R o kvs (upd H p (.frz o (.dK kvs)))) \/ ∃ o kvs,H p=some (.frz o (.dK kvs))/\R o kvs H
theorem ak2 {X:Cx} {pins:List (Addr×Obj)} {σ:St} {H:Hp} {s:aj} {p:Addr} {R:Obj->List (Key×V)->Hp->Prop} (I:Inv X pins σ H s) (h:onD p H R):∃ o kvs H',Inv X pins σ H' s/\H' p=some (.frz o (.dK kvs))/\R o kvs H':=by
 rcases h with ⟨kvs,e,q⟩|⟨o,kvs,e,q⟩
 ·obtain⟨o,ep,_,_,I'⟩:=I.froze e
  exact⟨o,kvs,_,I',Ad,q o⟩
 ·exact⟨o,kvs,H,I,e,q⟩
noncomputable def Bs (K:ac) (a:DE):DI:=fun σ H R E=>a σ H (fun x H1=>match x with
 | .str z=>R (Its z) H1
 | .ref p=>((∃ xs,SqL K H1 p xs)/\R (Itl K p) H1)\/((∃ xs,SqT K H1 p xs)/\R (Itt K p) H1)\/onD p H1 fun o kvs H2=>R (Itd p o kvs) H2
 | _=>False) E
noncomputable def Gg (t:DA):DI:=fun σ H R E=>t σ H (fun vs H1=>match vs with
 | [.int j]=>(-(2 ^ 62)<=j/\j<2 ^ 62)/\R (Itr 0 j.toNat) H1
 | [.int i,.int j]=>(-(2 ^ 62)<=i/\i<2 ^ 62 /\ -(2 ^ 62)<=j/\j<2 ^ 62)/\R (Itr i (j - i).toNat) H1
 | [.int i,.int j,.int k]=>(ke i j k=true/\1<=k/\k<=1000)/\R (a74 i k (cA i j k).toNat) H1
 | _=>False) E
noncomputable def iEn (K:ac) (t:DA):DI:=fun σ H R E=>t σ H (fun vs H1=>match vs with
 | [.ref a]=>((∃ xs,SqL K H1 a xs)/\R (Ite K a) H1)\/onD a H1 fun o kvs H2=>R (Zx a o kvs) H2
 | _=>False) E
section
variable {X:Cx} {tg e a b:Expr} {da:DE} {r:DA} {p pos:Pos}
theorem a53:QI X tg e iNo:=fun _ _ _ _ _ _ _ _ h=>h.elim
theorem bj3 (ha:QE X e da):QI X tg e (Bs X.K da):=by
 intro Ex mt pins s σ H R I h
 refine thn (ha Ex mt pins s σ H _ I h) fun v s1 ⟨x,H1,I1,r1,q1⟩=>?_
 cases x with
 | str z=>
  obtain⟨t,rfl⟩:=r1
  refine wpAny_pyIter_strU ?_
  refine⟨s1.heap.objs.size,[s1.heap.objs.size],_,_,H1,rfl,I1.kept (t':=s1.toks) fun b o e=>ag _ e,aq7 s1.heap.objs.size z t (strIterType z) (by unfold strIterType;split <;> simp),⟨_,aw _ rfl,rfl,rfl⟩,fun b hb=>?_,q1⟩
  have e:b=s1.heap.objs.size:=by simpa using hb
  subst e
  exact I1.fpOk (ay _) (I1.hok.fresh (ay _))
 | ref a=>
  cases r1
  rcases q1 with ⟨⟨xs,hq⟩,q⟩|⟨⟨xs,hq⟩,q⟩|q
  ·obtain⟨its,rv,p,hz⟩:=I1.list hq
   refine gK p.isList ?_
   refine⟨s1.heap.objs.size,[s1.heap.objs.size],_,_,H1,rfl,I1.kept (t':=s1.toks) fun b o e=>ag _ e,Zp a _,⟨_,aw _ rfl,rfl,rfl⟩,fun b hb=>?_,q⟩
   have e:b=s1.heap.objs.size:=by simpa using hb
   subst e
   exact I1.fpOk (ay _) (I1.hok.fresh (ay _))
  ·obtain⟨its,rv,p,hz⟩:=I1.tuple hq
   refine kX (show s1.heap.IsTuple a its.toArray from p) ?_
   refine⟨s1.heap.objs.size,[s1.heap.objs.size],_,_,H1,rfl,I1.kept (t':=s1.toks) fun b o e=>ag _ e,We a _,⟨_,aw _ rfl,rfl,rfl⟩,fun b hb=>?_,q⟩
   have e:b=s1.heap.objs.size:=by simpa using hb
   subst e
   exact I1.fpOk (ay _) (I1.hok.fresh (ay _))
  ·obtain⟨o,kvs,H2,I2,e,q⟩:=ak2 I1 q
   exact au0 I2 e q
 | _=>exact (show False from q1).elim
variable {es:List Expr}
theorem am4 (hg:Gl X "range") (hm:X.mg "range" = none) (ha:QA X (a::es) r) (hs:(a::es).all noStar=true):QI X tg (.Call (.Name "range" p) (a::es) [] pos) (Gg r):=by
 intro Ex mt pins s σ H R I h
 have h2:=bw▸hs
 rw [ax] at h2
 refine Call_ (Cs I hg hm boot_range (bn (thn (ha Ex mt pos pins s σ H _ I h) fun us s1 ⟨vs,H1,I1,r1,q1⟩=>?_) (Aw h2.1 es X.env) (Bf h2.2 X.env pos)))
 dsimp only at q1
 split at q1
 ·obtain⟨⟨h1,h2⟩,q⟩:=q1
  obtain⟨u,rfl,t,rfl⟩:=Go r1
  exact call_range_1 (Sf I1 (by omega) (by omega) h1 h2 (by simpa using q))
 ·obtain⟨⟨h1,h2,h3,h4⟩,q⟩:=q1
  obtain⟨u,v,rfl,⟨t,rfl⟩,⟨t',rfl⟩⟩:=b96 r1
  exact call_range_2 (Sf I1 h1 h2 h3 h4 q)
 ·obtain⟨⟨h1,h2,h3⟩,q⟩:=q1
  cases r1 with
  | cons ra rr=>cases rr with
   | cons rb rr=>cases rr with
    | cons rc rr=>
     cases rr
     obtain⟨t,rfl⟩:=ra
     obtain⟨t',rfl⟩:=rb
     obtain⟨t2,rfl⟩:=rc
     exact call_range_3 (by omega) (a14 I1 h1 q) (.inl (jt (by omega)))
 ·exact q1.elim
theorem az9 {elts:List Expr} {kt:Nat} {pt:Pos} (hg:Gl X "enumerate") (hm:X.mg "enumerate" = none) (ha:QA X (a::es) r) (hs:(a::es).all noStar=true):QI X (.Tuple elts kt pt) (.Call (.Name "enumerate" p) (a::es) [] pos) (iEn X.K r):=by
 intro Ex mt pins s σ H R I h
 have hh:=bw▸hs
 rw [ax] at hh
 refine Call_ (Cs I hg hm boot_enumerate (bn (thn (ha Ex mt pos pins s σ H _ I h) fun us s1 ⟨vs,H1,I1,r1,q1⟩=>?_) (Aw hh.1 es X.env) (Bf hh.2 X.env pos)))
 dsimp only at q1
 split at q1
 ·rename_i l
  obtain⟨u,rfl,ru⟩:=Go r1
  cases ru
  rcases q1 with ⟨⟨xs,q1⟩,q⟩|q
  case inr=>
   obtain⟨o,kvs,H2,I2,e,q⟩:=ak2 I1 q
   exact af3 I2 e q
  obtain⟨its1,t1,p1,z1⟩:=I1.list q1
  refine call_enumerate_list p1.isList fun h' he hit hsz hk=>?_
  refine gJ he ?_
  refine⟨_,_,_,_,H1,rfl,I1.kept (t':=s1.toks) hk,Zo (ji _),⟨⟨_,he⟩,hit⟩,fun b hb=>?_,q⟩
  have hb:b=s1.heap.objs.size+1\/b=s1.heap.objs.size:=by simpa using hb
  have le:s1.heap.objs.size<=b:=by
   rcases hb with e|e
   ·rw [e];exact bK _ 1
   ·rw [e];exact ay _
  exact I1.fpOk le (I1.hok.fresh le)
 ·exact q1.elim
noncomputable def gNo:DG:=fun _ _ _ _=>False
noncomputable def gdS:List DG->List V->St->Hp->(St->Hp->Prop)->Prop
 | [],[],σ,H,Q=>Q σ H
 | g::gs,v::vs,σ,H,Q=>g v σ H fun σ' H'=>gdS gs vs σ' H' Q
 | _,_,_,_,_=>False
noncomputable def gdT (K:ac) (n:Nat) (gs:List DG):DG:=fun v σ H Q=>match v with
 | .ref a=>∃ xs,SqT K H a xs/\xs.length=n/\gdS gs xs σ H Q
 | _=>False
theorem R0:PG X tg gNo:=fun _ _ _ _ _ _ _ _ _ h=>h.elim
theorem bz9:PGs X [] (gdS []):=by
 intro pins s σ H vs us Q I r h
 cases vs with
 | nil=>exact ay3 pins s σ H [] us Q I r ⟨rfl,h⟩
 | cons v vs=>exact (show False from h).elim
theorem bz8 {g:DG} {gs:List DG} {ts:List Expr} (h1:PG X tg g) (h2:PGs X ts (gdS gs)) (hs:(dQ (tg::ts) X.env).map (·.2)=lA tg X.env::(dQ ts X.env).map (·.2)):PGs X (tg::ts) (gdS (g::gs)):=by
 intro pins s σ H vs us Q I r h
 cases vs with
 | nil=>exact (show False from h).elim
 | cons v vs=>exact ak6 h1 h2 hs pins s σ H (v::vs) us Q I r ⟨v,vs,rfl,h⟩
theorem cd8 {ts:List Expr} {k n:Nat} {gs:List DG} (hc:X.calm=true) (h:PGs X ts (gdS gs)) (hn:(dQ ts X.env).length=n) (hst:(dQ ts X.env).findIdx? (·.1)=none):PG X (.Tuple ts k pos) (gdT X.K n gs):=by
 intro pins s σ H v u Q I r hw
 cases v with
 | ref a=>exact bh1 hc h hn hst pins s σ H _ u Q I r (let ⟨xs,h1,h2,h3⟩:=hw;⟨a,xs,rfl,h1,h2,h3⟩)
 | _=>exact (show False from hw).elim
end
noncomputable def C2 (cs:List (Str×Addr)):List (Str×cG)->List (Str×Addr)->List (Str×Addr)
 | [],acc=>acc
 | (n,k)::r,acc=>if k==.free then C2 cs r ((n,(cs.lookup n).getD 0)::acc) else C2 cs r acc
theorem Mm {scope:Scope} {env:Env} (h:∀ y∈scope.names,y.2=.free -> ∃ c,env.cells.lookup y.1=some c):closureFor scope env=pure (C2 env.cells scope.names []):=by
 unfold closureFor
 generalize scope.names=names at h
 suffices ∀ acc,(forIn names acc fun (x:Str×cG) cs=>do
   if (x.2==.free)=true then do
    let c <- cellOf env x.1
    pure (e8 ((x.1,c)::cs))
   else pure (e8 cs):Sem (List (Str×Addr)))=pure (C2 env.cells names acc) by
  have:=this []
  simp only [bind_pure]
  exact this
 induction names with
 | nil=>intro acc;rfl
 | cons y r ih=>
  intro acc
  obtain⟨n,k⟩:=y
  rw [f_]
  unfold C2
  by_cases e:(k==eG)=true
  ·obtain⟨c,hc⟩:=h (n,k) (by simp) (cU e)
   have ec:cellOf env n=pure c:=by
    unfold cellOf
    rw [show env.cells.lookup n=some c from hc]
   simp only [e,if_true,ec,pure_bind]
   rw [ih (fun y hy=>h y (aL _ hy))]
   rw [show env.cells.lookup n=some c from hc]
   rfl
  ·have e':(k==eG)=false:=by simpa using e
   simp only [e',bz,if_false,pure_bind]
   rw [ih (fun y hy=>h y (aL _ hy))]
theorem Ht {cs:List (Str×Addr)}:∀ {names:List (Str×cG)} {acc:List (Str×Addr)} {p:Str×Addr},p∈C2 cs names acc->p∈acc\/((p.1,eG)∈names/\p.2=(cs.lookup p.1).getD 0)
 | [],_,_,h=>.inl h
 | (n,k)::r,acc,p,h=>by
  unfold C2 at h
  by_cases e:(k==eG)=true
  ·rw [if_pos e] at h
   rcases Ht h with h|⟨h1,h2⟩
   ·rcases List.mem_cons.mp h with h|h
    ·subst h
     exact .inr ⟨by rw [cU e];simp,rfl⟩
    ·exact .inl h
   ·exact .inr ⟨aL _ h1,h2⟩
  ·rw [if_neg e] at h
   rcases Ht h with h|⟨h1,h2⟩
   ·exact .inl h
   ·exact .inr ⟨aL _ h1,h2⟩
theorem Hs {cs:List (Str×Addr)}:∀ {names:List (Str×cG)} {acc:List (Str×Addr)} {p:Str×Addr},p∈acc->p∈C2 cs names acc
 | [],_,_,h=>h
 | (n,k)::r,acc,p,h=>by
  unfold C2
  split
  ·exact Hs (aL _ h)
  ·exact Hs h
theorem M6 {cs:List (Str×Addr)}:∀ {names:List (Str×cG)} {acc:List (Str×Addr)} {n:Str},(n,eG)∈names->n∈(C2 cs names acc).map (·.1)
 | [],_,_,h=>by cases h
 | (m,k)::r,acc,n,h=>by
  unfold C2
  rcases List.mem_cons.mp h with e|h
  ·cases e
   rw [if_pos (show (eG==eG)=true from rfl)]
   exact List.mem_map.mpr ⟨_,Hs (aZ),rfl⟩
  ·split <;> exact M6 h
noncomputable def Si (sc:List (Str×cG)) (names:List (Str×cG)):List (Str×cG):=names.map fun (n,k)=>if (k==.free&&sc.lookup n==some .cell) then (n,.cell) else (n,k)
noncomputable def Rm (names:List (Str×cG)):List Str:=(names.filter fun y=>(y.2==.local) && !(y.1==(".0" : Str))).map (·.1)
noncomputable def Tz (names:List (Str×cG)):List Str:=(names.filter fun y=>y.2==.free).map (·.1)
noncomputable def cfV (o:Option cG):Bool:=o==some .cell||o==some .free
noncomputable def C3 (G:Sg) (names:List (Str×cG)):Sg:={ G with N:=Rm names++Tz names,sc:=Si G.sc names,top:=false }
noncomputable def F0 (G:Sg) (names:List (Str×cG)):List (Option Nat):=(Rm names).map (fun _=>none)++(Tz names).map (fun x=>Cm G.N x 0)
noncomputable def Fl (G:Sg) (sc:Scope):Bool:=
 (sc.names.all fun y=>!(y.2==.cell))&&(sc.names.all fun y=>!(y.2==.local)||(sc.names.lookup y.1==some .local))&&(sc.kind==.function) &&
 decide (Rm sc.names++Tz sc.names).Nodup&&((Tz sc.names).all fun x=>(Cm G.N x 0).isSome&&cfV (G.sc.lookup x)&&cfV ((Si G.sc sc.names).lookup x)) &&
 ((Rm sc.names).all fun x=>(Si G.sc sc.names).lookup x==some .local)
section
variable {X:Cx} {G:Sg} {sc:Scope}
theorem G5 {o:Option cG} (h:cfV o=true):o=some .cell\/o=some .free:=by
 unfold cfV at h
 rw [eW] at h
 exact h.elim (fun e=>.inl (cU e)) fun e=>.inr (cU e)
theorem Gy (O:GOk X G):(iL sc X.env).names=Si G.sc sc.names:=by
 unfold iL Si
 apply cN
 rintro⟨n,k⟩ _
 have e:X.env.kindOf n=G.sc.lookup n:=O.sc n
 dsimp only
 rw [e,O.kind]
 simp
theorem Ot (O:GOk X G) (h:Fl G sc=true):J5 X (C3 G sc.names).N (F0 G sc.names) sc (C2 X.env.cells sc.names []):=by
 unfold Fl at h
 simp only [ax,aW,fh,decide_eq_true_eq,eW] at h
 obtain⟨⟨⟨⟨⟨h1,h2⟩,h3⟩,h4⟩,h5⟩,h6⟩:=h
 have fr:∀ y∈sc.names,y.2=.free -> ∃ c,X.env.cells.lookup y.1=some c:=fun y hy hf=>by
  refine O.cel y.1 ?_
  rw [O.sc]
  refine G5 (h5 y.1 ?_).1.2
  exact List.mem_map.mpr ⟨y,List.mem_filter.mpr ⟨hy,by rw [hf];rfl⟩,rfl⟩
 have nc:∀ y∈sc.names,y.2≠.cell:=fun y hy e=>by
  have:=h1 y hy
  rw [e] at this
  cases this
 refine⟨Mm fr,nc,cU h3,fun y hy hl=>?_,fun x c hx=>?_,fun x hx=>?_,?_,fun k j x e1 e2=>?_⟩
 ·rcases h2 y hy with z|z
  ·rw [hl] at z;cases z
  ·exact cU z
 ·have hm:=bS hx
  rcases Ht hm with z|⟨z1,z2⟩
  ·cases z
  ·obtain⟨c',hc'⟩:=fr _ z1 rfl
   have z2':c=(X.env.cells.lookup x).getD 0:=z2
   rw [show X.env.cells.lookup x=some c' from hc'] at z2' ⊢
   rw [z2']
   rfl
 ·have hn:(iL sc X.env).names=Si G.sc sc.names:=Gy O
  have key:∀ kd,(iL sc X.env).names.lookup x=some kd->cfV (some kd)=true -> ∃ c,(C2 X.env.cells sc.names []).lookup x=some c:=fun kd hkd hc=>by
   rw [hn] at hkd
   have hm:=bS hkd
   unfold Si at hm
   obtain⟨⟨n,k⟩,hy,e⟩:=List.mem_map.mp hm
   dsimp only at e
   have hfree:k=.free/\n=x:=by
    have hkc:=nc _ hy
    by_cases e1:(k==eG&&G.sc.lookup n==some .cell)=true
    ·rw [if_pos e1] at e
     rw [ax] at e1
     exact⟨cU e1.1,congrArg Prod.fst e⟩
    ·rw [if_neg e1] at e
     cases e
     rcases G5 hc with z|z
     ·exact absurd (aF z) hkc
     ·exact⟨aF z,rfl⟩
   obtain⟨rfl,rfl⟩:=hfree
   exact aj0 (M6 hy)
  rcases hx with hx|hx
  ·exact key _ hx rfl
  ·exact key _ hx rfl
 ·unfold F0 C3
  simp
 ·have e1':(Rm sc.names++Tz sc.names)[k]? = some x:=e1
  have e2':((Rm sc.names).map (fun _=>(none:Option Nat))++(Tz sc.names).map (fun x=>Cm G.N x 0))[k]? = some (some j):=e2
  by_cases hlt:k<(Rm sc.names).length
  ·rw [cI (by simpa using hlt),ak] at e2'
   cases q:(Rm sc.names)[k]? with
   | none=>rw [q] at e2';cases e2'
   | some z=>rw [q] at e2';cases e2'
  ·rw [bL (by simpa using hlt)] at e1' 
   rw [bL (by simpa using hlt),ae,ak,e1'] at e2'
   have hs:Cm G.N x 0=some j:=aF e2'
   have hx:x∈Tz sc.names:=ai e1'
   obtain⟨⟨_,c1⟩,c2⟩:=h5 x hx
   refine⟨by rw [O.N];exact E0 hs,?_,?_⟩
   ·rw [O.sc];exact G5 c1
   ·rw [Gy O];exact G5 c2
theorem Ws (O:GOk X G) (h:Fl G sc=true) (fp:List Addr) (C:Addr) (s:aj) (H:Hp) (xe:Value->aj->Prop) :
  GOk (X.comp (C3 G sc.names).N sc (C2 X.env.cells sc.names []) fp C s H xe) (C3 G sc.names):=by
 have S:=Ot O h
 unfold Fl at h
 simp only [ax,aW,fh,decide_eq_true_eq,eW] at h
 obtain⟨⟨⟨⟨⟨h1,h2⟩,h3⟩,h4⟩,h5⟩,h6⟩:=h
 have hn:(iL sc X.env).names=Si G.sc sc.names:=Gy O
 refine⟨O.K,cU h3,(fun z=>by cases z),rfl,h4,fun x=>?_,fun x hx=>?_,fun z=>(by cases z),O.calm,O.hd,O.units,fun x hx=>S.has x hx,fun x i e=>?_,O.val,O.bl,fun x C oi e=>?_,fun x C oi e=>?_,fun m l e mi hm=>?_,fun z=>(by cases z),O.fr⟩
 ·show (iL sc X.env).names.lookup x=_
  rw [hn]
  rfl
 ·show Vis (iL sc X.env) x
  unfold Vis
  rw [hn]
  rcases List.mem_append.mp hx with q|q
  ·exact .inl (cU (h6 x q))
  ·exact .inr (G5 (h5 x q).2)
 ·obtain⟨m,F⟩:=O.fn x i e
  obtain⟨CX,p,f⟩:=F.ok
  exact⟨m,⟨F.kp,⟨CX,p,f⟩,F.room,F.binds,F.vals⟩⟩
 ·obtain⟨m,k,c,i0⟩:=O.exc x C oi e
  refine⟨m,k,c,?_⟩
  cases oi with
  | none=>exact i0
  | some i=>obtain⟨a1,a2,F,r⟩:=i0;obtain⟨CX,p,f⟩:=F.ok;exact⟨a1,a2,⟨F.kp,⟨CX,p,f⟩,F.room,F.binds,F.vals⟩,r⟩
 ·obtain⟨m,k,i0⟩:=O.cls x C oi e
  refine⟨m,k,?_⟩
  cases oi with
  | none=>exact i0
  | some i=>
   obtain⟨a,b,c,F,r⟩:=i0
   obtain⟨CX,p,f⟩:=F.ok
   exact⟨a,b,c,⟨F.kp,⟨CX,p,f⟩,F.room,F.binds,F.vals⟩,r⟩
 ·obtain⟨a,b,F⟩:=O.met m l e mi hm
  obtain⟨CX,p,f⟩:=F.ok
  exact⟨a,b,⟨F.kp,⟨CX,p,f⟩,F.room,F.binds,F.vals⟩⟩
end
noncomputable def Cf:St->Hp->(Option Int->Hp->Prop)->EK->Prop:=fun _ H Q _=>Q none H
noncomputable def Do (a:DE):St->Hp->(Option Int->Hp->Prop)->EK->Prop:=fun σ H Q E=>a σ H (fun x H1=>match x with
 | .int i=>Q (some i) H1
 | _=>False) E
noncomputable abbrev DO:=St->Hp->(Option Int->Hp->Prop)->EK->Prop
noncomputable def ce3 (K:ac):V->Option Int->Option Int->Hp->VK->Prop:=fun x lo hi H Q=>match x with
 | .str z=>z.length<=sizeLine/\Q (.str (iX z lo hi)) H
 | .ref a=>(∃ xs,SqL K H a xs /\ ∀ p,H p=none->Q (.ref p) (upd H p (.lst (E3 xs lo hi)))) \/
   (∃ xs,SqT K H a xs /\ ¬ (HT.sIx xs.length 0 lo=0/\HT.sIx xs.length xs.length hi=xs.length) /\ ∀ p,H p=none->Q (.ref p) (upd H p (.tup (E3 xs lo hi))))
 | _=>False
noncomputable def dSl (K:ac) (a:DE) (l h:DO):DE:=fun σ H Q E=>a σ H (fun x H1=>l σ H1 (fun lo H2=>h σ H2 (fun hi H3=>ce3 K x lo hi H3 Q) E) E) E
noncomputable def QO (X:Cx) (e:Option Expr) (t:DO):Prop:=∀ Ex,Meets X Ex->PO X e (fun σ H Q=>t σ H Q (Ex σ))
section
variable {X:Cx} {G:Sg} {e:Expr} {de:DE} {lo hi:Option Expr} {dl dh:DO} {pos p2:Pos}
theorem W8:QO X none Cf:=fun _ _=>ay4
theorem W9 (h:QE X e de):QO X (some e) (Do de):=by
 intro Ex m pins s σ H Q I hw
 rw [evalPart_some]
 refine thn (h Ex m pins s σ H _ I hw) fun u s1 ⟨x,H1,I1,r1,q1⟩=>?_
 cases x with
 | int i=>obtain⟨t,rfl⟩:=r1;exact⟨some i,H1,I1,.int i t,q1⟩
 | _=>exact (show False from q1).elim
theorem Pf (e:Expr) (z:Str) (t:Tok) (r:Value):letTemporaryGo e (.str z t) r=pure ():=by
 cases e <;> rfl
theorem am3 (he:QE X e de) (hl:QO X lo dl) (hh:QO X hi dh):QE X (.Subscript e (.Slice lo hi none p2) pos) (dSl X.K de dl dh):=by
 intro Ex m pins s σ H Q I h
 refine Subscript_ (thn (he Ex m pins s σ H _ I h) fun v s1 ⟨x,H1,I1,r1,q1⟩=>?_)
 refine wpAny_Slice (thn (hl Ex m pins s1 σ H1 _ I1 q1) fun vl s2 ⟨l,H2,I2,pl,q2⟩=>thn (hh Ex m pins s2 σ H2 _ I2 q2) fun vu s3 ⟨u,H3,I3,pu,q3⟩=>?_)
 rw [evalPart_none]
 refine al ?_
 show aI (model X.prog X.w) X.A (kQ e (.Slice lo hi none p2) v (.ref s3.heap.objs.size)) (EP X pins σ Q) X.xe { s3 with heap:=s3.heap.push { cls:=.type "slice", data:=.fields #[vl,vu,.none] } }
 have I4:Inv X pins σ H3 { s3 with heap:=s3.heap.push { cls:=.type "slice", data:=.fields #[vl,vu,.none] } }:=I3.kept (t':=s3.toks) fun b ob q=>ag _ q
 have gen:∀ r,SlR X r->r x l u H3 Q->aI (model X.prog X.w) X.A (kQ e (.Slice lo hi none p2) v (.ref s3.heap.objs.size)) (EP X pins σ Q) X.xe { s3 with heap:=s3.heap.push { cls:=.type "slice", data:=.fields #[vl,vu,.none] } }:=fun r hr q=>by
  obtain⟨T,id,hT,ht,hg⟩:=hr pins _ σ H3 x v vl vu l u s3.heap.objs.size Q I4 r1 (Heap.IsSliceOf.new ..) pl pu q
  exact tail_any (ops:=[.ref s3.heap.objs.size,v]) ht hT hg (by with_unfolding_all rfl)
 cases x with
 | str z=>
  obtain⟨hz,q⟩:=q3
  obtain⟨t,rfl⟩:=r1
  have hk:KeptH (fun h=>Inv X pins σ H3 { s3 with heap:=h }):=fun h ob J=>J.kept (t':=s3.toks) fun b o eb=>ag _ eb
  have fin:∀ h' t' k,Inv X pins σ H3 { s3 with heap:=h' }->EP X pins σ Q (.str (iX z l u) t') { s3 with heap:=h',toks:=k }:=fun h' t' k J=>⟨.str _,H3,J.tok k,⟨_,rfl⟩,q⟩
  cases pl with
  | none=>
   cases pu with
   | none=>exact iM (SBH.sliceItem_nn hk I3 fin hz) (by with_unfolding_all rfl) (Pf e z t)
   | int j uj=>exact iM (SBH.sliceItem_ns hk I3 fin hz) (by with_unfolding_all rfl) (Pf e z t)
  | int i ui=>
   cases pu with
   | none=>exact iM (SBH.sliceItem_sn hk I3 fin hz) (by with_unfolding_all rfl) (Pf e z t)
   | int j uj=>exact iM (SBH.sliceItem_ss hk I3 fin hz) (by with_unfolding_all rfl) (Pf e z t)
 | ref a=>
  rcases q3 with ⟨xs,h1,h2⟩|⟨xs,h1,h2,h3⟩
  ·exact gen _ a11 ⟨a,xs,rfl,h1,h2⟩
  ·exact gen _ bp4 ⟨a,xs,rfl,h1,h2,h3⟩
 | _=>exact (show False from q3).elim
noncomputable def Ky:Expr->Bool
 | .Set _ _ _=>false
 | _=>true
theorem Kz {e:Expr} (h:Ky e=true) (env:Env) (x:Value):fv e env x=pure x:=by
 cases e with
 | Set _ _ _=>cases h
 | _=>rfl
theorem Fp:Meets X (fun _ _ _=>False):=fun _ _ _ _ _ _ _ h=>h.elim
variable {tg iter elt:Expr} {ifs:List Expr} {sc:Scope} {wi:DI} {g:DG} {tc:DT}
noncomputable def Uv (G:Sg) (x:Str):Bool:=(G.sc.lookup x==some .local)||(G.top&&(G.sc.lookup x==some .cell))
noncomputable def wG:Nat->Sg->Expr->DG
 | 0,_,_=>gNo
 | n+1,G,e=>match e with
  | .Name x _=>match Cm G.N x 0 with
   | some i=>if Uv G x=true then gdN i else gNo
   | none=>gNo
  | .Tuple ts _ _=>if G.calm=true/\ts.all noStar=true then gdT G.K ts.length (ts.map (wG n G)) else gNo
  | _=>gNo
theorem Ph (O:GOk X G) {x:Str} (h:Uv G x=true):Loc X.env.scope x/\(X.fn x=true\/X.env.scope.names.lookup x=some .local):=by
 unfold Uv at h
 rw [eW,ax] at h
 rcases h with h|⟨h1,h2⟩
 ·have:X.env.scope.names.lookup x=some .local:=by rw [O.sc];exact cU h
  exact⟨.inl this,.inr this⟩
 ·have:X.env.scope.names.lookup x=some .cell:=by rw [O.sc];exact cU h2
  exact⟨.inr this,.inl (O.top h1 x)⟩
theorem Fc {e:Expr} (h:noStar e=true) (es:List Expr) (env:Env):dQ (e::es) env=(false,lA e env)::dQ es env:=by
 cases e with
 | Starred _ _=>cases h
 | _=>rfl
theorem Kc {es:List Expr} (h:es.all noStar=true) (env:Env):(dQ es env).length=es.length/\(dQ es env).findIdx? (·.1)=none:=by
 induction es with
 | nil=>exact⟨rfl,rfl⟩
 | cons e es ih=>
  rw [bw,ax] at h
  obtain⟨h1,h2⟩:=ih h.2
  rw [Fc h.1]
  refine⟨by rw [aN,aN,h1],?_⟩
  rw [List.findIdx?_cons,h2]
  rfl
theorem Ta:∀ (n:Nat) (X:Cx) (G:Sg),GOk X G -> ∀ e,PG X e (wG n G e)
 | 0,_,_,_,_=>R0
 | n+1,X,G,O,e=>by
  cases e with
  | Name x p=>
   unfold wG
   dsimp only
   split
   ·rename_i i e
    split
    ·rename_i h
     obtain⟨h1,h2⟩:=Ph O h
     exact ay2 (by rw [O.N];exact O.nd) (by rw [O.N];exact E0 e) h1 h2
    ·exact R0
   ·exact R0
  | Tuple ts k p=>
   unfold wG
   dsimp only
   split
   ·rename_i h
    obtain⟨h1,h2⟩:=h
    obtain⟨h3,h4⟩:=Kc h2 X.env
    rw [<- O.K]
    refine cd8 (O.calm▸h1) ?_ h3 h4
    clear h3 h4
    induction ts with
    | nil=>exact bz9
    | cons t ts ih=>
     rw [bw,ax] at h2
     refine bz8 (Ta n X G O t) (ih h2.2) ?_
     rw [Fc h2.1]
     rfl
   ·exact R0
  | _=>exact R0
end
end L2
namespace L2
open PySem PySem.Spec
structure Wk (l:List Addr) (e C:Addr) (dx:Option Addr) (h h':Heap):Prop where
 exc:∃ (vs':Array Value) (T:Addr) (oT:Obj) (ts':Array Value),h'.get? e=some (A0 C dx vs')/\vs'.size=6/\vs'[1]? = some (.ref T)/\h.objs.size<=T/\T≠e/\h'.get? T=some oT/\oT.data=.fields ts'/\3<ts'.size /\ ∀ vs,h.get? e=some (A0 C dx vs)->vs'[2]? = vs[2]?
 keep:∀ b o,b≠e->b∉l->h.get? b=some o->h'.get? b=some o
 slot:∀ b o,b≠e->h.get? b=some o -> ∃ sl,h'.get? b=some { o with slots:=sl }
noncomputable abbrev tbO (fs:Array Value):Obj:={ cls:=.type "traceback", dict:=none,data:=.fields fs }
noncomputable abbrev Kt (T:Addr):Obj->Obj:=b5 (·.setIfInBounds 1 (.ref T))
noncomputable abbrev Jt (h:Heap) (e:Addr) (fs:Array Value):Heap:=(h.push (tbO fs)).update e (Kt h.objs.size)
section
variable {h:Heap} {e C:Addr} {dx:Option Addr} {vs fs:Array Value}
theorem apart (q:h.get? e=some (A0 C dx vs)):h.objs.size≠e:=cx (aB q)
theorem Rl (T:Addr):(Kt T (A0 C dx vs)).data=.fields (vs.setIfInBounds 1 (.ref T)):=rfl
theorem Tt (q:h.get? e=some (A0 C dx vs)):(Jt h e fs).get? e=some (A0 C dx (vs.setIfInBounds 1 (.ref h.objs.size))):=
 aU (Kt h.objs.size) (ag (tbO fs) q) (dD (Rl h.objs.size))
theorem Tu (q:h.get? e=some (A0 C dx vs)):(Jt h e fs).get? h.objs.size=some (tbO fs):=
 (aP (h.push (tbO fs)) (Kt h.objs.size) (apart q).symm).trans (aw h rfl)
theorem Ja {b:Addr} {o:Obj} (ne:b≠e) (q:h.get? b=some o):(Jt h e fs).get? b=some o:=
 (aP (h.push (tbO fs)) (Kt h.objs.size) ne.symm).trans (ag (tbO fs) q)
theorem Ul {h0:Heap} {l:List Addr} (hz:h.objs.size=h0.objs.size) (k1:∀ b,b∉l->h.get? b=h0.get? b) (k2:∀ b o,h0.get? b=some o -> ∃ sl,h.get? b=some { o with slots:=sl }) (q:h.get? e=some (A0 C dx vs)) (hs:vs.size=6) (hf:3<fs.size) :
  Wk l e C dx h0 (Jt h e fs) where
 exc:=⟨_,h.objs.size,_,_,Tt q,by rw [d_];exact hs,eU (by omega),by omega,apart q,Tu q,rfl,hf,fun vs0 q0=>by
  obtain⟨sl,z⟩:=k2 e _ q0
  rw [q] at z
  cases z
  exact dt (by decide)⟩
 keep:=fun b o ne nl hb=>Ja ne ((k1 b nl).trans hb)
 slot:=fun b o ne hb=>let ⟨sl,z⟩:=k2 b o hb;⟨sl,Ja ne z⟩
end
section
variable {M:mf} {A:bi} {E:Value->aj->Prop} {s:aj} {base:Heap} {env:Env} {outer:List Env} {L e C:Addr} {dx:Option Addr} {vs:Array Value} {Q:Unit->aj->Prop}
theorem Y1 {head:Value} {hadNext:Bool} {env0:Env} (hfr:A.frames=some (env0::outer)) (hl:s.heap.FunFrames base (env0::outer)) (h0:env0.frame=some L) (hf:env.frame=some L) (q:s.heap.get? e=some (A0 C dx vs)) (hs:vs.size=6) (k:∀ h',Wk (frs (env0::outer)) e C dx s.heap h'->Q () { s with heap:=h' }) :
  aI M A ((l_ env >>= fun a=>entryPlaceOf L hadNext >>= fun pl=>h9 head a .none (eC L) .none pl >>= fun b=>je (.ref e) 1 b)) Q E s:=by
 have off:e∉frs (env0::outer):=fun z=>by
  obtain⟨_,o,z1,z2⟩:=hl.mem z
  rw [q] at z1
  cases z1
  exact z2 vs rfl
 have fe:l_ env=l_ env0:=by unfold l_;rw [hf,h0]
 rw [fe]
 refine af (wpAny_frameOf_fun hfr hl h0 fun h1 ⟨a1,a2,a3⟩=>af (wpAny_entryPlaceOf fun pl hpl=>?_))
 unfold h9 newFields
 refine af (cB ?_ (hpl.sizeOk5 _ _ _ _ _))
 have q1:h1.get? e=some (A0 C dx vs):=(a2 e off).trans q
 have lt:3<([head,.ref L,.none,eC L,.none]++(if pl.isEmpty then j7 6 bh else pl)).toArray.size:=by rw [av,aJ];simp only [aN,jF];omega
 generalize ([head,.ref L,.none,eC L,.none]++(if pl.isEmpty then j7 6 bh else pl)).toArray=fs at lt ⊢
 exact eN (ag (tbO fs) q1) rfl (show 1<vs.size by omega) (k _ (Ul a1 a2 a3 q1 hs lt))
end
end L2
namespace L2
open PySem PySem.Spec PyProof.Rows
open Sem (wp)
section
variable {X:Cx} {pins:List (Addr×Obj)} {σ:St} {H:Hp} {s:aj} {a C:Addr} {dx:Option Addr} {h':Heap}
theorem av7 (I:Inv X pins σ H s) (ea:FlO H a C dx) (L:Wk (frs X.stack) a C dx s.heap h'):Un (frs X.stack) [] H H s.heap h' where
 keep:=fun b o q n hb _=>L.keep b o (fun z=>by rw [z] at n;rcases ea with ea|ea <;> (rw [ea] at n;cases n)) hb q
 slot:=fun b o q n _ _=>L.slot b o (fun z=>by rw [z] at n;rcases ea with ea|ea <;> (rw [ea] at n;cases n)) q
 free:=fun b o _ n _=>n
 there:=fun b o q _=>by
  by_cases hb:b=a
  ·obtain⟨vs',T,oT,ts',h1,_⟩:=L.exc
   exact⟨_,by rw [hb];exact h1⟩
  ·obtain⟨sl,h1⟩:=L.slot b o hb q
   exact⟨_,h1⟩
 tups:=fun _ _ e=>e
 frzs:=fun _ _ _ e=>e
 tbls:=fun b ps e=>⟨#[],by rw [e];simp⟩
theorem av6 (I:Inv X pins σ H s) (ea:FlO H a C dx) (L:Wk (frs X.stack) a C dx s.heap h'):HOk X.prog X.w H h':=fun b o e=>by
 by_cases hb:b=a
 ·subst hb
  obtain⟨vs',T,oT,ts',h1,h2,_,_,_,_,_,_,hc⟩:=L.exc
  rcases ea with ea|ea
  ·obtain⟨vs,g1,_,g3⟩:=af9 I ea
   rw [ea] at e
   cases e
   exact af8 h1 h2 ((hc vs g1).trans g3)
  ·rw [ea] at e
   cases e
   exact af7 h1 h2
 ·refine (I.hok b o e).stay (fun c u hc q=>L.keep c u ?_ ?_ q) (fun _ q=>q) fun _ _ q=>q
  ·rcases hc with rfl|hc
   ·exact hb
   ·rintro rfl
    rcases ea with ea|ea <;> (rw [ea] at hc;cases hc)
  ·intro hm
   have n:=I.stkFree c hm
   rcases hc with rfl|hc
   ·rw [n] at e;cases e
   ·rw [n] at hc;cases hc
end
end L2
namespace L2
open PySem PySem.Spec PyProof.Rows
open Sem (wp)
section
variable {X:Cx} {pins:List (Addr×Obj)} {σ:St} {H:Hp} {s:aj} {a:Addr} {E:Value->aj->Prop} {Q:Unit->aj->Prop}
noncomputable def FlyT (X:Cx) (pins:List (Addr×Obj)) (H:Hp) (a:Addr) (s:aj) (z:Value):Prop:=
 ∃ (C:Addr) (dx:Option Addr) (vs:Array Value) (T:Addr) (oT:Obj) (ts:Array Value),FlO H a C dx/\s.heap.get? a=some (A0 C dx vs)/\vs.size=6/\vs[1]? = some (.ref T)/\T≠a/\s.heap.get? T=some oT/\oT.data=.fields ts/\ts[3]? = some z/\Dw X pins H T
theorem FlyT.at {z:Value} (F:FlyT X pins H a s z):Gi X pins H a s:=by
 obtain⟨C,dx,vs,T,oT,ts,h1,h2,h3,q1,q2,q3,q4,q5,q6⟩:=F
 exact⟨C,dx,vs,h1,h2,h3,.inr ⟨T,oT,ts,q1,q2,q3,q4,⟨z,q5⟩,q6⟩⟩
theorem b66 {C T:Addr} {dx:Option Addr} {vs ts:Array Value} {oT:Obj} {y:Value} (I:Inv X pins σ H s) (h1:FlO H a C dx) (h2:s.heap.get? a=some (A0 C dx vs)) (h3:vs.size=6) (q1:vs[1]? = some (.ref T)) (q2:T≠a) (q3:s.heap.get? T=some oT) (q4:oT.data=.fields ts) (q5:ts[3]? = some y) (q6:Dw X pins H T) (v:Value) :
  Inv X pins σ H { s with heap:=s.heap.update T (b5 (·.setIfInBounds 3 v)) }/\FlyT X pins H a { s with heap:=s.heap.update T (b5 (·.setIfInBounds 3 v)) } v/\(s.heap.update T (b5 (·.setIfInBounds 3 v))).get? a=some (A0 C dx vs):=by
 have ha:(s.heap.update T (b5 (·.setIfInBounds 3 v))).get? a=some (A0 C dx vs):=(aP _ _ q2).trans h2
 obtain⟨c0,d0,dt0,sl0⟩:=oT
 cases (show dt0=.fields ts from q4)
 have hT:(s.heap.update T (b5 (·.setIfInBounds 3 v))).get? T=some ⟨c0,d0,.fields (ts.setIfInBounds 3 v),sl0⟩:=aU _ q3 (dD (vs:=ts.setIfInBounds 3 v) rfl)
 exact⟨I.turned (t':=s.toks) (fun b o ne e=>(aP _ _ (ck ne)).trans e) q6.1 q6.2.1 q6.2.2.2.1 q6.2.2.2.2.1 q6.2.2.2.2.2,⟨C,dx,vs,T,_,_,h1,ha,h3,q1,q2,hT,rfl,eU (Array.getElem?_eq_some_iff.mp q5).1,q6⟩,ha⟩
theorem Xf {A:bi} {fr:Option Addr} {z:Value} (I:Inv X pins σ H s) (F:FlyT X pins H a s z) (h:∀ s',Inv X pins σ H s'->FlyT X pins H a s' (fr.elim .none fun f=>eC f)->Q () s'):aI (model X.prog X.w) A (jP (.ref a) fr) Q E s:=by
 obtain⟨C,dx,vs,T,oT,ts,h1,h2,h3,q1,q2,q3,q4,q5,q6⟩:=F
 obtain⟨I',F',_⟩:=b66 I h1 h2 h3 q1 q2 q3 q4 q5 q6 (fr.elim .none fun f=>eC f)
 unfold jP
 refine af (bd h2 rfl q1 ?_)
 rw [if_pos (by simp)]
 exact eN q3 q4 (Array.getElem?_eq_some_iff.mp q5).1 (h _ I' F')
theorem ak0 {env:Env} (I:Inv X pins σ H s) {e0:Env} {o0:List Env} {L:Addr} (hs:X.stack=e0::o0) (h0:e0.frame=some L) (hf:env.frame=some L) (F:Gi X pins H a s) (h:∀ s' z,Inv X pins σ H s'->FlyT X pins H a s' z->Q () s') :
  aI (model X.prog X.w) X.A (kO (.ref a) env) Q E s:=by
 obtain⟨C,dx,vs,h1,h2,h3,h4⟩:=F
 have fr:X.A.frames=some (e0::o0):=hs▸I.ok.frames
 have new:∀ {s1:aj} {head:Value} {hadNext:Bool},Inv X pins σ H s1->s1.heap.get? a=some (A0 C dx vs)->aI (model X.prog X.w) X.A ((l_ env >>= fun y=>entryPlaceOf L hadNext >>= fun pl=>h9 head y .none (eC L) .none pl >>= fun b=>je (.ref a) 1 b)) Q E s1:=fun {s1 head hadNext} I1 q=>by
  have fn:s1.heap.FunFrames X.base (e0::o0):=hs▸I1.stack
  refine Y1 (base:=X.base) fr fn h0 hf q h3 fun h' L=>?_
  rw [<- hs] at L
  have I':=I1.call (h':=h') (g':=s1.gens) (t':=s1.toks) (d':=s1.drawn) (ch:=[]) (av7 I1 h1 L) (av6 I1 h1 L) I1.bare (fun b z=>absurd z (by simp))
  obtain⟨vs',T,oT,ts',a1,a2,a3,a4,a5,a6,a7,a8,_⟩:=L.exc
  exact h _ _ I' ⟨C,dx,vs',T,oT,ts',h1,a1,a2,a3,a5,a6,a7,iG a8,I1.fpOk a4 (I1.hok.fresh a4)⟩
 unfold kO
 simp only [hf]
 rcases h4 with c|⟨T,oT,ts,c,ne,hT,hd,⟨z,hz⟩,fp⟩
 ·refine af (bd h2 rfl c ?_)
  rw [if_neg (by decide)]
  exact new I h2
 ·refine af (bd h2 rfl c ?_)
  rw [if_pos (by simp)]
  refine af (bd hT hd hz ?_)
  by_cases e:(z==eC L)=true
  ·rw [if_pos e]
   exact al (h s z I ⟨C,dx,vs,T,oT,ts,h1,h2,h3,c,ne,hT,hd,hz,fp⟩)
  ·rw [if_neg e]
   obtain⟨I',_,ha⟩:=b66 I h1 h2 h3 c ne hT hd hz fp .none
   exact af (eN hT hd (Array.getElem?_eq_some_iff.mp hz).1 (new I' ha))
theorem aw8 (I:Inv X pins σ H s) (hs:X.stack=X.env::X.outer) (hf:X.env.frame=some X.env.locals) (F:Gi X pins H a s) (h:∀ s',Inv X pins σ H s'->FlyT X pins H a s' .none->Q () s') :
  aI (model X.prog X.w) X.A (kO (.ref a) X.env) (fun _ s1=>aI (model X.prog X.w) X.A (jP (.ref a) none) Q E s1) E s:=
 ak0 I hs hf hf F fun s1 z I1 F1=>Xf I1 F1 h
theorem Hz {A:bi} (I:Inv X pins σ H s) (F:Gi X pins H a s) (h:∀ s',Inv X pins σ H s'->Gi X pins H a s'->Q () s'):aI (model X.prog X.w) A (jP (.ref a) none) Q E s:=by
 obtain⟨C,dx,vs,h1,h2,h3,h4⟩:=F
 rcases h4 with h4|⟨T,oT,ts,q1,q2,q3,q4,⟨z,q5⟩,q6⟩
 ·unfold jP
  refine af (bd h2 rfl h4 ?_)
  rw [if_neg (by decide)]
  exact al (h s I ⟨C,dx,vs,h1,h2,h3,.inl h4⟩)
 ·exact Xf I ⟨C,dx,vs,T,oT,ts,h1,h2,h3,q1,q2,q3,q4,q5,q6⟩ fun s' I' F'=>h s' I' F'.at
end
section
variable {prog:aV} {w:bM} {A:bi} {E:Value->aj->Prop} {s:aj} {K:ac} {a C D:Addr} {dx:Option Addr} {vs:Array Value} {b:Bool} {Q:Bool->aj->Prop}
open PySem.W in
theorem Ku (X:K.In s.heap) (c:ECls K C) (d:ECls K D) (ha:s.heap.get? a=some (A0 C dx vs)) (m:mroIn K C (.ref D)=some b) (h:Q b s) :
  aI (model prog w) A (excMatches (.ref a) (.ref D)) Q E s:=by
 obtain⟨nm,qn,N,bs,bm,hdct,sn,sub,ab,col,dd,k0,k1,k2,k3,k5,hl,ht,hd⟩:=c.obj
 obtain⟨nm',qn',N',bs',bm',hdct',sn',sub',ab',col',dd',k0',k1',k2',k3',k5',hl',ht',hd'⟩:=d.obj
 have hC:=X _ _ hl
 have hD:=X _ _ hl'
 have hcB:(aY D::bm').contains (.type "BaseException")=true:=by rw [cr,Bv ht' (show valTail.contains (.type "BaseException")=true by decide +kernel),eX]
 have hcD:(aY C::bm).contains (.ref D)=b:=by
  unfold mroIn at m
  obtain⟨cd,e,em⟩:∃ cd,clsIn K C=some cd/\cd.mro=.ref C::bm:=⟨_,by unfold clsIn;rw [hl],rfl⟩
  rw [e,gW,em] at m
  exact aF m
 have f:=tc_notTuple
 obtain⟨hp,g,dr,tk,os⟩:=s
 unfold excMatches
 repeat (first|with_reducible refine bI ha ?_|with_reducible refine bI hD ?_|(with_reducible refine cO hD ?_;rw [hcB])|(with_reducible refine cO hC ?_;rw [hcD])|wp_step)
 cases b <;> (wp_walk;exact h)
end
end L2
namespace L2
open PySem PySem.Spec PyProof.Rows
section
variable {X:Cx} {G:Sg} {elt tg iter:Expr} {ifs:List Expr} {sc:Scope} {wi:DI} {g:DG} {tc:DT} {de:DE} {pos:Pos}
theorem bt9 {pins pins':List (Addr×Obj)} {σ:St} {H2 H':Hp} {s2:aj} {N':List Str} {cl:List (Str×Addr)} {fp:List Addr} {C T:Addr} {xe:Value->aj->Prop} (I2:Inv X pins σ H2 s2) (f2:∀ b∈fp,Dw X pins H2 b)
  (F:Dw (X.comp N' sc cl fp C s2 H2 xe) pins' H' T):Dw X pins H' T:=by
 obtain⟨r1,r2,r3,r4,r5,r6⟩:=F
 rcases r4 with r4|r4
 ·exact⟨r1,(f2 T r4).2⟩
 ·exact I2.fpOk r4 r1
theorem Kv {Ex:St->EK} (m:Meets X Ex) (fr:FrH X) {pins:List (Addr×Obj)} {σ:St} {H2:Hp} {s2:aj} {N':List Str} {cl:List (Str×Addr)} {fp:List Addr} {C D:Addr} {us:Option (Value->Sem Unit)} {Q2:Value->aj->Prop} (I2:Inv X pins σ H2 s2) (f2:∀ b∈fp,Dw X pins H2 b)
  (hC:s2.heap.objs.size<=C):Meets (X.comp N' sc cl fp C s2 H2 (Bm X sc cl us Q2 D C)) (fun _ a H'=>Ex σ a H'):=by
 intro pins' σ' H' s' a I' F' hE
 obtain⟨e0,o0,L,f1,f3,f4⟩:=fr
 refine ak0 (X:=X.comp N' sc cl fp C s2 H2 (Bm X sc cl us Q2 D C)) (env:=l9 sc cl C X.env) I' f1 f3 f4 F' fun s3 z I3 F3=>?_
 obtain⟨mm,hn,_⟩:=id I3.loc
 refine⟨mm,hn,fun h' sb cenv hce=>?_⟩
 have I4:Inv X pins σ H' s3:=I2.call' (ch:=fp) I3.os I3.base I3.hok I3.bare fun b hb=>⟨(f2 b hb).2.2.2.1,(f2 b hb).2.1,(f2 b hb).2.2.2.2.1,(f2 b hb).2.2.2.2.2⟩
 have fo:=I2.fpOk hC I3.free
 obtain⟨g0,g1,g2,g3,g4,g5⟩:=id fo
 have I5:Inv X pins σ H' { s3 with heap:=h' }:=I4.turned (t':=s3.toks) (fun b o hb e=>(sb.2 b hb).trans e) g0 g1 g3 g4 g5
 obtain⟨C0,dx,vs,T,oT,ts,h1,h2,h3,q1,q2,q3,q4,q5,q6⟩:=F3
 have na:a≠C:=fun z=>by rcases h1 with h1|h1 <;> (rw [z,g0] at h1;cases h1)
 have nT:T≠C:=q6.2.1
 have F5:FlyT X pins H' a { s3 with heap:=h' } z:=⟨C0,dx,vs,T,oT,ts,h1,(sb.2 a na).trans h2,h3,q1,q2,(sb.2 T nT).trans q3,q4,q5,bt9 I2 f2 q6⟩
 unfold PySem.passOn
 refine af (bd (s:={ s3 with heap:=h' }) ((sb.2 a na).trans h2) rfl q1 ?_)
 rw [if_neg (by simp)]
 refine af (Xf I5 F5 fun s6 I6 F6=>?_)
 exact ky (m pins σ H' s6 a I6 F6.at hE)
noncomputable def as5 (X:Cx) (ifs:List Expr) (t:DT):Prop:=∀ Ex,Meets X Ex->Xv X ifs (fun σ H Q=>t σ H Q (Ex σ))
theorem R5:as5 X [] B5:=fun _ _=>ak9
theorem R6 {c:Expr} {t:DT} (h:QT X c t):as5 X [c] t:=fun Ex m=>al0 (h Ex m)
theorem W5 (O:GOk X G) (hc:X.calm=true) (hk:Fl G sc=true) (hs:Ky iter=true) (hi:QI X tg iter wi) (hg:∀ X',GOk X' (C3 G sc.names)->PG X' tg g) (ht:∀ X',GOk X' (C3 G sc.names)->as5 X' ifs tc) (he:∀ X',GOk X' (C3 G sc.names)->QE X' elt de) :
  QE X (.ListComp elt [⟨tg,iter,ifs,0⟩] sc pos) (Bg (F0 G sc.names) wi g tc de):=by
 intro Ex m pins s σ H Q I h
 exact ae5 hc (Ot O hk) (hi Ex m) (fun Q2 fp C D s2 H2 I2 f2 hC=>
  have M:=Kv (N':=(C3 G sc.names).N) (cl:=C2 X.env.cells sc.names []) (us:=none) (Q2:=Q2) (D:=D) m O.fr I2 f2 hC
  have K:=Ws O hk fp C s2 H2 (Bm X sc (C2 X.env.cells sc.names []) none Q2 D C)
  ⟨hg _ K,ht _ K _ M,he _ K _ M⟩) I h (fun x=>Kz hs X.env x)
end
noncomputable def Wq (K:ac) (op:BoolOp):List DE->DE
 | []=>dNo
 | [a]=>a
 | a::r=>match op with
  | .And=>M9 K a (Wq K op r)
  | .Or=>bt5 K a (Wq K op r)
noncomputable def Wp (op:BoolOp):List DT->DT
 | []=>fun _ _ _ _=>False
 | [a]=>a
 | a::r=>match op with
  | .And=>Kg a (Wp op r)
  | .Or=>dOr a (Wp op r)
noncomputable def Dc:List DE->DA
 | []=>Aj
 | a::r=>Ac a (Dc r)
noncomputable def tNo:DT:=fun _ _ _ _=>False
noncomputable def Zs (G:Sg) (ops:List l4) (bs:List Expr) (a:DE) (ds:List DE):DE:=match ops,bs,ds with
 | [op],[b],[d]=>if jc op b=false then Ae (Mu G.K op) a d else dNo
 | [op,op'],[b,c],[d,d']=>if lastMarks [op,op'] [b,c]=false then Dx (Mu G.K op) (Mu G.K op') a d d' else dNo
 | _,_,_=>dNo
noncomputable def ar1 (G:Sg) (x:Str) (es:List Expr) (ds:List DE):DE:=
 if Jn G x=true/\(Cm G.N x 0)=none/\es.all noStar=true then (match G.gb.lookup x with
  | some (.fn i)=>if es.length<=i.ps.length/\i.ps.length<=es.length+i.dfs.length then dFn (spE i.sp (i.dfs.drop (es.length+i.dfs.length - i.ps.length))) (Dc ds) else dNo
  | some (.exc C oi)=>(match oi with
   | none=>if es.isEmpty=true then dFn (mkX C none 0) (Dc ds) else dFn (fun vs H Q E=>vs.length<=1000/\mkX C none 0 vs H Q E) (Dc ds)
   | some i=>if es.length+1<=i.ps.length/\i.ps.length<=es.length+1+i.dfs.length then (if es.isEmpty=true then dFn (mkX C (some i) (es.length+1+i.dfs.length - i.ps.length)) (Dc ds)
    else dFn (fun vs H Q E=>vs.length<=1000/\mkX C (some i) (es.length+1+i.dfs.length - i.ps.length) vs H Q E) (Dc ds)) else dNo)
  | some (.cls C oi)=>(match oi with
   | none=>if es.isEmpty=true then dFn (mkC C none 0) (Dc ds) else dNo
   | some i=>if es.length+1<=i.ps.length/\i.ps.length<=es.length+1+i.dfs.length then dFn (mkC C (some i) (es.length+1+i.dfs.length - i.ps.length)) (Dc ds) else dNo)
  | some _=>dNo
  | none=>if G.bl.contains x=true then (match ba7 G.K G.calm x with
   | some (_,r)=>if es.isEmpty=true then dNo else dFn (fun vs H Q _=>r vs H Q) (Dc ds)
   | none=>dNo) else dNo) else dNo
noncomputable def ar3 (G:Sg) (o:Expr) (m:Str) (es:List Expr) (ap cp:Pos) (d:DE) (ds:List DE):DE:=
 if Db o=true/\es.all noStar=true/\es.length<30/\(ap.endLine==cp.line)=true then (match Bz G.gb m with
  | none=>dMt (rMt G.K (mtR G.K m)) d (Dc ds)
  | some l=>Fh m es.length l d (Dc ds)) else dNo
inductive Fz where
 | lenSet (a:Expr)|listItems (o:Expr)|revList (a:Expr)|rngList (a:Expr)|zipList (a b:Expr)
noncomputable def fzD (K:ac) (w:Expr->DE):Fz->DE
 | .lenSet a=>dUn (Jz K) (w a)
 | .listItems o=>dUn (Fa K) (w o)
 | .revList a=>dUn (K8 K) (w a)
 | .rngList a=>dUn Sc (w a)
 | .zipList a b=>dFn (fun vs H Q _=>Ft vs H Q) (Dc ([a,b].map w))
noncomputable def Km (G:Sg) (x:Str):Bool:=Jn G x&&(G.gb.lookup x).isNone&&G.bl.contains x
noncomputable def Ub (G:Sg) (x:Str) (es:List Expr):Option Fz:=match es with
 | [.Call (.Name y _) [a] [] _]=>if x = "len" /\ y = "set" /\ Km G x=true/\Km G y=true/\noStar a=true/\G.calm=true then some (.lenSet a)
  else if x = "list" /\ y = "reversed" /\ Km G x=true/\Km G y=true/\noStar a=true/\G.calm=true then some (.revList a)
  else if x = "list" /\ y = "range" /\ Km G x=true/\Km G y=true/\noStar a=true/\G.calm=true then some (.rngList a) else none
 | [.Call (.Name y _) [a,b] [] _]=>if x = "list" /\ y = "zip" /\ Km G x=true/\Km G y=true/\[a,b].all noStar=true/\G.calm=true then some (.zipList a b) else none
 | [.Call (.Attribute o m ap) [] [] cp]=>if x = "list" /\ m = "items" /\ Km G x=true/\Db o=true/\(ap.endLine==cp.line)=true/\G.calm=true then some (.listItems o) else none
 | _=>none
mutual
noncomputable def wE:Nat->Sg->Expr->DE
 | 0,_,_=>dNo
 | n+1,G,e=>match e with
  | .Constant c _ _=>ar2 c
  | .Name x _=>ar4 G x
  | .BinOp a op b _=>Ae (rOp G.K op) (wE n G a) (wE n G b)
  | .UnaryOp .USub a _=>dUn R7 (wE n G a)
  | .UnaryOp .Not a _=>ae7 G.K (wE n G a)
  | .UnaryOp .Invert a _=>dUn N4 (wE n G a)
  | .BoolOp op es _=>Wq G.K op (es.map (wE n G))
  | .Compare a ops bs _=>Zs G ops bs (wE n G a) (bs.map (wE n G))
  | .IfExp t a b _=>bt4 (wT n G t) (wE n G a) (wE n G b)
  | .List es _=>if es.all noStar=true then Dh (Dc (es.map (wE n G))) else dNo
  | .Tuple es _ _=>if es.all noStar=true then Hv (Dc (es.map (wE n G))) else dNo
  | .Subscript a (.Slice lo hi none _) _=>dSl G.K (wE n G a) (match lo with|none=>Cf|some l=>Do (wE n G l)) (match hi with|none=>Cf|some h=>Do (wE n G h))
  | .Subscript a b _=>if Hg b=true then Ae (Aq G.K) (wE n G a) (wE n G b) else dNo
  | .Attribute o f _=>if Db o=true then dUn (De G.K f) (wE n G o) else dNo
  | .Call (.Name x _) es [] _=>match Ub G x es with
   | some z=>fzD G.K (wE n G) z
   | none=>ar1 G x es (es.map (wE n G))
  | .Dict ks vs _=>if ks.isEmpty=true/\vs.isEmpty=true then G7 else if (ks.all (·.isSome))=true/\ks.length=vs.length/\ks.length<=15/\ks.isEmpty=false then ae6 (((ks.filterMap id).zip vs).map fun p=>(wE n G p.1,wE n G p.2)) else dNo
  | .Call (.Attribute o m ap) es [] cp=>ar3 G o m es ap cp (wE n G o) (es.map (wE n G))
  | .ListComp elt [⟨tg,iter,ifs,0⟩] sc _=>if G.calm=true/\Fl G sc=true/\Ky iter=true then
    Bg (F0 G sc.names) (wI n G tg iter) (wG n (C3 G sc.names) tg) (match ifs with | []=>B5 | [c]=>wT n (C3 G sc.names) c|_=>tNo) (wE n (C3 G sc.names) elt) else dNo
  | _=>dNo
noncomputable def wT:Nat->Sg->Expr->DT
 | 0,_,_=>tNo
 | n+1,G,e=>match e with
  | .UnaryOp .Not a _=>Dq (wT n G a)
  | .BoolOp op es _=>Wp op (es.map (wT n G))
  | .Compare a ops bs _=>Az (Zs G ops bs (wE n G a) (bs.map (wE n G)))
  | .IfExp _ _ _ _=>tNo
  | e=>C6 G.K (wE n G e)
noncomputable def wI:Nat->Sg->Expr->Expr->DI
 | 0,_,_,_=>iNo
 | n+1,G,tg,e=>match e with
  | .Call (.Name x _) (a::es) [] _=>
   if x = "range" /\ Jn G x=true/\G.gb.lookup x=none/\G.bl.contains x=true/\(a::es).all noStar=true then Gg (Dc ((a::es).map (wE n G)))
   else if x = "enumerate" /\ Jn G x=true/\G.gb.lookup x=none/\G.bl.contains x=true/\(a::es).all noStar=true then (match tg with
    | .Tuple _ _ _=>iEn G.K (Dc ((a::es).map (wE n G)))
    | _=>iNo)
   else Bs G.K (wE n G e)
  | e=>Bs G.K (wE n G e)
end
theorem a54 {X:Cx} {e:Expr}:QT X e tNo:=fun _ _ _ _ _ _ _ _ h=>h.elim
theorem Cc {X:Cx} {w:Expr->DE} (h:∀ e,QE X e (w e)):∀ {es:List Expr},es.all noStar=true->QA X es (Dc (es.map w))
 | [],_=>al8
 | e::es,hs=>by
  rw [bw,ax] at hs
  exact W4 (h e) (Cc h hs.2) hs.1
theorem Po {X:Cx} {w:Expr->DE} {op:BoolOp} {pos:Pos} (h:∀ e,QE X e (w e)):∀ {es:List Expr},QE X (.BoolOp op es pos) (Wq X.K op (es.map w))
 | []=>Bp
 | [e]=>bi9 (h e)
 | e::e'::es=>by
  cases op with
  | And=>exact bh9 (h e) (Po h)
  | Or=>exact b05 (h e) (Po h)
theorem Pq {X:Cx} {w:Expr->DT} {op:BoolOp} {pos:Pos} (h:∀ e,QT X e (w e)):∀ {es:List Expr},QW X (.BoolOp op es pos) (Wp op (es.map w))
 | []=>fun _ _ _ _ _ _ _ _ _ h=>h.elim
 | [e]=>by
  cases op with
  | And=>exact a05 (h e)
  | Or=>exact bk6 (h e)
 | e::e'::es=>by
  cases op with
  | And=>exact bk5 (h e) (Pq h)
  | Or=>exact b07 (h e) (Pq h)
section
variable {X:Cx} {G:Sg}
theorem az3 (O:GOk X G) {w:Expr->DE} (h:∀ e,QE X e (w e)) (a:Expr) (ops:List l4) (bs:List Expr) (pos:Pos):QE X (.Compare a ops bs pos) (Zs G ops bs (w a) (bs.map w)):=by
 unfold Zs
 rw [<- O.K]
 split
 ·rename_i op b d e
  have:d=w b:=by simpa using e.symm
  subst this
  split
  ·exact bi2 O.units op (h a) (h b) ‹_›
  ·exact Bp
 ·rename_i op op' b c d d' e
  have:w b=d/\w c=d':=by simpa using e
  obtain⟨rfl,rfl⟩:=this
  split
  ·exact am1 O.units op op' (h a) (h b) (h c) ‹_›
  ·exact Bp
 ·exact Bp
theorem a04 (O:GOk X G) {w:Expr->DE} (h:∀ e,QE X e (w e)) (a:Expr) (ops:List l4) (bs:List Expr) (pos:Pos):QT X (.Compare a ops bs pos) (Az (Zs G ops bs (w a) (bs.map w))):=by
 unfold Zs
 rw [<- O.K]
 split
 ·rename_i op b d e
  have:d=w b:=by simpa using e.symm
  subst this
  split
  ·exact bk2 O.units op (h a) (h b) ‹_›
  ·exact fun _ _ _ _ _ _ _ _ h=>h.elim
 ·rename_i op op' b c d d' e
  have:w b=d/\w c=d':=by simpa using e
  obtain⟨rfl,rfl⟩:=this
  split
  ·exact am8 O.units op op' (h a) (h b) (h c) ‹_›
  ·exact fun _ _ _ _ _ _ _ _ h=>h.elim
 ·exact fun _ _ _ _ _ _ _ _ h=>h.elim
theorem am0 (O:GOk X G) {w:Expr->DE} (h:∀ e,QE X e (w e)) (x:Str) (es:List Expr) (p pos:Pos):QE X (.Call (.Name x p) es [] pos) (ar1 G x es (es.map w)):=by
 unfold ar1
 split
 ·rename_i hh
  obtain⟨hg,_,hs⟩:=hh
  have dd:=Ko hg
  split
  ·rename_i i e
   obtain⟨hm,F⟩:=O.fn x i e
   split
   ·rename_i hl
    cases es with
    | nil=>exact al9 F (by have:=hl.1;omega) (O.gl hg) hm dd.1
    | cons e es=>exact az2 F (by have:=hl.1;omega) (O.gl hg) hm (Cc h hs) hs dd.1
   ·exact Bp
  ·rename_i C oi e
   obtain⟨hm,kp,c,hi⟩:=O.exc x C oi e
   split
   ·cases es with
    | nil=>exact W7 (j:=0) c hi (fun i z=>nomatch z) kp (O.gl hg) hm dd.1
    | cons e es=>exact U2 (j:=0) c hi (fun i z=>nomatch z) kp (O.gl hg) hm (Cc h hs) hs dd.1
   ·rename_i i
    split
    ·rename_i hl
     cases es with
     | nil=>exact W7 (j:=([]:List Expr).length+1+i.dfs.length - i.ps.length) c hi (fun i z=>by cases z;have:=hl.1;omega) kp (O.gl hg) hm dd.1
     | cons e es=>exact U2 (j:=(e::es).length+1+i.dfs.length - i.ps.length) c hi (fun i z=>by cases z;have:=hl.1;omega) kp (O.gl hg) hm (Cc h hs) hs dd.1
    ·exact Bp
  ·rename_i C oi e
   obtain⟨hm,kp,hi⟩:=O.cls x C oi e
   split
   ·cases es with
    | nil=>exact W6 (j:=0) hi (fun i z=>nomatch z) kp (O.gl hg) hm dd.1
    | cons e es=>exact Bp
   ·rename_i i
    split
    ·rename_i hl
     cases es with
     | nil=>exact W6 hi (fun i z=>by cases z;have:=hl.1;omega) kp (O.gl hg) hm dd.1
     | cons e es=>exact bi5 hi (fun i z=>by cases z;have:=hl.1;omega) kp (O.gl hg) hm (Cc h hs) hs dd.1
    ·exact Bp
  ·exact Bp
  ·rename_i e
   split
   ·rename_i hb
    split
    ·rename_i f r er
     split
     ·exact Bp
     ·rename_i hne
      cases es with
      | nil=>exact absurd rfl hne
      | cons e es=>
       rw [<- O.K] at er
       obtain⟨b1,b2⟩:=at4 O.units er O.calm
       exact bi1 b2 (O.gl hg) (O.bl x hb) b1 (Cc h hs) hs dd.2.2 dd.1
    ·exact Bp
   ·exact Bp
 ·exact Bp
theorem am2 (O:GOk X G) {w:Expr->DE} (h:∀ e,QE X e (w e)) (o:Expr) (m:Str) (es:List Expr) (ap cp:Pos):QE X (.Call (.Attribute o m ap) es [] cp) (ar3 G o m es ap cp (w o) (es.map w)):=by
 unfold ar3
 rw [<- O.K]
 split
 ·rename_i hh
  obtain⟨h1,h2,h3,h4⟩:=hh
  split
  ·cases es with
   | nil=>exact bi6 (fun b hb=>aj3 O.units hb) (h o) h1 h4
   | cons e es=>exact b04 (fun b hb=>aj3 O.units hb) (h o) (Cc h h2) h1 h2 h3 h4
  ·rename_i l e
   cases es with
   | nil=>exact az8 (O.met m l e) (h o) h1 h4
   | cons e es=>exact bj0 (O.met m l ‹_›) (h o) (Cc h h2) h1 h2 h3 h4
 ·exact Bp
end
theorem Bh {X:Cx} {G:Sg} (O:GOk X G) {x:Str} (h:Km G x=true):Gl X x/\X.mg x=none:=by
 unfold Km at h
 rw [ax,ax] at h
 exact⟨O.gl h.1.1,O.bl _ h.2⟩
theorem az6 {X:Cx} {G:Sg} (O:GOk X G) {w:Expr->DE} (h:∀ e,QE X e (w e)) {x:Str} {es:List Expr} {p pos:Pos} {z:Fz} (e:Ub G x es=some z) :
  QE X (.Call (.Name x p) es [] pos) (fzD G.K w z):=by
 unfold Ub at e
 split at e
 ·split at e
  ·rename_i hh
   obtain⟨rfl,rfl,h1,h2,h3,h4⟩:=hh
   cases e
   rw [<- O.K]
   exact Za (O.calm▸h4) (Bh O h1).1 (Bh O h1).2 (Bh O h2).1 (Bh O h2).2 (h _) h3
  ·split at e
   ·rename_i hh
    obtain⟨rfl,rfl,h1,h2,h3,h4⟩:=hh
    cases e
    rw [<- O.K]
    exact U3 (O.calm▸h4) (Bh O h1).1 (Bh O h1).2 (Bh O h2).1 (Bh O h2).2 (h _) h3
   ·split at e
    ·rename_i hh
     obtain⟨rfl,rfl,h1,h2,h3,h4⟩:=hh
     cases e
     exact U4 (O.calm▸h4) (Bh O h1).1 (Bh O h1).2 (Bh O h2).1 (Bh O h2).2 (h _) h3
    ·cases e
 ·split at e
  ·rename_i hh
   obtain⟨rfl,rfl,h1,h2,h3,h4⟩:=hh
   cases e
   exact U5 (O.calm▸h4) (Bh O h1).1 (Bh O h1).2 (Bh O h2).1 (Bh O h2).2 (Cc h h3) h3
  ·cases e
 ·split at e
  ·rename_i hh
   obtain⟨rfl,rfl,h1,h2,h3,h4⟩:=hh
   cases e
   rw [<- O.K]
   exact Pp (O.calm▸h4) (Bh O h1).1 (Bh O h1).2 (h _) h2 h3
  ·cases e
 ·cases e
theorem Q5 {α:Type}:∀ {ks:List (Option α)},ks.all (·.isSome)=true->(ks.filterMap id).map some=ks
 | [],_=>rfl
 | none::_,h=>by simp at h
 | some k::ks,h=>by
  rw [bw,ax] at h
  show some k::(ks.filterMap id).map some=_
  rw [Q5 h.2]
theorem bs5:∀ (n:Nat) (X:Cx) (G:Sg),GOk X G->(∀ e,QE X e (wE n G e))/\(∀ e,QT X e (wT n G e))/\(∀ tg e,QI X tg e (wI n G tg e)):=by
 intro n
 induction n with
 | zero=>
  intro X G O
  refine⟨fun e=>?_,fun e=>?_,fun tg e=>?_⟩
  ·unfold wE;exact Bp
  ·unfold wT;exact a54
  ·unfold wI;exact a53
 | succ n ih=>
  intro X G O
  obtain⟨hE,hT,hI⟩:=ih X G O
  have hv:∀ tg e,QI X tg e (Bs G.K (wE n G e)):=fun tg e=>by rw [<- O.K];exact bj3 (hE e)
  refine⟨fun e=>?_,fun e=>?_,fun tg e=>?_⟩
  ·unfold wE
   split
   ·exact R4 _ _ _
   ·exact az7 O _ _
   ·rw [<- O.K];exact bi0 _ (hE _) (hE _)
   ·exact bi7 (hE _)
   ·rw [<- O.K];exact bi8 (hE _)
   ·exact bi3 (hE _)
   ·rw [<- O.K];exact Po hE
   ·exact az3 O hE _ _ _ _
   ·exact b02 (hT _) (hE _) (hE _)
   ·split
    ·exact bi4 (Cc hE ‹_›)
    ·exact Bp
   ·split
    ·exact bj1 (Cc hE ‹_›)
    ·exact Bp
   ·rw [<- O.K]
    refine am3 (hE _) ?_ ?_
    ·split
     ·exact W8
     ·exact W9 (hE _)
    ·split
     ·exact W8
     ·exact W9 (hE _)
   ·split
    ·rw [<- O.K];exact b03 O.units (hE _) (hE _) ‹_›
    ·exact Bp
   ·split
    ·rw [<- O.K];exact az1 (hE _) (D6 ‹_› _ X.env _)
    ·exact Bp
   ·split
    ·exact az6 O hE ‹_›
    ·exact am0 O hE _ _ _ _
   ·rename_i ks vs p0
    split
    ·rename_i hh
     have e1:ks=[]:=by simpa using hh.1
     have e2:vs=[]:=by simpa using hh.2
     subst e1 e2
     exact az5
    ·split
     ·rename_i hh
      obtain⟨h1,h2,h3,h4⟩:=hh
      have e:=Q5 h1
      have hl:(ks.filterMap id).length=ks.length:=by rw [<- ae (f:=some),e]
      have q:=az4 (X:=X) (pos:=p0) hE (ks:=ks.filterMap id) (vs:=vs) (by rw [hl];exact h2) (fun z=>by rw [z] at e;rw [<- e] at h4;simp at h4) (by rw [hl];exact h3)
      rw [e] at q
      exact q
     ·exact Bp
   ·exact am2 O hE _ _ _ _ _
   ·split
    ·rename_i hh
     obtain⟨h1,h2,h3⟩:=hh
     refine W5 O (O.calm▸h1) h2 h3 (hI _ _) (fun X' O'=>Ta n X' _ O' _) (fun X' O'=>?_) (fun X' O'=>(ih X' _ O').1 _)
     split
     ·exact R5
     ·exact R6 ((ih X' _ O').2.1 _)
     ·exact fun _ _ _ _ _ _ _ _ h=>h.elim
    ·exact Bp
   ·exact Bp
  ·unfold wT
   split
   ·exact bk3 (hT _)
   ·exact fun Ex m=>PW.pt (Pq hT Ex m)
   ·exact a04 O hE _ _ _ _
   ·exact a54
   ·rename_i h1 h2 h3 h4
    rw [<- O.K]
    refine bk4 (hE _) ?_
    cases e with
    | UnaryOp op a p=>cases op <;> first|rfl|exact absurd rfl (h1 _ _)
    | BoolOp op es p=>exact absurd rfl (h2 _ _ _)
    | Compare a b c p=>exact absurd rfl (h3 _ _ _ _)
    | IfExp a b c p=>exact absurd rfl (h4 _ _ _ _)
    | _=>rfl
  ·unfold wI
   split
   ·split
    ·rename_i hh
     obtain⟨rfl,h1,_,h2,h3⟩:=hh
     exact am4 (O.gl h1) (O.bl _ h2) (Cc hE h3) h3
    ·split
     ·rename_i hh
      obtain⟨rfl,h1,_,h2,h3⟩:=hh
      split
      ·rw [<- O.K];exact az9 (O.gl h1) (O.bl _ h2) (Cc hE h3) h3
      ·exact a53
     ·exact hv _ _
   ·exact hv _ _
noncomputable def Cx.tr (X:Cx) (pn:List (Addr×Obj)) (xe:Value->aj->Prop):Cx:={ X with pn:=pn,xe:=xe }
noncomputable def Cx.hd (X:Cx) (a:Addr):Cx:={ X with A:=X.A.mark (some (.ref a)),calm:=false,xe:=fun _ _=>False }
section
variable {X:Cx} {pins pins':List (Addr×Obj)} {σ:St} {H:Hp} {s:aj} {a C:Addr} {dx:Option Addr} {xe:Value->aj->Prop}
theorem bw2 {pn:List (Addr×Obj)} (o:X.Ok):(X.tr pn xe).Ok:=⟨o.mod,o.kind,o.glob,o.blt,o.above,o.inj,o.has,o.cab,o.hd,o.frames,o.stk,o.exf,o.bs,o.bsz,o.noex,o.exfs,o.funs,o.frf⟩
theorem ax1 {pn:List (Addr×Obj)} (o:(X.tr pn xe).Ok):X.Ok:=⟨o.mod,o.kind,o.glob,o.blt,o.above,o.inj,o.has,o.cab,o.hd,o.frames,o.stk,o.exf,o.bs,o.bsz,o.noex,o.exfs,o.funs,o.frf⟩
theorem bb9 (I:Inv X pins σ H s):Inv (X.tr (X.pn++pins) xe) [] σ H s:=
 ⟨bw2 I.ok,I.os,I.bare,I.base,I.loc,I.cell,I.free,I.freeC,fun p hp=>I.pin p (by rw [cv] at hp;exact hp),I.hok,I.len⟩
theorem Fo (I:Inv (X.tr (X.pn++pins) xe) pins' σ H s):Inv X pins σ H s:=
 ⟨ax1 I.ok,I.os,I.bare,I.base,I.loc,I.cell,I.free,I.freeC,fun p hp=>I.pin p (fE _ hp),I.hok,I.len⟩
theorem ag0 (F:Gi (X.tr (X.pn++pins) xe) pins' H a s):Gi X pins H a s:=by
 obtain⟨C,dx,vs,h1,h2,h3,h4⟩:=F
 refine⟨C,dx,vs,h1,h2,h3,h4.imp id fun⟨T,oT,ts,q1,q2,q3,q4,q5,q6⟩=>⟨T,oT,ts,q1,q2,q3,q4,q5,?_⟩⟩
 obtain⟨r1,r2,r3,r4,r5,r6⟩:=q6
 exact⟨r1,r2,r3,r4,r5,fun p hp=>r6 p (fE _ hp)⟩
theorem a13 {D:Mi} {f:Flow} (h:SP (X.tr (X.pn++pins) xe) pins' D f s):SP X pins D f s:=by
 cases f with
 | next=>obtain⟨σ',H',I,q⟩:=h;exact⟨σ',H',Fo I,q⟩
 | brk=>obtain⟨σ',H',I,q⟩:=h;exact⟨σ',H',Fo I,q⟩
 | cont=>obtain⟨σ',H',I,q⟩:=h;exact⟨σ',H',Fo I,q⟩
 | ret u=>obtain⟨v,σ',H',I,r,q⟩:=h;exact⟨v,σ',H',Fo I,r,q⟩
theorem Ia (I:Inv X pins σ H s):Inv (X.hd a) pins σ H s:=
 ⟨⟨I.ok.mod,I.ok.kind,I.ok.glob,I.ok.blt,I.ok.above,I.ok.inj,I.ok.has,I.ok.cab,(fun z=>by cases z),I.ok.frames,I.ok.stk,I.ok.exf,I.ok.bs,I.ok.bsz,I.ok.noex,I.ok.exfs,I.ok.funs,I.ok.frf⟩,I.os,I.bare,I.base,I.loc,I.cell,I.free,I.freeC,I.pin,I.hok,I.len⟩
theorem Er (o:X.Ok) (I:Inv (X.hd a) pins σ H s):Inv X pins σ H s:=⟨o,I.os,I.bare,I.base,I.loc,I.cell,I.free,I.freeC,I.pin,I.hok,I.len⟩
theorem Xh {D:Mi} {f:Flow} (o:X.Ok) (h:SP (X.hd a) pins D f s):SP X pins D f s:=by
 cases f with
 | next=>obtain⟨σ',H',I,q⟩:=h;exact⟨σ',H',Er o I,q⟩
 | brk=>obtain⟨σ',H',I,q⟩:=h;exact⟨σ',H',Er o I,q⟩
 | cont=>obtain⟨σ',H',I,q⟩:=h;exact⟨σ',H',Er o I,q⟩
 | ret u=>obtain⟨v,σ',H',I,r,q⟩:=h;exact⟨v,σ',H',Er o I,r,q⟩
end
inductive HK where
 | no
 | as (i:Nat)
 | up (T:Addr)
noncomputable def asD (a:Addr) (u:DS):HK->DS
 | .no=>fun D σ H=>u { D with ex:=fun _ _ _=>False } σ H
 | .up T=>fun D σ H=>(∃ C dx,H a=some (flO a C dx)) /\ ∀ b,H b=none->D.ex σ b (upd H b (fcO b T none))
 | .as i=>fun D σ H=>u ⟨fun σ' H'=>D.nx (σ'.set i none) H',D.rt,fun σ' H'=>D.bk (σ'.set i none) H',fun σ' H'=>D.ct (σ'.set i none) H',fun _ _ _=>False⟩ (σ.set i (some (.ref a))) H
noncomputable def Op (K:ac) (C a:Addr):List (Addr×HK×DS)->J8->St->Hp->Prop
 | [],_,_,_=>False
 | (T,oi,u)::r,D,σ,H=>∃ b,hU K C (.ref T)=some b/\(if b=true then asD a u oi D σ H else Op K C a r D σ H)
noncomputable def bb0 (K:ac) (tb:DS) (us:List (Addr×HK×DS)):DS:=fun D σ H=>tb { D with ex:=fun σ' a H'=>∃ C dx,FlO H' a C dx/\ECls K C/\Op K C a us D σ' H' } σ H
inductive Zw (X:Cx):Option Str->HK->Prop where
 | no:Zw X none .no
 | as {n:Str} {i:Nat} (hN:X.N.Nodup) (hi:X.N[i]? = some n) (hl:X.env.scope.names.lookup n=some .local):Zw X (some n) (.as i)
inductive Qc (X:Cx):List ExceptHandler->List (Addr×HK×DS)->Prop where
 | nil:Qc X [] []
 | cons {x:Str} {p pos:Pos} {nm:Option Str} {oi:HK} {b:Stmt} {suite:List Stmt} {rest:List ExceptHandler} {T:Addr} {u:DS} {us:List (Addr×HK×DS)} (hg:Gl X x) (hm:X.mg x=some (.ref T)) (hd:(x==("__debug__" : Str))=false) (ec:ECls X.K T) (ha:Zw X nm oi) (hs:∀ a,QSs (X.hd a) (b::suite) u) (r:Qc X rest us) :
   Qc X (.ExceptHandler (some (.Name x p)) nm (b::suite) pos::rest) ((T,oi,u)::us)
 | up {x y z:Str} {p p1 p2 p3 p4 p5 pos:Pos} {k k2:Nat} {rest:List ExceptHandler} {T T':Addr} {u:DS} {us:List (Addr×HK×DS)} (hg:Gl X x) (hm:X.mg x=some (.ref T)) (hd:(x==("__debug__" : Str))=false) (ec:ECls X.K T)
   (hgy:Gl X y) (hmy:X.mg y=some (.ref T')) (hdy:(y==("__debug__" : Str))=false) (ecy:ECls X.K T') (kpy:aR X.K (.ref T')=true) (iny:Hq X T' none) (r:Qc X rest us) :
   Qc X (.ExceptHandler (some (.Name x p)) none [.Raise (some (.Call (.Name y p1) [.Constant (.str z) k p2] [] p3)) (some (.Constant .none k2 p4)) p5] pos::rest) ((T,.up T',u)::us)
theorem Mp:entryFor table "proto.unchain" = some ar.«proto.unchain»:=entryFor_of_fast (by kernel_rfl)
theorem Se {prog:aV} {w:bM} {A:bi} {E:Value->aj->Prop} {s:aj} {Q:Flow->aj->Prop} {e a:Addr} {oa oe:Obj} {va ve:Array Value} (hh:A.handled=some (.ref a)) (ne:a≠e) (ha:s.heap.get? a=some oa) (hda:oa.data=.fields va) (h2:va[2]? = some .none)
  (he:s.heap.get? e=some oe) (hde:oe.data=.fields ve) (hz:2<ve.size) (h:E (.ref e) { s with heap:=s.heap.update e (b5 (·.setIfInBounds 2 (.ref a))) }):aI (model prog w) A (ma (.ref e):Sem Flow) Q E s:=by
 unfold ma
 refine af (kT ?_)
 rw [hh]
 have hne:(aY a != aY e)=true:=by simpa using ne
 simp only [hne,if_true]
 refine af (bx (wpAny_runValue (cY Mp ?_)))
 unfold ar.«proto.unchain»
 refine af (bd ha hda h2 ?_)
 rw [if_pos (by rfl)]
 refine al ?_
 show aI (model prog w) A (je (.ref e) 2 (.ref a) >>= fun _=>throw (.ref e)) Q E s
 refine af (eN he hde hz ?_)
 exact ky h
section
variable {X:Cx} {pins:List (Addr×Obj)}
theorem an4 {σ:St} {H:Hp} {s1:aj} {a C1 T':Addr} {dx1:Option Addr} {y z:Str} {p1 p2 p3 p4 p5:Pos} {k k2:Nat} {Qf:Flow->aj->Prop} {Ee:Value->aj->Prop} (I1:Inv X pins σ H s1) (ea:H a=some (flO a C1 dx1))
  (hgy:Gl X y) (hmy:X.mg y=some (.ref T')) (hdy:(y==("__debug__" : Str))=false) (ecy:ECls X.K T') (kpy:aR X.K (.ref T')=true) (iny:Hq X T' none)
  (hE:∀ b s',H b=none->Inv X pins σ (upd H b (fcO b T' none)) s'->Gi X pins (upd H b (fcO b T' none)) b s'->Ee (.ref b) s') :
  aI (model X.prog X.w) (X.A.mark (some (.ref a))) (exec (.Raise (some (.Call (.Name y p1) [.Constant (.str z) k p2] [] p3)) (some (.Constant .none k2 p4)) p5) X.env) Qf Ee s1:=by
 have he:QE (X.hd a) (.Call (.Name y p1) [.Constant (.str z) k p2] [] p3) _:=U2 (X:=X.hd a) (oi:=none) (j:=0) (r:=Ac (dC (.str z)) Aj) ecy iny (fun i h=>by cases h) kpy hgy hmy (W4 (R4 (.str z) k p2) al8 rfl) rfl hdy
 rw [arm_exec_Raise]
 show aI _ _ (do k9 p5;lU X.env (some (do let v <- eval (.Call (.Name y p1) [.Constant (.str z) k p2] [] p3) X.env;k9 p5;pure v)) (some (do let v <- eval (.Constant .none k2 p4) X.env;k9 p5;pure v))) _ _ _
 refine af (eJ ?_)
 unfold lU
 refine af (af (c8 (he _ Fp pins s1 σ H (fun x H1=>∃ b,x=.ref b/\H b=none/\H1=upd H b (Mq b T' none)) (Ia I1) ⟨by simp,fun b hb=>⟨b,rfl,hb,rfl⟩⟩) (fun v s2 ⟨x,H1,I2,r1,b,e1,hb,e2⟩=>af (eJ (al ?_))) fun _ _ z=>z.elim))
 subst e1 e2
 cases r1
 have I2:=Er I1.ok I2
 obtain⟨vs,g1,g2,g3,g4⟩:=Tx I2 Ad
 obtain⟨nm,qn,N,bs,bm,hdct,sn,sub,ab,col,dd,k0,k1,k2',k3,k5,hl,ht,hd⟩:=ecy.obj
 have hC:=I2.kIn _ _ hl
 have hb0:bm.contains (.type "BaseException")=true:=Bv ht (by decide +kernel)
 have hcB:(aY T'::bm).contains (.type "BaseException")=true:=by rw [cr,hb0,eX]
 have nab:a≠b:=fun z=>by rw [z,hb] at ea;cases ea
 obtain⟨va,ga1,ga2,ga3⟩:=af9 I2 (a:=a) (C:=C1) (dx:=dx1) (by rw [Ai nab];exact ea)
 obtain⟨hp,g,d,tk,os⟩:=s2
 repeat (first|with_reducible refine bd g1 rfl g3 ?_|with_reducible refine bI g1 ?_|with_reducible refine bI hC ?_|(with_reducible refine cO hC ?_;rw [hcB])|wp_step)
 have nTb:T'≠b:=fun z=>by
  rw [z] at hC
  rw [hC] at g1
  have:=congrArg (fun o=>o.map Obj.data) g1
  simp [fS] at this
 have q3:(hp.update b (b5 fun x=>x.setIfInBounds 3 bh)).get? b=some (A0 T' none (vs.setIfInBounds 3 .none)):=aU _ g1 (dD (vs:=vs.setIfInBounds 3 .none) rfl)
 have q4:((hp.update b (b5 fun x=>x.setIfInBounds 3 bh)).update b (b5 fun x=>x.setIfInBounds 4 (gC true))).get? b=some (A0 T' none ((vs.setIfInBounds 3 .none).setIfInBounds 4 (.bool true))):=aU _ q3 (dD (vs:=(vs.setIfInBounds 3 .none).setIfInBounds 4 (.bool true)) rfl)
 have keep:∀ c u,c≠b->hp.get? c=some u->((hp.update b (b5 fun x=>x.setIfInBounds 3 bh)).update b (b5 fun x=>x.setIfInBounds 4 (gC true))).get? c=some u:=fun c u ne e=>(aP _ _ ne.symm).trans ((aP _ _ ne.symm).trans e)
 have hC2:=keep _ _ nTb hC
 have ga':=keep _ _ nab ga1
 have w1:((vs.setIfInBounds 3 .none).setIfInBounds 4 (.bool true))[1]? = some bh:=by rw [dt (by decide),dt (by decide)];exact g3
 have wz:((vs.setIfInBounds 3 .none).setIfInBounds 4 (.bool true)).size=6:=by rw [d_,d_];exact g2
 generalize ((vs.setIfInBounds 3 .none).setIfInBounds 4 (.bool true))=v2 at q4 w1 wz
 generalize (hp.update b (b5 fun x=>x.setIfInBounds 3 bh)).update b (b5 fun x=>x.setIfInBounds 4 (gC true))=hp2 at q4 keep hC2 ga' ⊢
 repeat (first|with_reducible refine bd q4 rfl w1 ?_|with_reducible refine bI q4 ?_|with_reducible refine bI hC2 ?_|wp_step)
 have q5:(hp2.update b (b5 fun x=>x.setIfInBounds 2 (.ref a))).get? b=some (A0 T' none (v2.setIfInBounds 2 (.ref a))):=aU _ q4 (dD (vs:=v2.setIfInBounds 2 (.ref a)) rfl)
 have wz5:(v2.setIfInBounds 2 (.ref a)).size=6:=by rw [d_];exact wz
 have w5:(v2.setIfInBounds 2 (.ref a))[1]? = some bh:=by rw [dt (by decide)];exact w1
 refine Se rfl nab ga' rfl ga3 q4 rfl (by rw [wz];decide) ?_
 have I3:Inv X pins σ (upd H b (fcO b T' none)) { heap:=hp2.update b (b5 fun x=>x.setIfInBounds 2 (.ref a)),gens:=g,drawn:=d,toks:=tk,os:=os }:=by
  have:=I2.write (x:=b) (e:=b) (h':=hp2.update b (b5 fun x=>x.setIfInBounds 2 (.ref a))) (t':=tk) (o:=fcO b T' none) (by rw [Ad];exact bC) (.inl rfl) (fun c u ne z=>(aP _ _ ne.symm).trans (keep c u ne z)) ⟨_,q5⟩ (af7 q5 wz5)
  rw [a19] at this
  exact this
 exact hE b _ hb I3 ⟨T',none,_,.inr Ad,q5,wz5,.inl w5⟩
theorem Ga {M:mf} {A:bi} {E:Value->aj->Prop} {σ:St} {H:Hp} {s:aj} {i:Nat} {x:Str} {pos:Pos} {Q:Unit->aj->Prop} (I:Inv X pins σ H s) (hN:X.N.Nodup) (hi:X.N[i]? = some x) (hk:X.env.scope.names.lookup x=some .local)
  (h:∀ s',Inv X pins (σ.set i none) H s'->Q () s'):aI M A (do bindName X.env x .none;unbindBehindTheSuite X.env x pos) Q E s:=by
 obtain⟨m,hn,hl⟩:=id I.loc
 refine wpAny_nameGoes_keeps hk hn (by rw [I.ok.kind];rfl) fun h' v hn' sb=>h _ ?_
 have old:∀ {b o},X.s₀.heap.get? b=some o->h'.get? b=s.heap.get? b:=fun {b o} e=>sb.2 b (aH (aG (aB e) I.ok.above))
 exact {
  ok:=I.ok
  os:=I.os
  bare:=I.bare
  base:={ I.base with
   keep:=fun b o e n hb hx=>by show h'.get? b=_;rw [old e];exact I.base.keep b o e n hb hx
   slot:=fun b o e n hb hx=>by show ∃ sl,h'.get? b=_;rw [old e];exact I.base.slot b o e n hb hx
   there:=fun b o e hx=>by show ∃ o',h'.get? b=_;rw [old e];exact I.base.there b o e hx }
  loc:=⟨_,hn',fun j y w e1 e2 e3=>by
   have hj:j≠i:=fun z=>by
    have lt:i<σ.length:=by rw [I.len];exact (List.getElem?_eq_some_iff.mp hi).1
    rw [z,gv lt] at e2
    cases e2
   rw [g6 (ck hj)] at e2
   obtain⟨u,r,q⟩:=hl j y w e1 e2 e3
   have ny:y≠x:=fun z=>hj (K0 hN e1 (z▸hi))
   refine⟨u,r,q.imp (fun⟨k,e⟩=>⟨k,(if_neg ny).trans e⟩) fun⟨k,c,e,z⟩=>⟨k,c,e,z.sameBut sb (I.cne y c e)⟩⟩⟩
  cell:=fun y c e=>let ⟨w,z⟩:=I.cell y c e;⟨w,z.sameBut sb (I.cne y c e)⟩
  free:=I.free
  freeC:=I.freeC
  pin:=fun p hp=>let ⟨e,n,ne,nf,d⟩:=I.pin p hp;⟨(sb.2 p.1 ne).trans e,n,ne,nf,d⟩
  hok:=fun b ob e=>(I.hok b ob e).stay (fun c w hc q=>(sb.2 c (by
   rintro rfl
   have f:=I.free
   rcases hc with rfl|hc
   ·rw [f] at e;cases e
   ·rw [f] at hc;cases hc)).trans q) (fun _ q=>q) fun _ _ q=>q
  len:=by rw [ii];exact I.len }
theorem Ym (hst:X.stack=X.env::X.outer) (hfr:X.env.frame=some X.env.locals) {Ex:St->EK} (mt:Meets X Ex) {D:Mi} {hl:List ExceptHandler} {us:List (Addr×HK×DS)} (K:Qc X hl us):∀ {σ:St} {H:Hp} {s:aj} {a C:Addr} {dx:Option Addr},Inv X pins σ H s->Gi X pins H a s->FlO H a C dx->ECls X.K C->Op X.K C a us (ax7 Ex D) σ H ->
  aI (model X.prog X.w) X.A (handleBy (.ref a) X.env hl) (SP X pins D) X.xe s:=by
 induction K with
 | nil=>intro σ H s a C dx I F e ec h;exact h.elim
 | @cons x p pos nm oi b suite rest T u us hg hm hd ecT ha hs r ih=>
  intro σ H s a C dx I F e ec h
  obtain⟨m,hm2,h⟩:=h
  have hx:∃ vs:Array Value,s.heap.get? a=some (A0 C dx vs):=by
   obtain⟨vs,z,_⟩:=Wu I (.inr e)
   exact⟨vs,z⟩
  obtain⟨vs,hx⟩:=hx
  refine ku (jO (Dr (X:=X.hd a) (Ia I) hg hm ?_ hd)) (by intro q;cases q)
  refine Ku (A:=(X.hd a).A) I.kIn ec ecT hx hm2 ?_
  cases m with
  | false=>exact ih I F e ec h
  | true=>
   cases ha with
   | no=>
    refine jv (Hz (A:=(X.hd a).A) I F fun s1 I1 F1=>?_)
    exact c8 (hs a (fun _ _ _=>False) Fp pins s1 σ H D (Ia I1) h) (fun f s2 q=>Xh I.ok q) fun _ _ z=>z.elim
   | @as n i hN hi hlo=>
    refine codeAny_handlers_suite_as (Hz (A:=(X.hd a).A) I F fun s1 I1 F1=>?_)
    refine Hn (i:=i) (v:=.ref a) I1 hN hi (.inl hlo) rfl (fun s2 I2=>?_) (.inr hlo)
    refine c8 (hs a (fun _ _ _=>False) Fp pins s2 (σ.set i (some (.ref a))) H ⟨fun σ' H'=>D.nx (σ'.set i none) H',D.rt,fun σ' H'=>D.bk (σ'.set i none) H',fun σ' H'=>D.ct (σ'.set i none) H'⟩ (Ia I2) h) (fun f s3 q=>?_) fun _ _ z=>z.elim
    have q:=Xh I.ok q
    cases f with
    | next=>obtain⟨σ',H',I',q⟩:=q;exact Ga I' hN hi hlo fun s4 I4=>⟨_,H',I4,q⟩
    | brk=>obtain⟨σ',H',I',q⟩:=q;exact Ga I' hN hi hlo fun s4 I4=>⟨_,H',I4,q⟩
    | cont=>obtain⟨σ',H',I',q⟩:=q;exact Ga I' hN hi hlo fun s4 I4=>⟨_,H',I4,q⟩
    | ret w=>obtain⟨v,σ',H',I',r,q⟩:=q;exact Ga I' hN hi hlo fun s4 I4=>⟨v,_,H',I4,r,q⟩
 | @up x y z p p1 p2 p3 p4 p5 pos k k2 rest T T' u us hg hm hd ecT hgy hmy hdy ecy kpy iny r ih=>
  intro σ H s a C dx I F e ec h
  obtain⟨m,hm2,h⟩:=h
  obtain⟨vs,hx,_⟩:=Wu I (.inr e)
  refine ku (jO (Dr (X:=X.hd a) (Ia I) hg hm ?_ hd)) (by intro q;cases q)
  refine Ku (A:=(X.hd a).A) I.kIn ec ecT hx hm2 ?_
  cases m with
  | false=>exact ih I F e ec h
  | true=>
   refine jv (Hz (A:=(X.hd a).A) I F fun s1 I1 F1=>?_)
   obtain⟨⟨C1,dx1,ea⟩,hE⟩:=h
   refine wpAny_execs_cons (an4 I1 ea hgy hmy hdy ecy kpy iny fun b s2 hb I2 F2=>?_)
   refine ak0 (X:=X.hd a) (Ia I2) hst hfr hfr F2 fun s3 z I3 F3=>?_
   have I3:=Er I.ok I3
   have F3:FlyT X pins (upd H b (fcO b T' none)) b s3 z:=F3
   obtain⟨Cb,dxb,vb,Tb,oT,ts,h1,h2,h3,q1,q2,q3,q4,q5,q6⟩:=id F3
   refine af (bd h2 rfl q1 ?_)
   rw [if_neg (by simp)]
   refine Xf I3 F3 fun s4 I4 F4=>?_
   exact mt pins σ _ s4 b I4 F4.at (hE b hb)
theorem bk1 {Y:Cx} {body:List Stmt} {h0:ExceptHandler} {hs:List ExceptHandler} {pos:Pos} {tb:DS} {us:List (Addr×HK×DS)} (hst:Y.stack=Y.env::Y.outer) (hfr:Y.env.frame=some Y.env.locals)
  (hb:∀ pn xe,iS (model Y.prog Y.w) Y.A Y.env xe->QSs (Y.tr pn xe) body tb) (hh:Qc Y (h0::hs) us):QS Y (.Try body (h0::hs) [] [] pos) (bb0 Y.K tb us):=by
 intro Ex m pins s σ H D I hw
 refine wpAny_Try_except ?_
 refine c8 (hb (Y.pn++pins) (fun e s1=>aI (model Y.prog Y.w) Y.A (kO e Y.env) (fun _ s2=>aI (model Y.prog Y.w) Y.A (jP e none) (fun _ s3=>aI (model Y.prog Y.w) Y.A (handleBy e Y.env (h0::hs)) (SP Y pins D) Y.xe s3) Y.xe s2) Y.xe s1) PassesOwn.looking
  (fun σ' a H'=>∃ C dx,FlO H' a C dx/\ECls Y.K C/\Op Y.K C a us (ax7 Ex D) σ' H') ?_ [] s σ H D (bb9 I) hw) (fun f s1 q=>?_) fun _ _ z=>z
 ·intro pins' σ' H' s' a I' F' ⟨C,dx,e,ec,h⟩
  exact aw8 (Fo I') hst hfr (ag0 F') fun s2 I2 F2=>Ym hst hfr m hh I2 F2.at e ec h
 ·have q:=a13 q
  cases f with
  | next=>exact jS q
  | _=>exact q
end
noncomputable def Ih:Expr->Bool
 | .ListComp _ _ _ _=>false
 | .SetComp _ _ _ _=>false
 | .DictComp _ _ _ _ _=>false
 | _=>true
theorem Ii {e:Expr} (h:Ih e=true) (t:Option Expr) (l:Nat) (env:Env):iY e t l env=pure false:=by
 cases e with
 | ListComp _ _ _ _=>cases h
 | SetComp _ _ _ _=>cases h
 | DictComp _ _ _ _ _=>cases h
 | _=>rfl
section
variable {X:Cx} {G:Sg} {st:Stmt} {rest:List Stmt} {t u:DS} {e:Expr} {de:DE} {pos p':Pos}
theorem B2:QS X st Ck:=fun _ _ _ _ _ _ _ _ h=>h.elim
theorem a03:QSs X [] Af:=fun _ _=>ay9
theorem am7 (h1:QS X st t) (h2:QSs X rest u):QSs X (st::rest) (Ag t u):=fun Ex m=>al7 (h1 Ex m) (h2 Ex m)
theorem a01:QS X (.Pass pos) Af:=fun _ _=>ay7
theorem bj5:QS X (.Break pos) bt2:=fun _ _=>al5
theorem bj6:QS X (.Continue pos) bt3:=fun _ _=>R3
theorem bj9 (h:QE X e de):QS X (.Return (some e) pos) (As de):=fun Ex m=>bh4 (h Ex m)
theorem a02:QS X (.Return none pos) a27:=fun _ _=>ay8
theorem a00 (h:QE X e de) (hn:Ih e=true):QS X (.Expr e pos) (Ef de):=fun Ex m=>ay6 (h Ex m) (Ii hn _ _ _)
theorem b06 {c:Expr} {a b:List Stmt} {tc:DT} (hc:QT X c tc) (ha:QSs X a t) (hb:QSs X b u):QS X (.If c a b pos) (dIf tc t u):=fun Ex m=>b00 (hc Ex m) (ha Ex m) (hb Ex m)
theorem am6 {i:Nat} {x:Str} (O:GOk X G) (hi:Cm G.N x 0=some i) (hx:Uv G x=true) (h:QE X e de) (hn:iY e (some (.Name x p')) pos.line X.env=pure false):QS X (.Assign [.Name x p'] e pos) (Ap i de):=by
 obtain⟨h1,h2⟩:=Ph O hx
 exact fun Ex m=>bh5 (by rw [O.N];exact O.nd) (by rw [O.N];exact E0 hi) h1 (h Ex m) hn h2
variable {tg iter elt:Expr} {ifs:List Expr} {sc:Scope} {wi:DI} {g:DG} {tc:DT}
theorem U6 {i:Nat} {x:Str} {cp:Pos} (O:GOk X G) (hi:Cm G.N x 0=some i) (hx:Uv G x=true) (hc:X.calm=true) (hk:Fl G sc=true) (hs:Ky iter=true) (hq:QI X tg iter wi) (hg:∀ X',GOk X' (C3 G sc.names)->PG X' tg g)
  (ht:∀ X',GOk X' (C3 G sc.names)->as5 X' ifs tc) (he:∀ X',GOk X' (C3 G sc.names)->QE X' elt de) :
  QS X (.Assign [.Name x p'] (.ListComp elt [⟨tg,iter,ifs,0⟩] sc cp) pos) (Ap i (Bg (F0 G sc.names) wi g tc de)):=by
 obtain⟨h1,h2⟩:=Ph O hx
 have sw:iY (.ListComp elt [⟨tg,iter,ifs,0⟩] sc cp) (some (.Name x p')) pos.line X.env=pure (X.env.blockKind==.function&&X.env.kindOf x==some .local&&p'.line==(Expr.ListComp elt [⟨tg,iter,ifs,0⟩] sc cp).pos.line
   && !(sc.names.any fun (n,k)=>n==x&&(k==.local||k==.cell))):=rfl
 cases hb:(X.env.blockKind==.function&&X.env.kindOf x==some .local&&p'.line==(Expr.ListComp elt [⟨tg,iter,ifs,0⟩] sc cp).pos.line
   && !(sc.names.any fun (n,k)=>n==x&&(k==.local||k==.cell))) with
 | false=>
  rw [hb] at sw
  exact am6 O hi hx (W5 O hc hk hs hq hg ht he) sw
 | true=>
  rw [hb] at sw
  simp only [ax] at hb
  have hl:X.env.scope.names.lookup x=some .local:=cU hb.1.1.2
  intro Ex m pins s σ H D I h
  exact ae4 hc (by rw [O.N];exact O.nd) (by rw [O.N];exact E0 hi) hl (Ot O hk) (hq Ex m) (fun us Q2 fp C D s2 H2 I2 f2 hC=>
   have M:=Kv (N':=(C3 G sc.names).N) (cl:=C2 X.env.cells sc.names []) (us:=us) (Q2:=Q2) (D:=D) m O.fr I2 f2 hC
   have K:=Ws O hk fp C s2 H2 (Bm X sc (C2 X.env.cells sc.names []) us Q2 D C)
   ⟨hg _ K,ht _ K _ M,he _ K _ M⟩) I h sw (fun x=>Kz hs X.env x)
theorem bj8 {body:List Stmt} (O:GOk X G) (ht:G.top=true) (hc:X.calm=true) (hi:QI X tg iter wi) (hg:PG X tg g) (hb:QSs X body t) (hs:Ky iter=true):QS X (.For tg iter body [] pos) (Co wi g t):=by
 intro Ex m pins s σ H D I h
 refine c8 (bh3 (O.own ht) hc (hi Ex m) hg (hb Ex m) (fun x=>Kz hs X.env x) pins s σ H { D with nx:=fun σ' H'=>Thaw H H' (D.nx σ') } I h) (fun f s' q=>?_) fun _ _ z=>z
 cases f with
 | next=>
  obtain⟨σ',H',I',q⟩:=q
  obtain⟨H2,I2,q2⟩:=Thaw.inv I I' q
  exact⟨σ',H2,I2,q2⟩
 | _=>exact q
noncomputable def C5 (K:ac) (e:DE):DS:=fun D σ H=>e σ H (an2 K (D.ex σ)) (D.ex σ)
theorem am5 (O:GOk X G) (hc:X.A.handled=none) (h:QE X e de):QS X (.Raise (some e) none pos) (C5 X.K de):=fun Ex m=>al6 m hc (h Ex m)
noncomputable def aj6:Expr->Bool
 | .Tuple _ _ _=>false
 | _=>true
theorem aj7 {e:Expr} (h:aj6 e=true) (tg:Expr) (env:Env):swappedStores [tg] e env=pure none:=by
 cases e with
 | Tuple _ _ _=>cases h
 | _=>cases tg <;> rfl
theorem bj4 {ts:List Expr} {kt:Nat} {pt:Pos} {g:DG} (h:QE X e de) (hg:PG X (.Tuple ts kt pt) g) (hn:Ih e=true) (ht:aj6 e=true):QS X (.Assign [.Tuple ts kt pt] e pos) (Mn de g):=
 fun Ex m=>al4 (h Ex m) hg (show kS [.Tuple ts kt pt] e pos.line X.env=pure false from Ii hn (some (.Tuple ts kt pt)) pos.line X.env) (aj7 ht _ _)
noncomputable def Eh (K:ac) (o i:DE):DG:=fun v σ H Q=>o σ H (fun x H1=>i σ H1 (fun y H2=>a57 x y v H2 (Q σ)) fun _ _=>False) fun _ _=>False
theorem bk0 {o i:Expr} {do' di:DE} (hu:X.A.units+64<cLine) (ho:QE X o do') (hi:QE X i di) (h:QE X e de) (hsl:Hg i=true):QS X (.Assign [.Subscript o i p'] e pos) (Mn de (Eh X.K do' di)):=by
 intro Ex m
 have hg:PG X (.Subscript o i p') (Eh X.K do' di):=bh0 (ho _ Fp) (hi _ Fp) (b68 hu) (by
  intro v
  cases i with
  | Slice _ _ _ _=>cases hsl
  | _=>rfl)
 exact al4 (h Ex m) hg (show kS [.Subscript o i p'] e pos.line X.env=pure false from by show iY e (some (.Subscript o i p')) pos.line X.env=pure false;cases e <;> rfl) (by cases e <;> rfl)
noncomputable def Ou (K:ac) (f:Str) (o e:DE):DS:=fun D σ H=>e σ H (fun y H1=>o σ H1 (fun x H2=>an3 K f x y H2 (D.nx σ)) (D.ex σ)) (D.ex σ)
theorem bj7 {o:Expr} {f:Str} {do':DE} (ho:QE X o do') (h:QE X e de):QS X (.Assign [.Attribute o f p'] e pos) (Ou X.K f do' de):=by
 intro Ex m pins s σ H D I hw
 refine plainObj_wpAny_Assign_Attribute (thn (h Ex m pins s σ H _ I hw) fun u s1 ⟨y,H1,I1,ry,q⟩=>thn (ho Ex m pins s1 σ H1 _ I1 q) fun ov s2 ⟨x,H2,I2,rx,q2⟩=>?_) (by cases e <;> rfl)
 exact b67 I2 rx ry q2 fun H' s' I' hN=>⟨σ,H',I',hN⟩
end
noncomputable def bq3:GB->GB
 | .val v u=>.val v u
 | .exc C _=>.val (.ref C) (.ref C)
 | .cls C _=>.val (.ref C) (.ref C)
 | _=>.met "" []
noncomputable def Dn (gb:List (Str×GB)):List (Str×GB):=gb.map fun p=>(p.1,bq3 p.2)
theorem E2 (x:Str):∀ gb:List (Str×GB),(Dn gb).lookup x=(gb.lookup x).map bq3
 | []=>rfl
 | (y,g)::r=>by
  show fQ x ((y,bq3 g)::Dn r)=_
  rw [jg,jg]
  cases x==y with
  | true=>rfl
  | false=>exact E2 x r
theorem Mf {m:Str} {l:List MI}:∀ {gb:List (Str×GB)},Bz (Dn gb) m=some l->l=[]
 | [],h=>by cases h
 | (y,g)::r,h=>by
  have go:Bz (Dn r) m=some l->l=[]:=Mf
  cases g with
  | val v u=>exact go h
  | exc C i=>exact go h
  | cls C i=>exact go h
  | fn i=>
   have h:(if ("" : Str)=m then some [] else Bz (Dn r) m)=some l:=h
   split at h
   ·cases h;rfl
   ·exact go h
  | met m' l'=>
   have h:(if ("" : Str)=m then some [] else Bz (Dn r) m)=some l:=h
   split at h
   ·cases h;rfl
   ·exact go h
noncomputable def hdG (G:Sg):Sg:={ G with gb:=Dn G.gb,calm:=false }
noncomputable def Rg (gb:List (Str×GB)) (x:Str):Option Addr:=match gb.lookup x with
 | some (.exc T _)=>some T
 | _=>none
noncomputable def okH (G:Sg):ExceptHandler->Bool
 | .ExceptHandler (some (.Name x _)) nm (_::_) _=>Jn G x&&(Rg G.gb x).isSome&&(match nm with
  | none=>true
  | some n=>(Cm G.N n 0).isSome&&(G.sc.lookup n==some .local))
 | _=>false
noncomputable def bw0 (G:Sg):ExceptHandler->Option Nat
 | .ExceptHandler _ (some n) _ _=>Cm G.N n 0
 | _=>none
noncomputable def a29 (G:Sg) (y:Str):Option Addr:=match G.gb.lookup y with
 | some (.exc T none)=>if Jn G y=true then some T else none
 | _=>none
noncomputable def aj8:Expr->Bool
 | .Constant .none _ _=>true
 | _=>false
noncomputable def bp5:Expr->Bool
 | .Constant (.str _) _ _=>true
 | _=>false
theorem Uu {e:Expr} (h:aj8 e=true):∃ k p,e=.Constant .none k p:=by
 unfold aj8 at h
 split at h
 ·exact⟨_,_,rfl⟩
 ·cases h
theorem Zk {e:Expr} (h:bp5 e=true):∃ z k p,e=.Constant (.str z) k p:=by
 unfold bp5 at h
 split at h
 ·exact⟨_,_,_,rfl⟩
 ·cases h
noncomputable def a26 (G:Sg):Expr->Option Addr
 | .Call (.Name y _) [a] [] _=>if bp5 a=true then a29 G y else none
 | _=>none
noncomputable def bq2 (G:Sg):ExceptHandler->Option Addr
 | .ExceptHandler _ none [.Raise (some e) (some c) _] _=>if aj8 c=true then a26 G e else none
 | _=>none
noncomputable def Nq (G:Sg) (h:ExceptHandler):HK:=match bq2 G h with
 | some T=>.up T
 | none=>match bw0 G h with
  | some i=>.as i
  | none=>.no
noncomputable def ba9 (G:Sg):ExceptHandler->Addr
 | .ExceptHandler (some (.Name x _)) _ _ _=>(Rg G.gb x).getD 0
 | _=>0
noncomputable def a25:ExceptHandler->List Stmt
 | .ExceptHandler _ _ b _=>b
theorem bb2 {X:Cx} {G:Sg} (O:GOk X G) (a:Addr):GOk (X.hd a) (hdG G) where
 K:=O.K
 kind:=O.kind
 own:=fun _=>PassesOwn.never
 N:=O.N
 nd:=O.nd
 sc:=O.sc
 vis:=O.vis
 top:=O.top
 calm:=rfl
 hd:=fun z=>by cases z
 units:=O.units
 cel:=O.cel
 fn:=fun x i e=>by
  have e:(Dn G.gb).lookup x=some (.fn i):=e
  rw [E2] at e
  obtain⟨g,_,z⟩:=Option.map_eq_some_iff.mp e
  cases g <;> cases z
 val:=fun x v u e=>by
  have e:(Dn G.gb).lookup x=some (.val v u):=e
  rw [E2] at e
  obtain⟨g,hg,z⟩:=Option.map_eq_some_iff.mp e
  cases g with
  | val v' u'=>cases z;exact O.val x v u hg
  | exc C i=>cases z;exact⟨(O.exc x C i hg).1,rfl⟩
  | cls C i=>cases z;exact⟨(O.cls x C i hg).1,rfl⟩
  | fn i=>cases z
  | met m l=>cases z
 bl:=O.bl
 exc:=fun x C oi e=>by
  have e:(Dn G.gb).lookup x=some (.exc C oi):=e
  rw [E2] at e
  obtain⟨g,_,z⟩:=Option.map_eq_some_iff.mp e
  cases g <;> cases z
 cls:=fun x C oi e=>by
  have e:(Dn G.gb).lookup x=some (.cls C oi):=e
  rw [E2] at e
  obtain⟨g,_,z⟩:=Option.map_eq_some_iff.mp e
  cases g <;> cases z
 met:=fun m l e mi hm=>by
  rw [Mf (show Bz (Dn G.gb) m=some l from e)] at hm
  cases hm
 frm:=O.frm
 fr:=O.fr
theorem Xo {X:Cx} {pn:List (Addr×Obj)} {xe:Value->aj->Prop} {i:FI} (F:J6 X i):J6 (X.tr pn xe) i:=⟨F.kp,F.ok,F.room,F.binds,F.vals⟩
theorem bp9 {X:Cx} {G:Sg} (O:GOk X G) {pn:List (Addr×Obj)} {xe:Value->aj->Prop} (ho:iS (model X.prog X.w) X.A X.env xe):GOk (X.tr pn xe) G where
 K:=O.K
 kind:=O.kind
 own:=fun _=>ho
 N:=O.N
 nd:=O.nd
 sc:=O.sc
 vis:=O.vis
 top:=O.top
 calm:=O.calm
 hd:=O.hd
 units:=O.units
 cel:=O.cel
 fn:=fun x i e=>⟨(O.fn x i e).1,Xo (O.fn x i e).2⟩
 val:=O.val
 bl:=O.bl
 exc:=fun x C oi e=>by
  obtain⟨a,b,c,d⟩:=O.exc x C oi e
  refine⟨a,b,c,?_⟩
  cases oi with
  | none=>exact d
  | some i=>exact⟨d.1,d.2.1,Xo d.2.2.1,d.2.2.2⟩
 cls:=fun x C oi e=>by
  obtain⟨a,b,d⟩:=O.cls x C oi e
  refine⟨a,b,?_⟩
  cases oi with
  | none=>exact d
  | some i=>exact⟨d.1,d.2.1,d.2.2.1,Xo d.2.2.2.1,d.2.2.2.2⟩
 met:=fun m l e mi hm=>⟨(O.met m l e mi hm).1,(O.met m l e mi hm).2.1,Xo (O.met m l e mi hm).2.2⟩
 frm:=O.frm
 fr:=O.fr
theorem ak1 {G:Sg} {h:ExceptHandler} (hh:okH G h=true):∃ x p nm b suite pos,h=.ExceptHandler (some (.Name x p)) nm (b::suite) pos/\Jn G x=true/\(Rg G.gb x).isSome=true /\ ∀ n,nm=some n->(Cm G.N n 0).isSome=true/\G.sc.lookup n=some .local:=by
 unfold okH at hh
 split at hh
 ·rw [ax,ax] at hh
  refine⟨_,_,_,_,_,_,rfl,hh.1.1,hh.1.2,fun n e=>?_⟩
  have h2:=hh.2
  rw [e] at h2
  have h2:((Cm G.N n 0).isSome&&(G.sc.lookup n==some .local))=true:=h2
  rw [ax] at h2
  exact⟨h2.1,cU h2.2⟩
 ·cases hh
theorem ag8 {X:Cx} {G:Sg} (O:GOk X G) {w:List Stmt->DS} (h:∀ a ss,QSs (X.hd a) ss (w ss)):∀ {hl:List ExceptHandler},hl.all (okH G)=true->Qc X hl (hl.map fun h=>(ba9 G h,Nq G h,w (a25 h)))
 | [],_=>.nil
 | e0::r,hh=>by
  rw [bw,ax] at hh
  obtain⟨h1,h2⟩:=hh
  obtain⟨x,p,nm,b,suite,pos,rfl,hg,hs,hnm⟩:=ak1 h1
  obtain⟨T,hT⟩:=Option.isSome_iff_exists.mp hs
  have hl:∃ oi,G.gb.lookup x=some (.exc T oi):=by
   unfold Rg at hT
   split at hT
   ·rename_i T' oi e;cases hT;exact⟨oi,e⟩
   ·cases hT
  obtain⟨oi,hl⟩:=hl
  obtain⟨m,kp,ec,_⟩:=O.exc x T oi hl
  have e:ba9 G (.ExceptHandler (some (.Name x p)) nm (b::suite) pos)=T:=by show (Rg G.gb x).getD 0=T;rw [hT];rfl
  rw [be,e]
  cases hu:bq2 G (.ExceptHandler (some (.Name x p)) nm (b::suite) pos) with
  | some T'=>
   have ek:Nq G (.ExceptHandler (some (.Name x p)) nm (b::suite) pos)=.up T':=by unfold Nq;rw [hu]
   rw [ek]
   unfold bq2 at hu
   split at hu
   ·rename_i heq
    cases heq
    split at hu
    ·rename_i hc
     obtain⟨k2,p4,rfl⟩:=Uu hc
     unfold a26 at hu
     split at hu
     ·split at hu
      ·rename_i hs'
       obtain⟨z,k,p2,rfl⟩:=Zk hs'
       unfold a29 at hu
       split at hu
       ·rename_i T'' hy
        split at hu
        ·rename_i hgy
         cases hu
         obtain⟨my,kpy,ecy,iny⟩:=O.exc _ T' none hy
         exact .up (O.gl hg) m (Ko hg).1 ec (O.gl hgy) my (Ko hgy).1 ecy kpy iny (ag8 O h h2)
        ·cases hu
       ·cases hu
      ·cases hu
     ·cases hu
    ·cases hu
   ·cases hu
  | none=>
  have ao:Zw X nm (Nq G (.ExceptHandler (some (.Name x p)) nm (b::suite) pos)):=by
   unfold Nq
   rw [hu]
   cases nm with
   | none=>exact .no
   | some n=>
    obtain⟨z1,z2⟩:=hnm n rfl
    obtain⟨i,hi⟩:=Option.isSome_iff_exists.mp z1
    show Zw X (some n) (match Cm G.N n 0 with|some i=>HK.as i|none=>HK.no)
    rw [hi]
    exact .as (by rw [O.N];exact O.nd) (by rw [O.N];exact E0 hi) (by rw [O.sc];exact z2)
  exact .cons (O.gl hg) m (Ko hg).1 ec ao (fun a=>h a _) (ag8 O h h2)
mutual
noncomputable def wS:Nat->Sg->Stmt->DS
 | 0,_,_=>Ck
 | n+1,G,st=>match st with
  | .Pass _=>Af
  | .Break _=>bt2
  | .Continue _=>bt3
  | .Return (some e) _=>As (wE n G e)
  | .Return none _=>a27
  | .Expr e _=>if Ih e=true then Ef (wE n G e) else Ck
  | .If c a b _=>dIf (wT n G c) (wSs n G a) (wSs n G b)
  | .Assign [.Name x _] (.ListComp elt [⟨tg,iter,ifs,0⟩] sc _) _=>match Cm G.N x 0 with
   | some i=>if Uv G x=true/\G.calm=true/\Fl G sc=true/\Ky iter=true then
     Ap i (Bg (F0 G sc.names) (wI n G tg iter) (wG n (C3 G sc.names) tg) (match ifs with | []=>B5 | [c]=>wT n (C3 G sc.names) c|_=>tNo) (wE n (C3 G sc.names) elt)) else Ck
   | none=>Ck
  | .Assign [.Name x _] e _=>match Cm G.N x 0 with
   | some i=>if Uv G x=true/\Ih e=true then Ap i (wE n G e) else Ck
   | none=>Ck
  | .Assign [.Tuple ts kt pt] e _=>if Ih e=true/\aj6 e=true then Mn (wE n G e) (wG n G (.Tuple ts kt pt)) else Ck
  | .Assign [.Attribute o f _] e _=>Ou G.K f (wE n G o) (wE n G e)
  | .Assign [.Subscript o i _] e _=>if Hg i=true then Mn (wE n G e) (Eh G.K (wE n G o) (wE n G i)) else Ck
  | .Raise (some e) none _=>if G.calm=true then C5 G.K (wE n G e) else Ck
  | .For tg iter body [] _=>if G.calm=true/\Ky iter=true/\G.top=true then Co (wI n G tg iter) (wG n G tg) (wSs n G body) else Ck
  | .Try body (h::hs) [] [] _=>if G.top=true/\(h::hs).all (okH G)=true then bb0 G.K (wSs n G body) ((h::hs).map fun h=>(ba9 G h,Nq G h,wSs n (hdG G) (a25 h))) else Ck
  | _=>Ck
noncomputable def wSs:Nat->Sg->List Stmt->DS
 | 0,_,_=>Ck
 | _+1,_,[]=>Af
 | n+1,G,s::r=>Ag (wS n G s) (wSs n G r)
end
theorem cc4:∀ (n:Nat) (X:Cx) (G:Sg),GOk X G->(∀ s,QS X s (wS n G s))/\(∀ ss,QSs X ss (wSs n G ss)):=by
 intro n
 induction n with
 | zero=>
  intro X G O
  refine⟨fun s=>?_,fun s=>?_⟩
  ·unfold wS;exact B2
  ·unfold wSs;exact fun _ _ _ _ _ _ _ _ h=>h.elim
 | succ n ih=>
  intro X G O
  obtain⟨hS,hSs⟩:=ih X G O
  obtain⟨hE,hT,hI⟩:=bs5 n X G O
  refine⟨fun s=>?_,fun s=>?_⟩
  ·unfold wS
   split
   ·exact a01
   ·exact bj5
   ·exact bj6
   ·exact bj9 (hE _)
   ·exact a02
   ·split
    ·exact a00 (hE _) ‹_›
    ·exact B2
   ·exact b06 (hT _) (hSs _) (hSs _)
   ·split
    ·rename_i i e
     split
     ·rename_i hh
      obtain⟨h1,h2,h3,h4⟩:=hh
      refine U6 O e h1 (O.calm▸h2) h3 h4 (hI _ _) (fun X' O'=>Ta n X' _ O' _) (fun X' O'=>?_) (fun X' O'=>(bs5 n X' _ O').1 _)
      split
      ·exact R5
      ·exact R6 ((bs5 n X' _ O').2.1 _)
      ·exact fun _ _ _ _ _ _ _ _ h=>h.elim
     ·exact B2
    ·exact B2
   ·split
    ·rename_i i e
     split
     ·rename_i hh
      exact am6 O e hh.1 (hE _) (Ii hh.2 _ _ _)
     ·exact B2
    ·exact B2
   ·split
    ·rename_i hh
     exact bj4 (hE _) (Ta n X G O _) hh.1 hh.2
    ·exact B2
   ·rw [<- O.K];exact bj7 (hE _) (hE _)
   ·split
    ·rename_i hh
     rw [<- O.K];exact bk0 O.units (hE _) (hE _) (hE _) hh
    ·exact B2
   ·split
    ·rename_i hcm
     rw [<- O.K];exact am5 O (O.hd (O.calm▸hcm)) (hE _)
    ·exact B2
   ·split
    ·rename_i hh
     exact bj8 O hh.2.2 (O.calm▸hh.1) (hI _ _) (Ta n X G O _) (hSs _) hh.2.1
    ·exact B2
   ·split
    ·rename_i hh
     rw [<- O.K]
     exact bk1 (O.frm hh.1).1 (O.frm hh.1).2 (fun pn xe ho=>(ih _ _ (bp9 O ho)).2 _) (ag8 O (fun a ss=>(ih _ _ (bb2 O a)).2 ss) hh.2)
    ·exact B2
   ·exact B2
  ·cases s with
   | nil=>unfold wSs;exact a03
   | cons a r=>unfold wSs;exact am7 (hS a) (hSs r)
section
variable {P:aV} {w:bM} {K:ac} {mg:Str->Option Value} {base:Heap}
structure FnIn (P:aV) (w:bM) (K:ac) (mg:Str->Option Value) (base:Heap) (k:Nat) (x:Str) (i:FI):Prop where
 at_:mg x=some (.ref i.f)
 kp:aR K (.ref i.f)=true
 ok:∃ CX,(∀ X':Cx,X'.prog=P->X'.w=w->Qy CX X')/\FnOk P w K mg base CX i.k i.f i.fd i.ps i.sp
 le:i.k<=k
 binds:∀ j,j<=i.dfs.length->Binds K i.fd i.ps (i.ds.drop j)
 vals:Vals i.dfs i.ds
noncomputable def a73 (P:aV) (w:bM) (K:ac) (mg:Str->Option Value) (base:Heap) (k:Nat) (C:Addr):Option FI->Prop
 | none=>aD K (.ref C) "__init__" = some (some (.builtin "ValueError.__init__"))
 | some i=>aD K (.ref C) "__init__" = some (some (.ref i.f))/\dE K (.ref i.f)=true/\aR K (.ref i.f)=true/\(∃ CX,(∀ X':Cx,X'.prog=P->X'.w=w->Qy CX X')/\FnOk P w K mg base CX i.k i.f i.fd i.ps i.sp) /\
   i.k+1<=k/\(∀ j,j<=i.dfs.length->Binds K i.fd i.ps (i.ds.drop j))/\Vals i.dfs i.ds
structure ExcIn (P:aV) (w:bM) (K:ac) (mg:Str->Option Value) (base:Heap) (k:Nat) (x:Str) (C:Addr) (oi:Option FI):Prop where
 at_:mg x=some (.ref C)
 kp:aR K (.ref C)=true
 cls:ECls K C
 init:a73 P w K mg base k C oi
structure FiIn (P:aV) (w:bM) (K:ac) (mg:Str->Option Value) (base:Heap) (k:Nat) (i:FI):Prop where
 kp:aR K (.ref i.f)=true
 ok:∃ CX,(∀ X':Cx,X'.prog=P->X'.w=w->Qy CX X')/\FnOk P w K mg base CX i.k i.f i.fd i.ps i.sp
 le:i.k<=k
 binds:∀ j,j<=i.dfs.length->Binds K i.fd i.ps (i.ds.drop j)
 vals:Vals i.dfs i.ds
theorem FiIn.mono {k k':Nat} {i:FI} (F:FiIn P w K mg base k i) (h:k<=k'):FiIn P w K mg base k' i:=⟨F.kp,F.ok,aQ F.le h,F.binds,F.vals⟩
noncomputable def cc7 (P:aV) (w:bM) (K:ac) (mg:Str->Option Value) (base:Heap) (k:Nat) (C:Addr):Option FI->Prop
 | none=>cX K C=true/\aD K (.ref C) "__init__" = some (some (.builtin "object.__init__"))
 | some i=>cX K C=true/\aD K (.ref C) "__init__" = some (some (.ref i.f))/\dE K (.ref i.f)=true/\FiIn P w K mg base k i/\i.k+1<=k
structure ClsIn (P:aV) (w:bM) (K:ac) (mg:Str->Option Value) (base:Heap) (k:Nat) (x:Str) (C:Addr) (oi:Option FI):Prop where
 at_:mg x=some (.ref C)
 kp:aR K (.ref C)=true
 made:cc7 P w K mg base k C oi
theorem ClsIn.mono {k k':Nat} {x:Str} {C:Addr} {oi:Option FI} (F:ClsIn P w K mg base k x C oi) (h:k<=k'):ClsIn P w K mg base k' x C oi:=by
 refine⟨F.at_,F.kp,?_⟩
 cases oi with
 | none=>exact F.made
 | some i=>obtain⟨a,b,c,d,e⟩:=F.made;exact⟨a,b,c,d.mono h,aQ e h⟩
structure MetIn (P:aV) (w:bM) (K:ac) (mg:Str->Option Value) (base:Heap) (k:Nat) (m:Str) (mi:MI):Prop where
 cls:Cls K mi.C
 at_:Gp K mi.C m mi.i.f
 fi:FiIn P w K mg base k mi.i
theorem MetIn.mono {k k':Nat} {m:Str} {mi:MI} (F:MetIn P w K mg base k m mi) (h:k<=k'):MetIn P w K mg base k' m mi:=⟨F.cls,F.at_,F.fi.mono h⟩
theorem ExcIn.mono {P:aV} {w:bM} {K:ac} {mg:Str->Option Value} {base:Heap} {k k':Nat} {x:Str} {C:Addr} {oi:Option FI} (F:ExcIn P w K mg base k x C oi) (h:k<=k'):ExcIn P w K mg base k' x C oi:=by
 refine⟨F.at_,F.kp,F.cls,?_⟩
 cases oi with
 | none=>exact F.init
 | some i=>obtain⟨a,b,c,d,e,f⟩:=F.init;exact⟨a,b,c,d,aQ e h,f⟩
structure Tab (P:aV) (w:bM) (K:ac) (mg:Str->Option Value) (base:Heap) (k:Nat) (gb:List (Str×GB)) (bl:List Str):Prop where
 fn:∀ x i,(x,GB.fn i)∈gb->FnIn P w K mg base k x i
 val:∀ x v u,(x,GB.val v u)∈gb->mg x=some u/\RelV v u
 bl:∀ x∈bl,mg x=none
 exc:∀ x C oi,(x,GB.exc C oi)∈gb->ExcIn P w K mg base k x C oi
 cls:∀ x C oi,(x,GB.cls C oi)∈gb->ClsIn P w K mg base k x C oi
 met:∀ x m l,(x,GB.met m l)∈gb -> ∀ mi∈l,MetIn P w K mg base k m mi
theorem FnIn.mono {k k':Nat} {x:Str} {i:FI} (F:FnIn P w K mg base k x i) (h:k<=k'):FnIn P w K mg base k' x i:=⟨F.at_,F.kp,F.ok,aQ F.le h,F.binds,F.vals⟩
theorem Tab.nil {bl:List Str} (h:∀ x∈bl,mg x=none):Tab P w K mg base 0 [] bl:=⟨fun _ _ h=>(by cases h),fun _ _ _ h=>(by cases h),h,fun _ _ _ h=>(by cases h),fun _ _ _ h=>(by cases h),fun _ _ _ h=>(by cases h)⟩
theorem Tab.mono {k k':Nat} {gb:List (Str×GB)} {bl:List Str} (T:Tab P w K mg base k gb bl) (h:k<=k'):Tab P w K mg base k' gb bl:=⟨fun x i hx=>(T.fn x i hx).mono h,T.val,T.bl,fun x C oi hx=>(T.exc x C oi hx).mono h,fun x C oi hx=>(T.cls x C oi hx).mono h,fun x m l hx mi hm=>(T.met x m l hx mi hm).mono h⟩
theorem Tab.cons {k:Nat} {gb:List (Str×GB)} {bl:List Str} {x:Str} {i:FI} (T:Tab P w K mg base k gb bl) (F:FnIn P w K mg base k x i):Tab P w K mg base k ((x,.fn i)::gb) bl:=
 ⟨fun y j hy=>by
  rcases List.mem_cons.mp hy with e|e
  ·cases e;exact F
  ·exact T.fn y j e,fun y v' u' hy=>by
  rcases List.mem_cons.mp hy with e|e
  ·cases e
  ·exact T.val y v' u' e,T.bl,fun y C' oi' hy=>by
  rcases List.mem_cons.mp hy with e|e
  ·cases e
  ·exact T.exc y C' oi' e,fun y C' oi' hy=>by
  rcases List.mem_cons.mp hy with e|e
  ·cases e
  ·exact T.cls y C' oi' e,fun y m' l' hy=>by
  rcases List.mem_cons.mp hy with e|e
  ·cases e
  ·exact T.met y m' l' e⟩
theorem Tab.consX {k:Nat} {gb:List (Str×GB)} {bl:List Str} {x:Str} {C:Addr} {oi:Option FI} (T:Tab P w K mg base k gb bl) (F:ExcIn P w K mg base k x C oi):Tab P w K mg base k ((x,.exc C oi)::gb) bl:=
 ⟨fun y j hy=>by
  rcases List.mem_cons.mp hy with e|e
  ·cases e
  ·exact T.fn y j e,fun y v' u' hy=>by
  rcases List.mem_cons.mp hy with e|e
  ·cases e
  ·exact T.val y v' u' e,T.bl,fun y C' oi' hy=>by
  rcases List.mem_cons.mp hy with e|e
  ·cases e;exact F
  ·exact T.exc y C' oi' e,fun y C' oi' hy=>by
  rcases List.mem_cons.mp hy with e|e
  ·cases e
  ·exact T.cls y C' oi' e,fun y m' l' hy=>by
  rcases List.mem_cons.mp hy with e|e
  ·cases e
  ·exact T.met y m' l' e⟩
theorem Tab.consV {k:Nat} {gb:List (Str×GB)} {bl:List Str} {x:Str} {v:V} {u:Value} (T:Tab P w K mg base k gb bl) (F:mg x=some u) (r:RelV v u):Tab P w K mg base k ((x,.val v u)::gb) bl:=
 ⟨fun y j hy=>by
  rcases List.mem_cons.mp hy with e|e
  ·cases e
  ·exact T.fn y j e,fun y v' u' hy=>by
  rcases List.mem_cons.mp hy with e|e
  ·cases e;exact⟨F,r⟩
  ·exact T.val y v' u' e,T.bl,fun y C' oi' hy=>by
  rcases List.mem_cons.mp hy with e|e
  ·cases e
  ·exact T.exc y C' oi' e,fun y C' oi' hy=>by
  rcases List.mem_cons.mp hy with e|e
  ·cases e
  ·exact T.cls y C' oi' e,fun y m' l' hy=>by
  rcases List.mem_cons.mp hy with e|e
  ·cases e
  ·exact T.met y m' l' e⟩
theorem Tab.consC {k:Nat} {gb:List (Str×GB)} {bl:List Str} {x:Str} {C:Addr} {oi:Option FI} (T:Tab P w K mg base k gb bl) (F:ClsIn P w K mg base k x C oi):Tab P w K mg base k ((x,.cls C oi)::gb) bl:=
 ⟨fun y j hy=>by
  rcases List.mem_cons.mp hy with e|e
  ·cases e
  ·exact T.fn y j e,fun y v' u' hy=>by
  rcases List.mem_cons.mp hy with e|e
  ·cases e
  ·exact T.val y v' u' e,T.bl,fun y C' oi' hy=>by
  rcases List.mem_cons.mp hy with e|e
  ·cases e
  ·exact T.exc y C' oi' e,fun y C' oi' hy=>by
  rcases List.mem_cons.mp hy with e|e
  ·cases e;exact F
  ·exact T.cls y C' oi' e,fun y m' l' hy=>by
  rcases List.mem_cons.mp hy with e|e
  ·cases e
  ·exact T.met y m' l' e⟩
theorem Tab.consM {k:Nat} {gb:List (Str×GB)} {bl:List Str} {x:Str} {m:Str} {l:List MI} (T:Tab P w K mg base k gb bl) (F:∀ mi∈l,MetIn P w K mg base k m mi):Tab P w K mg base k ((x,.met m l)::gb) bl:=
 ⟨fun y j hy=>by
  rcases List.mem_cons.mp hy with e|e
  ·cases e
  ·exact T.fn y j e,fun y v' u' hy=>by
  rcases List.mem_cons.mp hy with e|e
  ·cases e
  ·exact T.val y v' u' e,T.bl,fun y C' oi' hy=>by
  rcases List.mem_cons.mp hy with e|e
  ·cases e
  ·exact T.exc y C' oi' e,fun y C' oi' hy=>by
  rcases List.mem_cons.mp hy with e|e
  ·cases e
  ·exact T.cls y C' oi' e,fun y m' l' hy=>by
  rcases List.mem_cons.mp hy with e|e
  ·cases e;exact F
  ·exact T.met y m' l' e⟩
theorem K5 (X:Cx):Qy CX0 X:=fun _ _ _ _ _ _ _ _ _ h=>h.elim
noncomputable def Bd (K:ac) (N:List Str) (sc:Scope) (gb:List (Str×GB)) (bl:List Str):Sg:=⟨K,N,sc.names,gb,bl,true,true⟩
noncomputable def Ar (N:List Str) (sc:Scope):Bool:=N.all fun x=>(sc.names.lookup x==some .local)||(sc.names.lookup x==some .cell)
noncomputable def af2 (Q:VK) (E:EK):J8:=⟨fun _ H'=>Q .non H',Q,fun _ _=>False,fun _ _=>False,fun _=>E⟩
structure FunD (K:ac) (x qual:Str) (st:Stmt) (f:Addr) (fd:aA) (dV:Value):Prop where
 ex:∃ (oc:Value) (od:Option Addr) (kV doc pm:Value) (an:Option Addr) (cdv ct:Value) (osl:Array (Option Value)),
  fd=cn x qual (By st) (Al st) (Ab st) dV kV doc pm an cdv ct/\K.lookup f=some ⟨oc,od,.func fd,osl⟩/\dP K cdv qual=true
 kp:aR K (.ref f)=true
theorem Fun.toD {x qual:Str} {st:Stmt} {f:Addr} {fd:aA} (F:Fun K x qual st f fd):FunD K x qual st f fd .none:=⟨F.ex,F.kp⟩
theorem au9 {x qual:Str} {st:Stmt} {f:Addr} {oc:Value} {od an:Option Addr} {osl:Array (Option Value)} {dV kV doc pm cdv ct:Value} (l:K.lookup f=some ⟨oc,od,.func (cn x qual (By st) (Al st) (Ab st) dV kV doc pm an cdv ct),osl⟩)
  (c:dP K cdv qual=true) (k:aR K (.ref f)=true):FunD K x qual st f (cn x qual (By st) (Al st) (Ab st) dV kV doc pm an cdv ct) dV:=⟨⟨oc,od,kV,doc,pm,an,cdv,ct,osl,rfl,l,c⟩,k⟩
theorem FunD.ok {x qual:Str} {st:Stmt} {f:Addr} {fd:aA} {dV:Value} {N ps:List Str} {k:Nat} {sp:Sp} (F:FunD K x qual st f fd dV) (S:Am N ps (Ab st)) (len:∀ vs H Q E,sp vs H Q E->vs.length=ps.length)
  (hbody:∀ (cdv:Value) (A:bi) (outer:List Env) (s:aj) (H:Hp) (vs:List V) (Q:VK) (E:XK),Room k (A.deeper (lD qual (Ab st) s.heap.objs.size f cdv))->sp vs H Q E ->
   ∃ t,PSs (To CX0 P w K mg base N qual (Ab st) f cdv A outer s H E).nox (Al st) t/\t { nx:=fun _ H'=>Q .non H',rt:=Q } (Gn N vs) H):FnOk P w K mg base CX0 (k+1) f fd ps sp:=by
 obtain⟨oc,od,kV,doc,pm,an,cdv,ct,osl,rfl,lk,hcd⟩:=F.ex
 refine bt8 lk hcd S len fun A outer s H vs Q E hr hsp=>?_
 obtain⟨t,h,q⟩:=hbody cdv A outer s H vs Q E hr hsp
 exact⟨t,h.nox,q⟩
theorem Ti {fd:aA} {ps:List Str} {T:Addr} {o:Obj} {items:Array Value} {n:Nat} {ds:List Value} (hd:fd.defaults=.ref T) (ho:K.lookup T=some o) (hs:o.data=.seq items n)
  (h:∀ us:List Value,(us++ds).length=ps.length -> ∃ k:Option (Array Value)->Sem (List (Str×Value)),kM fd ⟨us,[]⟩=seqItems? fd.defaults >>= k/\k (some items)=pure (ps.zip (us++ds))):Binds K fd ps ds:=fun s us X hl=>by
 obtain⟨k,h1,h2⟩:=h us hl
 exact PySem.W.binds_K X hd ho hs h1 h2
theorem FunD.okW0 {x qual:Str} {st:Stmt} {f:Addr} {fd:aA} {N ps:List Str} {k n:Nat} {sp:Sp} {gb:List (Str×GB)} {bl:List Str} {t:DS} {dV:Value} (F:FunD K x qual st f fd dV) (S:Am N ps (Ab st)) (hv:Ar N (Ab st)=true)
  (T:Tab P w K mg base k gb bl) (rd:wSs n (Bd K N (Ab st) gb bl) (Al st)=t) (len:∀ vs H Q E,sp vs H Q E->vs.length=ps.length)
  (hbody:∀ (vs:List V) (H:Hp) (Q:VK) (E:XK),sp vs H Q E->t (af2 Q fun _ _=>False) (Gn N vs) H):FnOk P w K mg base CX0 (k+1) f fd ps sp:=by
 refine F.ok S len fun cdv A outer s H vs Q E hr h=>?_
 have O:GOk (To CX0 P w K mg base N qual (Ab st) f cdv A outer s H E).nox (Bd K N (Ab st) gb bl):=by
  refine⟨rfl,S.kind,(fun _=>PassesOwn.never),rfl,S.nd,fun x=>rfl,fun x hx=>?_,fun _ _=>rfl,rfl,(fun _=>hr.hd),hr.units,fun x hx=>?_,fun x i e=>?_,fun x v u e=>?_,fun x hx=>?_,fun x C oi e=>?_,fun x C oi e=>?_,fun m l e mi hm=>?_,(fun _=>⟨rfl,rfl⟩),⟨_,_,_,rfl,rfl,rfl⟩⟩
  ·have:=List.all_eq_true.mp hv x hx
   rw [eW] at this
   exact this.elim (fun z=>.inl (cU z)) fun z=>.inr (.inl (cU z))
  ·rcases hx with hx|hx
   ·exact Kf hx
   ·exact absurd rfl (S.nofree _ (bS hx))
  ·have FI:=T.fn x i (bS e)
   exact⟨FI.at_,FI.kp,FI.ok,hr.mono FI.le,FI.binds,FI.vals⟩
  ·exact T.val x v u (bS e)
  ·exact T.bl x (by have hx':bl.contains x=true:=hx;simpa using hx')
  ·have EI:=T.exc x C oi (bS e)
   refine⟨EI.at_,EI.kp,EI.cls,?_⟩
   cases oi with
   | none=>exact EI.init
   | some i=>obtain⟨a,b,c,d,e,f,g⟩:=EI.init;exact⟨a,b,⟨c,d,hr.mono (by omega),f,g⟩,hr.mono e⟩
  ·have CI:=T.cls x C oi (bS e)
   refine⟨CI.at_,CI.kp,?_⟩
   cases oi with
   | none=>exact CI.made
   | some i=>obtain⟨a,b,c,d,e⟩:=CI.made;exact⟨a,b,c,⟨d.kp,d.ok,hr.mono d.le,d.binds,d.vals⟩,hr.mono e⟩
  ·obtain⟨x,hx⟩:=Cl e
   have MI:=T.met x m l hx mi hm
   exact⟨MI.cls,MI.at_,⟨MI.fi.kp,MI.fi.ok,hr.mono MI.fi.le,MI.fi.binds,MI.fi.vals⟩⟩
 refine⟨_,(cc4 n _ _ O).2 (Al st) (fun _ _ _=>False) (fun _ _ _ _ _ _ _ h=>h.elim),?_⟩
 rw [rd]
 exact hbody vs H Q E h
end
theorem Same.upd {H:Hp} {a:Addr} {o:HO} (h:H a=none):Same H (upd H a o):=fun b u e=>by rw [Ai (Ak e h)];exact e
theorem Same.set {H H':Hp} {a:Addr} {o:HO} (s:Same H H') (h:H a=none):Same H (L2.upd H' a o):=fun b u e=>by rw [Ai (Ak e h)];exact s b u e
theorem Same.seqT {K:ac} {H H':Hp} {a:Addr} {xs:List V} (e:Same H H') (h:SqT K H a xs):SqT K H' a xs:=by
 rcases h with (h|⟨o,h⟩)|h
 ·exact .inl (.inl (e _ _ h))
 ·exact .inl (.inr ⟨o,e _ _ h⟩)
 ·exact .inr h
structure Em (J:It) (its:List V) (ok:Hp->Prop):Prop where
 go:∀ i H,ok H->i<its.length->J.go i H
 stop:∀ H,ok H->J.stop its.length H
 yld:∀ i H x H',ok H->i<its.length->J.yld i H x H'->H'=H/\its[i]? = some x
structure Jp (J:It) (its:List (V×V)) (ok:Hp->Prop):Prop where
 go:∀ i H,ok H->i<its.length->J.go i H
 stop:∀ H,ok H->J.stop its.length H
 yld:∀ i H v H',ok H->i<its.length->J.yld i H v H' -> ∃ T x y,H T=none/\v=.ref T/\its[i]? = some (x,y)/\H'=upd H T (.tup [x,y])
noncomputable def Fv (z:Str):List V:=z.cps.toList.map fun c=>V.str ⟨#[c]⟩
theorem bs7 (z:Str):Em (Its z) (Fv z) (fun _=>True):=by
 have e:(Fv z).length=z.cps.size:=by unfold Fv;simp
 refine⟨fun i H _ h=>?_,fun H _=>?_,fun i H x H' _ _ h=>?_⟩
 ·show i<z.cps.size;omega
 ·show (Fv z).length=z.cps.size;exact e
 ·obtain⟨h1,c,h2,h3⟩:=h
  refine⟨h1,?_⟩
  unfold Fv
  rw [ak,gM,h2,h3]
  rfl
theorem A5 {K:ac} {a:Addr} (xs:List V):Em (Itl K a) xs (fun H=>SqL K H a xs):=by
 refine⟨fun i H q h=>⟨xs,xs[i],q,by simp [h]⟩,fun H q=>⟨xs,q,ay _⟩,fun i H x H' q _ h=>?_⟩
 obtain⟨h1,h2⟩:=h
 exact⟨h1,h2 xs q⟩
theorem Wi {K:ac} {a:Addr} (xs:List V):Em (Itt K a) xs (fun H=>SqT K H a xs):=by
 refine⟨fun i H q h=>⟨xs,xs[i],q,by simp [h]⟩,fun H q=>⟨xs,q,ay _⟩,fun i H x H' q _ h=>?_⟩
 obtain⟨h1,h2⟩:=h
 exact⟨h1,h2 xs q⟩
noncomputable def Sj (lo:Int) (n:Nat):List V:=(aq n).map fun (i:Nat)=>V.int (lo+(i:Int))
theorem A9 (lo:Int) (n:Nat):(Sj lo n).length=n:=by unfold Sj;simp
theorem La {lo:Int} {n i:Nat} (h:i<n):(Sj lo n)[i]? = some (.int (lo+(i:Int))):=by unfold Sj;simp [h]
theorem Bu (lo:Int) (n:Nat):Em (Itr lo n) (Sj lo n) (fun _=>True):=by
 refine⟨fun i H _ h=>?_,fun H _=>?_,fun i H x H' _ hi h=>?_⟩
 ·rw [A9] at h;exact h
 ·show n<=(Sj lo n).length;rw [A9];exact ay _
 ·obtain⟨h1,h2⟩:=h
  rw [A9] at hi
  exact⟨h1,by rw [La hi,h2]⟩
noncomputable def Eo:Nat->List V->List (V×V)
 | _,[]=>[]
 | k,x::r=>(.int k,x)::Eo (k+1) r
theorem B4:∀ (k:Nat) (xs:List V),(Eo k xs).length=xs.length
 | _,[]=>rfl
 | k,_::r=>by rw [Eo,aN,aN,B4 (k+1) r]
theorem C7:∀ {k i:Nat} {xs:List V} {x:V},xs[i]? = some x->(Eo k xs)[i]? = some (.int ((k+i:Nat):Int),x)
 | _,_,[],_,h=>by simp at h
 | k,0,y::r,x,h=>by
  simp only [dN,iQ] at h
  subst h
  rfl
 | k,i+1,y::r,x,h=>by
  rw [bN] at h
  rw [Eo,bN,C7 h]
  congr 4
  omega
theorem Qb {K:ac} {a:Addr} (xs:List V):Jp (Ite K a) (Eo 0 xs) (fun H=>SqL K H a xs):=by
 have e:=B4 0 xs
 refine⟨fun i H q h=>⟨xs,xs[i]'(by omega),q,by simp⟩,fun H q=>⟨xs,q,by omega⟩,fun i H v H' q _ h=>?_⟩
 obtain⟨T,x,hT,h1,h2,h4⟩:=h
 refine⟨T,.int i,x,hT,h1,?_,h4⟩
 have:=C7 (k:=0) (h2 xs q)
 rw [dg] at this
 exact this
section
variable {J:It} {its:List V} {ok:Hp->Prop} {g:DG} {tb:DS} {D:J8} {σ:St} {H:Hp}
theorem Bc (Y:Em J its ok) (Pv:Nat->St->Hp->Prop) (h0:Pv 0 σ H) (hok:∀ i σ H,i<=its.length->Pv i σ H->ok H)
  (hs:∀ i x σ H,its[i]? = some x->Pv i σ H->g x σ H fun σ2 H2=>tb { D with nx:=Pv (i+1),ct:=Pv (i+1),bk:=D.nx } σ2 H2) (hd:∀ σ H,Pv its.length σ H->D.nx σ H):Xu J g tb D σ H:=by
 refine⟨fun i m σ H=>m=its.length - i/\i<=its.length/\Pv i σ H,⟨its.length,by simp,cq _,h0⟩,?_⟩
 rintro i m σ H ⟨rfl,hi,p⟩
 by_cases hlt:i<its.length
 ·refine .inr ⟨Y.go i H (hok i σ H hi p) hlt,Pv (i+1),fun σ' H' p'=>⟨its.length - (i+1),by omega,rfl,hlt,p'⟩,fun x H' y=>?_⟩
  obtain⟨e,y2⟩:=Y.yld i H x H' (hok i σ H hi p) hlt y
  subst e
  exact hs i x σ _ y2 p
 ·have e:i=its.length:=by omega
  subst e
  exact .inl ⟨Y.stop H (hok _ σ H hi p),hd σ H p⟩
theorem Oy {its:List (V×V)} (Y:Jp J its ok) (Pv:Nat->St->Hp->Prop) (h0:Pv 0 σ H) (hok:∀ i σ H,i<=its.length->Pv i σ H->ok H)
  (hs:∀ i x y T σ H,its[i]? = some (x,y)->H T=none->Pv i σ H->g (.ref T) σ (upd H T (.tup [x,y])) fun σ2 H2=>tb { D with nx:=Pv (i+1),ct:=Pv (i+1),bk:=D.nx } σ2 H2) (hd:∀ σ H,Pv its.length σ H->D.nx σ H):Xu J g tb D σ H:=by
 refine⟨fun i m σ H=>m=its.length - i/\i<=its.length/\Pv i σ H,⟨its.length,by simp,cq _,h0⟩,?_⟩
 rintro i m σ H ⟨rfl,hi,p⟩
 by_cases hlt:i<its.length
 ·refine .inr ⟨Y.go i H (hok i σ H hi p) hlt,Pv (i+1),fun σ' H' p'=>⟨its.length - (i+1),by omega,rfl,hlt,p'⟩,fun x H' y=>?_⟩
  obtain⟨T,u,v,hT,e1,e2,e3⟩:=Y.yld i H x H' (hok i σ H hi p) hlt y
  subst e1 e3
  exact hs i u v T σ _ e2 hT p
 ·have e:i=its.length:=by omega
  subst e
  exact .inl ⟨Y.stop H (hok _ σ H hi p),hd σ H p⟩
variable {tc:DT} {te:DE} {L:Addr} {R:Hp->Prop} {E:EK}
theorem Ce (Y:Em J its ok) (Pv:Nat->St->Hp->Prop) (h0:Pv 0 σ H) (hok:∀ i σ H,i<=its.length->Pv i σ H->ok H)
  (hs:∀ i x σ H,its[i]? = some x->Pv i σ H->g x σ H fun σ3 H3=>tc σ3 H3 (fun b H4=>if b=true then te σ3 H4 (fun v H5=>∃ ys,H5 L=some (.lst ys)/\ys.length<sizeLine/\Pv (i+1) σ3 (upd H5 L (.lst (ys++[v])))) E else Pv (i+1) σ3 H4) E)
  (hd:∀ σ H,Pv its.length σ H->R H):Fg J g tc te L R σ H E:=by
 refine⟨fun i m σ H=>m=its.length - i/\i<=its.length/\Pv i σ H,⟨its.length,by simp,cq _,h0⟩,?_⟩
 rintro i m σ H ⟨rfl,hi,p⟩
 by_cases hlt:i<its.length
 ·refine .inr ⟨Y.go i H (hok i σ H hi p) hlt,Pv (i+1),fun σ' H' p'=>⟨its.length - (i+1),by omega,rfl,hlt,p'⟩,fun x H' y=>?_⟩
  obtain⟨e,y2⟩:=Y.yld i H x H' (hok i σ H hi p) hlt y
  subst e
  exact hs i x σ _ y2 p
 ·have e:i=its.length:=by omega
  subst e
  exact .inl ⟨Y.stop H (hok _ σ H hi p),hd σ H p⟩
theorem at6 {its:List (V×V)} (Y:Jp J its ok) (Pv:Nat->St->Hp->Prop) (h0:Pv 0 σ H) (hok:∀ i σ H,i<=its.length->Pv i σ H->ok H)
  (hs:∀ i x y T σ H,its[i]? = some (x,y)->H T=none->Pv i σ H->g (.ref T) σ (upd H T (.tup [x,y])) fun σ3 H3=>tc σ3 H3 (fun b H4=>if b=true then te σ3 H4 (fun v H5=>∃ ys,H5 L=some (.lst ys)/\ys.length<sizeLine/\Pv (i+1) σ3 (upd H5 L (.lst (ys++[v])))) E else Pv (i+1) σ3 H4) E)
  (hd:∀ σ H,Pv its.length σ H->R H):Fg J g tc te L R σ H E:=by
 refine⟨fun i m σ H=>m=its.length - i/\i<=its.length/\Pv i σ H,⟨its.length,by simp,cq _,h0⟩,?_⟩
 rintro i m σ H ⟨rfl,hi,p⟩
 by_cases hlt:i<its.length
 ·refine .inr ⟨Y.go i H (hok i σ H hi p) hlt,Pv (i+1),fun σ' H' p'=>⟨its.length - (i+1),by omega,rfl,hlt,p'⟩,fun x H' y=>?_⟩
  obtain⟨T,u,v,hT,e1,e2,e3⟩:=Y.yld i H x H' (hok i σ H hi p) hlt y
  subst e1 e3
  exact hs i u v T σ _ e2 hT p
 ·have e:i=its.length:=by omega
  subst e
  exact .inl ⟨Y.stop H (hok _ σ H hi p),hd σ H p⟩
theorem Ff {α β:Type} {its:List α} {i:Nat} {x:α} (h:its[i]? = some x) (p:α->Bool) (f:α->β):((its.take (i+1)).filter p).map f=((its.take i).filter p).map f++(if p x=true then [f x] else []):=by
 rw [b_,h]
 simp only [cW,iC,az]
 congr 1
 cases e:p x <;> simp [e]
theorem Oq (Y:Em J its ok) (Sg:St->Prop) (p:V->Bool) (f:V->V) (h0:H L=none) (hok:∀ H1,Same H H1->ok H1) (hn:its.length<sizeLine) (hσ:Sg σ)
  (hs:∀ x σ H1,x∈its->Sg σ->Same H H1 -> ∀ (Fin:V->St->Hp->Prop) (Skip:St->Hp->Prop),(∀ v σ3 H5,Sg σ3->Same H1 H5->p x=true->v=f x->Fin v σ3 H5)->(∀ σ3 H4,Sg σ3->Same H1 H4->p x=false->Skip σ3 H4) ->
   g x σ H1 fun σ3 H3=>tc σ3 H3 (fun b H4=>if b=true then te σ3 H4 (fun v H5=>Fin v σ3 H5) E else Skip σ3 H4) E)
  (hd:∀ H',Same H H'->H' L=some (.lst ((its.filter p).map f))->R H'):Fg J g tc te L R σ (upd H L (.lst [])) E:=by
 refine Ce Y (fun i σ' H'=>Sg σ'/\Same H H'/\H' L=some (.lst (((its.take i).filter p).map f))) ⟨hσ,Same.upd h0,Ad⟩ (fun i σ' H' _ q=>hok H' q.2.1) ?_ ?_
 ·rintro i x σ' H' hx ⟨q1,q2,q3⟩
  have hi:i<its.length:=(List.getElem?_eq_some_iff.mp hx).1
  refine hs x σ' H' (ai hx) q1 q2 (fun v σ3 H5=>∃ ys,H5 L=some (.lst ys)/\ys.length<sizeLine/\Sg σ3/\Same H (upd H5 L (.lst (ys++[v])))/\upd H5 L (.lst (ys++[v])) L=some (.lst (((its.take (i+1)).filter p).map f)))
   (fun σ3 H4=>Sg σ3/\Same H H4/\H4 L=some (.lst (((its.take (i+1)).filter p).map f))) (fun v σ3 H5 s1 s2 hp hv=>?_) (fun σ3 H4 s1 s2 hp=>?_)
  ·refine⟨_,s2 _ _ q3,?_,s1,(q2.trans s2).set h0,?_⟩
   ·rw [ae]
    have h1:=e9 p (its.take i)
    have h2:(its.take i).length<=i:=by rw [aO];omega
    omega
   ·rw [Ad,Ff hx,if_pos hp,hv]
  ·refine⟨s1,q2.trans s2,?_⟩
   rw [s2 _ _ q3,Ff hx,if_neg (by rw [hp];exact am),cv]
 ·rintro σ' H' ⟨_,q2,q3⟩
  rw [aX] at q3
  exact hd H' q2 q3
end
section
variable {K:ac} {H H':Hp}
theorem Same.seqL {a:Addr} {xs:List V} (e:Same H H') (h:SqL K H a xs):SqL K H' a xs:=by
 rcases h with (h|⟨o,h⟩)|h
 ·exact .inl (.inl (e _ _ h))
 ·exact .inl (.inr ⟨o,e _ _ h⟩)
 ·exact .inr h
mutual
theorem a24 (S:Same H H'):∀ {d:Dt} {x:V},At K H d x->At K H' d x
 | .at_ v,x,h=>by unfold At at h ⊢;exact h
 | .lst l,x,h=>by unfold At at h ⊢;obtain⟨a,xs,e,q,h⟩:=h;exact⟨a,xs,e,S.seqL q,Tg S h⟩
 | .tup l,x,h=>by unfold At at h ⊢;obtain⟨a,xs,e,q,h⟩:=h;exact⟨a,xs,e,S.seqT q,Tg S h⟩
theorem Tg (S:Same H H'):∀ {ds:List Dt} {xs:List V},AtL K H ds xs->AtL K H' ds xs
 | [],xs,h=>by unfold AtL at h ⊢;exact h
 | d::ds,xs,h=>by unfold AtL at h ⊢;obtain⟨y,ys,e,h1,h2⟩:=h;exact⟨y,ys,e,a24 S h1,Tg S h2⟩
end
theorem ad7 {J:It} {its:List V} {ok:Hp->Prop} {te:DE} {σ:St} {D:Addr} {R:Hp->Prop} {E:EK} (Y:Em J its ok) (Sg:St->Prop) (hD:H D=none) (hok:∀ H1,Same H H1->ok H1) (hn:its.length<sizeLine) (hσ:Sg σ) (hS:∀ σ x,Sg σ->Sg (σ.set 0 (some x)))
  (he:∀ x σ H1 Q1,x∈its->Sg σ->Same H H1->(∀ H2,Same H1 H2->Q1 (.bl true) H2)->te (σ.set 0 (some x)) H1 Q1 E) (k:∀ H',Same H H'->SqL K H' D ((its.map fun _=>true).map V.bl)->R H') :
  Fg J (gdN 0) B5 te D R σ (upd H D (.lst [])) E:=by
 refine Oq Y Sg (fun _=>true) (fun _=>.bl true) hD hok hn hσ ?_ ?_
 ·intro x σ H1 hx hs S Fin Skip hF hK
  exact he x σ H1 _ hx hs S fun H2 S2=>hF _ _ _ (hS _ _ hs) S2 rfl rfl
 ·intro H' S hD'
  exact k H' S (SqL.of (hD'.trans (by rw [List.filter_eq_self.mpr (fun _ _=>rfl),bA];rfl)))
theorem Wm (its:List V):((its.map fun _=>true).all fun b=>b)=true:=by rw [fU,aW];exact fun _ _=>rfl
end
end L2
namespace L2
open PySem PySem.Spec PySem.W
structure XC (K:ac) (C:Addr) (bm:List Value):Prop where
 lk:∃ nm q N bs sn sub ab col dd k0 k1 k2 k3 k5,K.lookup C=some (fS nm q C N bs bm true sn sub ab col dd k0 k1 k2 k3 k5 "ValueError.__new__")
 ty:typeIn K (.ref C)=some (.type "type")
 sa:findIn K (.ref C) "__setattr__" = some (some (.builtin "object.__setattr__"))
 ga:findIn K (.ref C) "__getattribute__" = some (some (.builtin "BaseException.__getattribute__"))
 gt:findIn K (.ref C) "__getattr__" = some none
 ca:findIn K (.ref C) "__class__" = some (some (.builtin "object.__class__"))
 hn:specialIn K (.builtin "object.__class__") "__get__" = some (some (.builtin "getset_descriptor.__get__"))
 htk:takesIn K (.builtin "object.__class__")=some true
theorem xc_mk {K:ac} {C N:Addr} {bm bs:List Value} {nm q:Str} {sn:List Str} {sub:List Value} {ab:Bool} {col:Option Bool} {dd:Option Addr} {k0 k1 k2 k3 k5:Option Value}
  (lk:K.lookup C=some (fS nm q C N bs bm true sn sub ab col dd k0 k1 k2 k3 k5 "ValueError.__new__")) (ty:typeIn K (.ref C)=some (.type "type")) (sa:findIn K (.ref C) "__setattr__" = some (some (.builtin "object.__setattr__")))
  (ga:findIn K (.ref C) "__getattribute__" = some (some (.builtin "BaseException.__getattribute__"))) (gt:findIn K (.ref C) "__getattr__" = some none) (ca:findIn K (.ref C) "__class__" = some (some (.builtin "object.__class__")))
  (hn:specialIn K (.builtin "object.__class__") "__get__" = some (some (.builtin "getset_descriptor.__get__"))) (htk:takesIn K (.builtin "object.__class__")=some true):XC K C bm:=⟨⟨_,_,_,_,_,_,_,_,_,_,_,_,_,_,lk⟩,ty,sa,ga,gt,ca,hn,htk⟩
theorem XC.ecls {K:ac} {C:Addr} {bm:List Value} (x:XC K C bm) (h:Bi bm=true):ECls K C:=by
 obtain⟨nm,q,N,bs,sn,sub,ab,col,dd,k0,k1,k2,k3,k5,lk⟩:=x.lk
 exact⟨⟨_,_,_,_,bm,true,_,_,_,_,_,_,_,_,_,_,lk,h,rfl⟩,x.sa,x.ga,x.gt,x.ca,x.hn,x.htk⟩
theorem Iv {K:ac} {fd:aA} {ps:List Str} {T:Addr} {o:Obj} {items:Array Value} {n:Nat} {ds:List Value} (m:Nat) (hd:fd.defaults=.ref T) (ho:K.lookup T=some o) (hs:o.data=.seq items n) (hm:m+ds.length=ps.length)
  (h:∀ us:List Value,us.length=m -> ∃ k:Option (Array Value)->Sem (List (Str×Value)),kM fd ⟨us,[]⟩=seqItems? fd.defaults >>= k/\k (some items)=pure (ps.zip (us++ds))):Binds K fd ps ds:=
 Ti hd ho hs fun us hl=>h us (by rw [aJ] at hl;omega)
end L2
namespace L2
open PySem PySem.Spec PyProof.Rows
open Sem (wp)
section
variable {X:Cx} {pins:List (Addr×Obj)} {σ:St} {H:Hp} {s:aj} {a C:Addr} {dx:Option Addr} {h':Heap}
end
section
variable {P:aV} {w:bM} {K:ac} {mg:Str->Option Value} {base:Heap}
end
end L2
namespace Pn
open PySem L2
noncomputable abbrev Sw:=List (Str×List Str)
noncomputable def Br (c:Nat):Bool:=decide (97<=c)&&decide (c<=122)
noncomputable def okW (z:Str):Prop:=1<=z.length/\z.length<=8/\z.cps.toList.all Br=true
noncomputable def okL (l:List Str):Prop:=(∀ z∈l,okW z)/\l.Nodup/\l.length<=8
noncomputable def Hi (l:List Str):Prop:=okL l/\2<=l.length/\l.length<=4
noncomputable def Bo (sw:Sw):Nat:=sw.foldl (fun n x=>n * x.2.length) 1
noncomputable def okSw (sw:Sw):Prop:=1<=sw.length/\sw.length<=5/\(sw.map (·.1)).Nodup/\(∀ x∈sw,okW x.1/\Hi x.2)/\Bo sw<=256
noncomputable def Df (acc:List (List Str)) (x:Str×List Str):List (List Str):=acc.flatMap fun a=>x.2.map fun z=>a++[z]
noncomputable def Ah (sw:Sw):List (List Str):=sw.foldl Df [[]]
noncomputable def Zg (ns:List Nat):Int:=ns.foldl (fun (c:Int) n=>cV c (2 ^ n)) 0
noncomputable def Gz (ms:List Int):Int:=ms.foldl (fun c m=>cV c m) 0
noncomputable def Dz (p:Nat) (z:Str):Nat->List (List Str)->List Nat
 | _,[]=>[]
 | k,r::rs=>if r[p]? = some z then k::Dz p z (k+1) rs else Dz p z (k+1) rs
noncomputable def C4 (rows:List (List Str)) (p:Nat) (z:Str):Int:=Zg (Dz p z 0 rows)
noncomputable def C9 (sw:Sw) (w:Str):Nat:=sw.findIdx fun x=>decide (x.1=w)
noncomputable def Jj (sw:Sw) (e:Str×List Str):Int:=Gz (e.2.map (C4 (Ah sw) (C9 sw e.1)))
noncomputable def Of (sw:Sw):Int:=2 ^ (Ah sw).length - 1
noncomputable def ae0 (sw:Sw) (rule:Sw):Int:=rule.foldl (fun c e=>bj c (Jj sw e)) (Of sw)
noncomputable def Iu (sw:Sw) (rules:List Sw):List Int:=rules.map (ae0 sw)
noncomputable def Gj (sw:Sw) (rules:List Sw):Int:=bj (Of sw) (bv (Gz (Iu sw rules)))
noncomputable def Uw (sw:Sw) (e:Str×List Str):Prop:=e.2≠[]/\okL e.2 /\ ∃ x∈sw,x.1=e.1 /\ ∀ z∈e.2,z∈x.2
noncomputable def Gw (sw:Sw) (rule:Sw):Prop:=rule≠[]/\rule.length<=100/\(rule.map (·.1)).Nodup /\ ∀ e∈rule,Uw sw e
theorem Oa (acc:List (List Str)) (x:Str×List Str):(Df acc x).length=acc.length * x.2.length:=by
 unfold Df
 induction acc with
 | nil=>simp
 | cons a acc ih=>rw [fj,aJ,ih,ae,aN,Nat.add_mul,Nat.one_mul,lv]
theorem Hk:∀ (sw:Sw) (acc:List (List Str)),(sw.foldl Df acc).length=sw.foldl (fun n x=>n * x.2.length) acc.length
 | [],_=>rfl
 | x::sw,acc=>by rw [bG,bG,Hk sw,Oa]
theorem Lb (sw:Sw):(Ah sw).length=Bo sw:=Hk sw [[]]
noncomputable def K3 (k:Nat) (rs:List (List Str)):Prop:=rs.Nodup/\(∀ r∈rs,r.length=k) /\ ∀ r∈rs,∀ z∈r,okW z
theorem aq1 {k:Nat} {acc:List (List Str)} {x:Str×List Str} (h:K3 k acc) (hx:Hi x.2):K3 (k+1) (Df acc x):=by
 obtain⟨h1,h2,h3⟩:=h
 refine⟨?_,?_,?_⟩
 ·unfold Df
  clear h3
  induction acc with
  | nil=>exact List.nodup_nil
  | cons a acc ih=>
   rw [fj,iN]
   rw [e_] at h1
   refine⟨?_,ih h1.2 (fun r hr=>h2 r (aL _ hr)),?_⟩
   ·refine List.Pairwise.map _ ?_ hx.1.2.1
    intro y z ne e
    exact ne (by simpa using e)
   ·intro r hr q hq e
    subst e
    obtain⟨y,hy,rfl⟩:=List.mem_map.mp hr
    obtain⟨b,hb,hq⟩:=List.mem_flatMap.mp hq
    obtain⟨z,hz,e⟩:=List.mem_map.mp hq
    have:b=a/\z=y:=by simpa using e
    rw [this.1] at hb
    exact h1.1 hb
 ·intro r hr
  obtain⟨b,hb,hq⟩:=List.mem_flatMap.mp hr
  obtain⟨z,hz,rfl⟩:=List.mem_map.mp hq
  rw [aJ,h2 b hb]
  rfl
 ·intro r hr y hy
  obtain⟨b,hb,hq⟩:=List.mem_flatMap.mp hr
  obtain⟨z,hz,rfl⟩:=List.mem_map.mp hq
  rcases List.mem_append.mp hy with hy|hy
  ·exact h3 b hb y hy
  ·have:y=z:=by simpa using hy
   subst this
   exact hx.1.1 _ hz
theorem Ji:∀ {sw:Sw} {k:Nat} {acc:List (List Str)},K3 k acc->(∀ x∈sw,Hi x.2)->K3 (k+sw.length) (sw.foldl Df acc)
 | [],_,_,h,_=>h
 | x::sw,k,acc,h,hs=>by
  have:=Ji (aq1 h (hs x (aZ))) (fun y hy=>hs y (aL _ hy))
  rw [bG,aN,show k+(sw.length+1)=k+1+sw.length by omega]
  exact this
theorem Dv {sw:Sw} (h:∀ x∈sw,Hi x.2):K3 sw.length (Ah sw):=by
 have:=Ji (sw:=sw) (k:=0) (acc:=[[]]) ⟨by simp,by simp,by simp⟩ h
 rwa [dg] at this
theorem Ci:∀ {sw:Sw} {n:Nat},1<=n->(∀ x∈sw,Hi x.2)->n<=sw.foldl (fun n x=>n * x.2.length) n
 | [],n,_,_=>ay _
 | x::sw,n,h,hs=>by
  rw [bG]
  have h2:2<=x.2.length:=(hs x aZ).2.1
  have:n<=n * x.2.length:=Nat.le_mul_of_pos_right _ (by omega)
  exact aQ this (Ci (by omega) (fun y hy=>hs y (aL _ hy)))
theorem okSw.sets {sw:Sw} (h:okSw sw):∀ x∈sw,Hi x.2:=fun x hx=>(h.2.2.2.1 x hx).2
theorem okSw.len {sw:Sw} (h:okSw sw):(Ah sw).length<=256:=by rw [Lb];exact h.2.2.2.2
theorem okSw.pos {sw:Sw} (h:okSw sw):1<=(Ah sw).length:=by rw [Lb];exact Ci (ay 1) h.sets
theorem N3 {sw:Sw} (h:okSw sw) (i:Nat):Bo (sw.take i)<=Bo sw:=by
 conv=>rhs;rw [<- List.take_append_drop i sw]
 unfold Bo
 rw [fm]
 exact Ci (Ci (ay 1) fun x hx=>h.sets x (d8 hx)) fun x hx=>h.sets x (g7 hx)
theorem C8 {α β:Type} {l:List α} {i:Nat} {x:α} (h:l[i]? = some x) (f:β->α->β) (b:β):(l.take (i+1)).foldl f b=f ((l.take i).foldl f b) x:=by
 rw [b_,h,cW,fm]
 rfl
theorem Be {α β:Type} {l:List α} {i:Nat} {x:α} (h:l[i]? = some x) (f:α->β):(l.take (i+1)).map f=(l.take i).map f++[f x]:=by
 rw [b_,h,cW,az]
 rfl
noncomputable abbrev Own (ok:Addr->Prop) (H:Hp) (a:Addr) (o:HO):Prop:=ok a/\H a=some o
noncomputable abbrev Kp (ok:Addr->Prop) (H:Hp) (ok':Addr->Prop) (H':Hp):Prop:=∀ a o,Own ok H a o->Own ok' H' a o
noncomputable abbrev fresh (H:Hp):Addr->Prop:=fun a=>H a=none
noncomputable abbrev any:Addr->Prop:=fun _=>True
theorem Kp.same {ok:Addr->Prop} {H H':Hp} (S:Same H H'):Kp ok H ok H':=fun a o h=>⟨h.1,S _ _ h.2⟩
theorem Kp.any {ok:Addr->Prop} {H:Hp}:Kp ok H Pn.any H:=fun a o h=>⟨trivial,h.2⟩
theorem Kp.weak {ok ok':Addr->Prop} {H:Hp} (h:∀ a,ok a->ok' a):Kp ok H ok' H:=fun a o q=>⟨h a q.1,q.2⟩
theorem Kp.trans {ok1 ok2 ok3:Addr->Prop} {H1 H2 H3:Hp} (h:Kp ok1 H1 ok2 H2) (g:Kp ok2 H2 ok3 H3):Kp ok1 H1 ok3 H3:=fun a o q=>g a o (h a o q)
theorem Ze {H H':Hp} (S:Same H H') {a:Addr} (h:H' a=none):H a=none:=by
 cases e:H a with
 | none=>rfl
 | some o=>rw [S _ _ e] at h;cases h
theorem Kp.fresh {H1 H2 H:Hp} (S:Same H1 H2):Kp (fresh H2) H (Pn.fresh H1) H:=Kp.weak fun a h=>Ze S h
theorem Kp.off {ok:Addr->Prop} {H:Hp} {p:Addr} {o:HO} (h:¬ ok p):Kp ok H ok (upd H p o):=fun a u q=>⟨q.1,by
 have n:a≠p:=fun e=>h (by rw [<- e];exact q.1)
 rw [Ai n];exact q.2⟩
noncomputable abbrev kR (x:(Str×List Str)×Addr):Key×V:=(.inr x.1.1,.ref x.2)
noncomputable abbrev Dg (r:List Str):HO:=.tup (r.map V.str)
noncomputable abbrev A8 (r:List Str):HO:=.lst (r.map V.str)
noncomputable def SwAt (ok:Addr->Prop) (H:Hp) (d:Addr) (sw:Sw):Prop:=∃ ds:List ((Str×List Str)×Addr),ds.map (·.1)=sw/\Own ok H d (.dK (ds.map kR)) /\ ∀ x∈ds,Own ok H x.2 (Dg x.1.2)
noncomputable def RuleAt (ok:Addr->Prop) (H:Hp) (d:Addr) (sw:Sw):Prop:=∃ ds:List ((Str×List Str)×Addr),ds.map (·.1)=sw/\Own ok H d (.dK (ds.map kR)) /\ ∀ x∈ds,Own ok H x.2 (A8 x.1.2)
noncomputable def TupsAt (ok:Addr->Prop) (H:Hp) (l:Addr) (rows:List (List Str)):Prop:=∃ ds:List (List Str×Addr),ds.map (·.1)=rows/\Own ok H l (.lst (ds.map fun x=>.ref x.2)) /\ ∀ x∈ds,Own ok H x.2 (Dg x.1)
noncomputable def ba4 (ok:Addr->Prop) (H:Hp) (l:Addr) (rows:List (List Str)):Prop:=∃ ds:List (List Str×Addr),ds.map (·.1)=rows/\Own ok H l (.lst (ds.map fun x=>.ref x.2)) /\ ∀ x∈ds,Own ok H x.2 (A8 x.1)
noncomputable def SwIn (ok:Addr->Prop) (H:Hp) (l:Addr) (sw:Sw):Prop:=∃ ds:List (((Str×List Str)×Addr)×Addr),ds.map (·.1.1)=sw/\Own ok H l (.lst (ds.map fun x=>.ref x.2)) /\ ∀ x∈ds,Own ok H x.2 (.tup [.str x.1.1.1,.ref x.1.2])/\Own ok H x.1.2 (A8 x.1.1.2)
noncomputable def K1 (k:Nat):List (List Str)->List (List Key×V)
 | []=>[]
 | r::rs=>(r.map .inr,.int (k:Int))::K1 (k+1) rs
noncomputable def NumAt (ok:Addr->Prop) (H:Hp) (n:Addr) (rows:List (List Str)):Prop:=Own ok H n (.dT (K1 0 rows))
noncomputable def V2 (rows:List (List Str)) (i:Nat) (l:List Str):HO:=.dK (l.map fun z=>(.inr z,.int (C4 rows i z)))
noncomputable def SetsAt (ok:Addr->Prop) (H:Hp) (d:Addr) (sw:Sw):Prop:=∃ ds:List ((Str×List Str)×Addr),ds.map (·.1)=sw/\Own ok H d (.dK (ds.map kR)) /\ ∀ i x,ds[i]? = some x->Own ok H x.2 (V2 (Ah sw) i x.1.2)
noncomputable def RulesAt (ok:Addr->Prop) (H:Hp) (k:Addr) (rules:List Sw):Prop:=∃ ds:List (Sw×Addr),ds.map (·.1)=rules/\Own ok H k (.lst (ds.map fun x=>.ref x.2)) /\ ∀ x∈ds,RuleAt ok H x.2 x.1
section
variable {ok ok':Addr->Prop} {H H':Hp} {d:Addr} {sw:Sw} {rows:List (List Str)} {rules:List Sw}
theorem SwAt.mono (h:SwAt ok H d sw) (k:Kp ok H ok' H'):SwAt ok' H' d sw:=by
 obtain⟨ds,e,o,q⟩:=h;exact⟨ds,e,k _ _ o,fun x hx=>k _ _ (q x hx)⟩
theorem RuleAt.mono (h:RuleAt ok H d sw) (k:Kp ok H ok' H'):RuleAt ok' H' d sw:=by
 obtain⟨ds,e,o,q⟩:=h;exact⟨ds,e,k _ _ o,fun x hx=>k _ _ (q x hx)⟩
theorem TupsAt.mono (h:TupsAt ok H d rows) (k:Kp ok H ok' H'):TupsAt ok' H' d rows:=by
 obtain⟨ds,e,o,q⟩:=h;exact⟨ds,e,k _ _ o,fun x hx=>k _ _ (q x hx)⟩
theorem SwIn.mono (h:SwIn ok H d sw) (k:Kp ok H ok' H'):SwIn ok' H' d sw:=by
 obtain⟨ds,e,o,q⟩:=h;exact⟨ds,e,k _ _ o,fun x hx=>⟨k _ _ (q x hx).1,k _ _ (q x hx).2⟩⟩
theorem SetsAt.mono (h:SetsAt ok H d sw) (k:Kp ok H ok' H'):SetsAt ok' H' d sw:=by
 obtain⟨ds,e,o,q⟩:=h;exact⟨ds,e,k _ _ o,fun i x hx=>k _ _ (q i x hx)⟩
theorem RulesAt.mono (h:RulesAt ok H d rules) (k:Kp ok H ok' H'):RulesAt ok' H' d rules:=by
 obtain⟨ds,e,o,q⟩:=h;exact⟨ds,e,k _ _ o,fun x hx=>(q x hx).mono k⟩
theorem NumAt.mono (h:NumAt ok H d rows) (k:Kp ok H ok' H'):NumAt ok' H' d rows:=k _ _ h
end
noncomputable def bt7 (d l n s k b:Addr) (f:Int):List (Str×V):=[("settings", .ref d),("tuples", .ref l),("numbers", .ref n),("sets", .ref s),("kept_rules", .ref k),("bars", .ref b),("free", .int f)]
structure PanAt (C:Addr) (ok:Addr->Prop) (H:Hp) (p:Addr) (sw:Sw) (rules:List Sw) (dx d l n s k b:Addr):Prop where
 ins:Own ok H p (.ins C dx (bt7 d l n s k b (Gj sw rules)))
 sws:SwAt ok H d sw
 tps:TupsAt ok H l (Ah sw)
 nms:NumAt ok H n (Ah sw)
 sts:SetsAt ok H s sw
 rls:RulesAt ok H k rules
 brs:Own ok H b (.lst ((Iu sw rules).map V.int))
noncomputable def PanelAt (C:Addr) (ok:Addr->Prop) (H:Hp) (p:Addr) (sw:Sw) (rules:List Sw):Prop:=∃ dx d l n s k b,PanAt C ok H p sw rules dx d l n s k b
theorem PanelAt.mono {C p:Addr} {ok ok':Addr->Prop} {H H':Hp} {sw:Sw} {rules:List Sw} (h:PanelAt C ok H p sw rules) (k:Kp ok H ok' H'):PanelAt C ok' H' p sw rules:=by
 obtain⟨dx,d,l,n,s,kk,b,h⟩:=h
 exact⟨dx,d,l,n,s,kk,b,⟨k _ _ h.ins,h.sws.mono k,h.tps.mono k,h.nms.mono k,h.sts.mono k,h.rls.mono k,k _ _ h.brs⟩⟩
noncomputable def SelfAt (C:Addr) (ok:Addr->Prop) (H:Hp) (p l s:Addr):Prop:=∃ dx fs,Own ok H p (.ins C dx fs)/\fs.lookup ("tuples" : Str)=some (.ref l)/\fs.lookup ("sets" : Str)=some (.ref s) /\ ∀ m∈(["all_choices", "box", "many", "term", "read_rule", "read_rules"]:List Str),fs.lookup m=none
theorem SelfAt.mono {C p l s:Addr} {ok ok':Addr->Prop} {H H':Hp} (h:SelfAt C ok H p l s) (k:Kp ok H ok' H'):SelfAt C ok' H' p l s:=by
 obtain⟨dx,fs,o,q⟩:=h;exact⟨dx,fs,k _ _ o,q⟩
structure ba2 (K:ac) (C X:Addr):Prop where
 cl:Cls K C
 na:∀ f∈(["settings", "tuples", "numbers", "sets", "kept_rules", "bars", "free"]:List Str),NoAttr K C f
 en:ECls K X
 mn:hU K X (.ref X)=some true
theorem Qa {p:Addr} {o:Obj} (kvs:List (Key×V)):Em (Itd p o kvs) (kvs.map fun kv=>kV kv.1) (fun H=>H p=some (.frz o (.dK kvs))):=by
 refine⟨fun i H q h=>⟨q,by simpa using h⟩,fun H q=>⟨q,by simp⟩,fun i H x H' q hi h=>?_⟩
 obtain⟨h1,k,v,h2,h3⟩:=h
 refine⟨h1,?_⟩
 rw [ak,h2,h3]
 rfl
theorem ar6 {p:Addr} {o:Obj} (kvs:List (Key×V)):Jp (Zx p o kvs) (Eo 0 (kvs.map fun kv=>kV kv.1)) (fun H=>H p=some (.frz o (.dK kvs))):=by
 have e:(Eo 0 (kvs.map fun kv=>kV kv.1)).length=kvs.length:=by rw [B4];simp
 refine⟨fun i H q h=>⟨q,by omega⟩,fun H q=>⟨q,by omega⟩,fun i H x H' q hi h=>?_⟩
 obtain⟨T,k,v,hT,h1,h2,h3⟩:=h
 refine⟨T,.int i,kV k,hT,h1,?_,h3⟩
 have:=C7 (k:=0) (xs:=kvs.map fun kv=>kV kv.1) (i:=i) (x:=kV k) (by rw [ak,h2];rfl)
 rw [dg] at this
 exact this
theorem Same.thaw {H H':Hp} {p:Addr} {o:Obj} {kvs:List (Key×V)} (h:H p=some (.dK kvs)) (S:Same (upd H p (.frz o (.dK kvs))) H'):Same H (upd H' p (.dK kvs)):=by
 intro b u e
 by_cases hb:b=p
 ·subst hb;rw [Ad,<- h,e]
 ·rw [Ai hb];exact S _ _ (by rw [Ai hb];exact e)
theorem Gb {H:Hp} {d:Addr} {u:HO} (h:H d=some u):¬ Pn.fresh H d:=fun e=>by
 have e:H d=none:=e
 rw [h] at e
 cases e
theorem Gk {b:Bool} {A B:Prop} (e:b=false) (h:B):if b=true then A else B:=by subst e;exact Dj h
theorem a49 {b:Bool} {A B:Prop} (e:b=true) (h:A):if b=true then A else B:=by subst e;exact D0 h
theorem Ao {α β:Type} {l:List α} {f:α->β} {i:Nat} {x:β} (h:(l.map f)[i]? = some x):∃ m,l[i]? = some m/\x=f m:=by
 rw [ak] at h
 cases e:l[i]? with
 | none=>rw [e] at h;cases h
 | some m=>rw [e] at h;exact⟨m,rfl,by simpa using h.symm⟩
theorem An {α:Type} {l:List α} {i:Nat} {x:α} (h:l[i]? = some x):i<l.length:=(List.getElem?_eq_some_iff.mp h).1
theorem Dm {n i:Nat} {x:V} (h:(Sj 0 n)[i]? = some x):i<n/\x=.int (i:Int):=by
 have hi:=An h
 rw [A9] at hi
 rw [La hi] at h
 refine⟨hi,?_⟩
 have:V.int (0+(i:Int))=x:=by simpa using h
 rw [<- this,Int.zero_add]
theorem as8 (a b:Str):(a++b).length=a.length+b.length:=PySem.strLen_append a b
theorem ak3 (a c:Nat):decide ([c]<[a])=decide (c<a):=by
 rw [bQ,decide_eq_true_iff,decide_eq_true_iff,List.cons_lt_cons_iff]
 simp
theorem leL {s:Str} {a c:Nat} (h:s.cps.toList=[a]):(!decide ((⟨#[c]⟩:Str).cps.toList<s.cps.toList))=decide (a<=c):=by
 rw [h]
 show (!decide ([c]<[a]))=_
 rw [ak3,<- decide_not]
 exact decide_eq_decide.mpr Nat.not_lt
theorem leR {s:Str} {a c:Nat} (h:s.cps.toList=[a]):(!decide (s.cps.toList<(⟨#[c]⟩:Str).cps.toList))=decide (c<=a):=by
 rw [h]
 show (!decide ([a]<[c]))=_
 rw [ak3,<- decide_not]
 exact decide_eq_decide.mpr Nat.not_lt
theorem X3 {s1 s2:Str} {a b c:Nat} {Q:VK} {H:Hp} (h1:s1.cps.toList=[a]) (h2:s2.cps.toList=[b]) (k:Q (.bl (decide (a<=c)&&decide (c<=b))) H) :
  if (!decide ((⟨#[c]⟩:Str).cps.toList<s1.cps.toList))=true then Q (.bl (!decide (s2.cps.toList<(⟨#[c]⟩:Str).cps.toList))) H else Q (.bl false) H:=by
 rw [leL h1,leR h2]
 cases e:decide (a<=c) with
 | true=>rw [e,du] at k;exact D0 k
 | false=>rw [e,j5] at k;exact Dj k
theorem M5 {a b c:Int} {Q:VK} {H:Hp} (k:Q (.bl (decide (a<=c)&&decide (c<=b))) H):if decide (a<=c)=true then Q (.bl (decide (c<=b))) H else Q (.bl false) H:=by
 cases e:decide (a<=c) with
 | true=>rw [e,du] at k;exact D0 k
 | false=>rw [e,j5] at k;exact Dj k
theorem at9 {s1 s2:Str} {a b c i:Nat} {Q:VK} {E:EK} {H:Hp} {σ:St} (h1:s1.cps.toList=[a]) (h2:s2.cps.toList=[b]) (hv:σ[i]? = some (some (.str ⟨#[c]⟩))) (k:Q (.bl (decide (a<=c)&&decide (c<=b))) H) :
  Dx Gh Gh (dC (.str s1)) (Aa i) (dC (.str s2)) σ H Q E:=by
 unfold Dx dC Aa
 rw [hv]
 exact X3 h1 h2 k
theorem Xw {K:ac} {z:Str} {te:DE} {p:Nat->Bool} {H:Hp} {Q:VK} {E:EK} (hz:z.length<=1000) (he:∀ (c:Nat) (σ:St) (H1:Hp) (Q1:VK),σ.length=1->Q1 (.bl (p c)) H1->te (σ.set 0 (some (.str ⟨#[c]⟩))) H1 Q1 E) (k:∀ H',Same H H'->Q (.bl (z.cps.toList.all p)) H') :
  ∀ D,H D=none->Fg (Its z) (gdN 0) B5 te D (fun H'=>U7 K [.ref D] H' Q) (Tm [none] [some (.str z)]) (upd H D (.lst [])) E:=by
 intro D hD
 refine Oq (bs7 z) (fun σ=>σ.length=1) (fun _=>true) (fun v=>match v with | .str y=>.bl (p (y.cps.getD 0 0))|_=>.non) hD (fun _ _=>bC) ?_ rfl ?_ ?_
 ·unfold Fv
  rw [ae]
  exact aM (show z.cps.toList.length<=1000 from by have:z.cps.size<=1000:=hz;simpa using this) (by decide)
 ·intro x σ H1 hx hσ S Fin Skip hF hS
  obtain⟨c,hc,rfl⟩:=List.mem_map.mp hx
  refine he c σ H1 _ hσ ?_
  exact hF _ _ _ (by rw [ii];exact hσ) (Same.refl _) rfl rfl
 ·intro H' S hD'
  have e:((Fv z).filter fun _=>true).map (fun v=>match v with | .str y=>V.bl (p (y.cps.getD 0 0))|_=>.non)=(z.cps.toList.map p).map V.bl:=by
   unfold Fv
   rw [List.filter_eq_self.mpr (fun _ _=>rfl),bA,bA]
   rfl
  refine⟨z.cps.toList.map p,SqL.of (hD'.trans (by rw [e])),?_⟩
  have e2:(z.cps.toList.map p).all (fun b=>b)=z.cps.toList.all p:=by rw [fU];rfl
  rw [e2]
  exact k H' S
theorem Q4 {K:ac} {J:It} {its:List V} {ok:Hp->Prop} {te:DE} {σ:St} {H:Hp} {R:Hp->Addr->Prop} {E:EK} (Y:Em J its ok) (Sg:St->Prop) (hok:∀ H1,Same H H1->ok H1) (hn:its.length<sizeLine) (hσ:Sg σ) (hS:∀ σ x,Sg σ->Sg (σ.set 0 (some x)))
  (he:∀ x σ H1 Q1,x∈its->Sg σ->Same H H1->(∀ H2,Same H1 H2->Q1 (.bl true) H2)->te (σ.set 0 (some x)) H1 Q1 E) (k:∀ D H',Same H H'->SqL K H' D ((its.map fun _=>true).map V.bl)->R H' D) :
  ∀ D,H D=none->Fg J (gdN 0) B5 te D (fun H'=>R H' D) σ (upd H D (.lst [])) E:=fun D hD=>ad7 (K:=K) Y Sg hD hok hn hσ hS he (k D)
theorem Rp:∀ (xs acc:List Str),(acc++xs).Nodup->xs.foldl (fun σ k=>if σ.any (fun j=>decide (j=k)) then σ else σ++[k]) acc=acc++xs
 | [],acc,_=>by rw [List.foldl_nil,cv]
 | x::xs,acc,h=>by
  have hx:(acc.any fun j=>decide (j=x))=false:=by
   rw [cR]
   intro j hj e
   have e:j=x:=by simpa using e
   subst e
   exact (List.nodup_append.mp h).2.2 j hj j aZ rfl
  rw [bG,hx]
  have h2:(acc++[x]++xs).Nodup:=by simpa using h
  show List.foldl _ (acc++[x]) xs=_
  rw [Rp xs (acc++[x]) h2]
  simp
theorem aw4 {xs:List Str} (h:xs.Nodup):Eu xs=xs:=Rp xs [] (by simpa using h)
theorem Cy {κ:Type} [DecidableEq κ]:∀ {kvs:List (κ×V)} {i:Nat} {k:κ} {v:V},(kvs.map (·.1)).Nodup->kvs[i]? = some (k,v)->Bn kvs k=some v
 | [],_,_,_,_,e=>by simp at e
 | p::r,0,k,v,_,e=>by
  rw [dN] at e
  cases e
  exact B3 rfl
 | p::r,i+1,k,v,h,e=>by
  rw [bN] at e
  rw [be,e_] at h
  have ne:¬ p.1=k:=fun z=>h.1 (List.mem_map.mpr ⟨(k,v),ai e,z.symm⟩)
  rw [Bt ne]
  exact Cy h.2 e
theorem E1 {κ:Type} [DecidableEq κ]:∀ {kvs:List (κ×V)} {k:κ},¬ k∈kvs.map (·.1)->Bn kvs k=none
 | [],_,_=>rfl
 | p::r,k,h=>by
  rw [be,aE,not_or] at h
  rw [Bt (fun e=>h.1 e.symm)]
  exact E1 h.2
theorem Ny {l:List Str} (h:l.Nodup):(l.map (gB:Str->Key)).Nodup:=List.Pairwise.map _ (fun a b ne e=>ne (by injection e)) h
theorem Pa (ds:List ((Str×List Str)×Addr)):(ds.map kR).map (·.1)=((ds.map (·.1)).map (·.1)).map (gB:Str->Key):=by simp [bA]
theorem E5 {ds:List ((Str×List Str)×Addr)} {sw:Sw} (e:ds.map (·.1)=sw) (h:(sw.map (·.1)).Nodup):((ds.map kR).map (·.1)).Nodup:=by
 rw [Pa,e]
 exact Ny h
theorem Fy (x y:Nat):cV (x:Int) (y:Int)=((x ||| y:Nat):Int):=by
 unfold cV
 have hx:¬ (0:Int)<=bv (x:Int):=by unfold bv;omega
 have hy:¬ (0:Int)<=bv (y:Int):=by unfold bv;omega
 rw [PyProof.Rows.bitAnd_nn hx hy]
 have e:∀ z:Nat,(bv (bv (z:Int)))=(z:Int):=fun z=>by unfold bv;omega
 rw [e,e,e,aK,aK]
theorem Bx (x y:Nat):bj (x:Int) (y:Int)=((x &&& y:Nat):Int):=by
 rw [PyProof.Rows.bitAnd_pp (by omega) (by omega),aK,aK]
theorem Cw (n:Nat):(2:Int) ^ n=((2 ^ n:Nat):Int):=by simp
noncomputable def a09 (ns:List Nat):Nat:=ns.foldl (fun c n=>c ||| 2 ^ n) 0
theorem Sk:∀ (ns:List Nat) (c:Nat),ns.foldl (fun (c:Int) n=>cV c (2 ^ n)) (c:Int)=((ns.foldl (fun c n=>c ||| 2 ^ n) c:Nat):Int)
 | [],c=>rfl
 | n::ns,c=>by rw [bG,bG,Cw,Fy,Sk ns]
theorem an9 (ns:List Nat):Zg ns=(a09 ns:Nat):=Sk ns 0
theorem Sm:∀ (ns:List Nat) (c k:Nat),(ns.foldl (fun c n=>c ||| 2 ^ n) c).testBit k=(c.testBit k||decide (k∈ns))
 | [],c,k=>by simp
 | n::ns,c,k=>by
  rw [bG,Sm ns,j8,Nat.testBit_two_pow,Bool.or_assoc]
  congr 1
  rw [bQ,eW,decide_eq_true_iff,decide_eq_true_iff,decide_eq_true_iff,aE]
  exact or_congr ⟨Eq.symm,Eq.symm⟩ Iff.rfl
theorem ao0 (ns:List Nat) (k:Nat):(a09 ns).testBit k=decide (k∈ns):=by
 unfold a09
 rw [Sm,d3,i3]
noncomputable def Fw (ms:List Nat):Nat:=ms.foldl (fun c m=>c ||| m) 0
theorem Mb:∀ (ms:List Nat) (c:Nat),(ms.map fun m:Nat=>(m:Int)).foldl (fun c m=>cV c m) (c:Int)=((ms.foldl (fun c m=>c ||| m) c:Nat):Int)
 | [],c=>rfl
 | n::ns,c=>by rw [be,bG,bG,Fy,Mb ns]
theorem Mc (ms:List Nat):Gz (ms.map fun m:Nat=>(m:Int))=(Fw ms:Nat):=Mb ms 0
theorem Md:∀ (ms:List Nat) (c k:Nat),(ms.foldl (fun c m=>c ||| m) c).testBit k=(c.testBit k||ms.any fun m=>m.testBit k)
 | [],c,k=>by simp
 | n::ns,c,k=>by rw [bG,Md ns,j8,dM,Bool.or_assoc]
theorem Me (ms:List Nat) (k:Nat):(Fw ms).testBit k=ms.any fun m=>m.testBit k:=by
 unfold Fw
 rw [Md,d3,i3]
noncomputable def Jl (rows:List (List Str)) (p:Nat) (z:Str) (k:Nat):Bool:=decide ((rows[k]?.bind fun r=>r[p]?)=some z)
theorem Ww (p:Nat) (z:Str):∀ (rows:List (List Str)) (j n:Nat),n∈Dz p z j rows ↔ j<=n/\(rows[n - j]?.bind fun r=>r[p]?)=some z
 | [],j,n=>by simp [Dz]
 | r::rows,j,n=>by
  have ih:=Ww p z rows (j+1) n
  have e:∀ b,(n=j/\b)\/(j+1<=n/\(rows[n - (j+1)]?.bind fun r=>r[p]?)=some z) ↔ j<=n/\((n=j/\b)\/(n≠j/\(rows[n - (j+1)]?.bind fun r=>r[p]?)=some z)):=fun b=>by
   constructor
   ·rintro (⟨h1,h2⟩|⟨h1,h2⟩)
    ·exact⟨by omega,.inl ⟨h1,h2⟩⟩
    ·exact⟨by omega,.inr ⟨by omega,h2⟩⟩
   ·rintro⟨h0,⟨h1,h2⟩|⟨h1,h2⟩⟩
    ·exact .inl ⟨h1,h2⟩
    ·exact .inr ⟨by omega,h2⟩
  have g:j<=n->(((r::rows)[n - j]?.bind fun r=>r[p]?)=some z ↔ ((n=j/\r[p]? = some z)\/(n≠j/\(rows[n - (j+1)]?.bind fun r=>r[p]?)=some z))):=fun h=>by
   by_cases hn:n=j
   ·subst hn
    simp
   ·have e2:n - j=(n - (j+1))+1:=by omega
    rw [e2,bN]
    simp [hn]
  rw [Dz]
  by_cases hr:r[p]? = some z
  ·rw [if_pos hr,aE,ih]
   have:=e (r[p]? = some z)
   constructor
   ·intro h
    have h2:=this.mp (h.imp (fun x=>⟨x,hr⟩) id)
    exact⟨h2.1,(g h2.1).mpr h2.2⟩
   ·rintro⟨h1,h2⟩
    exact (this.mpr ⟨h1,(g h1).mp h2⟩).imp (fun x=>x.1) id
  ·rw [if_neg hr,ih]
   have:=e (r[p]? = some z)
   constructor
   ·intro h
    have h2:=this.mp (.inr h)
    exact⟨h2.1,(g h2.1).mpr h2.2⟩
   ·rintro⟨h1,h2⟩
    rcases this.mpr ⟨h1,(g h1).mp h2⟩ with h|h
    ·exact absurd h.2 hr
    ·exact h
noncomputable def Ej (rows:List (List Str)) (p:Nat) (z:Str):Nat:=a09 (Dz p z 0 rows)
theorem Nv (rows:List (List Str)) (p:Nat) (z:Str):C4 rows p z=(Ej rows p z:Nat):=an9 _
theorem Et (rows:List (List Str)) (p:Nat) (z:Str) (k:Nat):(Ej rows p z).testBit k=Jl rows p z k:=by
 unfold Ej Jl
 rw [ao0]
 refine decide_eq_decide.mpr ?_
 rw [Ww]
 simp
noncomputable def L9 (sw:Sw) (e:Str×List Str):Nat:=Fw (e.2.map (Ej (Ah sw) (C9 sw e.1)))
theorem Zl (sw:Sw) (e:Str×List Str):Jj sw e=(L9 sw e:Nat):=by
 unfold Jj L9
 rw [<- Mc,bA]
 congr 1
 exact cN fun z _=>Nv _ _ _
theorem Zm (sw:Sw) (e:Str×List Str) (k:Nat):(L9 sw e).testBit k=e.2.any fun z=>Jl (Ah sw) (C9 sw e.1) z k:=by
 unfold L9
 rw [Me,lq]
 congr 1
 funext z
 exact Et _ _ _ _
noncomputable def Q0 (sw:Sw):Nat:=2 ^ (Ah sw).length - 1
theorem Qz (sw:Sw):Of sw=(Q0 sw:Nat):=by
 unfold Of Q0
 rw [Cw]
 have:0<2 ^ (Ah sw).length:=gd _
 omega
theorem Q3 (sw:Sw) (k:Nat):(Q0 sw).testBit k=decide (k<(Ah sw).length):=by
 unfold Q0
 rw [Nat.testBit_two_pow_sub_one]
noncomputable def Hr (sw:Sw) (rule:Sw):Nat:=rule.foldl (fun c e=>c &&& L9 sw e) (Q0 sw)
theorem Q7 (sw:Sw):∀ (rule:Sw) (c:Nat),rule.foldl (fun c e=>bj c (Jj sw e)) (c:Int)=((rule.foldl (fun c e=>c &&& L9 sw e) c:Nat):Int)
 | [],c=>rfl
 | e::rule,c=>by rw [bG,bG,Zl,Bx,Q7 sw rule]
theorem Q8 (sw rule:Sw):ae0 sw rule=(Hr sw rule:Nat):=by
 unfold ae0 Hr
 rw [Qz,Q7]
theorem Q9 (sw:Sw):∀ (rule:Sw) (c k:Nat),(rule.foldl (fun c e=>c &&& L9 sw e) c).testBit k=(c.testBit k&&rule.all fun e=>e.2.any fun z=>Jl (Ah sw) (C9 sw e.1) z k)
 | [],c,k=>by simp
 | e::rule,c,k=>by rw [bG,Q9 sw rule,cg,Zm,bw,Bool.and_assoc]
theorem Ra (sw rule:Sw) (k:Nat):(Hr sw rule).testBit k=(decide (k<(Ah sw).length)&&rule.all fun e=>e.2.any fun z=>Jl (Ah sw) (C9 sw e.1) z k):=by
 unfold Hr
 rw [Q9,Q3]
noncomputable def Jc (sw:Sw) (rules:List Sw):Nat:=Q0 sw - (Q0 sw &&& Fw (rules.map (Hr sw)))
theorem Ng (sw:Sw) (rules:List Sw):Gj sw rules=(Jc sw rules:Nat):=by
 unfold Gj Jc Iu
 have e:rules.map (ae0 sw)=(rules.map (Hr sw)).map fun m:Nat=>(m:Int):=by
  rw [bA]
  exact cN fun r _=>Q8 sw r
 rw [e,Mc,Qz,js (by omega) (by unfold bv;omega),show bv (bv ((Fw (rules.map (Hr sw)):Nat):Int))=((Fw (rules.map (Hr sw)):Nat):Int) by unfold bv;omega,aK,aK]
 have:=jI (n:=Q0 sw) (m:=Fw (rules.map (Hr sw)))
 omega
theorem Xl (a b:Nat):a - (a &&& b)=a ^^^ (a &&& b):=by
 have h:(a ^^^ (a &&& b)) &&& (a &&& b)=0:=by
  refine jX fun k=>?_
  rw [cg,ij,cg,d3]
  cases a.testBit k <;> cases b.testBit k <;> rfl
 have h2:(a ^^^ (a &&& b)) ||| (a &&& b)=a:=by
  refine jX fun k=>?_
  rw [j8,ij,cg]
  cases a.testBit k <;> cases b.testBit k <;> rfl
 have h3:(a ^^^ (a &&& b))+(a &&& b)=(a ^^^ (a &&& b)) ||| (a &&& b):=by
  have e:=PyProof.Rows.bitOr_and ((a ^^^ (a &&& b):Nat):Int) ((a &&& b:Nat):Int)
  rw [Fy,Bx,h] at e
  omega
 omega
theorem Nh (sw:Sw) (rules:List Sw) (k:Nat):(Jc sw rules).testBit k=(decide (k<(Ah sw).length) && !rules.any fun r=>(Hr sw r).testBit k):=by
 unfold Jc
 rw [Xl,ij,cg,Q3,Me,lq]
 show (_ ^^ (_&&rules.any fun r=>(Hr sw r).testBit k))=_
 cases decide (k<(Ah sw).length) <;> cases rules.any (fun r=>(Hr sw r).testBit k) <;> rfl
theorem a15 {a b:Str} (h:a.cps.toList=b.cps.toList):a=b:=by
 cases a;cases b
 congr 1
 exact Array.toList_inj.mp h
end Pn
namespace L2
open PySem PySem.Spec PyProof.Rows
section
variable {P:aV} {w:bM} {K:ac} {mg:Str->Option Value} {base:Heap} {x q:Str} {st:Stmt} {f:Addr} {d:aA} {ps:List Str}
noncomputable def bs9 (K:ac) (x q:Str) (st:Stmt) (f:Addr):Prop:=∃ d,Fun K x q st f d
structure TopD (K:ac) (q:Str) (st:Stmt) (f:Addr):Prop where
 at_:bq K a_ q=some (some (.ref f))
 d:bs9 K q q st f
structure MetD (K:ac) (x q:Str) (st:Stmt) (f:Addr):Prop where
 fn:dE K (.ref f)=true
 d:bs9 K x q st f
theorem top_mk {oc:Value} {od an:Option Addr} {osl:Array (Option Value)} {kV doc pm cdv ct:Value} (a:bq K a_ q=some (some (.ref f))) (l:K.lookup f=some ⟨oc,od,.func (cn q q (By st) (Al st) (Ab st) .none kV doc pm an cdv ct),osl⟩)
  (c:dP K cdv q=true) (k:aR K (.ref f)=true):TopD K q st f:=⟨a,_,Ua l c k⟩
theorem met_mk {oc:Value} {od an:Option Addr} {osl:Array (Option Value)} {kV doc pm cdv ct:Value} (l:K.lookup f=some ⟨oc,od,.func (cn x q (By st) (Al st) (Ab st) .none kV doc pm an cdv ct),osl⟩)
  (c:dP K cdv q=true) (k:aR K (.ref f)=true) (i:dE K (.ref f)=true):MetD K x q st f:=⟨i,_,Ua l c k⟩
structure DOk (K:ac) (mg:Str->Option Value) (q:Str) (st:Stmt) (f:Addr) (d:aA) (ps:List Str):Prop where
 F:FunD K q q st f d .none
 b:Binds K d ps []
 m:mg q=some (.ref f)
structure MOk (K:ac) (x q:Str) (st:Stmt) (f:Addr) (d:aA) (ps:List Str):Prop where
 F:FunD K x q st f d .none
 b:Binds K d ps []
 i:dE K (.ref f)=true
theorem TopD.ok {h:Heap} (D:TopD K q st f) (X:K.In h) (G:h.Ns a_ mg) (hb:∀ (kV doc pm:Value) (an:Option Addr) (cdv ct:Value) (us:List Value),us.length=ps.length->kM (cn q q (By st) (Al st) (Ab st) .none kV doc pm an cdv ct) ⟨us,[]⟩=pure (ps.zip us)):∃ d,DOk K mg q st f d ps:=by
 obtain⟨a,d,F⟩:=D
 exact⟨d,F.toD,F.binds hb,cL X G a⟩
theorem MetD.ok (D:MetD K x q st f) (hb:∀ (kV doc pm:Value) (an:Option Addr) (cdv ct:Value) (us:List Value),us.length=ps.length->kM (cn x q (By st) (Al st) (Ab st) .none kV doc pm an cdv ct) ⟨us,[]⟩=pure (ps.zip us)):∃ d,MOk K x q st f d ps:=by
 obtain⟨a,d,F⟩:=D
 exact⟨d,F.toD,F.binds hb,a⟩
theorem bw1 {i:FI} (h2:i.ds=[]) (b:Binds K i.fd i.ps []):∀ j,j<=i.dfs.length->Binds K i.fd i.ps (i.ds.drop j):=fun j _=>by
 rw [h2,List.drop_nil];exact b
theorem Tab.con {k:Nat} {gb:List (Str×GB)} {bl:List Str} (T:Tab P w K mg base k gb bl) (i:FI) (g:DOk K mg q st i.f i.fd i.ps) (ok:FnOk P w K mg base CX0 i.k i.f i.fd i.ps i.sp) (hk:i.k<=k:=by exact ay _) (h1:i.dfs=[]:=by rfl) (h2:i.ds=[]:=by rfl):Tab P w K mg base k ((q,.fn i)::gb) bl:=
 T.cons ⟨g.m,g.F.kp,⟨CX0,fun X' _ _=>K5 X',ok⟩,hk,bw1 h2 g.b,by rw [h1,h2];exact .nil⟩
theorem MOk.fi {k:Nat} (i:FI) (g:MOk K x q st i.f i.fd i.ps) (ok:FnOk P w K mg base CX0 i.k i.f i.fd i.ps i.sp) (hk:i.k<=k:=by exact au rfl) (h1:i.dfs=[]:=by rfl) (h2:i.ds=[]:=by rfl):FiIn P w K mg base k i:=
 ⟨g.F.kp,⟨CX0,fun X' _ _=>K5 X',ok⟩,hk,bw1 h2 g.b,by rw [h1,h2];exact .nil⟩
theorem an6 {kb:Nat} {N:List Str} {gb:List (Str×GB)} {bl:List Str} (spR:Nat->Sp) (tR:Nat->DS) (g:DOk K mg q st f d ps) (S:Am N ps (Ab st)) (hv:Ar N (Ab st)=true) (T:Tab P w K mg base kb gb bl) (m:Nat)
  (rd:∀ n,wSs m (Bd K N (Ab st) ((q,.fn ⟨f,d,ps,kb+n+1,spR n,[],[]⟩)::gb) bl) (Al st)=tR n) (len:∀ n vs H Q E,spR n vs H Q E->vs.length=ps.length) (h0:∀ vs H Q E,¬ spR 0 vs H Q E)
  (hbody:∀ (n:Nat) (vs:List V) (H:Hp) (Q:VK) (E:XK),spR (n+1) vs H Q E->tR n (af2 Q fun _ _=>False) (Gn N vs) H):∀ n,FnOk P w K mg base CX0 (kb+n+1) f d ps (spR n)
 | 0=>g.F.okW0 (n:=m) S hv T rfl (len 0) fun vs H Q E h=>(h0 vs H Q E h).elim
 | n+1=>g.F.okW0 S hv ((T.mono (show kb<=kb+n+1 by omega)).con ⟨f,d,ps,kb+n+1,spR n,[],[]⟩ g (an6 spR tR g S hv T m rd len h0 hbody n)) (rd n) (len (n+1)) (hbody n)
theorem one {C:Addr} {i:FI} {m:Str} {k:Nat} (h:MetIn P w K mg base k m ⟨C,i⟩):∀ mi∈[(⟨C,i⟩:MI)],MetIn P w K mg base k m mi:=fun mi hm=>by
 rw [bP] at hm
 exact hm▸h
end
end L2
section
open PySem PySem.W PyProof.Rows
set_option maxHeartbeats 0
noncomputable def PySem.W.Fast.tw10737416574517955386:Unit:=()
noncomputable def PySem.W.Fast.tw10983730463713670298:Unit:=()
noncomputable def PySem.W.Fast.tw11833358090183863413:Unit:=()
noncomputable def PySem.W.Fast.tw12433480286757745628:Unit:=()
noncomputable def PySem.W.Fast.tw13457999662621939560:Unit:=()
noncomputable def PySem.W.Fast.tw13702642942224406034:Unit:=()
noncomputable def PySem.W.Fast.tw1527215201999892153:Unit:=()
noncomputable def PySem.W.Fast.tw15623493671483976578:Unit:=()
noncomputable def PySem.W.Fast.tw16072067970772197153:Unit:=()
noncomputable def PySem.W.Fast.tw16161320826539985828:Unit:=()
noncomputable def PySem.W.Fast.tw16271524651026532541:Unit:=()
noncomputable def PySem.W.Fast.tw16960125816292664879:Unit:=()
noncomputable def PySem.W.Fast.tw2945443412071402668:Unit:=()
noncomputable def PySem.W.Fast.tw3127983998750462493:Unit:=()
noncomputable def PySem.W.Fast.tw3272414802241315153:Unit:=()
noncomputable def PySem.W.Fast.tw3366392499931745576:Unit:=()
noncomputable def PySem.W.Fast.tw430472189420024185:Unit:=()
noncomputable def PySem.W.Fast.tw508620151187133670:Unit:=()
noncomputable def PySem.W.Fast.tw5389259556051467099:Unit:=()
noncomputable def PySem.W.Fast.tw7082837128932876099:Unit:=()
noncomputable def PySem.W.Fast.tw8323523229513041547:Unit:=()
noncomputable def PySem.W.Fast.tw8450941692930913159:Unit:=()
noncomputable def PySem.W.Fast.tw9749053052773573789:Unit:=()
open_top head_k13 for PySem.Challenge.rw_manyleaf_k13_switches_that_decide
end
namespace K13
open PySem L2
set_option genInjectivity false in
set_option genSizeOfSpec false in
structure Adr where
 f_zar:Addr
 d_zar:aA
 f_zv:Addr
 d_zv:aA
 f_zp:Addr
 d_zp:aA
 f_zj:Addr
 d_zj:aA
 f_zai:Addr
 d_zai:aA
 f_zs:Addr
 d_zs:aA
 f_zd:Addr
 d_zd:aA
 f_zu:Addr
 d_zu:aA
 f_zi:Addr
 d_zi:aA
 f_zc:Addr
 d_zc:aA
 f_zam:Addr
 d_zam:aA
 f_zw:Addr
 d_zw:aA
 f_zab:Addr
 d_zab:aA
 f_zao:Addr
 d_zao:aA
 f_zf:Addr
 d_zf:aA
 f_zt:Addr
 d_zt:aA
 f_zaa:Addr
 d_zaa:aA
 f_zm:Addr
 d_zm:aA
 f_zag:Addr
 d_zag:aA
 f_zat:Addr
 d_zat:aA
 f_zl:Addr
 d_zl:aA
 f_zan:Addr
 d_zan:aA
 f_zah:Addr
 d_zah:aA
 f_zaj:Addr
 d_zaj:aA
 f_zy:Addr
 d_zy:aA
 f_zal:Addr
 d_zal:aA
 f_zo:Addr
 d_zo:aA
 f_zx:Addr
 d_zx:aA
 f_zq:Addr
 d_zq:aA
 f_zh:Addr
 d_zh:aA
 f_ze:Addr
 d_ze:aA
 f_zac:Addr
 d_zac:aA
 f_zk:Addr
 d_zk:aA
 f_zb:Addr
 d_zb:aA
 f_za:Addr
 d_za:aA
 f_zas:Addr
 d_zas:aA
 f_zg:Addr
 d_zg:aA
 f_zr:Addr
 d_zr:aA
 f_zaf:Addr
 d_zaf:aA
 f_zap:Addr
 d_zap:aA
 f_zaq:Addr
 d_zaq:aA
 f_zz:Addr
 d_zz:aA
 f_zak:Addr
 d_zak:aA
 f_zae:Addr
 d_zae:aA
 f_zn:Addr
 d_zn:aA
 f_zad:Addr
 d_zad:aA
 f_zau:Addr
 d_zau:aA
 dv_zr:Value
 du_zr:List Value
 c_zba:Addr
 c_zbb:Addr
 c_zbc:Addr
 c_zbd:Addr
 c_zbe:Addr
 u_zax:Value
 u_zav:Value
 u_zaw:Value
 u_zay:Value
 u_zaz:Value
end K13
namespace K13
open PySem L2 Pn
structure Au (K:ac) (t:Adr):Prop where
 pf:ba2 K t.c_zbe t.c_zbc
noncomputable def Ay (ns:List Int) (k:Nat):Int:=ns.getD k ((k+3) * 7919)
noncomputable def Xm (c:Int) (j:Nat):Nat:=97+((c / 26+7 * (1+(j:Int)) * (1+(j:Int))) % 26).toNat
noncomputable def Bq (c:Int) (k:Nat):Str:=
 if c % 4=3 then ⟨([97+((c / 4+(k:Int) / 8) % 26).toNat]++((aq 7).map (Xm c)).take (k % 8)).toArray⟩
 else
  let base:=([97+(c / 256 % 26).toNat]++(aq 7).map (Xm c)).take (1+c / 4 % 8).toNat
  let at_:=(c / 32 % (1+c / 4 % 8)).toNat
  ⟨(base.take at_++[97+((c / 6656+(k:Int)) % 26).toNat]++base.drop (at_+1)).toArray⟩
noncomputable def Fe (acc:List (List Nat)) (n:Nat):List (List Nat):=acc.flatMap fun a=>(aq n).map fun j=>a++[j]
noncomputable def B6 (sw:Sw):List (List Nat):=(sw.map (·.2.length)).foldl Fe [[]]
noncomputable def DigAt (H:Hp) (r:Addr) (rows:List (List Nat)):Prop:=∃ ds:List (List Nat×Addr),ds.map (·.1)=rows/\H r=some (.lst (ds.map fun x=>.ref x.2)) /\ ∀ x∈ds,H x.2=some (.lst (x.1.map fun n:Nat=>V.int (n:Int)))
noncomputable def bs6:V->Bool
 | .int _=>true
 | _=>false
noncomputable def okB (sw rule:Sw):Prop:=(rule.map (·.1)).Nodup /\ ∀ e∈rule,Uw sw e
noncomputable def Bl (sw:Sw) (i p:Nat):Option Str:=(Ah sw)[i]?.bind fun r=>r[p]?
noncomputable def Dd (sw:Sw) (i p:Nat):Nat:=((B6 sw)[i]?.bind fun d=>d[p]?).getD 0
noncomputable def nmS (sw:Sw) (k:Nat):Str:=(sw.map (·.1)).getD k gm
noncomputable def Dp (sw:Sw) (ws:List Str) (i j:Nat):Bool:=ws.all fun x=>decide (Bl sw i (C9 sw x)=Bl sw j (C9 sw x))
noncomputable def Hd (sw:Sw) (ws:List Str) (i j:Nat):Bool:=(aq sw.length).all fun p=>!decide (nmS sw p∈ws)||decide (Bl sw i p=Bl sw j p)
noncomputable def B1 (sw:Sw) (ps:List Nat) (i j:Nat):Bool:=decide (ps.map (Dd sw i)=ps.map (Dd sw j))
noncomputable def Gu (n c:Nat):Option Nat:=(aq n).find? fun j=>c.testBit j
noncomputable def Ch (n c w:Nat) (like:Nat->Nat->Bool):Option (Nat×Nat):=
 (aq n).findSome? fun i=>if (c.testBit i&&w.testBit i)=true then ((aq n).find? fun j=>w.testBit j && !c.testBit j&&like i j).map fun j=>(i,j) else none
noncomputable def Ev:Option (Nat×Nat)->Dt
 | none=>.at_ .non
 | some (i,j)=>.tup [.at_ (.int (i:Int)),.at_ (.int (j:Int))]
noncomputable def Ea (n a b:Nat) (like:Nat->Nat->Bool):Bool:=(aq n).any fun i=>a.testBit i&&(aq n).any fun j=>b.testBit j&&like i j
noncomputable def Ba {α:Type}:Nat->List α->List (List α)
 | 0,_=>[[]]
 | k+1,l=>(aq l.length).flatMap fun i=>(l[i]?).elim [] fun x=>(Ba k (l.drop (i+1))).map (x :: ·)
noncomputable def Cj {α:Type} (l:List α):List (List α):=(aq l.length).flatMap fun k=>Ba k l
noncomputable def Ij (a b:Nat):Nat:=a - (a &&& b)
noncomputable def Mo (sw:Sw) (c w:Nat):List Str:=((Cj (sw.map (·.1))).find? fun ws=>!Ea (Ah sw).length (c &&& w) (Ij w c) (Dp sw ws)).getD (sw.map (·.1))
noncomputable def Dk (n:Nat):List (List Nat):=Cj (aq n)++[aq n]
noncomputable def X7 (sw:Sw) (c w:Nat):List Nat:=((Dk sw.length).find? fun ps=>(Ch (Ah sw).length c w (B1 sw ps)).isNone).getD []
noncomputable abbrev nO (l:List Nat):HO:=.lst (l.map fun n:Nat=>V.int (n:Int))
noncomputable def ad5 (H:Hp) (l:Addr) (ps:List (V×V)):Prop:=∃ Ts:List Addr,H l=some (.lst (Ts.map V.ref))/\Ts.length=ps.length /\ ∀ (j:Nat) x y T,ps[j]? = some (x,y)->Ts[j]? = some T->H T=some (.tup [x,y])
section
noncomputable def V9 (K:ac) (t:Adr):Sp:=fun vs H Q _=>∃ (a:Addr) (ns:List Nat),vs=[.ref a]/\SqL K H a (ns.map fun n:Nat=>V.int (n:Int))/\(∀ n∈ns,n<=1000)/\Q (.int (Zg ns)) H
noncomputable def Pz (K:ac) (t:Adr):Sp:=fun vs H Q _=>∃ (a:Addr) (ms:List Int),vs=[.ref a]/\SqL K H a (ms.map V.int)/\Q (.int (Gz ms)) H
noncomputable def ap8 (K:ac) (t:Adr):Sp:=fun vs H Q _=>∃ (z:Str) (lo hi:Int),vs=[.str z,.int lo,.int hi]/\z.length<=1000/\Q (.bl (decide (lo<=(z.length:Int))&&decide ((z.length:Int)<=hi))) H
noncomputable def V5 (K:ac) (t:Adr):Sp:=fun vs H Q _=>∃ c,vs=[.str ⟨#[c]⟩]/\Q (.bl (Br c)) H
noncomputable def P0 (K:ac) (t:Adr):Sp:=fun vs H Q _=>∃ z,vs=[.str z]/\okW z /\ ∀ H',Same H H'->Q (.bl true) H'
noncomputable def Xi (K:ac) (t:Adr):Sp:=fun vs H Q _=>∃ (a:Addr) (l:List Str),vs=[.ref a]/\SqL K H a (l.map V.str)/\okL l /\ ∀ H',Same H H'->Q (.bl true) H'
noncomputable def V6 (K:ac) (t:Adr):Sp:=fun vs H Q _=>∃ (a b:Addr) (w:Str) (l:List Str),vs=[.ref a]/\H a=some (.tup [.str w,.ref b])/\H b=some (A8 l)/\okW w/\Hi l /\ ∀ H',Same H H'->Q (.bl true) H'
noncomputable def ap0 (K:ac) (t:Adr):Sp:=fun vs H Q _=>∃ (a:Addr) (sw:Sw),vs=[.ref a]/\SwIn any H a sw/\okSw sw /\ ∀ H' d,Same H H'->SwAt (fresh H) H' d sw->Q (.ref d) H'
noncomputable def ao7 (K:ac) (t:Adr):Sp:=fun vs H Q _=>∃ (d:Addr) (sw:Sw),vs=[.ref d]/\SwAt any H d sw/\okSw sw /\ ∀ H' l,Same H H'->TupsAt (fresh H) H' l (Ah sw)->Q (.ref l) H'
noncomputable def ao3 (K:ac) (t:Adr):Sp:=fun vs H Q _=>∃ (l:Addr) (rows:List (List Str)),vs=[.ref l]/\TupsAt any H l rows/\rows.Nodup/\rows.length<=256 /\ ∀ H' n,Same H H'->NumAt (fresh H) H' n rows->Q (.ref n) H'
noncomputable def ao8 (K:ac) (t:Adr):Sp:=fun vs H Q _=>∃ (d l:Addr) (sw:Sw),vs=[.ref d,.ref l]/\SwAt any H d sw/\TupsAt any H l (Ah sw)/\okSw sw /\ ∀ H' s,Same H H'->SetsAt (fresh H) H' s sw->Q (.ref s) H'
noncomputable def ap5 (K:ac) (t:Adr):Sp:=fun vs H Q _=>∃ (r:Addr) (rule:Sw),vs=[.ref r]/\RuleAt any H r rule/\(rule.map (·.1)).Nodup/\rule.length<=100 /\ ∀ H' c,Same H H'->RuleAt (fresh H) H' c rule->Q (.ref c) H'
noncomputable def a65 (K:ac) (t:Adr):Sp:=fun vs H Q _=>∃ (p l s:Addr) (sw:Sw),vs=[.ref p]/\SelfAt t.c_zbe any H p l s/\TupsAt any H l (Ah sw)/\Q (.int (Ah sw).length) H
noncomputable def a59 (K:ac) (t:Adr):Sp:=fun vs H Q _=>∃ (p l s:Addr) (sw:Sw),vs=[.ref p]/\SelfAt t.c_zbe any H p l s/\TupsAt any H l (Ah sw)/\(Ah sw).length<=256/\Q (.int (Of sw)) H
noncomputable def a66 (K:ac) (t:Adr):Sp:=fun vs H Q _=>∃ (p a l s:Addr) (w:Str) (ss:List Str) (sw:Sw),vs=[.ref p,.str w,.ref a]/\SelfAt t.c_zbe any H p l s/\SetsAt any H s sw/\okSw sw/\H a=some (A8 ss)/\Uw sw (w,ss) /\ ∀ H',Same H H'->Q (.int (Jj sw (w,ss))) H'
noncomputable def a62 (K:ac) (t:Adr):Sp:=fun vs H Q _=>∃ (p r l s:Addr) (sw rule:Sw),vs=[.ref p,.ref r]/\SelfAt t.c_zbe (· ≠ r) H p l s/\TupsAt (· ≠ r) H l (Ah sw)/\SetsAt (· ≠ r) H s sw/\okSw sw/\RuleAt any H r rule/\Gw sw rule /\ ∀ H' c,Same H H'->RuleAt (fresh H) H' c rule->Q (.ref c) H'
noncomputable def Ed (ok:Addr->Prop) (H:Hp) (v:V) (rules:List Sw):Prop:=(v=.non/\rules=[]) \/ ∃ k,v=.ref k/\RulesAt ok H k rules
noncomputable def a61 (K:ac) (t:Adr):Sp:=fun vs H Q _=>∃ (p l s:Addr) (ok:Addr->Prop) (v:V) (sw:Sw) (rules:List Sw),vs=[.ref p,v]/\SelfAt t.c_zbe ok H p l s/\TupsAt ok H l (Ah sw)/\SetsAt ok H s sw/\okSw sw /\
 Ed (fun a=>¬ ok a) H v rules/\(∀ r∈rules,Gw sw r)/\rules.length<=8 /\ ∀ H' k,Same H H'->RulesAt (fresh H) H' k rules->Q (.ref k) H'
noncomputable def ap6 (K:ac) (t:Adr):Sp:=fun vs H Q _=>∃ (p a dx:Addr) (v:V) (sw:Sw) (rules:List Sw),vs=[.ref p,.ref a,v]/\H p=some (.ins t.c_zbe dx [])/\SwIn (· ≠ p) H a sw/\okSw sw/\Ed (· ≠ p) H v rules/\(∀ r∈rules,Gw sw r)/\rules.length<=8/\Gj sw rules≠0 /\
 ∀ H',(∀ b o,b≠p->H b=some o->H' b=some o)->PanelAt t.c_zbe (fun b=>b=p\/H b=none) H' p sw rules->Q .non H'
noncomputable def Cv (K:ac) (t:Adr):Sp:=fun vs H Q _=>∃ (a:Addr) (ns:List Int) (k:Nat),vs=[.ref a,.int k]/\SqL K H a (ns.map V.int)/\Q (.int (Ay ns k)) H
noncomputable def Xj (K:ac) (t:Adr):Sp:=fun vs H Q _=>∃ (c:Int) (n:Nat),vs=[.int c,.int n]/\n<=100 /\ ∀ H' l (ns:List Int),Same H H'->H l=none->H' l=some (.lst (ns.map V.int))->ns.length=n->(∀ i∈ns,0<=i)->Q (.ref l) H'
noncomputable def Ir (K:ac) (t:Adr):Sp:=fun vs H Q _=>∃ (c:Int) (k:Nat),vs=[.int c,.int k]/\k<=8 /\ ∀ H',Same H H'->Q (.str (Bq c k)) H'
noncomputable def ap3 (K:ac) (t:Adr):Sp:=fun vs H Q _=>∃ (a:Addr) (ns:List Int),vs=[.ref a]/\SqL K H a (ns.map V.int) /\ ∀ H' l sw,Same H H'->SwIn any H' l sw->okSw sw->Q (.ref l) H'
noncomputable def ap9 (K:ac) (t:Adr):Sp:=fun vs H Q _=>∃ (l:Addr) (sw:Sw),vs=[.ref l]/\SwIn any H l sw/\okSw sw /\ ∀ H' r,Same H H'->DigAt H' r (B6 sw)->Q (.ref r) H'
noncomputable def V7 (K:ac) (t:Adr):Sp:=fun vs H Q _=>∃ (a l:Addr) (ns:List Int) (sw:Sw),vs=[.ref a,.ref l]/\SqL K H a (ns.map V.int)/\SwIn any H l sw/\okSw sw /\ ∀ H' p rules,Same H H'->PanelAt t.c_zbe any H' p sw rules->Q (.ref p) H'
noncomputable def P3 (K:ac) (t:Adr):Sp:=fun vs H Q _=>∃ c n:Int,vs=[.int c,.int n]/\0<=n/\Q (.bl (decide (bj (c / 2 ^ n.toNat) 1=1))) H
noncomputable def ap7 (K:ac) (t:Adr):Sp:=fun vs H Q _=>∃ c n:Nat,vs=[.int (c:Int)]/\c<2 ^ n/\n<=256 /\ ∀ H' l,Same H H'->H l=none->H' l=some (nO ((aq n).filter fun j=>c.testBit j))->Q (.ref l) H'
noncomputable def ap4 (K:ac) (t:Adr):Sp:=fun vs H Q _=>∃ c n:Nat,vs=[.int (c:Int)]/\c<2 ^ n/\n<=256/\Q (match Gu n c with|some j=>.int (j:Int)|none=>.non) H
noncomputable def a63 (K:ac) (t:Adr):Sp:=fun vs H Q _=>∃ (p:Addr) (sw:Sw) (rules:List Sw),vs=[.ref p]/\PanelAt t.c_zbe any H p sw rules/\okSw sw /\
 ∀ H' q (ds:List (((Str×List Str)×Addr)×Addr)),Same H H'->H q=none->ds.map (·.1.1)=sw->H' q=some (.lst (ds.map fun x=>.ref x.2))->(∀ x∈ds,H' x.2=some (.tup [.str x.1.1.1,.ref x.1.2])/\H' x.1.2=some (Dg x.1.1.2))->Q (.ref q) H'
noncomputable def V8 (K:ac) (t:Adr):Sp:=fun vs H Q _=>∃ v,vs=[v]/\B7 v=true/\Q (.bl (bs6 v)) H
noncomputable def a60 (K:ac) (t:Adr):Sp:=fun vs H Q _=>∃ (p:Addr) (i:Nat) (sw:Sw) (rules:List Sw),vs=[.ref p,.int i]/\PanelAt t.c_zbe any H p sw rules/\i<(Ah sw).length/\Q .non H
noncomputable def a67 (K:ac) (t:Adr):Sp:=fun vs H Q _=>∃ (p:Addr) (i:Nat) (r:List Str) (sw:Sw) (rules:List Sw),vs=[.ref p,.int i]/\PanelAt t.c_zbe any H p sw rules/\(Ah sw)[i]? = some r /\ ∀ a,H a=some (Dg r)->Q (.ref a) H
noncomputable def ao9 (K:ac) (t:Adr):Sp:=fun vs H Q _=>∃ (p:Addr) (i:Nat) (r:List Str) (sw:Sw) (rules:List Sw),vs=[.ref p,.int i]/\PanelAt t.c_zbe any H p sw rules/\okSw sw/\(Ah sw)[i]? = some r /\ ∀ H' l,Same H H'->ad5 H' l ((sw.map fun x=>V.str x.1).zip (r.map V.str))->Q (.ref l) H'
noncomputable def ao4 (K:ac) (t:Adr):Sp:=fun vs H Q _=>∃ (p r l s:Addr) (sw rule:Sw),vs=[.ref p,.ref r]/\SelfAt t.c_zbe (· ≠ r) H p l s/\TupsAt (· ≠ r) H l (Ah sw)/\SetsAt (· ≠ r) H s sw/\okSw sw/\RuleAt any H r rule/\okB sw rule /\ ∀ H',Same H H'->Q (.int (ae0 sw rule)) H'
noncomputable def ap1 (K:ac) (t:Adr):Sp:=fun vs H Q _=>∃ (p l:Addr) (i:Nat) (ws:List Str) (sw:Sw) (rules:List Sw),vs=[.ref p,.int i,.ref l]/\PanelAt t.c_zbe any H p sw rules/\okSw sw/\i<(Ah sw).length/\H l=some (A8 ws)/\ws.length<=5 /\ ∀ H' (m:Nat),Same H H'->m<2 ^ (Ah sw).length->(∀ j,m.testBit j=(decide (j<(Ah sw).length)&&Hd sw ws i j))->Q (.int (m:Int)) H'
noncomputable def Px (K:ac) (t:Adr):Sp:=fun vs H Q _=>∃ (p l:Addr) (c w:Nat) (ws:List Str) (sw:Sw) (rules:List Sw),vs=[.ref p,.int (c:Int),.int (w:Int),.ref l]/\PanelAt t.c_zbe any H p sw rules/\okSw sw/\c<2 ^ (Ah sw).length/\w<2 ^ (Ah sw).length/\H l=some (A8 ws)/\ws.length<=5 /\ ∀ H' v,Same H H'->At K H' (Ev (Ch (Ah sw).length c w (Hd sw ws))) v->Q v H'
noncomputable def a64 (K:ac) (t:Adr):Sp:=fun vs H Q _=>∃ (p:Addr) (i:Nat) (x:Str×List Str) (sw:Sw) (rules:List Sw),vs=[.ref p,.str x.1]/\PanelAt t.c_zbe any H p sw rules/\okSw sw/\sw[i]? = some x /\ ∀ H' l,Same H H'->ad5 H' l (x.2.map fun z=>(V.str z,V.int (C4 (Ah sw) i z)))->Q (.ref l) H'
noncomputable def Py (K:ac) (t:Adr):Sp:=fun vs H Q _=>∃ (p:Addr) (c w:Nat) (sw:Sw) (rules:List Sw),vs=[.ref p,.int (c:Int),.int (w:Int)]/\PanelAt t.c_zbe any H p sw rules/\okSw sw/\c<2 ^ (Ah sw).length/\w<2 ^ (Ah sw).length /\ ∀ H' l,Same H H'->H l=none->H' l=some (A8 (Mo sw c w))->Q (.ref l) H'
noncomputable def Fb (K:ac) (t:Adr):Sp:=fun vs H Q _=>∃ (r l:Addr) (d:List Nat) (xs:List Int) (m:Nat),vs=[.ref r,.ref l,.int m]/\H r=some (nO d)/\d≠[]/\(∀ j∈d,j<4)/\H l=some (.lst (xs.map V.int))/\m<=xs.length/\m<=3 /\ ∀ k:Int,0<=k->k<64->Q (.int k) H
noncomputable def P1 (K:ac) (t:Adr):Sp:=fun vs H Q _=>∃ (r:Addr) (c:Int) (sw:Sw),vs=[.ref r,.int c]/\DigAt H r (B6 sw)/\okSw sw /\ ∀ H' (m:Nat),Same H H'->m<2 ^ (Ah sw).length->Q (.int (m:Int)) H'
noncomputable def aq0 (K:ac) (t:Adr):Sp:=fun vs H Q _=>∃ (r:Addr) (c:Int) (sw:Sw),vs=[.ref r,.int c]/\DigAt H r (B6 sw)/\okSw sw /\ ∀ H' (m:Nat),Same H H'->m<2 ^ (Ah sw).length->Q (.int (m:Int)) H'
noncomputable def L6 (K:ac) (t:Adr):Sp:=fun vs H Q _=>∃ (r l:Addr) (c w:Nat) (ps:List Nat) (sw:Sw),vs=[.ref r,.int (c:Int),.int (w:Int),.ref l]/\DigAt H r (B6 sw)/\okSw sw/\c<2 ^ (Ah sw).length/\w<2 ^ (Ah sw).length/\H l=some (nO ps)/\ps.length<=5/\(∀ p∈ps,p<sw.length) /\ ∀ H' v,Same H H'->At K H' (Ev (Ch (Ah sw).length c w (B1 sw ps))) v->Q v H'
noncomputable def Pw (K:ac) (t:Adr):Sp:=fun vs H Q _=>∃ n:Nat,vs=[.int n]/\1<=n/\n<=5 /\ ∀ H' r,Same H H'->DigAt H' r (Dk n)->Q (.ref r) H'
noncomputable def ap2 (K:ac) (t:Adr):Sp:=fun vs H Q _=>∃ (r:Addr) (c w:Nat) (sw:Sw),vs=[.ref r,.int (c:Int),.int (w:Int),.int (sw.length:Int)]/\DigAt H r (B6 sw)/\okSw sw/\c<2 ^ (Ah sw).length/\w<2 ^ (Ah sw).length /\ ∀ H' l,Same H H'->H' l=some (nO (X7 sw c w))->Q (.ref l) H'
noncomputable def Pu (K:ac) (t:Adr):Sp:=fun vs H Q _=>∃ (v u:V) (o:Option (Nat×Nat)),vs=[v,u]/\At K H (Ev o) v/\At K H (Ev o) u /\ ∀ H',Same H H'->Q (.bl true) H'
noncomputable def P5 (K:ac) (t:Adr):Sp:=fun vs H Q _=>∃ (a:Addr) (ns:List Int),vs=[.ref a]/\SqL K H a (ns.map V.int)/\ns.length<=63 /\ ∀ H',Q (.bl true) H'
noncomputable def Hm (K:ac) (t:Adr) (n:Nat):Sp:=fun vs H Q _=>∃ (l:Addr) (k:Nat) (ws:List Str),vs=[.ref l,.int k]/\H l=some (A8 ws)/\ws.length<=5/\k<n /\ ∀ H' r,Same H H'->ba4 (fresh H) H' r (Ba k ws)->Q (.ref r) H'
noncomputable def ao6 (K:ac) (t:Adr):Sp:=Hm K t 5
noncomputable def Hl (K:ac) (t:Adr) (n:Nat):Sp:=fun vs H Q _=>∃ (p l:Addr) (a b:Nat) (ws:List Str) (sw:Sw) (rules:List Sw),vs=[.ref p,.int (a:Int),.int (b:Int),.ref l]/\PanelAt t.c_zbe any H p sw rules/\okSw sw/\a<2 ^ (Ah sw).length/\b<2 ^ (Ah sw).length/\H l=some (A8 ws)/\ws.length<n/\n<=9/\(∀ x∈ws,x∈sw.map (·.1)) /\ ∀ H',Same H H'->Q (.bl (!Ea (Ah sw).length a b (Dp sw ws))) H'
noncomputable def ao5 (K:ac) (t:Adr):Sp:=Hl K t 5
end
end K13
namespace K13
open PySem L2
noncomputable def top (i:Nat):Stmt:=PySem.Challenge.pw_manyleaf_k13_switches_that_decide.main.body.getD i (.Pass ⟨0,0,0,0⟩)
noncomputable def bl:List Str:=["all", "bool", "dict", "enumerate", "int", "isinstance", "len", "list", "range", "reversed", "set", "sorted", "str", "tuple", "zip"]
section
variable (K:ac) (t:Adr)
noncomputable abbrev Lv:Stmt:=top 7
noncomputable abbrev aa5:List Str:=["choices", "number"]
noncomputable abbrev Qv:List Str:=["choices", "number"]
noncomputable def a46:FI:=⟨t.f_zar,t.d_zar,Qv,1,P3 K t,[],[]⟩
noncomputable abbrev Vx:Stmt:=top 8
noncomputable abbrev a96:List Str:=["choices"]
noncomputable abbrev ad0:List Str:=["choices"]
noncomputable def bv4:FI:=⟨t.f_zv,t.d_zv,ad0,2,ap7 K t,[],[]⟩
noncomputable abbrev Vs:Stmt:=top 9
noncomputable abbrev a90:List Str:=["choices", "number"]
noncomputable abbrev ac4:List Str:=["choices"]
noncomputable def bv2:FI:=⟨t.f_zp,t.d_zp,ac4,2,ap4 K t,[],[]⟩
noncomputable abbrev Vm:Stmt:=Cr (top 30) 4
noncomputable abbrev a84:List Str:=["self"]
noncomputable abbrev ab8:List Str:=["self"]
noncomputable def av2:FI:=⟨t.f_zj,t.d_zj,ab8,1,a63 K t,[],[]⟩
noncomputable abbrev Ll:Stmt:=top 20
noncomputable abbrev Z6:List Str:=["thing"]
noncomputable abbrev Qn:List Str:=["thing"]
noncomputable def a37:FI:=⟨t.f_zai,t.d_zai,Qn,1,V8 K t,[],[]⟩
noncomputable abbrev Vu:Stmt:=Cr (top 30) 3
noncomputable abbrev a93:List Str:=["self"]
noncomputable abbrev ac7:List Str:=["self"]
noncomputable def av3:FI:=⟨t.f_zs,t.d_zs,ac7,1,a65 K t,[],[]⟩
noncomputable abbrev Vg:Stmt:=Cr (top 30) 8
noncomputable abbrev a78:List Str:=["self", "number"]
noncomputable abbrev ab2:List Str:=["self", "number"]
noncomputable def bb3:FI:=⟨t.f_zd,t.d_zd,ab2,2,a60 K t,[],[]⟩
noncomputable abbrev Vw:Stmt:=Cr (top 30) 7
noncomputable abbrev a95:List Str:=["self", "number"]
noncomputable abbrev ac9:List Str:=["self", "number"]
noncomputable def bb8:FI:=⟨t.f_zu,t.d_zu,ac9,3,a67 K t,[],[]⟩
noncomputable abbrev Vl:Stmt:=top 15
noncomputable abbrev a83:List Str:=["panel", "number", "words"]
noncomputable abbrev ab7:List Str:=["panel", "number"]
noncomputable def bu7:FI:=⟨t.f_zi,t.d_zi,ab7,4,ao9 K t,[],[]⟩
noncomputable abbrev Vf:Stmt:=Cr (top 30) 9
noncomputable abbrev a77:List Str:=["self"]
noncomputable abbrev ab1:List Str:=["self"]
noncomputable def av1:FI:=⟨t.f_zc,t.d_zc,ab1,2,a59 K t,[],[]⟩
noncomputable abbrev Lp:Stmt:=top 11
noncomputable abbrev aa0:List Str:=["sets", "choices", "one"]
noncomputable abbrev Qr:List Str:=["sets"]
noncomputable def a41:FI:=⟨t.f_zam,t.d_zam,Qr,1,Pz K t,[],[]⟩
noncomputable abbrev Vy:Stmt:=top 22
noncomputable abbrev a97:List Str:=["thing", "least", "greatest"]
noncomputable abbrev ad1:List Str:=["thing", "least", "greatest"]
noncomputable def bv5:FI:=⟨t.f_zw,t.d_zw,ad1,1,ap8 K t,[],[]⟩
noncomputable abbrev Ld:Stmt:=top 23
noncomputable abbrev Zz:List Str:=["sign"]
noncomputable abbrev Qg:List Str:=["sign"]
noncomputable def a30:FI:=⟨t.f_zab,t.d_zab,Qg,1,V5 K t,[],[]⟩
noncomputable abbrev Lr:Stmt:=top 21
noncomputable abbrev aa2:List Str:=["thing"]
noncomputable abbrev Qs:List Str:=["thing"]
noncomputable def a43:FI:=⟨t.f_zao,t.d_zao,Qs,2,P0 K t,[],[]⟩
noncomputable abbrev Vi:Stmt:=top 31
noncomputable abbrev a80:List Str:=["things"]
noncomputable abbrev ab4:List Str:=["things"]
noncomputable def bu5:FI:=⟨t.f_zf,t.d_zf,ab4,3,Xi K t,[],[]⟩
noncomputable abbrev Vv:Stmt:=Cr (top 30) 12
noncomputable abbrev a94:List Str:=["self", "word", "settings"]
noncomputable abbrev ac8:List Str:=["self", "word", "settings"]
noncomputable def bb7:FI:=⟨t.f_zt,t.d_zt,ac8,4,a66 K t,[],[]⟩
noncomputable abbrev Lc:Stmt:=Cr (top 30) 11
noncomputable abbrev Zy:List Str:=["self", "terms", "choices", "word"]
noncomputable abbrev Qe:List Str:=["self", "terms"]
noncomputable def Rj:FI:=⟨t.f_zaa,t.d_zaa,Qe,5,ao4 K t,[],[]⟩
noncomputable abbrev Vp:Stmt:=top 14
noncomputable abbrev a87:List Str:=["panel", "number", "switches", "terms", "word", "setting"]
noncomputable abbrev ac1:List Str:=["panel", "number", "switches"]
noncomputable def bu9:FI:=⟨t.f_zm,t.d_zm,ac1,6,ap1 K t,[],[]⟩
noncomputable abbrev Lj:Stmt:=top 13
noncomputable abbrev Z4:List Str:=["panel", "choices", "within", "switches", "outsides", "inside", "outside"]
noncomputable abbrev Ql:List Str:=["panel", "choices", "within", "switches"]
noncomputable def a35:FI:=⟨t.f_zag,t.d_zag,Ql,7,Px K t,[],[]⟩
noncomputable abbrev Lx:Stmt:=top 17
noncomputable abbrev aa7:List Str:=["words", "size", "found", "place", "word"]
noncomputable abbrev Ka:List Str:=["words", "size"]
noncomputable def a48:FI:=⟨t.f_zat,t.d_zat,Ka,6,ao6 K t,[],[]⟩
noncomputable abbrev Vo:Stmt:=Cr (top 30) 13
noncomputable abbrev a86:List Str:=["self", "word"]
noncomputable abbrev ac0:List Str:=["self", "word"]
noncomputable def bb6:FI:=⟨t.f_zl,t.d_zl,ac0,1,a64 K t,[],[]⟩
noncomputable abbrev Lq:Stmt:=top 18
noncomputable abbrev aa1:List Str:=["panel", "inside", "outside", "switches", "behind", "setting", "having"]
noncomputable abbrev J9:List Str:=["panel", "inside", "outside", "switches"]
noncomputable def a42:FI:=⟨t.f_zan,t.d_zan,J9,7,ao5 K t,[],[]⟩
noncomputable abbrev Lk:Stmt:=top 16
noncomputable abbrev Z5:List Str:=["panel", "choices", "within", "words", "size", "picked"]
noncomputable abbrev Qm:List Str:=["panel", "choices", "within"]
noncomputable def a36:FI:=⟨t.f_zah,t.d_zah,Qm,8,Py K t,[],[]⟩
noncomputable abbrev Lm:Stmt:=top 39
noncomputable abbrev Z7:List Str:=["_law_script", "_law_k"]
noncomputable abbrev Qo:List Str:=["_law_script", "_law_k"]
noncomputable def a38:FI:=⟨t.f_zaj,t.d_zaj,Qo,1,Cv K t,[],[]⟩
noncomputable abbrev V0:Stmt:=top 40
noncomputable abbrev a99:List Str:=["_law_cell_here", "_law_many", "_law_found", "_law_left", "_law_number", "_law_k"]
noncomputable abbrev ad3:List Str:=["_law_cell_here", "_law_many"]
noncomputable def bv7:FI:=⟨t.f_zy,t.d_zy,ad3,1,Xj K t,[],[]⟩
noncomputable abbrev Lo:Stmt:=top 41
noncomputable abbrev Z9:List Str:=["_law_cell_here", "_law_k", "_law_letters", "_law_tail", "_law_size", "_law_at", "_law_base"]
noncomputable abbrev Qq:List Str:=["_law_cell_here", "_law_k"]
noncomputable def a40:FI:=⟨t.f_zal,t.d_zal,Qq,1,Ir K t,[],[]⟩
noncomputable abbrev Vr:Stmt:=top 42
noncomputable abbrev a89:List Str:=["_law_script", "_law_cell_here", "_law_most", "_law_shift", "_law_found", "_law_total", "_law_x", "_law_size", "_law_settings"]
noncomputable abbrev ac3:List Str:=["_law_script"]
noncomputable def bv1:FI:=⟨t.f_zo,t.d_zo,ac3,2,ap3 K t,[],[]⟩
noncomputable abbrev Vz:Stmt:=top 43
noncomputable abbrev a98:List Str:=["_law_switches_here", "_law_rows", "_law_word_here", "_law_settings", "_law_longer", "_law_row"]
noncomputable abbrev ad2:List Str:=["_law_switches_here"]
noncomputable def bv6:FI:=⟨t.f_zx,t.d_zx,ad2,1,ap9 K t,[],[]⟩
noncomputable abbrev Vt:Stmt:=top 37
noncomputable abbrev a91:List Str:=["rule", "copied", "word"]
noncomputable abbrev ac5:List Str:=["rule"]
noncomputable def bv3:FI:=⟨t.f_zq,t.d_zq,ac5,1,ap5 K t,[],[]⟩
noncomputable abbrev Vk:Stmt:=Cr (top 30) 2
noncomputable abbrev a82:List Str:=["self", "rule"]
noncomputable abbrev ab6:List Str:=["self", "rule"]
noncomputable def bb5:FI:=⟨t.f_zh,t.d_zh,ab6,6,a62 K t,[],[]⟩
noncomputable abbrev Vh:Stmt:=Cr (top 30) 1
noncomputable abbrev a79:List Str:=["self", "rules"]
noncomputable abbrev ab3:List Str:=["self", "rules"]
noncomputable def bb4:FI:=⟨t.f_ze,t.d_ze,ab3,7,a61 K t,[],[]⟩
noncomputable abbrev Le:Stmt:=top 33
noncomputable abbrev Z0:List Str:=["switch"]
noncomputable abbrev Qh:List Str:=["switch"]
noncomputable def a31:FI:=⟨t.f_zac,t.d_zac,Qh,4,V6 K t,[],[]⟩
noncomputable abbrev Vn:Stmt:=top 32
noncomputable abbrev a85:List Str:=["switches", "settings", "many", "switch"]
noncomputable abbrev ab9:List Str:=["switches"]
noncomputable def bu8:FI:=⟨t.f_zk,t.d_zk,ab9,5,ap0 K t,[],[]⟩
noncomputable abbrev Ve:Stmt:=top 34
noncomputable abbrev a76:List Str:=["settings", "tuples", "word", "longer", "ahead"]
noncomputable abbrev ab0:List Str:=["settings"]
noncomputable def bu4:FI:=⟨t.f_zb,t.d_zb,ab0,1,ao7 K t,[],[]⟩
noncomputable abbrev Vd:Stmt:=top 35
noncomputable abbrev a75:List Str:=["tuples", "numbers", "number", "told"]
noncomputable abbrev aa9:List Str:=["tuples"]
noncomputable def bu3:FI:=⟨t.f_za,t.d_za,aa9,1,ao3 K t,[],[]⟩
noncomputable abbrev Lw:Stmt:=top 10
noncomputable abbrev aa6:List Str:=["numbers", "choices", "number"]
noncomputable abbrev Qw:List Str:=["numbers"]
noncomputable def a47:FI:=⟨t.f_zas,t.d_zas,Qw,1,V9 K t,[],[]⟩
noncomputable abbrev Vj:Stmt:=top 36
noncomputable abbrev a81:List Str:=["settings", "tuples", "sets", "place", "word", "setting", "having"]
noncomputable abbrev ab5:List Str:=["settings", "tuples"]
noncomputable def bu6:FI:=⟨t.f_zg,t.d_zg,ab5,2,ao8 K t,[],[]⟩
noncomputable abbrev Ip:Stmt:=Cr (top 30) 0
noncomputable abbrev a92:List Str:=["self", "switches", "rules"]
noncomputable abbrev ac6:List Str:=["self", "switches", "rules"]
noncomputable def ag9:FI:=⟨t.f_zr,t.d_zr,ac6,8,ap6 K t,[.non],t.du_zr⟩
noncomputable abbrev Li:Stmt:=top 44
noncomputable abbrev Z3:List Str:=["_law_script", "_law_switches_here", "_law_rules"]
noncomputable abbrev Qk:List Str:=["_law_script", "_law_switches_here"]
noncomputable def a34:FI:=⟨t.f_zaf,t.d_zaf,Qk,10,V7 K t,[],[]⟩
noncomputable abbrev Ls:Stmt:=top 45
noncomputable abbrev aa3:List Str:=["_law_row", "_law_xs", "_law_many", "_law_key_here", "_law_j"]
noncomputable abbrev Qt:List Str:=["_law_row", "_law_xs", "_law_many"]
noncomputable def a44:FI:=⟨t.f_zap,t.d_zap,Qt,1,Fb K t,[],[]⟩
noncomputable abbrev Lu:Stmt:=top 46
noncomputable abbrev aa4:List Str:=["_law_rows", "_law_cell_here", "_law_xs", "_law_found", "_law_number", "_law_inside", "_law_great"]
noncomputable abbrev Qu:List Str:=["_law_rows", "_law_cell_here"]
noncomputable def a45:FI:=⟨t.f_zaq,t.d_zaq,Qu,2,P1 K t,[],[]⟩
noncomputable abbrev V1:Stmt:=top 47
noncomputable abbrev ba0:List Str:=["_law_rows", "_law_cell_here"]
noncomputable abbrev ad4:List Str:=["_law_rows", "_law_cell_here"]
noncomputable def bv8:FI:=⟨t.f_zz,t.d_zz,ad4,3,aq0 K t,[],[]⟩
noncomputable abbrev Ln:Stmt:=top 48
noncomputable abbrev Z8:List Str:=["_law_rows", "_law_choices", "_law_within_here", "_law_places", "_law_outside", "_law_number", "_law_key_here"]
noncomputable abbrev Qp:List Str:=["_law_rows", "_law_choices", "_law_within_here", "_law_places"]
noncomputable def a39:FI:=⟨t.f_zak,t.d_zak,Qp,1,L6 K t,[],[]⟩
noncomputable abbrev Lg:Stmt:=top 49
noncomputable abbrev Z2:List Str:=["_law_end", "_law_found", "_law_bits", "_law_places"]
noncomputable abbrev Qj:List Str:=["_law_end"]
noncomputable def a33:FI:=⟨t.f_zae,t.d_zae,Qj,1,Pw K t,[],[]⟩
noncomputable abbrev Vq:Stmt:=top 50
noncomputable abbrev a88:List Str:=["_law_rows", "_law_choices", "_law_within_here", "_law_end", "_law_places"]
noncomputable abbrev ac2:List Str:=["_law_rows", "_law_choices", "_law_within_here", "_law_end"]
noncomputable def bv0:FI:=⟨t.f_zn,t.d_zn,ac2,2,ap2 K t,[],[]⟩
noncomputable abbrev Lf:Stmt:=top 51
noncomputable abbrev Z1:List Str:=["_law_found", "_law_due"]
noncomputable abbrev Qi:List Str:=["_law_found", "_law_due"]
noncomputable def a32:FI:=⟨t.f_zad,t.d_zad,Qi,1,Pu K t,[],[]⟩
noncomputable abbrev Ez:Stmt:=top 52
noncomputable abbrev aa8:List Str:=["_law_script", "_law_switches_here", "_law_words", "_law_rows", "_law_panel_here", "_law_choices", "_law_within_here", "_law_places", "_law_some", "_law_handed", "_law_due", "_law_found"]
noncomputable abbrev Qx:List Str:=["_law_script"]
noncomputable def Ct:List MI:=[⟨t.c_zbe,av1 K t⟩]
noncomputable def Kx:List MI:=[⟨t.c_zbe,Rj K t⟩]
noncomputable def Jx:List MI:=[⟨t.c_zbe,av3 K t⟩]
noncomputable def D5:List MI:=[⟨t.c_zbe,bb3 K t⟩]
noncomputable def Ie:List MI:=[⟨t.c_zbe,bb6 K t⟩]
noncomputable def E8:List MI:=[⟨t.c_zbe,bb5 K t⟩]
noncomputable def En:List MI:=[⟨t.c_zbe,bb4 K t⟩]
noncomputable def Ek:List MI:=[⟨t.c_zbe,av2 K t⟩]
noncomputable def Pb:List MI:=[⟨t.c_zbe,bb7 K t⟩]
noncomputable def Pd:List MI:=[⟨t.c_zbe,bb8 K t⟩]
noncomputable def Bj (K:ac) (t:Adr):List (Str×GB):=[("LeafError", .exc t.c_zba none),("BadPanel", .exc t.c_zbb none),("NoChoice", .exc t.c_zbc none),("BadCond", .exc t.c_zbd none),("Panel", .val (.ref t.c_zbe) (.ref t.c_zbe)),("MOST_SWITCHES", .val (.int 5) t.u_zax),("LEAST_SETTINGS", .val (.int 2) t.u_zav),("MOST_SETTINGS", .val (.int 4) t.u_zaw),("MOST_CHOICES", .val (.int 256) t.u_zay),("MOST_RULES", .val (.int 8) t.u_zaz)]
noncomputable def Eb:List (Str×GB):=("", .met "many" (Jx K t))::("", .met "parted" (Ie K t))::("", .met "switches" (Ek K t))::("in_set", .fn (a46 K t))::("is_whole", .fn (a37 K t))::("union_of", .fn (a41 K t))::("has_length", .fn (bv5 K t))::("is_letter", .fn (a30 K t))::("_law_cell", .fn (a38 K t))::("_law_stream", .fn (bv7 K t))::("_law_word", .fn (a40 K t))::("_law_digits", .fn (bv6 K t))::("copied_rule", .fn (bv3 K t))::("settings_of_choices", .fn (bu4 K t))::("numbers_by_settings", .fn (bu3 K t))::("set_of", .fn (a47 K t))::("_law_key", .fn (a44 K t))::("_law_pair", .fn (a39 K t))::("_law_lists", .fn (a33 K t))::("_law_alike", .fn (a32 K t))::Bj K t
noncomputable def Rh:List (Str×GB):=("", .met "all_choices" (Ct K t))::("", .met "need_number" (D5 K t))::("choices_of", .fn (bv4 K t))::("least_choice", .fn (bv2 K t))::("is_word", .fn (a43 K t))::("_law_switches", .fn (bv1 K t))::("sets_of_settings", .fn (bu6 K t))::("_law_set", .fn (a45 K t))::("_law_deciding", .fn (bv0 K t))::Eb K t
noncomputable def Ri:List (Str×GB):=("", .met "told" (Pd K t))::("are_unlike_words", .fn (bu5 K t))::("_law_within", .fn (bv8 K t))::Rh K t
noncomputable def Yh:List (Str×GB):=("", .met "term" (Pb K t))::("terms_of_choice", .fn (bu7 K t))::("is_switch", .fn (a31 K t))::Ri K t
noncomputable def Yi:List (Str×GB):=("", .met "box" (Kx K t))::("read_switches", .fn (bu8 K t))::Yh K t
noncomputable def Yj:List (Str×GB):=("", .met "read_rule" (E8 K t))::("choices_like", .fn (bu9 K t))::("picks", .fn (a48 K t))::Yi K t
noncomputable def Yk:List (Str×GB):=("", .met "read_rules" (En K t))::("undecided", .fn (a35 K t))::("decides", .fn (a42 K t))::Yj K t
noncomputable def bu1:List (Str×GB):=("deciding", .fn (a36 K t))::Yk K t
noncomputable def av0:List (Str×GB):=("Panel", .cls t.c_zbe (some (ag9 K t)))::bu1 K t
noncomputable def ag2:List (Str×GB):=("_law_panel", .fn (a34 K t))::av0 K t
end
noncomputable def b89 (K:ac) (t:Adr):DS:=
 (Ag (As (Ae (A3 K false) (Ae B9 (Ae D8 (Aa 0) (Aa 1)) (dC (.int 1))) (dC (.int 1))))
 Af)
theorem bm6 (K:ac) (t:Adr):wSs 40 (Bd K aa5 (Ab Lv) (Bj K t) bl) (Al Lv)=b89 K t:=by kernel_rfl
theorem bo9:Am aa5 Qv (Ab Lv):=⟨rfl,rfl,rfl,by decide +kernel,rfl,by decide +kernel,by decide +kernel⟩
theorem bs1:Ar aa5 (Ab Lv)=true:=by decide +kernel
noncomputable def ch9 (K:ac) (t:Adr):DS:=
 (Ag (As (Bg [none,some 0] (Gg (Ac (dMt (rMt K [⟨"int", "int.bit_length", Xa⟩]) (Aa 0) Aj) Aj)) (gdN 0) (C6 K (dFn (spE (P3 K t) []) (Ac (Aa 1) (Ac (Aa 0) Aj)))) (Aa 0)))
 Af)
theorem b35 (K:ac) (t:Adr):wSs 40 (Bd K a96 (Ab Vx) (Eb K t) bl) (Al Vx)=ch9 K t:=by kernel_rfl
theorem b61:Am a96 ad0 (Ab Vx):=⟨rfl,rfl,rfl,by decide +kernel,rfl,by decide +kernel,by decide +kernel⟩
theorem cb8:Ar a96 (Ab Vx)=true:=by decide +kernel
noncomputable def ch3 (K:ac) (t:Adr):DS:=
 (Ag (Co (Gg (Ac (dMt (rMt K [⟨"int", "int.bit_length", Xa⟩]) (Aa 0) Aj) Aj)) (gdN 1) (Ag (dIf (C6 K (dFn (spE (P3 K t) []) (Ac (Aa 0) (Ac (Aa 1) Aj)))) (Ag (As (Aa 1))
   Af) Af)
  Af))
 (Ag (As (dC .non))
 Af))
theorem b29 (K:ac) (t:Adr):wSs 40 (Bd K a90 (Ab Vs) (Eb K t) bl) (Al Vs)=ch3 K t:=by kernel_rfl
theorem b55:Am a90 ac4 (Ab Vs):=⟨rfl,rfl,rfl,by decide +kernel,rfl,by decide +kernel,by decide +kernel⟩
theorem cb2:Ar a90 (Ab Vs)=true:=by decide +kernel
noncomputable def cg7 (K:ac) (t:Adr):DS:=
 (Ag (As (dUn (Fa K) (dUn (De K "settings") (Aa 0))))
 Af)
theorem b23 (K:ac) (t:Adr):wSs 40 (Bd K a84 (Ab Vm) (Bj K t) bl) (Al Vm)=cg7 K t:=by kernel_rfl
theorem b49:Am a84 ab8 (Ab Vm):=⟨rfl,rfl,rfl,by decide +kernel,rfl,by decide +kernel,by decide +kernel⟩
theorem ca6:Ar a84 (Ab Vm)=true:=by decide +kernel
noncomputable def b81 (K:ac) (t:Adr):DS:=
 (Ag (As (M9 K (dFn (fun vs H Q _=>(Fs K) vs H Q) (Ac (Aa 0) (Ac (dC (.ty "int")) Aj))) (ae7 K (dFn (fun vs H Q _=>(Fs K) vs H Q) (Ac (Aa 0) (Ac (dC (.ty "bool")) Aj))))))
 Af)
theorem bl7 (K:ac) (t:Adr):wSs 40 (Bd K Z6 (Ab Ll) (Bj K t) bl) (Al Ll)=b81 K t:=by kernel_rfl
theorem bo0:Am Z6 Qn (Ab Ll):=⟨rfl,rfl,rfl,by decide +kernel,rfl,by decide +kernel,by decide +kernel⟩
theorem br2:Ar Z6 (Ab Ll)=true:=by decide +kernel
noncomputable def ch6 (K:ac) (t:Adr):DS:=
 (Ag (As (dFn (fun vs H Q _=>(Cq K) vs H Q) (Ac (dUn (De K "tuples") (Aa 0)) Aj)))
 Af)
theorem b32 (K:ac) (t:Adr):wSs 40 (Bd K a93 (Ab Vu) (Bj K t) bl) (Al Vu)=ch6 K t:=by kernel_rfl
theorem b58:Am a93 ac7 (Ab Vu):=⟨rfl,rfl,rfl,by decide +kernel,rfl,by decide +kernel,by decide +kernel⟩
theorem cb5:Ar a93 (Ab Vu)=true:=by decide +kernel
noncomputable def cg1 (K:ac) (t:Adr):DS:=
 (Ag (dIf (dOr (Dq (C6 K (dFn (spE (V8 K t) []) (Ac (Aa 1) Aj)))) (Dq (Az (Dx Gh bk8 (dC (.int 0)) (Aa 1) (Fh "many" 0 (Jx K t) (Aa 0) Aj))))) (Ag (C5 K (dFn (fun vs H Q E=>vs.length<=1000/\mkX t.c_zbc none 0 vs H Q E) (Ac (dC (.str "this is no number of a choice")) Aj)))
  Af) Af)
 Af)
theorem b17 (K:ac) (t:Adr):wSs 40 (Bd K a78 (Ab Vg) (Eb K t) bl) (Al Vg)=cg1 K t:=by kernel_rfl
theorem b43:Am a78 ab2 (Ab Vg):=⟨rfl,rfl,rfl,by decide +kernel,rfl,by decide +kernel,by decide +kernel⟩
theorem ca0:Ar a78 (Ab Vg)=true:=by decide +kernel
noncomputable def ch8 (K:ac) (t:Adr):DS:=
 (Ag (Ef (Fh "need_number" 1 (D5 K t) (Aa 0) (Ac (Aa 1) Aj)))
 (Ag (As (Ae (Aq K) (dUn (De K "tuples") (Aa 0)) (Aa 1)))
 Af))
theorem b34 (K:ac) (t:Adr):wSs 40 (Bd K a95 (Ab Vw) (Rh K t) bl) (Al Vw)=ch8 K t:=by kernel_rfl
theorem b60:Am a95 ac9 (Ab Vw):=⟨rfl,rfl,rfl,by decide +kernel,rfl,by decide +kernel,by decide +kernel⟩
theorem cb7:Ar a95 (Ab Vw)=true:=by decide +kernel
noncomputable def cg6 (K:ac) (t:Adr):DS:=
 (Ag (Ap 2 (Bg [none,none] (Bs K (Fh "switches" 0 (Ek K t) (Aa 0) Aj)) (gdT K 2 [(gdN 0),(gdN 1)]) B5 (Aa 0)))
 (Ag (As (dFn (fun vs H Q _=>Ft vs H Q) (Ac (Aa 2) (Ac (Fh "told" 1 (Pd K t) (Aa 0) (Ac (Aa 1) Aj)) Aj))))
 Af))
theorem b22 (K:ac) (t:Adr):wSs 40 (Bd K a83 (Ab Vl) (Ri K t) bl) (Al Vl)=cg6 K t:=by kernel_rfl
theorem b48:Am a83 ab7 (Ab Vl):=⟨rfl,rfl,rfl,by decide +kernel,rfl,by decide +kernel,by decide +kernel⟩
theorem ca5:Ar a83 (Ab Vl)=true:=by decide +kernel
noncomputable def cg0 (K:ac) (t:Adr):DS:=
 (Ag (As (Ae Xb (Ae Jh (dC (.int 1)) (Fh "many" 0 (Jx K t) (Aa 0) Aj)) (dC (.int 1))))
 Af)
theorem b16 (K:ac) (t:Adr):wSs 40 (Bd K a77 (Ab Vf) (Eb K t) bl) (Al Vf)=cg0 K t:=by kernel_rfl
theorem b42:Am a77 ab1 (Ab Vf):=⟨rfl,rfl,rfl,by decide +kernel,rfl,by decide +kernel,by decide +kernel⟩
theorem b99:Ar a77 (Ab Vf)=true:=by decide +kernel
noncomputable def b85 (K:ac) (t:Adr):DS:=
 (Ag (Ap 1 (dC (.int 0)))
 (Ag (Co (Bs K (Aa 0)) (gdN 2) (Ag (Ap 1 (Ae an1 (Aa 1) (Aa 2)))
  Af))
 (Ag (As (Aa 1))
 Af)))
theorem bm1 (K:ac) (t:Adr):wSs 40 (Bd K aa0 (Ab Lp) (Bj K t) bl) (Al Lp)=b85 K t:=by kernel_rfl
theorem bo4:Am aa0 Qr (Ab Lp):=⟨rfl,rfl,rfl,by decide +kernel,rfl,by decide +kernel,by decide +kernel⟩
theorem br6:Ar aa0 (Ab Lp)=true:=by decide +kernel
noncomputable def ci0 (K:ac) (t:Adr):DS:=
 (Ag (As (M9 K (dFn (fun vs H Q _=>(Fs K) vs H Q) (Ac (Aa 0) (Ac (dC (.ty "str")) Aj))) (Dx Gh Gh (Aa 1) (dFn (fun vs H Q _=>(Cq K) vs H Q) (Ac (Aa 0) Aj)) (Aa 2))))
 Af)
theorem b36 (K:ac) (t:Adr):wSs 40 (Bd K a97 (Ab Vy) (Bj K t) bl) (Al Vy)=ci0 K t:=by kernel_rfl
theorem b62:Am a97 ad1 (Ab Vy):=⟨rfl,rfl,rfl,by decide +kernel,rfl,by decide +kernel,by decide +kernel⟩
theorem cb9:Ar a97 (Ab Vy)=true:=by decide +kernel
noncomputable def a69 (K:ac) (t:Adr):DS:=
 (Ag (As (Dx Gh Gh (dC (.str "a")) (Aa 0) (dC (.str "z"))))
 Af)
theorem bl0 (K:ac) (t:Adr):wSs 40 (Bd K Zz (Ab Ld) (Bj K t) bl) (Al Ld)=a69 K t:=by kernel_rfl
theorem bn3:Am Zz Qg (Ab Ld):=⟨rfl,rfl,rfl,by decide +kernel,rfl,by decide +kernel,by decide +kernel⟩
theorem bq5:Ar Zz (Ab Ld)=true:=by decide +kernel
noncomputable def b86 (K:ac) (t:Adr):DS:=
 (Ag (As (M9 K (dFn (spE (ap8 K t) []) (Ac (Aa 0) (Ac (dC (.int 1)) (Ac (dC (.int 8)) Aj)))) (dFn (fun vs H Q _=>(U7 K) vs H Q) (Ac (Bg [none] (Bs K (Aa 0)) (gdN 0) B5 (dFn (spE (V5 K t) []) (Ac (Aa 0) Aj))) Aj))))
 Af)
theorem bm3 (K:ac) (t:Adr):wSs 40 (Bd K aa2 (Ab Lr) (Eb K t) bl) (Al Lr)=b86 K t:=by kernel_rfl
theorem bo6:Am aa2 Qs (Ab Lr):=⟨rfl,rfl,rfl,by decide +kernel,rfl,by decide +kernel,by decide +kernel⟩
theorem br8:Ar aa2 (Ab Lr)=true:=by decide +kernel
noncomputable def cg3 (K:ac) (t:Adr):DS:=
 (Ag (dIf (dOr (Dq (C6 K (dFn (fun vs H Q _=>(Fs K) vs H Q) (Ac (Aa 0) (Ac (dC (.ty "list")) Aj))))) (Dq (C6 K (dFn (fun vs H Q _=>(U7 K) vs H Q) (Ac (Bg [none] (Bs K (Aa 0)) (gdN 0) B5 (dFn (spE (P0 K t) []) (Ac (Aa 0) Aj))) Aj))))) (Ag (As (dC (.bl false)))
  Af) Af)
 (Ag (As (Ae (A3 K false) (dUn (Jz K) (Aa 0)) (dFn (fun vs H Q _=>(Cq K) vs H Q) (Ac (Aa 0) Aj))))
 Af))
theorem b19 (K:ac) (t:Adr):wSs 40 (Bd K a80 (Ab Vi) (Rh K t) bl) (Al Vi)=cg3 K t:=by kernel_rfl
theorem b45:Am a80 ab4 (Ab Vi):=⟨rfl,rfl,rfl,by decide +kernel,rfl,by decide +kernel,by decide +kernel⟩
theorem ca2:Ar a80 (Ab Vi)=true:=by decide +kernel
noncomputable def ch7 (K:ac) (t:Adr):DS:=
 (Ag (dIf (dOr (Dq (C6 K (dFn (fun vs H Q _=>(Fs K) vs H Q) (Ac (Aa 1) (Ac (dC (.ty "str")) Aj))))) (Az (Ae (U9 K true) (Aa 1) (dUn (De K "sets") (Aa 0))))) (Ag (C5 K (dFn (fun vs H Q E=>vs.length<=1000/\mkX t.c_zbd none 0 vs H Q E) (Ac (dC (.str "there is no such switch")) Aj)))
  Af) Af)
 (Ag (dIf (dOr (Dq (C6 K (dFn (spE (Xi K t) []) (Ac (Aa 2) Aj)))) (Az (Ae (A3 K false) (Aa 2) (Dh Aj)))) (Ag (C5 K (dFn (fun vs H Q E=>vs.length<=1000/\mkX t.c_zbd none 0 vs H Q E) (Ac (dC (.str "this is no list of settings")) Aj)))
  Af) Af)
 (Ag (dIf (Dq (C6 K (dFn (fun vs H Q _=>(U7 K) vs H Q) (Ac (Bg [none,some 0,some 1] (Bs K (Aa 2)) (gdN 0) B5 (Ae (U9 K false) (Aa 0) (Ae (Aq K) (dUn (De K "sets") (Aa 1)) (Aa 2)))) Aj)))) (Ag (C5 K (dFn (fun vs H Q E=>vs.length<=1000/\mkX t.c_zbd none 0 vs H Q E) (Ac (dC (.str "the switch has no such setting")) Aj)))
  Af) Af)
 (Ag (As (dFn (spE (Pz K t) []) (Ac (Bg [none,some 0,some 1] (Bs K (Aa 2)) (gdN 0) B5 (Ae (Aq K) (Ae (Aq K) (dUn (De K "sets") (Aa 1)) (Aa 2)) (Aa 0))) Aj)))
 Af))))
theorem b33 (K:ac) (t:Adr):wSs 40 (Bd K a94 (Ab Vv) (Ri K t) bl) (Al Vv)=ch7 K t:=by kernel_rfl
theorem b59:Am a94 ac8 (Ab Vv):=⟨rfl,rfl,rfl,by decide +kernel,rfl,by decide +kernel,by decide +kernel⟩
theorem cb6:Ar a94 (Ab Vv)=true:=by decide +kernel
noncomputable def b74 (K:ac) (t:Adr):DS:=
 (Ag (dIf (Dq (C6 K (dFn (fun vs H Q _=>(Fs K) vs H Q) (Ac (Aa 1) (Ac (dC (.ty "dict")) Aj))))) (Ag (C5 K (dFn (fun vs H Q E=>vs.length<=1000/\mkX t.c_zbd none 0 vs H Q E) (Ac (dC (.str "this is no box")) Aj)))
  Af) Af)
 (Ag (Ap 2 (Fh "all_choices" 0 (Ct K t) (Aa 0) Aj))
 (Ag (Co (Bs K (Aa 1)) (gdN 3) (Ag (Ap 2 (Ae B9 (Aa 2) (Fh "term" 2 (Pb K t) (Aa 0) (Ac (Aa 3) (Ac (Ae (Aq K) (Aa 1) (Aa 3)) Aj)))))
  Af))
 (Ag (As (Aa 2))
 Af))))
theorem bk9 (K:ac) (t:Adr):wSs 40 (Bd K Zy (Ab Lc) (Yh K t) bl) (Al Lc)=b74 K t:=by kernel_rfl
theorem bn2:Am Zy Qe (Ab Lc):=⟨rfl,rfl,rfl,by decide +kernel,rfl,by decide +kernel,by decide +kernel⟩
theorem bq4:Ar Zy (Ab Lc)=true:=by decide +kernel
noncomputable def ch0 (K:ac) (t:Adr):DS:=
 (Ag (Ap 3 G7)
 (Ag (Co (Bs K (dFn (spE (ao9 K t) []) (Ac (Aa 0) (Ac (Aa 1) Aj)))) (gdT K 2 [(gdN 4),(gdN 5)]) (Ag (dIf (Az (Ae (U9 K false) (Aa 4) (Aa 2))) (Ag (Mn (Dh (Ac (Aa 5) Aj)) (Eh K (Aa 3) (Aa 4)))
   Af) Af)
  Af))
 (Ag (As (Fh "box" 1 (Kx K t) (Aa 0) (Ac (Aa 3) Aj)))
 Af)))
theorem b26 (K:ac) (t:Adr):wSs 40 (Bd K a87 (Ab Vp) (Yi K t) bl) (Al Vp)=ch0 K t:=by kernel_rfl
theorem b52:Am a87 ac1 (Ab Vp):=⟨rfl,rfl,rfl,by decide +kernel,rfl,by decide +kernel,by decide +kernel⟩
theorem ca9:Ar a87 (Ab Vp)=true:=by decide +kernel
noncomputable def b79 (K:ac) (t:Adr):DS:=
 (Ag (Ap 4 (Ae B9 (Aa 2) (dUn N4 (Aa 1))))
 (Ag (Co (Bs K (dFn (spE (ap7 K t) []) (Ac (Ae B9 (Aa 1) (Aa 2)) Aj))) (gdN 5) (Ag (Ap 6 (dFn (spE (ap4 K t) []) (Ac (Ae B9 (Aa 4) (dFn (spE (ap1 K t) []) (Ac (Aa 0) (Ac (Aa 5) (Ac (Aa 3) Aj))))) Aj)))
  (Ag (dIf (Az (Ae (Va true) (Aa 6) (dC .non))) (Ag (As (Hv (Ac (Aa 5) (Ac (Aa 6) Aj))))
   Af) Af)
  Af)))
 (Ag (As (dC .non))
 Af)))
theorem bl5 (K:ac) (t:Adr):wSs 40 (Bd K Z4 (Ab Lj) (Yj K t) bl) (Al Lj)=b79 K t:=by kernel_rfl
theorem bn8:Am Z4 Ql (Ab Lj):=⟨rfl,rfl,rfl,by decide +kernel,rfl,by decide +kernel,by decide +kernel⟩
theorem br0:Ar Z4 (Ab Lj)=true:=by decide +kernel
noncomputable def a71 (K:ac) (t:Adr) (n:Nat):DS:=
 (Ag (dIf (Az (Ae (A3 K false) (Aa 1) (dC (.int 0)))) (Ag (As (Dh (Ac (Dh Aj) Aj)))
  Af) Af)
 (Ag (Ap 2 (Dh Aj))
 (Ag (Co (iEn K (Ac (Aa 0) Aj)) (gdT K 2 [(gdN 3),(gdN 4)]) (Ag (Ef (dMt (rMt K [⟨"list", "list.extend", Gc⟩]) (Aa 2) (Ac (Bg [none,some 4] (Bs K (dFn (spE (Hm K t n) []) (Ac (dSl K (Aa 0) (Do (Ae (Bb K) (Aa 3) (dC (.int 1)))) Cf) (Ac (Ae Xb (Aa 1) (dC (.int 1))) Aj)))) (gdN 0) B5 (Ae (Bb K) (Dh (Ac (Aa 1) Aj)) (Aa 0))) Aj)))
  Af))
 (Ag (As (Aa 2))
 Af))))
theorem bm8 (K:ac) (t:Adr) (n:Nat):wSs 40 (Bd K aa7 (Ab Lx) (("picks", .fn ⟨t.f_zat,t.d_zat,Ka,0+n+1,Hm K t n,[],[]⟩)::Bj K t) bl) (Al Lx)=a71 K t n:=by kernel_rfl
theorem bp1:Am aa7 Ka (Ab Lx):=⟨rfl,rfl,rfl,by decide +kernel,rfl,by decide +kernel,by decide +kernel⟩
theorem bs3:Ar aa7 (Ab Lx)=true:=by decide +kernel
noncomputable def cg9 (K:ac) (t:Adr):DS:=
 (Ag (As (dUn (Fa K) (Ae (Aq K) (dUn (De K "sets") (Aa 0)) (Aa 1))))
 Af)
theorem b25 (K:ac) (t:Adr):wSs 40 (Bd K a86 (Ab Vo) (Bj K t) bl) (Al Vo)=cg9 K t:=by kernel_rfl
theorem b51:Am a86 ac0 (Ab Vo):=⟨rfl,rfl,rfl,by decide +kernel,rfl,by decide +kernel,by decide +kernel⟩
theorem ca8:Ar a86 (Ab Vo)=true:=by decide +kernel
noncomputable def a70 (K:ac) (t:Adr) (n:Nat):DS:=
 (Ag (dIf (dOr (Az (Ae (A3 K false) (Aa 1) (dC (.int 0)))) (Az (Ae (A3 K false) (Aa 2) (dC (.int 0))))) (Ag (As (dC (.bl true)))
  Af) Af)
 (Ag (dIf (Az (Ae (A3 K false) (Aa 3) (Dh Aj))) (Ag (As (dC (.bl false)))
  Af) Af)
 (Ag (Ap 4 (dSl K (Aa 3) (Do (dC (.int 1))) Cf))
 (Ag (Co (Bs K (Fh "parted" 1 (Ie K t) (Aa 0) (Ac (Ae (Aq K) (Aa 3) (dC (.int 0))) Aj))) (gdT K 2 [(gdN 5),(gdN 6)]) (Ag (dIf (Dq (C6 K (dFn (spE (Hl K t n) []) (Ac (Aa 0) (Ac (Ae B9 (Aa 1) (Aa 6)) (Ac (Ae B9 (Aa 2) (Aa 6)) (Ac (Aa 4) Aj))))))) (Ag (As (dC (.bl false)))
   Af) Af)
  Af))
 (Ag (As (dC (.bl true)))
 Af)))))
theorem bm2 (K:ac) (t:Adr) (n:Nat):wSs 40 (Bd K aa1 (Ab Lq) (("decides", .fn ⟨t.f_zan,t.d_zan,J9,1+n+1,Hl K t n,[],[]⟩)::Eb K t) bl) (Al Lq)=a70 K t n:=by kernel_rfl
theorem bo5:Am aa1 J9 (Ab Lq):=⟨rfl,rfl,rfl,by decide +kernel,rfl,by decide +kernel,by decide +kernel⟩
theorem br7:Ar aa1 (Ab Lq)=true:=by decide +kernel
noncomputable def b80 (K:ac) (t:Adr):DS:=
 (Ag (Ap 3 (Bg [none,none] (Bs K (Fh "switches" 0 (Ek K t) (Aa 0) Aj)) (gdT K 2 [(gdN 0),(gdN 1)]) B5 (Aa 0)))
 (Ag (Co (Gg (Ac (dFn (fun vs H Q _=>(Cq K) vs H Q) (Ac (Aa 3) Aj)) Aj)) (gdN 4) (Ag (Co (Bs K (dFn (spE (ao6 K t) []) (Ac (Aa 3) (Ac (Aa 4) Aj)))) (gdN 5) (Ag (dIf (C6 K (dFn (spE (ao5 K t) []) (Ac (Aa 0) (Ac (Ae B9 (Aa 1) (Aa 2)) (Ac (Ae B9 (Aa 2) (dUn N4 (Aa 1))) (Ac (Aa 5) Aj)))))) (Ag (As (Aa 5))
    Af) Af)
   Af))
  Af))
 (Ag (As (Aa 3))
 Af)))
theorem bl6 (K:ac) (t:Adr):wSs 40 (Bd K Z5 (Ab Lk) (Yk K t) bl) (Al Lk)=b80 K t:=by kernel_rfl
theorem bn9:Am Z5 Qm (Ab Lk):=⟨rfl,rfl,rfl,by decide +kernel,rfl,by decide +kernel,by decide +kernel⟩
theorem br1:Ar Z5 (Ab Lk)=true:=by decide +kernel
noncomputable def b82 (K:ac) (t:Adr):DS:=
 (Ag (dIf (Az (Ae bk8 (Aa 1) (dFn (fun vs H Q _=>(Cq K) vs H Q) (Ac (Aa 0) Aj)))) (Ag (As (Ae (Aq K) (Aa 0) (Aa 1)))
  Af) Af)
 (Ag (As (Ae Cd (Ae (Bb K) (Aa 1) (dC (.int 3))) (dC (.int 7919))))
 Af))
theorem bl8 (K:ac) (t:Adr):wSs 40 (Bd K Z7 (Ab Lm) (Bj K t) bl) (Al Lm)=b82 K t:=by kernel_rfl
theorem bo1:Am Z7 Qo (Ab Lm):=⟨rfl,rfl,rfl,by decide +kernel,rfl,by decide +kernel,by decide +kernel⟩
theorem br3:Ar Z7 (Ab Lm)=true:=by decide +kernel
noncomputable def ci2 (K:ac) (t:Adr):DS:=
 (Ag (Ap 2 (Dh Aj))
 (Ag (Ap 3 (Ae Ca (Aa 0) (dC (.int 2))))
 (Ag (Ap 4 (Ae (Bb K) (Ae Av (Aa 0) (dC (.int 2147483629))) (dC (.int 17))))
 (Ag (Co (Gg (Ac (Aa 1) Aj)) (gdN 5) (Ag (Ap 4 (Ae Av (Ae (Bb K) (Ae (Bb K) (Ae Cd (Aa 4) (dC (.int 48271))) (Ae Cd (dC (.int 7919)) (Aa 5))) (dC (.int 1))) (dC (.int 2147483647))))
  (Ag (dIf (Kg (Az (Ae (A3 K false) (Ae Av (Aa 0) (dC (.int 2))) (dC (.int 1)))) (Kg (Az (Ae (A3 K true) (Aa 3) (dC (.int 0)))) (Az (Ae (A3 K true) (Aa 3) (dUn R7 (dC (.int 1))))))) (Ag (Ef (dMt (rMt K [⟨"list", "list.append", El⟩]) (Aa 2) (Ac (Ae Av (Aa 3) (dC (.int 268435456))) Aj)))
   (Ag (Ap 3 (Ae Ca (Aa 3) (dC (.int 268435456))))
   Af)) (Ag (Ef (dMt (rMt K [⟨"list", "list.append", El⟩]) (Aa 2) (Ac (Ae Ca (Ae Av (Ae (Bb K) (Ae Cd (Ae Av (Ae Cd (Aa 4) (Aa 4)) (dC (.int 2147483629))) (dC (.int 16807))) (Aa 5)) (dC (.int 2147483587))) (dC (.int 8))) Aj)))
   Af))
  Af)))
 (Ag (As (Aa 2))
 Af)))))
theorem b38 (K:ac) (t:Adr):wSs 40 (Bd K a99 (Ab V0) (Bj K t) bl) (Al V0)=ci2 K t:=by kernel_rfl
theorem b64:Am a99 ad3 (Ab V0):=⟨rfl,rfl,rfl,by decide +kernel,rfl,by decide +kernel,by decide +kernel⟩
theorem cc1:Ar a99 (Ab V0)=true:=by decide +kernel
noncomputable def b84 (K:ac) (t:Adr):DS:=
 (Ag (Ap 2 (dC (.str "abcdefghijklmnopqrstuvwxyz")))
 (Ag (Ap 3 (dMt (rMt K [⟨"str", "str.join", an0 K⟩]) (dC (.str "")) (Ac (Bg [none,some 0,some 2] (Gg (Ac (dC (.int 1)) (Ac (dC (.int 8)) Aj))) (gdN 0) B5 (Ae (Aq K) (Aa 2) (Ae Av (Ae (Bb K) (Ae Ca (Aa 1) (dC (.int 26))) (Ae Cd (Ae Cd (dC (.int 7)) (Aa 0)) (Aa 0))) (dC (.int 26))))) Aj)))
 (Ag (dIf (Az (Ae (A3 K false) (Ae Av (Aa 0) (dC (.int 4))) (dC (.int 3)))) (Ag (As (Ae (Bb K) (Ae (Aq K) (Aa 2) (Ae Av (Ae (Bb K) (Ae Ca (Aa 0) (dC (.int 4))) (Ae Ca (Aa 1) (dC (.int 8)))) (dC (.int 26)))) (dSl K (Aa 3) Cf (Do (Ae Av (Aa 1) (dC (.int 8)))))))
  Af) Af)
 (Ag (Ap 4 (Ae (Bb K) (dC (.int 1)) (Ae Av (Ae Ca (Aa 0) (dC (.int 4))) (dC (.int 8)))))
 (Ag (Ap 5 (Ae Av (Ae Ca (Aa 0) (dC (.int 32))) (Aa 4)))
 (Ag (Ap 6 (dSl K (Ae (Bb K) (Ae (Aq K) (Aa 2) (Ae Av (Ae Ca (Aa 0) (dC (.int 256))) (dC (.int 26)))) (Aa 3)) Cf (Do (Aa 4))))
 (Ag (As (Ae (Bb K) (Ae (Bb K) (dSl K (Aa 6) Cf (Do (Aa 5))) (Ae (Aq K) (Aa 2) (Ae Av (Ae (Bb K) (Ae Ca (Aa 0) (dC (.int 6656))) (Aa 1)) (dC (.int 26))))) (dSl K (Aa 6) (Do (Ae (Bb K) (Aa 5) (dC (.int 1)))) Cf)))
 Af)))))))
theorem bm0 (K:ac) (t:Adr):wSs 40 (Bd K Z9 (Ab Lo) (Bj K t) bl) (Al Lo)=b84 K t:=by kernel_rfl
theorem bo3:Am Z9 Qq (Ab Lo):=⟨rfl,rfl,rfl,by decide +kernel,rfl,by decide +kernel,by decide +kernel⟩
theorem br5:Ar Z9 (Ab Lo)=true:=by decide +kernel
noncomputable def ch2 (K:ac) (t:Adr):DS:=
 (Ag (Ap 1 (dFn (spE (Cv K t) []) (Ac (Aa 0) (Ac (dC (.int 0)) Aj))))
 (Ag (Ap 2 (Ae (Aq K) (Dh (Ac (dC (.int 24)) (Ac (dC (.int 256)) Aj))) (dFn (fun vs H Q _=>a06 vs H Q) (Ac (Ae (A3 K false) (Ae Av (Ae Ca (Aa 1) (dC (.int 5))) (dC (.int 8))) (dC (.int 3))) Aj))))
 (Ag (Ap 3 (Ae Cd (Ae Av (Ae Ca (dFn (spE (Cv K t) []) (Ac (Aa 0) (Ac (dC (.int 1)) Aj))) (dC (.int 3))) (dC (.int 2))) (dC (.int 5))))
 (Ag (Ap 4 (Dh Aj))
 (Ag (Ap 5 (dC (.int 1)))
 (Ag (Co (Bs K (dFn (spE (Xj K t) []) (Ac (Aa 1) (Ac (Ae (Bb K) (dC (.int 1)) (Ae Av (Aa 1) (dC (.int 5)))) Aj)))) (gdN 6) (Ag (Ap 7 (Ae (Bb K) (dC (.int 2)) (Ae Av (Aa 6) (dC (.int 3)))))
  (Ag (dIf (Az (Ae Zb (Ae Cd (Aa 5) (Aa 7)) (Aa 2))) (Ag (Ap 7 (dC (.int 2)))
   Af) Af)
  (Ag (dIf (Az (Ae Gh (Ae Cd (Aa 5) (Aa 7)) (Aa 2))) (Ag (Ap 5 (Ae Cd (Aa 5) (Aa 7)))
   (Ag (Ap 8 (Bg [none,some 0,some 3] (Gg (Ac (Aa 7) Aj)) (gdN 0) B5 (dFn (spE (Ir K t) []) (Ac (dFn (spE (Cv K t) []) (Ac (Aa 1) (Ac (dC (.int 1)) Aj))) (Ac (Ae (Bb K) (Aa 2) (Aa 0)) Aj)))))
   (Ag (Ef (dMt (rMt K [⟨"list", "list.append", El⟩]) (Aa 4) (Ac (Hv (Ac (dFn (spE (Ir K t) []) (Ac (dFn (spE (Cv K t) []) (Ac (Aa 0) (Ac (dC (.int 1)) Aj))) (Ac (dFn (fun vs H Q _=>(Cq K) vs H Q) (Ac (Aa 4) Aj)) Aj))) (Ac (Aa 8) Aj))) Aj)))
   Af))) Af)
  Af))))
 (Ag (As (Aa 4))
 Af)))))))
theorem b28 (K:ac) (t:Adr):wSs 40 (Bd K a89 (Ab Vr) (Eb K t) bl) (Al Vr)=ch2 K t:=by kernel_rfl
theorem b54:Am a89 ac3 (Ab Vr):=⟨rfl,rfl,rfl,by decide +kernel,rfl,by decide +kernel,by decide +kernel⟩
theorem cb1:Ar a89 (Ab Vr)=true:=by decide +kernel
noncomputable def ci1 (K:ac) (t:Adr):DS:=
 (Ag (Ap 1 (Dh (Ac (Dh Aj) Aj)))
 (Ag (Co (Bs K (Aa 0)) (gdT K 2 [(gdN 2),(gdN 3)]) (Ag (Ap 4 (Dh Aj))
  (Ag (Co (Bs K (Aa 1)) (gdN 5) (Ag (Ef (dMt (rMt K [⟨"list", "list.extend", Gc⟩]) (Aa 4) (Ac (Bg [none,some 5] (Gg (Ac (dFn (fun vs H Q _=>(Cq K) vs H Q) (Ac (Aa 3) Aj)) Aj)) (gdN 0) B5 (Ae (Bb K) (Aa 1) (Dh (Ac (Aa 0) Aj)))) Aj)))
   Af))
  (Ag (Ap 1 (Aa 4))
  Af))))
 (Ag (As (Aa 1))
 Af)))
theorem b37 (K:ac) (t:Adr):wSs 40 (Bd K a98 (Ab Vz) (Bj K t) bl) (Al Vz)=ci1 K t:=by kernel_rfl
theorem b63:Am a98 ad2 (Ab Vz):=⟨rfl,rfl,rfl,by decide +kernel,rfl,by decide +kernel,by decide +kernel⟩
theorem cc0:Ar a98 (Ab Vz)=true:=by decide +kernel
noncomputable def ch4 (K:ac) (t:Adr):DS:=
 (Ag (Ap 1 G7)
 (Ag (Co (Bs K (Aa 0)) (gdN 2) (Ag (Mn (dFn (fun vs H Q _=>(Ds K) vs H Q) (Ac (Ae (Aq K) (Aa 0) (Aa 2)) Aj)) (Eh K (Aa 1) (Aa 2)))
  Af))
 (Ag (As (Aa 1))
 Af)))
theorem b30 (K:ac) (t:Adr):wSs 40 (Bd K a91 (Ab Vt) (Bj K t) bl) (Al Vt)=ch4 K t:=by kernel_rfl
theorem b56:Am a91 ac5 (Ab Vt):=⟨rfl,rfl,rfl,by decide +kernel,rfl,by decide +kernel,by decide +kernel⟩
theorem cb3:Ar a91 (Ab Vt)=true:=by decide +kernel
noncomputable def cg5 (K:ac) (t:Adr):DS:=
 (Ag (dIf (dOr (Dq (C6 K (dFn (fun vs H Q _=>(Fs K) vs H Q) (Ac (Aa 1) (Ac (dC (.ty "dict")) Aj))))) (Az (Ae (A3 K false) (dFn (fun vs H Q _=>(Cq K) vs H Q) (Ac (Aa 1) Aj)) (dC (.int 0))))) (Ag (C5 K (dFn (fun vs H Q E=>vs.length<=1000/\mkX t.c_zbb none 0 vs H Q E) (Ac (dC (.str "a rule is no dict, or has no entry")) Aj)))
  Af) Af)
 (Ag (bb0 K (Ag (Ef (Fh "box" 1 (Kx K t) (Aa 0) (Ac (Aa 1) Aj)))
  Af) [(t.c_zbd,.up t.c_zbb,(Ag Ck
  Af))])
 (Ag (As (dFn (spE (ap5 K t) []) (Ac (Aa 1) Aj)))
 Af)))
theorem b21 (K:ac) (t:Adr):wSs 40 (Bd K a82 (Ab Vk) (Yi K t) bl) (Al Vk)=cg5 K t:=by kernel_rfl
theorem b47:Am a82 ab6 (Ab Vk):=⟨rfl,rfl,rfl,by decide +kernel,rfl,by decide +kernel,by decide +kernel⟩
theorem ca4:Ar a82 (Ab Vk)=true:=by decide +kernel
noncomputable def cg2 (K:ac) (t:Adr):DS:=
 (Ag (dIf (Az (Ae (Va false) (Aa 1) (dC .non))) (Ag (As (Dh Aj))
  Af) Af)
 (Ag (dIf (dOr (Dq (C6 K (dFn (fun vs H Q _=>(Fs K) vs H Q) (Ac (Aa 1) (Ac (dC (.ty "list")) Aj))))) (Az (Ae Zb (dFn (fun vs H Q _=>(Cq K) vs H Q) (Ac (Aa 1) Aj)) (dC (.int 8))))) (Ag (C5 K (dFn (fun vs H Q E=>vs.length<=1000/\mkX t.c_zbb none 0 vs H Q E) (Ac (dC (.str "the rules are no list of at most eight")) Aj)))
  Af) Af)
 (Ag (As (Bg [none,some 0] (Bs K (Aa 1)) (gdN 0) B5 (Fh "read_rule" 1 (E8 K t) (Aa 1) (Ac (Aa 0) Aj))))
 Af)))
theorem b18 (K:ac) (t:Adr):wSs 40 (Bd K a79 (Ab Vh) (Yj K t) bl) (Al Vh)=cg2 K t:=by kernel_rfl
theorem b44:Am a79 ab3 (Ab Vh):=⟨rfl,rfl,rfl,by decide +kernel,rfl,by decide +kernel,by decide +kernel⟩
theorem ca1:Ar a79 (Ab Vh)=true:=by decide +kernel
noncomputable def b75 (K:ac) (t:Adr):DS:=
 (Ag (dIf (dOr (Dq (C6 K (dFn (fun vs H Q _=>(Fs K) vs H Q) (Ac (Aa 0) (Ac (dC (.ty "tuple")) Aj))))) (dOr (Az (Ae (A3 K true) (dFn (fun vs H Q _=>(Cq K) vs H Q) (Ac (Aa 0) Aj)) (dC (.int 2)))) (Dq (C6 K (dFn (spE (P0 K t) []) (Ac (Ae (Aq K) (Aa 0) (dC (.int 0))) Aj)))))) (Ag (As (dC (.bl false)))
  Af) Af)
 (Ag (As (M9 K (dFn (spE (Xi K t) []) (Ac (Ae (Aq K) (Aa 0) (dC (.int 1))) Aj)) (Dx Gh Gh (dC (.int 2)) (dFn (fun vs H Q _=>(Cq K) vs H Q) (Ac (Ae (Aq K) (Aa 0) (dC (.int 1))) Aj)) (dC (.int 4)))))
 Af))
theorem bl1 (K:ac) (t:Adr):wSs 40 (Bd K Z0 (Ab Le) (Ri K t) bl) (Al Le)=b75 K t:=by kernel_rfl
theorem bn4:Am Z0 Qh (Ab Le):=⟨rfl,rfl,rfl,by decide +kernel,rfl,by decide +kernel,by decide +kernel⟩
theorem bq6:Ar Z0 (Ab Le)=true:=by decide +kernel
noncomputable def cg8 (K:ac) (t:Adr):DS:=
 (Ag (dIf (dOr (Dq (C6 K (dFn (fun vs H Q _=>(Fs K) vs H Q) (Ac (Aa 0) (Ac (dC (.ty "list")) Aj))))) (Dq (Az (Dx Gh Gh (dC (.int 1)) (dFn (fun vs H Q _=>(Cq K) vs H Q) (Ac (Aa 0) Aj)) (dC (.int 5)))))) (Ag (C5 K (dFn (fun vs H Q E=>vs.length<=1000/\mkX t.c_zbb none 0 vs H Q E) (Ac (dC (.str "the switches are no list of one to five")) Aj)))
  Af) Af)
 (Ag (Ap 1 G7)
 (Ag (Ap 2 (dC (.int 1)))
 (Ag (Co (Bs K (Aa 0)) (gdN 3) (Ag (dIf (dOr (Dq (C6 K (dFn (spE (V6 K t) []) (Ac (Aa 3) Aj)))) (Az (Ae (U9 K false) (Ae (Aq K) (Aa 3) (dC (.int 0))) (Aa 1)))) (Ag (C5 K (dFn (fun vs H Q E=>vs.length<=1000/\mkX t.c_zbb none 0 vs H Q E) (Ac (dC (.str "this is no switch, or it stands there twice")) Aj)))
   Af) Af)
  (Ag (Mn (dFn (fun vs H Q _=>(Io K) vs H Q) (Ac (Ae (Aq K) (Aa 3) (dC (.int 1))) Aj)) (Eh K (Aa 1) (Ae (Aq K) (Aa 3) (dC (.int 0)))))
  (Ag (Ap 2 (Ae Cd (Aa 2) (dFn (fun vs H Q _=>(Cq K) vs H Q) (Ac (Ae (Aq K) (Aa 3) (dC (.int 1))) Aj))))
  Af))))
 (Ag (dIf (Az (Ae Zb (Aa 2) (dC (.int 256)))) (Ag (C5 K (dFn (fun vs H Q E=>vs.length<=1000/\mkX t.c_zbb none 0 vs H Q E) (Ac (dC (.str "there are too many choices")) Aj)))
  Af) Af)
 (Ag (As (Aa 1))
 Af))))))
theorem b24 (K:ac) (t:Adr):wSs 40 (Bd K a85 (Ab Vn) (Yh K t) bl) (Al Vn)=cg8 K t:=by kernel_rfl
theorem b50:Am a85 ab9 (Ab Vn):=⟨rfl,rfl,rfl,by decide +kernel,rfl,by decide +kernel,by decide +kernel⟩
theorem ca7:Ar a85 (Ab Vn)=true:=by decide +kernel
noncomputable def cf9 (K:ac) (t:Adr):DS:=
 (Ag (Ap 1 (Dh (Ac (Hv Aj) Aj)))
 (Ag (Co (Bs K (Aa 0)) (gdN 2) (Ag (Ap 3 (Dh Aj))
  (Ag (Co (Bs K (Aa 1)) (gdN 4) (Ag (Ef (dMt (rMt K [⟨"list", "list.extend", Gc⟩]) (Aa 3) (Ac (Bg [none,some 4] (Bs K (Ae (Aq K) (Aa 0) (Aa 2))) (gdN 0) B5 (Ae (Bb K) (Aa 1) (Hv (Ac (Aa 0) Aj)))) Aj)))
   Af))
  (Ag (Ap 1 (Aa 3))
  Af))))
 (Ag (As (Aa 1))
 Af)))
theorem b15 (K:ac) (t:Adr):wSs 40 (Bd K a76 (Ab Ve) (Bj K t) bl) (Al Ve)=cf9 K t:=by kernel_rfl
theorem b41:Am a76 ab0 (Ab Ve):=⟨rfl,rfl,rfl,by decide +kernel,rfl,by decide +kernel,by decide +kernel⟩
theorem b98:Ar a76 (Ab Ve)=true:=by decide +kernel
noncomputable def cf8 (K:ac) (t:Adr):DS:=
 (Ag (Ap 1 G7)
 (Ag (Co (iEn K (Ac (Aa 0) Aj)) (gdT K 2 [(gdN 2),(gdN 3)]) (Ag (Mn (Aa 2) (Eh K (Aa 1) (Aa 3)))
  Af))
 (Ag (As (Aa 1))
 Af)))
theorem b13 (K:ac) (t:Adr):wSs 40 (Bd K a75 (Ab Vd) (Bj K t) bl) (Al Vd)=cf8 K t:=by kernel_rfl
theorem b40:Am a75 aa9 (Ab Vd):=⟨rfl,rfl,rfl,by decide +kernel,rfl,by decide +kernel,by decide +kernel⟩
theorem b97:Ar a75 (Ab Vd)=true:=by decide +kernel
noncomputable def b90 (K:ac) (t:Adr):DS:=
 (Ag (Ap 1 (dC (.int 0)))
 (Ag (Co (Bs K (Aa 0)) (gdN 2) (Ag (Ap 1 (Ae an1 (Aa 1) (Ae Jh (dC (.int 1)) (Aa 2))))
  Af))
 (Ag (As (Aa 1))
 Af)))
theorem bm7 (K:ac) (t:Adr):wSs 40 (Bd K aa6 (Ab Lw) (Bj K t) bl) (Al Lw)=b90 K t:=by kernel_rfl
theorem bp0:Am aa6 Qw (Ab Lw):=⟨rfl,rfl,rfl,by decide +kernel,rfl,by decide +kernel,by decide +kernel⟩
theorem bs2:Ar aa6 (Ab Lw)=true:=by decide +kernel
noncomputable def cg4 (K:ac) (t:Adr):DS:=
 (Ag (Ap 2 G7)
 (Ag (Co (iEn K (Ac (Aa 0) Aj)) (gdT K 2 [(gdN 3),(gdN 4)]) (Ag (Mn G7 (Eh K (Aa 2) (Aa 4)))
  (Ag (Co (Bs K (Ae (Aq K) (Aa 0) (Aa 4))) (gdN 5) (Ag (Ap 6 (Bg [none,none,some 3,some 5] (iEn K (Ac (Aa 1) Aj)) (gdT K 2 [(gdN 0),(gdN 1)]) (Az (Ae (A3 K false) (Ae (Aq K) (Aa 1) (Aa 2)) (Aa 3))) (Aa 0)))
   (Ag (Mn (dFn (spE (V9 K t) []) (Ac (Aa 6) Aj)) (Eh K (Ae (Aq K) (Aa 2) (Aa 4)) (Aa 5)))
   Af)))
  Af)))
 (Ag (As (Aa 2))
 Af)))
theorem b20 (K:ac) (t:Adr):wSs 40 (Bd K a81 (Ab Vj) (Eb K t) bl) (Al Vj)=cg4 K t:=by kernel_rfl
theorem b46:Am a81 ab5 (Ab Vj):=⟨rfl,rfl,rfl,by decide +kernel,rfl,by decide +kernel,by decide +kernel⟩
theorem ca3:Ar a81 (Ab Vj)=true:=by decide +kernel
noncomputable def ch5 (K:ac) (t:Adr):DS:=
 (Ag (Ou K "settings" (Aa 0) (dFn (spE (ap0 K t) []) (Ac (Aa 1) Aj)))
 (Ag (Ou K "tuples" (Aa 0) (dFn (spE (ao7 K t) []) (Ac (dUn (De K "settings") (Aa 0)) Aj)))
 (Ag (Ou K "numbers" (Aa 0) (dFn (spE (ao3 K t) []) (Ac (dUn (De K "tuples") (Aa 0)) Aj)))
 (Ag (Ou K "sets" (Aa 0) (dFn (spE (ao8 K t) []) (Ac (dUn (De K "settings") (Aa 0)) (Ac (dUn (De K "tuples") (Aa 0)) Aj))))
 (Ag (Ou K "kept_rules" (Aa 0) (Fh "read_rules" 1 (En K t) (Aa 0) (Ac (Aa 2) Aj)))
 (Ag (Ou K "bars" (Aa 0) (Bg [none,some 0] (Bs K (dUn (De K "kept_rules") (Aa 0))) (gdN 0) B5 (Fh "box" 1 (Kx K t) (Aa 1) (Ac (Aa 0) Aj))))
 (Ag (Ou K "free" (Aa 0) (Ae B9 (Fh "all_choices" 0 (Ct K t) (Aa 0) Aj) (dUn N4 (dFn (spE (Pz K t) []) (Ac (dUn (De K "bars") (Aa 0)) Aj)))))
 (Ag (dIf (Az (Ae (A3 K false) (dUn (De K "free") (Aa 0)) (dC (.int 0)))) (Ag (C5 K (dFn (fun vs H Q E=>vs.length<=1000/\mkX t.c_zbc none 0 vs H Q E) (Ac (dC (.str "the rules bar every choice")) Aj)))
  Af) Af)
 Af))))))))
theorem b31 (K:ac) (t:Adr):wSs 40 (Bd K a92 (Ab Ip) (Yk K t) bl) (Al Ip)=ch5 K t:=by kernel_rfl
theorem b57:Am a92 ac6 (Ab Ip):=⟨rfl,rfl,rfl,by decide +kernel,rfl,by decide +kernel,by decide +kernel⟩
theorem cb4:Ar a92 (Ab Ip)=true:=by decide +kernel
noncomputable def b78 (K:ac) (t:Adr):DS:=
 (Ag (Ap 2 (Dh Aj))
 (Ag (dIf (Az (Ae (A3 K false) (Ae Av (dFn (spE (Cv K t) []) (Ac (Aa 0) (Ac (dC (.int 2)) Aj))) (dC (.int 3))) (dC (.int 1)))) (Ag (Ap 2 (Dh (Ac (ae6 [((Ae (Aq K) (Ae (Aq K) (Aa 1) (dC (.int 0))) (dC (.int 0))),(Dh (Ac (Ae (Aq K) (Ae (Aq K) (Ae (Aq K) (Aa 1) (dC (.int 0))) (dC (.int 1))) (dC (.int 0))) Aj)))]) Aj)))
  Af) Af)
 (Ag (dIf (Az (Ae (A3 K false) (Ae Av (dFn (spE (Cv K t) []) (Ac (Aa 0) (Ac (dC (.int 2)) Aj))) (dC (.int 3))) (dC (.int 2)))) (Ag (Ap 2 (dC .non))
  Af) Af)
 (Ag (As (dFn (mkC t.c_zbe (some (ag9 K t)) 1) (Ac (Bg [none,none] (Bs K (Aa 1)) (gdT K 2 [(gdN 0),(gdN 1)]) B5 (Hv (Ac (Aa 0) (Ac (dFn (fun vs H Q _=>(Ds K) vs H Q) (Ac (Aa 1) Aj)) Aj)))) (Ac (Aa 2) Aj))))
 Af))))
theorem bl4 (K:ac) (t:Adr):wSs 40 (Bd K Z3 (Ab Li) (av0 K t) bl) (Al Li)=b78 K t:=by kernel_rfl
theorem bn7:Am Z3 Qk (Ab Li):=⟨rfl,rfl,rfl,by decide +kernel,rfl,by decide +kernel,by decide +kernel⟩
theorem bq9:Ar Z3 (Ab Li)=true:=by decide +kernel
noncomputable def b87 (K:ac) (t:Adr):DS:=
 (Ag (Ap 3 (dC (.int 0)))
 (Ag (Co (Gg (Ac (Aa 2) Aj)) (gdN 4) (Ag (Ap 3 (Ae (Bb K) (Ae Cd (dC (.int 4)) (Aa 3)) (Ae (Aq K) (Aa 0) (Ae Av (Ae (Aq K) (Aa 1) (Aa 4)) (dFn (fun vs H Q _=>(Cq K) vs H Q) (Ac (Aa 0) Aj))))))
  Af))
 (Ag (As (Aa 3))
 Af)))
theorem bm4 (K:ac) (t:Adr):wSs 40 (Bd K aa3 (Ab Ls) (Bj K t) bl) (Al Ls)=b87 K t:=by kernel_rfl
theorem bo7:Am aa3 Qt (Ab Ls):=⟨rfl,rfl,rfl,by decide +kernel,rfl,by decide +kernel,by decide +kernel⟩
theorem br9:Ar aa3 (Ab Ls)=true:=by decide +kernel
noncomputable def b88 (K:ac) (t:Adr):DS:=
 (Ag (dIf (Kg (Az (Ae (A3 K false) (Ae Av (Aa 1) (dC (.int 2))) (dC (.int 1)))) (Dq (Az (Dx Gh Gh (dUn R7 (dC (.int 1))) (Ae D8 (Ae Ca (Aa 1) (dC (.int 2))) (dFn (fun vs H Q _=>(Cq K) vs H Q) (Ac (Aa 0) Aj))) (dC (.int 0)))))) (Ag (As (Ae Av (Ae Ca (Aa 1) (dC (.int 2))) (Ae Jh (dC (.int 1)) (dFn (fun vs H Q _=>(Cq K) vs H Q) (Ac (Aa 0) Aj)))))
  Af) Af)
 (Ag (Ap 2 (dFn (spE (Xj K t) []) (Ac (Ae Ca (Aa 1) (dC (.int 2))) (Ac (dC (.int 8)) Aj))))
 (Ag (Ap 3 (dC (.int 0)))
 (Ag (Co (Gg (Ac (dFn (fun vs H Q _=>(Cq K) vs H Q) (Ac (Aa 0) Aj)) Aj)) (gdN 4) (Ag (Ap 5 (Ae (A3 K false) (Ae Av (Ae Av (Ae Av (Ae Cd (Ae (Bb K) (Ae (Aq K) (Aa 2) (dC (.int 4))) (Ae Cd (dC (.int 7919)) (Aa 4))) (dC (.int 48271))) (dC (.int 2147483647))) (dC (.int 1009))) (dC (.int 2))) (dC (.int 1))))
  (Ag (dIf (Az (Ae (A3 K false) (Ae Av (Ae (Aq K) (Aa 2) (dC (.int 0))) (dC (.int 6))) (dC (.int 1)))) (Ag (Ap 5 (Ae (A3 K false) (Ae B9 (Ae D8 (Ae (Aq K) (Aa 2) (dC (.int 4))) (dFn (spE (Fb K t) []) (Ac (Ae (Aq K) (Aa 0) (Aa 4)) (Ac (dSl K (Aa 2) (Do (dC (.int 1))) Cf) (Ac (dC (.int 1)) Aj))))) (dC (.int 1))) (dC (.int 1))))
   Af) Af)
  (Ag (dIf (Az (Ae (A3 K false) (Ae Av (Ae (Aq K) (Aa 2) (dC (.int 0))) (dC (.int 6))) (dC (.int 2)))) (Ag (Ap 5 (Ae (A3 K false) (Ae B9 (Ae D8 (Ae (Aq K) (Aa 2) (dC (.int 4))) (dFn (spE (Fb K t) []) (Ac (Ae (Aq K) (Aa 0) (Aa 4)) (Ac (dSl K (Aa 2) (Do (dC (.int 1))) Cf) (Ac (dC (.int 2)) Aj))))) (dC (.int 1))) (dC (.int 1))))
   Af) Af)
  (Ag (dIf (Az (Ae (A3 K false) (Ae Av (Ae (Aq K) (Aa 2) (dC (.int 0))) (dC (.int 6))) (dC (.int 3)))) (Ag (Ap 6 (Ae (Bb K) (Ae (Bb K) (Ae Cd (Ae (Aq K) (Aa 2) (dC (.int 4))) (Ae R8 (dC (.int 2)) (dC (.int 56)))) (Ae Cd (Ae (Aq K) (Aa 2) (dC (.int 5))) (Ae R8 (dC (.int 2)) (dC (.int 28))))) (Ae (Aq K) (Aa 2) (dC (.int 6)))))
   (Ag (Ap 5 (Ae (A3 K false) (Ae B9 (Ae D8 (Aa 6) (dFn (spE (Fb K t) []) (Ac (Ae (Aq K) (Aa 0) (Aa 4)) (Ac (dSl K (Aa 2) (Do (dC (.int 1))) Cf) (Ac (dC (.int 3)) Aj))))) (dC (.int 1))) (dC (.int 1))))
   Af)) Af)
  (Ag (dIf (Az (Ae (A3 K false) (Ae Av (Ae (Aq K) (Aa 2) (dC (.int 0))) (dC (.int 6))) (dC (.int 4)))) (Ag (Ap 5 (Ae (A3 K false) (Ae (A3 K false) (Aa 4) (Ae Av (Ae (Aq K) (Aa 2) (dC (.int 4))) (dFn (fun vs H Q _=>(Cq K) vs H Q) (Ac (Aa 0) Aj)))) (Ae (A3 K false) (Ae Av (Ae (Aq K) (Aa 2) (dC (.int 5))) (dC (.int 2))) (dC (.int 1)))))
   Af) Af)
  (Ag (dIf (Kg (Az (Ae (A3 K false) (Ae Av (Ae (Aq K) (Aa 2) (dC (.int 0))) (dC (.int 6))) (dC (.int 5)))) (Az (Ae Zb (Ae Av (Ae (Aq K) (Aa 2) (dC (.int 5))) (dC (.int 3))) (dC (.int 0))))) (Ag (Ap 5 (Ae (A3 K false) (Ae Av (Ae (Aq K) (Aa 2) (dC (.int 5))) (dC (.int 3))) (dC (.int 1))))
   Af) Af)
  (Ag (dIf (C6 K (Aa 5)) (Ag (Ap 3 (Ae an1 (Aa 3) (Ae Jh (dC (.int 1)) (Aa 4))))
   Af) Af)
  Af))))))))
 (Ag (As (Aa 3))
 Af)))))
theorem bm5 (K:ac) (t:Adr):wSs 40 (Bd K aa4 (Ab Lu) (Eb K t) bl) (Al Lu)=b88 K t:=by kernel_rfl
theorem bo8:Am aa4 Qu (Ab Lu):=⟨rfl,rfl,rfl,by decide +kernel,rfl,by decide +kernel,by decide +kernel⟩
theorem bs0:Ar aa4 (Ab Lu)=true:=by decide +kernel
noncomputable def ci3 (K:ac) (t:Adr):DS:=
 (Ag (dIf (Az (Ae (A3 K false) (Ae Av (Aa 1) (dC (.int 2))) (dC (.int 0)))) (Ag (As (Ae Xb (Ae Jh (dC (.int 1)) (dFn (fun vs H Q _=>(Cq K) vs H Q) (Ac (Aa 0) Aj))) (dC (.int 1))))
  Af) Af)
 (Ag (As (dFn (spE (P1 K t) []) (Ac (Aa 0) (Ac (Ae Ca (Aa 1) (dC (.int 2))) Aj))))
 Af))
theorem b39 (K:ac) (t:Adr):wSs 40 (Bd K ba0 (Ab V1) (Rh K t) bl) (Al V1)=ci3 K t:=by kernel_rfl
theorem b65:Am ba0 ad4 (Ab V1):=⟨rfl,rfl,rfl,by decide +kernel,rfl,by decide +kernel,by decide +kernel⟩
theorem cc2:Ar ba0 (Ab V1)=true:=by decide +kernel
noncomputable def b83 (K:ac) (t:Adr):DS:=
 (Ag (Ap 4 G7)
 (Ag (Co (Gg (Ac (dFn (fun vs H Q _=>(Cq K) vs H Q) (Ac (Aa 0) Aj)) Aj)) (gdN 5) (Ag (dIf (Kg (Az (Ae (A3 K false) (Ae B9 (Ae D8 (Aa 2) (Aa 5)) (dC (.int 1))) (dC (.int 1)))) (Az (Ae (A3 K false) (Ae B9 (Ae D8 (Aa 1) (Aa 5)) (dC (.int 1))) (dC (.int 0))))) (Ag (Ef (dMt (rMt K [⟨"dict", "dict.setdefault", J0⟩]) (Aa 4) (Ac (dFn (fun vs H Q _=>(Io K) vs H Q) (Ac (Bg [none,some 5,some 0] (Bs K (Aa 3)) (gdN 0) B5 (Ae (Aq K) (Ae (Aq K) (Aa 2) (Aa 1)) (Aa 0))) Aj)) (Ac (Aa 5) Aj))))
   Af) Af)
  Af))
 (Ag (Co (Gg (Ac (dFn (fun vs H Q _=>(Cq K) vs H Q) (Ac (Aa 0) Aj)) Aj)) (gdN 5) (Ag (Ap 6 (dFn (fun vs H Q _=>(Io K) vs H Q) (Ac (Bg [none,some 5,some 0] (Bs K (Aa 3)) (gdN 0) B5 (Ae (Aq K) (Ae (Aq K) (Aa 2) (Aa 1)) (Aa 0))) Aj)))
  (Ag (dIf (Kg (Az (Ae (A3 K false) (Ae B9 (Ae D8 (Aa 2) (Aa 5)) (dC (.int 1))) (dC (.int 1)))) (Kg (Az (Ae (A3 K false) (Ae B9 (Ae D8 (Aa 1) (Aa 5)) (dC (.int 1))) (dC (.int 1)))) (Az (Ae (U9 K false) (Aa 6) (Aa 4))))) (Ag (As (Hv (Ac (Aa 5) (Ac (Ae (Aq K) (Aa 4) (Aa 6)) Aj))))
   Af) Af)
  Af)))
 (Ag (As (dC .non))
 Af))))
theorem bl9 (K:ac) (t:Adr):wSs 40 (Bd K Z8 (Ab Ln) (Bj K t) bl) (Al Ln)=b83 K t:=by kernel_rfl
theorem bo2:Am Z8 Qp (Ab Ln):=⟨rfl,rfl,rfl,by decide +kernel,rfl,by decide +kernel,by decide +kernel⟩
theorem br4:Ar Z8 (Ab Ln)=true:=by decide +kernel
noncomputable def b77 (K:ac) (t:Adr):DS:=
 (Ag (Ap 1 (Dh Aj))
 (Ag (Co (Gg (Ac (Ae Jh (dC (.int 1)) (Aa 0)) Aj)) (gdN 2) (Ag (Ap 3 (Bg [none,some 2] (Gg (Ac (Aa 0) Aj)) (gdN 0) (Az (Ae (A3 K false) (Ae B9 (Ae D8 (Aa 1) (Aa 0)) (dC (.int 1))) (dC (.int 1)))) (Aa 0)))
  (Ag (Ef (dMt (rMt K [⟨"list", "list.append", El⟩]) (Aa 1) (Ac (Hv (Ac (dFn (fun vs H Q _=>(Cq K) vs H Q) (Ac (Aa 3) Aj)) (Ac (Aa 3) Aj))) Aj)))
  Af)))
 (Ag (As (Bg [none] (Bs K (dFn (fun vs H Q _=>(J1 K) vs H Q) (Ac (Aa 1) Aj))) (gdN 0) B5 (Ae (Aq K) (Aa 0) (dC (.int 1)))))
 Af)))
theorem bl3 (K:ac) (t:Adr):wSs 40 (Bd K Z2 (Ab Lg) (Bj K t) bl) (Al Lg)=b77 K t:=by kernel_rfl
theorem bn6:Am Z2 Qj (Ab Lg):=⟨rfl,rfl,rfl,by decide +kernel,rfl,by decide +kernel,by decide +kernel⟩
theorem bq8:Ar Z2 (Ab Lg)=true:=by decide +kernel
noncomputable def ch1 (K:ac) (t:Adr):DS:=
 (Ag (Co (Bs K (dFn (spE (Pw K t) []) (Ac (Aa 3) Aj))) (gdN 4) (Ag (dIf (Az (Ae (Va false) (dFn (spE (L6 K t) []) (Ac (Aa 0) (Ac (Aa 1) (Ac (Aa 2) (Ac (Aa 4) Aj))))) (dC .non))) (Ag (As (Aa 4))
   Af) Af)
  Af))
 (Ag (As (dC .non))
 Af))
theorem b27 (K:ac) (t:Adr):wSs 40 (Bd K a88 (Ab Vq) (Eb K t) bl) (Al Vq)=ch1 K t:=by kernel_rfl
theorem b53:Am a88 ac2 (Ab Vq):=⟨rfl,rfl,rfl,by decide +kernel,rfl,by decide +kernel,by decide +kernel⟩
theorem cb0:Ar a88 (Ab Vq)=true:=by decide +kernel
noncomputable def b76 (K:ac) (t:Adr):DS:=
 (Ag (dIf (Az (Ae (Va false) (Aa 1) (dC .non))) (Ag (As (Ae (Va false) (Aa 0) (dC .non)))
  Af) Af)
 (Ag (dIf (dOr (Dq (C6 K (dFn (fun vs H Q _=>(Fs K) vs H Q) (Ac (Aa 0) (Ac (dC (.ty "tuple")) Aj))))) (Az (Ae (A3 K true) (Aa 0) (Aa 1)))) (Ag (As (dC (.bl false)))
  Af) Af)
 (Ag (As (Ae (A3 K false) (dFn (fun vs H Q _=>(Cq K) vs H Q) (Ac (Bg [none] (Bs K (Aa 0)) (gdN 0) (Kg (C6 K (dFn (fun vs H Q _=>(Fs K) vs H Q) (Ac (Aa 0) (Ac (dC (.ty "int")) Aj)))) (Dq (C6 K (dFn (fun vs H Q _=>(Fs K) vs H Q) (Ac (Aa 0) (Ac (dC (.ty "bool")) Aj)))))) (Aa 0)) Aj)) (dC (.int 2))))
 Af)))
theorem bl2 (K:ac) (t:Adr):wSs 40 (Bd K Z1 (Ab Lf) (Bj K t) bl) (Al Lf)=b76 K t:=by kernel_rfl
theorem bn5:Am Z1 Qi (Ab Lf):=⟨rfl,rfl,rfl,by decide +kernel,rfl,by decide +kernel,by decide +kernel⟩
theorem bq7:Ar Z1 (Ab Lf)=true:=by decide +kernel
noncomputable def b91 (K:ac) (t:Adr):DS:=
 (Ag (Ap 1 (dFn (spE (ap3 K t) []) (Ac (Aa 0) Aj)))
 (Ag (Ap 2 (Bg [none,none] (Bs K (Aa 1)) (gdT K 2 [(gdN 0),(gdN 1)]) B5 (Aa 0)))
 (Ag (Ap 3 (dFn (spE (ap9 K t) []) (Ac (Aa 1) Aj)))
 (Ag (Ap 4 (dFn (spE (V7 K t) []) (Ac (Aa 0) (Ac (Aa 1) Aj))))
 (Ag (Ap 5 (dFn (spE (P1 K t) []) (Ac (Aa 3) (Ac (dFn (spE (Cv K t) []) (Ac (Aa 0) (Ac (dC (.int 3)) Aj))) Aj))))
 (Ag (Ap 6 (dFn (spE (aq0 K t) []) (Ac (Aa 3) (Ac (dFn (spE (Cv K t) []) (Ac (Aa 0) (Ac (dC (.int 4)) Aj))) Aj))))
 (Ag (Co (Bs K (dFn (spE (Pw K t) []) (Ac (dFn (fun vs H Q _=>(Cq K) vs H Q) (Ac (Aa 2) Aj)) Aj))) (gdN 7) (Ag (Ap 8 (Bg [none,some 2] (Bs K (Aa 7)) (gdN 0) B5 (Ae (Aq K) (Aa 1) (Aa 0))))
  (Ag (dIf (Az (Ae (A3 K false) (Ae Av (dFn (spE (Cv K t) []) (Ac (Aa 0) (Ac (dC (.int 5)) Aj))) (dC (.int 2))) (dC (.int 1)))) (Ag (Ap 8 (dUn (K8 K) (Aa 8)))
   Af) Af)
  (Ag (Ap 9 (dFn (fun vs H Q _=>(Ds K) vs H Q) (Ac (Aa 8) Aj)))
  (Ag (dIf (Dq (C6 K (dFn (spE (Pu K t) []) (Ac (dFn (spE (Px K t) []) (Ac (Aa 4) (Ac (Aa 5) (Ac (Aa 6) (Ac (Aa 9) Aj))))) (Ac (dFn (spE (L6 K t) []) (Ac (Aa 3) (Ac (Aa 5) (Ac (Aa 6) (Ac (Aa 7) Aj))))) Aj))))) (Ag (As (dC (.bl false)))
   Af) Af)
  (Ag (dIf (Az (Ae (A3 K true) (Aa 9) (Aa 8))) (Ag (As (dC (.bl false)))
   Af) Af)
  Af))))))
 (Ag (Ap 10 (Bg [none,some 2] (Bs K (dFn (spE (ap2 K t) []) (Ac (Aa 3) (Ac (Aa 5) (Ac (Aa 6) (Ac (dFn (fun vs H Q _=>(Cq K) vs H Q) (Ac (Aa 2) Aj)) Aj)))))) (gdN 0) B5 (Ae (Aq K) (Aa 1) (Aa 0))))
 (Ag (Ap 11 (dFn (spE (Py K t) []) (Ac (Aa 4) (Ac (Aa 5) (Ac (Aa 6) Aj)))))
 (Ag (dIf (dOr (Dq (C6 K (dFn (fun vs H Q _=>(Fs K) vs H Q) (Ac (Aa 11) (Ac (dC (.ty "list")) Aj))))) (Az (Ae (A3 K true) (Aa 11) (Aa 10)))) (Ag (As (dC (.bl false)))
  Af) Af)
 (Ag (Ef (dMt (rMt K [⟨"list", "list.clear", U8⟩,⟨"dict", "dict.clear", Jy⟩]) (Aa 11) Aj))
 (Ag (As (Ae (A3 K false) (dFn (spE (Py K t) []) (Ac (Aa 4) (Ac (Aa 5) (Ac (Aa 6) Aj)))) (Aa 10)))
 Af))))))))))))
theorem bm9 (K:ac) (t:Adr):wSs 40 (Bd K aa8 (Ab Ez) (ag2 K t) bl) (Al Ez)=b91 K t:=by kernel_rfl
theorem bp2:Am aa8 Qx (Ab Ez):=⟨rfl,rfl,rfl,by decide +kernel,rfl,by decide +kernel,by decide +kernel⟩
theorem bs4:Ar aa8 (Ab Ez)=true:=by decide +kernel
end K13
namespace K13
open PySem L2 Pn
section
variable {P:aV} {w:bM} {K:ac} {mg:Str->Option Value} {base:Heap} {t:Adr}
theorem be1 {f:Addr} {fd:aA} (Z:Au K t) (F:FunD K "union_of" "union_of" Lp f fd .none) (T:Tab P w K mg base 0 (Bj K t) bl):FnOk P w K mg base CX0 1 f fd Qr (Pz K t):=by
 refine F.okW0 bo4 br6 T (bm1 K t) (fun vs H Q E h=>?_) (fun vs H Q E h=>?_)
 ·obtain⟨a,ms,rfl,_⟩:=h;rfl
 ·obtain⟨a,ms,rfl,hS,k⟩:=h
  refine .inl ⟨⟨_,hS⟩,?_⟩
  refine Bc (A5 (ms.map V.int)) (fun i σ H'=>(∃ v2,σ=[some (.ref a),some (.int (Gz (ms.take i))),v2])/\H'=H) ⟨⟨_,rfl⟩,rfl⟩ (fun i σ H' _ q=>q.2▸hS) ?_ ?_
  ·rintro i x σ H' hx ⟨⟨v2,rfl⟩,rfl⟩
   obtain⟨m,hm,rfl⟩:=Ao hx
   have e:Gz (ms.take (i+1))=cV (Gz (ms.take i)) m:=C8 hm _ _
   exact⟨⟨_,congrArg (fun z=>[some (V.ref a),some (V.int z),some (V.int m)]) e.symm⟩,rfl⟩
  ·rintro σ H' ⟨⟨v2,rfl⟩,rfl⟩
   rw [ae,aX]
   exact .inl k
theorem be7 {f:Addr} {fd:aA} (Z:Au K t) (F:FunD K "set_of" "set_of" Lw f fd .none) (T:Tab P w K mg base 0 (Bj K t) bl):FnOk P w K mg base CX0 1 f fd Qw (V9 K t):=by
 refine F.okW0 bp0 bs2 T (bm7 K t) (fun vs H Q E h=>?_) (fun vs H Q E h=>?_)
 ·obtain⟨a,ms,rfl,_⟩:=h;rfl
 ·obtain⟨a,ms,rfl,hS,hb,k⟩:=h
  refine .inl ⟨⟨_,hS⟩,?_⟩
  refine Bc (A5 (ms.map fun n:Nat=>V.int (n:Int))) (fun i σ H'=>(∃ v2,σ=[some (.ref a),some (.int (Zg (ms.take i))),v2])/\H'=H) ⟨⟨_,rfl⟩,rfl⟩ (fun i σ H' _ q=>q.2▸hS) ?_ ?_
  ·rintro i x σ H' hx ⟨⟨v2,rfl⟩,rfl⟩
   obtain⟨m,hm,rfl⟩:=Ao hx
   have e:Zg (ms.take (i+1))=cV (Zg (ms.take i)) (1 * 2 ^ ((m:Int)).toNat):=by
    rw [gz,aK]
    exact C8 hm _ _
   have hm2:=hb m (ai hm)
   refine⟨⟨by omega,by omega,by decide⟩,?_⟩
   exact⟨⟨_,congrArg (fun z=>[some (V.ref a),some (V.int z),some (V.int (m:Int))]) e.symm⟩,rfl⟩
  ·rintro σ H' ⟨⟨v2,rfl⟩,rfl⟩
   rw [ae,aX]
   exact .inl k
theorem by1 {f:Addr} {fd:aA} (Z:Au K t) (F:FunD K "many" "Panel.many" Vu f fd .none) (T:Tab P w K mg base 0 (Bj K t) bl):FnOk P w K mg base CX0 1 f fd ac7 (a65 K t):=by
 refine F.okW0 b58 cb5 T (b32 K t) (fun vs H Q E h=>?_) (fun vs H Q E h=>?_)
 ·obtain⟨p,l,s,sw,rfl,_⟩:=h;rfl
 ·obtain⟨p,l,s,sw,rfl,⟨dx,fs,⟨_,hp⟩,hl,hs,hm⟩,⟨ds,e,⟨_,o⟩,_⟩,k⟩:=h
  refine iR ⟨_,_,_,_,hp,Z.pf.cl,(Z.pf.na _ (by simp)),hl,(.inl ⟨_,.inl (SqL.of o),?_⟩)⟩
  have el:(ds.map fun x=>V.ref x.2).length=(Ah sw).length:=by rw [<- e];simp
  rw [el]
  exact k
theorem bw5 {f:Addr} {fd:aA} (Z:Au K t) (F:FunD K "all_choices" "Panel.all_choices" Vf f fd .none) (T:Tab P w K mg base 1 (Eb K t) bl):FnOk P w K mg base CX0 2 f fd ab1 (a59 K t):=by
 refine F.okW0 b42 b99 T (b16 K t) (fun vs H Q E h=>?_) (fun vs H Q E h=>?_)
 ·obtain⟨p,l,s,sw,rfl,_⟩:=h;rfl
 ·obtain⟨p,l,s,sw,rfl,hs,ht,hn,k⟩:=h
  obtain⟨dx,fs,⟨_,hp⟩,_,_,hm⟩:=id hs
  refine⟨p,dx,fs,⟨t.c_zbe,av3 K t⟩,rfl,.head _,hp,hm _ (by decide),⟨au rfl,au rfl⟩,?_⟩
  refine⟨p,l,s,sw,rfl,hs,ht,⟨by omega,by omega,by decide⟩,?_⟩
  have e:1 * 2 ^ (((Ah sw).length:Int)).toNat - 1=Of sw:=by rw [gz,aK];rfl
  show Q (.int (1 * 2 ^ (((Ah sw).length:Int)).toNat - 1)) H
  rw [e]
  exact k
theorem by5 {f:Addr} {fd:aA} (Z:Au K t) (F:FunD K "has_length" "has_length" Vy f fd .none) (T:Tab P w K mg base 0 (Bj K t) bl):FnOk P w K mg base CX0 1 f fd ad1 (ap8 K t):=by
 refine F.okW0 b62 cb9 T (b36 K t) (fun vs H Q E h=>?_) (fun vs H Q E h=>?_)
 ·obtain⟨z,lo,hi,rfl,_⟩:=h;rfl
 ·obtain⟨z,lo,hi,rfl,hz,k⟩:=h
  exact⟨rfl,aQ hz (by decide),M5 k⟩
theorem bd0 {f:Addr} {fd:aA} (Z:Au K t) (F:FunD K "is_letter" "is_letter" Ld f fd .none) (T:Tab P w K mg base 0 (Bj K t) bl):FnOk P w K mg base CX0 1 f fd Qg (V5 K t):=by
 refine F.okW0 bn3 bq5 T (bl0 K t) (fun vs H Q E h=>?_) (fun vs H Q E h=>?_)
 ·obtain⟨x,rfl,_⟩:=h;rfl
 ·obtain⟨c,rfl,k⟩:=h
  dsimp only [a69,Ag,As]
  exact at9 (s1 := "a") (s2 := "z") (c:=c) (i:=0) (a:=97) (b:=122) (by decide +kernel) (by decide +kernel) (by rfl) k
theorem be3 {f:Addr} {fd:aA} (Z:Au K t) (F:FunD K "is_word" "is_word" Lr f fd .none) (T:Tab P w K mg base 1 (Eb K t) bl):FnOk P w K mg base CX0 2 f fd Qs (P0 K t):=by
 refine F.okW0 bo6 br8 T (bm3 K t) (fun vs H Q E h=>?_) (fun vs H Q E h=>?_)
 ·obtain⟨x,rfl,_⟩:=h;rfl
 ·obtain⟨z,rfl,hz,k⟩:=h
  have hl:z.length<=1000:=aQ hz.2.1 (by decide)
  refine⟨z,1,8,rfl,hl,?_⟩
  have e:(decide (1<=(z.length:Int))&&decide ((z.length:Int)<=8))=true:=by
   have h1:=hz.1
   have h2:=hz.2.1
   simp
   omega
  refine a49 e ?_
  refine Xw (p:=Br) hl (fun c σ H1 Q1 hσ q=>?_) fun H' S=>?_
  ·match σ,hσ with
   | [_],_=>exact⟨c,rfl,q⟩
  ·rw [hz.2.2];exact k H' S
theorem bw8 {f:Addr} {fd:aA} (Z:Au K t) (F:FunD K "are_unlike_words" "are_unlike_words" Vi f fd .none) (T:Tab P w K mg base 2 (Rh K t) bl):FnOk P w K mg base CX0 3 f fd ab4 (Xi K t):=by
 refine F.okW0 b45 ca2 T (b19 K t) (fun vs H Q E h=>?_) (fun vs H Q E h=>?_)
 ·obtain⟨a,l,rfl,_⟩:=h;rfl
 ·obtain⟨a,l,rfl,hS,hl,k⟩:=h
  refine⟨_,true,.sqL rfl hS rfl,rfl,?_⟩
  refine .inl ⟨⟨_,hS⟩,?_⟩
  refine Q4 (K:=K) (σ:=[none]) (A5 (l.map V.str)) (fun σ=>σ.length=1) (fun H1 S=>S.seqL hS) ?_ rfl (fun σ x hσ=>by rw [ii];exact hσ) ?_ fun D1 H1 S1 q1=>⟨_,q1,?_⟩
  ·rw [ae];exact aM hl.2.2 (by decide)
  ·intro x σ H1 Q1 hx hσ S q
   obtain⟨z,hz,rfl⟩:=List.mem_map.mp hx
   match σ,hσ with
   | [_],_=>exact⟨z,rfl,hl.1 z hz,q⟩
  ·rw [Wm]
   refine⟨l,S1.seqL hS,aM hl.2.2 (by decide),.inl ⟨_,.inl (S1.seqL hS),?_⟩⟩
   rw [aw4 hl.2.1,ae]
   have e:decide ((l.length:Int)=(l.length:Int))=true:=by simp
   show Q (.bl (decide ((l.length:Int)=(l.length:Int)))) H1
   rw [e]
   exact k H1 S1
theorem bd7 {f:Addr} {fd:aA} (Z:Au K t) (F:FunD K "is_whole" "is_whole" Ll f fd .none) (T:Tab P w K mg base 0 (Bj K t) bl):FnOk P w K mg base CX0 1 f fd Qn (V8 K t):=by
 refine F.okW0 bo0 br2 T (bl7 K t) (fun vs H Q E h=>?_) (fun vs H Q E h=>?_)
 ·obtain⟨v,rfl,_⟩:=h;rfl
 ·obtain⟨v,rfl,hf,k⟩:=h
  cases v with
  | int i=>exact⟨rfl,rfl,k⟩
  | bl b=>exact⟨rfl,rfl,k⟩
  | str z=>exact⟨rfl,k⟩
  | non=>exact⟨rfl,k⟩
  | _=>cases hf
theorem be6 {f:Addr} {fd:aA} (Z:Au K t) (F:FunD K "in_set" "in_set" Lv f fd .none) (T:Tab P w K mg base 0 (Bj K t) bl):FnOk P w K mg base CX0 1 f fd Qv (P3 K t):=by
 refine F.okW0 bo9 bs1 T (bm6 K t) (fun vs H Q E h=>?_) (fun vs H Q E h=>?_)
 ·obtain⟨c,n,rfl,_⟩:=h;rfl
 ·obtain⟨c,n,rfl,hn,k⟩:=h
  exact⟨hn,k⟩
theorem bd1 {f:Addr} {fd:aA} (Z:Au K t) (F:FunD K "is_switch" "is_switch" Le f fd .none) (T:Tab P w K mg base 3 (Ri K t) bl):FnOk P w K mg base CX0 4 f fd Qh (V6 K t):=by
 refine F.okW0 bn4 bq6 T (bl1 K t) (fun vs H Q E h=>?_) (fun vs H Q E h=>?_)
 ·obtain⟨a,b,wd,l,rfl,_⟩:=h;rfl
 ·obtain⟨a,b,wd,l,rfl,ha,hb,hw,hl,k⟩:=h
  have qa:=SqT.of (K:=K) ha
  have qb:=SqL.of (K:=K) hb
  refine⟨_,true,.sqT rfl qa rfl,rfl,?_⟩
  refine .inl ⟨_,.inr qa,?_⟩
  refine⟨_,_,.inr qa,rfl,?_⟩
  refine⟨wd,rfl,hw,fun H1 S1=>?_⟩
  refine⟨_,_,.inr (S1.seqT qa),rfl,?_⟩
  refine⟨b,l,rfl,S1.seqL qb,hl.1,fun H2 S2=>?_⟩
  have S:=S1.trans S2
  refine⟨_,_,.inr (S.seqT qa),rfl,.inl ⟨_,.inl (S.seqL qb),?_⟩⟩
  rw [ae]
  have e:(decide (2<=(l.length:Int))&&decide ((l.length:Int)<=4))=true:=by
   have h1:=hl.2.1
   have h2:=hl.2.2
   simp
   omega
  exact M5 (e▸k H2 S)
theorem Pe {es:List ((Str×List Str)×Addr)} {sw:Sw} {i:Nat} {e:Str×List Str} (he:es.map (·.1)=sw.take i) (hi:sw[i]? = some e) (nd:(sw.map (·.1)).Nodup):Bn (es.map kR) (.inr e.1)=none:=by
 refine E1 ?_
 rw [Pa,he]
 intro hm
 obtain⟨w,hw,e2⟩:=List.mem_map.mp hm
 cases e2
 have h1:(sw.map (·.1))[i]? = some e.1:=by rw [ak,hi];rfl
 rw [List.map_take] at hw
 obtain⟨j,hj,e3⟩:=List.mem_iff_getElem.mp hw
 rw [aO] at hj
 rw [List.getElem_take] at e3
 have hi2:=An h1
 have e4:(sw.map (·.1))[i]=e.1:=by
  have:=ah hi2
  rw [this] at h1
  exact aF h1
 have:=(c9 (i:=j) (j:=i) (h₀:=by omega) (h₁:=hi2) nd).mp (by rw [e3,e4])
 omega
theorem Jw {es:List ((Str×List Str)×Addr)} {e:Str×List Str} {a:Addr} (h:Bn (es.map kR) (.inr e.1)=none):Dl (es.map kR) (.inr e.1) (.ref a)=(es++[(e,a)]).map kR:=by
 rw [Hj _ h,az]
 rfl
theorem Tw {α β:Type} {es:List (α×β)} {sw:List α} {i:Nat} (h:es.map (·.1)=sw.take i):es.length<=sw.length:=by
 have:=congrArg cD h
 rw [ae,aO] at this
 omega
theorem Hc {α β:Type} {es:List (α×β)} {sw:List α} {i:Nat} {e:α} {a:β} (h:es.map (·.1)=sw.take i) (hi:sw[i]? = some e):(es++[(e,a)]).map (·.1)=sw.take (i+1):=by
 rw [az,h,b_,hi]
 rfl
theorem bx3 {f:Addr} {fd:aA} (Z:Au K t) (F:FunD K "read_switches" "read_switches" Vn f fd .none) (T:Tab P w K mg base 4 (Yh K t) bl):FnOk P w K mg base CX0 5 f fd ab9 (ap0 K t):=by
 refine F.okW0 b50 ca7 T (b24 K t) (fun vs H Q E h=>?_) (fun vs H Q E h=>?_)
 ·obtain⟨a,sw,rfl,_⟩:=h;rfl
 ·obtain⟨a,sw,rfl,⟨ds,ed,⟨_,oa⟩,hd⟩,hw,k⟩:=h
  have ql:=SqL.of (K:=K) oa
  have el:(ds.map fun x=>V.ref x.2).length=sw.length:=by rw [<- ed];simp
  refine⟨_,true,.sqL rfl ql rfl,rfl,?_⟩
  refine .inl ⟨_,.inl ql,?_⟩
  rw [el]
  have e1:decide (1<=(sw.length:Int))=true:=by have:=hw.1;simp;omega
  have e2:decide ((sw.length:Int)<=5)=true:=by have:=hw.2.1;simp;omega
  refine a49 e1 (Gk (by rw [e2];rfl) ?_)
  intro d hd0
  refine .inl (.inl ⟨⟨_,(Same.upd hd0).seqL ql⟩,?_⟩)
  refine Bc (A5 (ds.map fun x=>V.ref x.2)) (fun i σ H'=>(∃ v3,σ=[some (.ref a),some (.ref d),some (.int (Bo (sw.take i):Nat)),v3])/\Same H H' /\
    ∃ es:List ((Str×List Str)×Addr),es.map (·.1)=sw.take i/\H' d=some (.dK (es.map kR)) /\ ∀ x∈es,H x.2=none/\H' x.2=some (Dg x.1.2))
   ⟨⟨_,rfl⟩,Same.upd hd0,[],rfl,Ad,fun x hx=>by cases hx⟩ (fun i σ H' _ q=>q.2.1.seqL ql) ?_ ?_
  ·rintro i x σ H1 hx ⟨⟨v3,rfl⟩,S1,es,ee,e1d,he⟩
   obtain⟨⟨⟨e,la⟩,ta⟩,hi,rfl⟩:=Ao hx
   have hi2:sw[i]? = some e:=by rw [<- ed,ak,hi];rfl
   obtain⟨⟨_,h1⟩,_,h2⟩:=hd _ (ai hi)
   have hok:=hw.2.2.2.1 e (ai hi2)
   have nk:=Pe ee hi2 hw.2.2.1
   refine⟨ta,la,e.1,e.2,rfl,S1 _ _ h1,S1 _ _ h2,hok.1,hok.2,fun H2 S2=>?_⟩
   have S:=S1.trans S2
   have qt:=SqT.of (K:=K) (S _ _ h1)
   have qa:=SqL.of (K:=K) (S _ _ h2)
   refine⟨_,_,.inr qt,rfl,.inr ⟨_,DGet.k (k:=.inr e.1) (S2 _ _ e1d),?_⟩⟩
   rw [nk]
   refine⟨_,_,.inr qt,rfl,_,.inl ⟨qa,fun tp htp=>?_⟩⟩
   have S3:=Same.upd (o:=Dg e.2) htp
   have et:upd H2 tp (Dg e.2) tp=some (Dg e.2):=Ad
   show Eh K (Aa 1) (Ae (Aq K) (Aa 3) (dC (.int 0))) (.ref tp) [some (.ref a),some (.ref d),some (.int (Bo (sw.take i):Nat)),some (.ref ta)] (upd H2 tp (Dg e.2)) _
   have hft:H tp=none:=S.free htp
   generalize upd H2 tp (Dg e.2)=H3 at S3 et ⊢
   have Sa:=S.trans S3
   have e3d:=S3 _ _ (S2 _ _ e1d)
   have ndt:d≠tp:=Ak (S2 _ _ e1d) htp
   refine⟨_,_,.inr (S3.seqT qt),rfl,_,DPut.k (k:=.inr e.1) e3d ?_,?_⟩
   ·rw [ae]
    have:=Tw ee
    have:=hw.2.1
    exact aM (show es.length<=5 by omega) (by decide)
   rw [Jw nk]
   have Sb:Same H (upd H3 d (.dK ((es++[(e,tp)]).map kR))):=Sa.set hd0
   have keep:∀ b,b≠d->upd H3 d (.dK ((es++[(e,tp)]).map kR)) b=H3 b:=fun b hb=>Ai hb
   have ebd:upd H3 d (.dK ((es++[(e,tp)]).map kR)) d=some (.dK ((es++[(e,tp)]).map kR)):=Ad
   generalize upd H3 d (.dK ((es++[(e,tp)]).map kR))=H4 at Sb keep ebd ⊢
   refine⟨_,_,.inr (SqT.of (Sb _ _ h1)),rfl,.inl ⟨_,.inl (SqL.of (Sb _ _ h2)),?_⟩⟩
   rw [ae]
   have pm:((Bo (sw.take i):Nat):Int) * (e.2.length:Int)=((Bo (sw.take (i+1)):Nat):Int):=by
    unfold Bo
    rw [C8 hi2,Int.natCast_mul]
   have hb4:=hok.2.2.2
   refine⟨.inr ⟨show -(2 ^ 64)<(e.2.length:Int) by omega,show (e.2.length:Int)<2 ^ 64 by omega⟩,?_⟩
   refine⟨⟨_,congrArg (fun z=>[some (V.ref a),some (V.ref d),some (V.int z),some (V.ref ta)]) pm⟩,Sb,es++[(e,tp)],Hc ee hi2,ebd,?_⟩
   intro x hx
   rcases List.mem_append.mp hx with hx|hx
   ·obtain⟨a1,a2⟩:=he x hx
    refine⟨a1,?_⟩
    rw [keep x.2 (fun z=>by rw [z,e1d] at a2;cases a2)]
    exact S3 _ _ (S2 _ _ a2)
   ·have:x=(e,tp):=by simpa using hx
    subst this
    exact⟨hft,by rw [keep _ (ck ndt)];exact et⟩
  ·rintro σ H1 ⟨⟨v3,rfl⟩,S1,es,ee,e1d,he⟩
   rw [el,aX] at ee
   rw [el,aX]
   refine .inl (Gk ?_ ?_)
   ·have:=hw.2.2.2.2
    simp
    omega
   ·exact k H1 d S1 ⟨es,ee,⟨hd0,e1d⟩,he⟩
theorem bx9 {f:Addr} {fd:aA} (Z:Au K t) (F:FunD K "copied_rule" "copied_rule" Vt f fd .none) (T:Tab P w K mg base 0 (Bj K t) bl):FnOk P w K mg base CX0 1 f fd ac5 (ap5 K t):=by
 refine F.okW0 b56 cb3 T (b30 K t) (fun vs H Q E h=>?_) (fun vs H Q E h=>?_)
 ·obtain⟨r,rule,rfl,_⟩:=h;rfl
 ·obtain⟨r,rule,rfl,⟨ds,ed,⟨_,od⟩,hd⟩,nd,hl,k⟩:=h
  intro c hc
  have ncr:r≠c:=Ak od hc
  have od1:upd H c (.dK []) r=some (.dK (ds.map kR)):=by rw [Ai ncr];exact od
  refine .inl (.inr (.inr (.inl ⟨_,od1,fun o=>?_⟩)))
  have Hf:∀ b u,b≠r->H b=some u->upd (upd H c (.dK [])) r (.frz o (.dK (ds.map kR))) b=some u:=fun b u hb e=>by
   rw [Ai hb,Ai (Ak e hc)];exact e
  have ef:upd (upd H c (.dK [])) r (.frz o (.dK (ds.map kR))) r=some (.frz o (.dK (ds.map kR))):=Ad
  have ec:upd (upd H c (.dK [])) r (.frz o (.dK (ds.map kR))) c=some (.dK []):=by rw [Ai (ck ncr),Ad]
  have len:ds.length=rule.length:=by rw [<- ed];simp
  generalize upd (upd H c (.dK [])) r (.frz o (.dK (ds.map kR)))=H0 at Hf ef ec ⊢
  refine Bc (Qa (ds.map kR)) (fun i σ H'=>(∃ v2,σ=[some (.ref r),some (.ref c),v2])/\(∀ b u,b≠r->H b=some u->H' b=some u)/\H' r=some (.frz o (.dK (ds.map kR))) /\
    ∃ es:List ((Str×List Str)×Addr),es.map (·.1)=rule.take i/\H' c=some (.dK (es.map kR)) /\ ∀ x∈es,H x.2=none/\H' x.2=some (A8 x.1.2))
   ⟨⟨_,rfl⟩,Hf,ef,[],rfl,ec,fun x hx=>by cases hx⟩ (fun i σ H' _ q=>q.2.2.1) ?_ ?_
  ·rintro i x σ H1 hx ⟨⟨v2,rfl⟩,S1,f1,es,ee,e1c,he⟩
   obtain⟨kv,hi0,rfl⟩:=Ao hx
   obtain⟨⟨e,la⟩,hi,rfl⟩:=Ao hi0
   have hi2:rule[i]? = some e:=by rw [<- ed,ak,hi];rfl
   obtain⟨_,h2⟩:=hd _ (ai hi)
   have nla:la≠r:=fun z=>by rw [z,od] at h2;cases h2
   have nk:=Pe ee hi2 nd
   have hv:Bn (ds.map kR) (.inr e.1)=some (.ref la):=Cy (E5 ed nd) hi0
   refine⟨.ref la,.inl ⟨_,.inr e.1,.inr ⟨o,f1⟩,rfl,hv.symm⟩,_,.inl (SqL.of (S1 _ _ nla h2)),fun lc hlc=>?_⟩
   have S3:=Same.upd (o:=A8 e.2) hlc
   have et:upd H1 lc (A8 e.2) lc=some (A8 e.2):=Ad
   have nlr:lc≠r:=(Ak f1 hlc).symm
   have hft:H lc=none:=by
    cases q:H lc with
    | none=>rfl
    | some u=>rw [S1 _ _ nlr q] at hlc;cases hlc
   have ndt:c≠lc:=Ak e1c hlc
   show Eh K (Aa 1) (Aa 2) (.ref lc) [some (.ref r),some (.ref c),some (.str e.1)] (upd H1 lc (A8 e.2)) _
   generalize upd H1 lc (A8 e.2)=H3 at S3 et ⊢
   refine⟨_,DPut.k (k:=.inr e.1) (S3 _ _ e1c) ?_,?_⟩
   ·rw [ae]
    have:=Tw ee
    exact aM (show es.length<=100 by omega) (by decide)
   rw [Jw nk]
   refine⟨⟨_,rfl⟩,fun b u hb e4=>?_,?_,es++[(e,lc)],Hc ee hi2,Ad,?_⟩
   ·rw [Ai (Ak e4 hc)];exact S3 _ _ (S1 _ _ hb e4)
   ·rw [Ai ncr];exact S3 _ _ f1
   ·intro x hx
    rcases List.mem_append.mp hx with hx|hx
    ·obtain⟨a1,a2⟩:=he x hx
     refine⟨a1,?_⟩
     rw [Ai (fun z=>by rw [z,e1c] at a2;cases a2)]
     exact S3 _ _ a2
    ·have:x=(e,lc):=by simpa using hx
     subst this
     exact⟨hft,by rw [Ai (ck ndt)];exact et⟩
  ·rintro σ H1 ⟨⟨v2,rfl⟩,S1,f1,es,ee,e1c,he⟩
   rw [ae,ae,len,aX] at ee
   refine .inr ⟨r,o,_,od1,f1,?_⟩
   refine k _ c (fun b u e4=>?_) ⟨es,ee,⟨hc,?_⟩,fun x hx=>⟨(he x hx).1,?_⟩⟩
   ·by_cases hb:b=r
    ·subst hb;rw [Ad,<- od,e4]
    ·rw [Ai hb];exact S1 _ _ hb e4
   ·rw [Ai (ck ncr)];exact e1c
   ·rw [Ai (fun z=>by have:=(he x hx).1;rw [z,od] at this;cases this)];exact (he x hx).2
theorem N1:∀ (a:List (List Str)) (r:List Str) (k:Nat),K1 k (a++[r])=K1 k a++[(r.map .inr,.int ((k+a.length:Nat):Int))]
 | [],r,k=>rfl
 | b::a,r,k=>by
  rw [eK,K1,N1 a r (k+1),K1,aN,eK,show k+1+a.length=k+(a.length+1) by omega]
theorem N0:∀ (a:List (List Str)) (k:Nat),(K1 k a).map (·.1)=a.map fun r=>r.map (gB:Str->Key)
 | [],_=>rfl
 | b::a,k=>by rw [K1,be,be,N0 a]
theorem Rw:∀ (a:List (List Str)) (k:Nat),(K1 k a).length=a.length
 | [],_=>rfl
 | b::a,k=>by rw [K1,aN,aN,Rw a]
theorem ah1 {a b:List Str} (h:a.map (gB:Str->Key)=b.map (gB:Str->Key)):a=b:=(List.map_inj_right (fun x y e=>by injection e)).mp h
theorem a17 (r:List Str):Dg r=.tup ((r.map (gB:Str->Key)).map kV):=by
 rw [bA]
 rfl
theorem Sv {α:Type} {l:List α} {i:Nat} {x:α} (nd:l.Nodup) (h:l[i]? = some x):¬ x∈l.take i:=by
 intro hm
 obtain⟨j,hj,e⟩:=List.mem_iff_getElem.mp hm
 rw [aO] at hj
 rw [List.getElem_take] at e
 have hi:=An h
 rw [ah hi] at h
 have:=(c9 (i:=j) (j:=i) (h₀:=by omega) (h₁:=hi) nd).mp (by rw [e];exact (aF h).symm)
 omega
theorem bw3 {f:Addr} {fd:aA} (Z:Au K t) (F:FunD K "numbers_by_settings" "numbers_by_settings" Vd f fd .none) (T:Tab P w K mg base 0 (Bj K t) bl):FnOk P w K mg base CX0 1 f fd aa9 (ao3 K t):=by
 refine F.okW0 b40 b97 T (b13 K t) (fun vs H Q E h=>?_) (fun vs H Q E h=>?_)
 ·obtain⟨l,rows,rfl,_⟩:=h;rfl
 ·obtain⟨l,rows,rfl,⟨ds,ed,⟨_,ol⟩,hd⟩,nd,hl,k⟩:=h
  intro n hn
  have ql:=SqL.of (K:=K) ol
  have len:(Eo 0 (ds.map fun x=>V.ref x.2)).length=rows.length:=by rw [B4,<- ed];simp
  refine .inr (.inl ⟨⟨_,(Same.upd hn).seqL ql⟩,?_⟩)
  refine Oy (Qb (ds.map fun x=>V.ref x.2)) (fun i σ H'=>(∃ v2 v3,σ=[some (.ref l),some (.ref n),v2,v3])/\Same H H'/\H' n=some (.dT (K1 0 (rows.take i))))
   ⟨⟨_,_,rfl⟩,Same.upd hn,Ad⟩ (fun i σ H' _ q=>q.2.1.seqL ql) ?_ ?_
  ·rintro i x y T σ H1 hxy hT ⟨⟨v2,v3,rfl⟩,S1,e1⟩
   have hi':=An hxy
   rw [B4,ae] at hi'
   obtain⟨⟨r,b⟩,hi⟩:∃ z,ds[i]? = some z:=⟨_,ah hi'⟩
   have:=C7 (k:=0) (xs:=ds.map fun x=>V.ref x.2) (i:=i) (x:=.ref b) (by rw [ak,hi];rfl)
   rw [this] at hxy
   obtain⟨rfl,rfl⟩:V.int ((0+i:Nat):Int)=x/\V.ref b=y:=by simpa using hxy
   have hi2:rows[i]? = some r:=by rw [<- ed,ak,hi];rfl
   have hb:=(hd _ (ai hi)).2
   have ST:=Same.upd (o:=.tup [.int ((0+i:Nat):Int),.ref b]) hT
   refine⟨_,SqT.of Ad,rfl,?_⟩
   generalize upd H1 T (.tup [.int ((0+i:Nat):Int),.ref b])=H2 at ST ⊢
   have S2:=S1.trans ST
   have hb2:=S2 _ _ hb
   rw [a17] at hb2
   refine⟨_,DPut.t (ST _ _ e1) hb2 ?_,⟨_,_,rfl⟩,S2.set hn,?_⟩
   ·rw [Rw,aO]
    exact aM (show min i rows.length<=256 by omega) (by decide)
   ·rw [Ad,Hj,b_,hi2,cW,N1,aO,jJ (fc (An hi2))]
    refine E1 ?_
    rw [N0]
    intro hm
    obtain⟨r2,h1,h2⟩:=List.mem_map.mp hm
    rw [ah1 h2] at h1
    exact Sv nd hi2 h1
  ·rintro σ H1 ⟨⟨v2,v3,rfl⟩,S1,e1⟩
   rw [len,aX] at e1
   exact .inl (k H1 n S1 ⟨hn,e1⟩)
theorem cd0 {H:Hp} {aa p:Addr} {a:List Str} {z:Str} {Q:VK} (ha:H aa=some (Dg a)) (hp:H p=some (.tup [.str z])) (hl:a.length<=100) (k:∀ q H',Same H H'->H' q=some (Dg (a++[z]))->(H q=none\/q=p)->Q (.ref q) H'):Bb K (.ref aa) (.ref p) H Q:=by
 cases a with
 | nil=>exact .inr (.inr ⟨aa,p,_,rfl,rfl,SqT.of ha,SqT.of hp,k p H (Same.refl _) hp (.inr rfl)⟩)
 | cons y a=>
  refine .inr (.inl ⟨aa,p,_,_,rfl,rfl,SqT.of ha,SqT.of hp,by simp,?_,(fun e=>by cases e),fun _ q hq=>?_⟩)
  ·rw [ae]
   exact aQ (show (y::a).length+1<=101 by omega) (by decide)
  ·refine k q _ (Same.upd hq) ?_ (.inl hq)
   rw [Ad,Dg,az]
   rfl
theorem X9 {α:Type} {ok:Addr->Prop} {H:Hp} {f:α->HO} {es:List (α×Addr)} {e:α} {a:Addr} (h:∀ x∈es,ok x.2/\H x.2=some (f x.1)) (h1:ok a) (h2:H a=some (f e)):∀ x∈es++[(e,a)],ok x.2/\H x.2=some (f x.1):=by
 intro x hx
 rcases List.mem_append.mp hx with hx|hx
 ·exact h x hx
 ·have:x=(e,a):=by simpa using hx
  subst this
  exact⟨h1,h2⟩
theorem au4 {α:Type} {ok:Addr->Prop} {H H':Hp} {f:α->HO} {es:List (α×Addr)} (S:Same H H') (h:∀ x∈es,ok x.2/\H x.2=some (f x.1)):∀ x∈es,ok x.2/\H' x.2=some (f x.1):=fun x hx=>⟨(h x hx).1,S _ _ (h x hx).2⟩
theorem Zi {rows:List (List Str)} {j:Nat} {r:List Str} {x:Str×List Str} (h:rows[j]? = some r):Df (rows.take (j+1)) x=Df (rows.take j) x++x.2.map fun z=>r++[z]:=by
 unfold Df
 rw [b_,h,cW,eF]
 simp
theorem Uo {E:EK} {H0 H:Hp} {aa ta:Addr} {a:List Str} {l:List Str} {σ:St} {R:Hp->Addr->Prop} (hσ:∃ v,σ=[v,some (.ref aa)]) (S0:Same H0 H) (ha:H aa=some (Dg a)) (ht:H ta=some (Dg l)) (hl:a.length<=100) (hl2:l.length<=8)
  (k:∀ D H',Same H H'->H D=none -> ∀ fs:List (List Str×Addr),fs.map (·.1)=l.map (fun z=>a++[z])->H' D=some (.lst (fs.map fun x=>.ref x.2))->(∀ x∈fs,H0 x.2=none/\H' x.2=some (Dg x.1))->R H' D) :
  ∀ D,H D=none->Fg (Itt K ta) (gdN 0) B5 (Ae (Bb K) (Aa 1) (Hv (Ac (Aa 0) Aj))) D (fun H'=>R H' D) σ (upd H D (.lst [])) E:=by
 intro D hD
 refine Ce (Wi (l.map V.str)) (fun m σ H'=>(∃ v,σ=[v,some (.ref aa)])/\Same H H' /\ ∃ fs:List (List Str×Addr),fs.map (·.1)=(l.take m).map (fun z=>a++[z])/\H' D=some (.lst (fs.map fun x=>.ref x.2)) /\ ∀ x∈fs,H0 x.2=none/\H' x.2=some (Dg x.1))
  ⟨hσ,Same.upd hD,[],rfl,Ad,fun x hx=>by cases hx⟩ (fun m σ H' _ q=>q.2.1.seqT (SqT.of ht)) ?_ ?_
 ·rintro m x σ H1 hx ⟨⟨v,rfl⟩,S1,fs,ef,eD,hf⟩
  obtain⟨z,hz,rfl⟩:=Ao hx
  refine⟨(show 1<=sizeLine by decide),fun p hp=>?_⟩
  have Sp:=Same.upd (o:=.tup [.str z]) hp
  have ep:upd H1 p (.tup [.str z]) p=some (.tup [.str z]):=Ad
  show Bb K (.ref aa) (.ref p) (upd H1 p (.tup [.str z])) _
  generalize upd H1 p (.tup [.str z])=H2 at Sp ep ⊢
  refine cd0 (Sp _ _ (S1 _ _ ha)) ep hl fun q H3 S3 eq nq=>?_
  have S03:=S0.trans (S1.trans (Sp.trans S3))
  have hq0:H0 q=none:=by
   rcases nq with nq|rfl
   ·exact (S0.trans (S1.trans Sp)).free nq
   ·exact (S0.trans S1).free hp
  have qD:q≠D:=by
   rcases nq with nq|rfl
   ·exact (Ak (Sp _ _ eD) nq).symm
   ·exact (Ak eD hp).symm
  have eD3:=S3 _ _ (Sp _ _ eD)
  refine⟨_,eD3,?_,⟨_,rfl⟩,(S1.trans (Sp.trans S3)).set hD,fs++[(a++[z],q)],?_,?_,?_⟩
  ·rw [ae]
   have:=congrArg cD ef
   rw [ae,ae,aO] at this
   exact aM (show fs.length<=8 by omega) (by decide)
  ·rw [az,ef,Be hz];rfl
  ·rw [Ad,az];rfl
  ·have hf3:∀ x∈fs++[(a++[z],q)],H0 x.2=none/\H3 x.2=some (Dg x.1):=X9 (ok:=fun a=>H0 a=none) (f:=Dg) (au4 (ok:=fun a=>H0 a=none) (f:=Dg) (Sp.trans S3) hf) hq0 eq
   intro x hx
   refine⟨(hf3 x hx).1,?_⟩
   rw [Ai (fun e=>by have:=(hf3 x hx).2;rw [e,eD3] at this;cases this)]
   exact (hf3 x hx).2
 ·rintro σ H1 ⟨_,S1,fs,ef,eD,hf⟩
  rw [ae,aX] at ef
  exact k D H1 S1 hD fs ef eD hf
theorem bw4 {f:Addr} {fd:aA} (Z:Au K t) (F:FunD K "settings_of_choices" "settings_of_choices" Ve f fd .none) (T:Tab P w K mg base 0 (Bj K t) bl):FnOk P w K mg base CX0 1 f fd ab0 (ao7 K t):=by
 refine F.okW0 b41 b98 T (b15 K t) (fun vs H Q E h=>?_) (fun vs H Q E h=>?_)
 ·obtain⟨d,sw,rfl,_⟩:=h;rfl
 ·obtain⟨d,sw,rfl,⟨ds,ed,⟨_,od⟩,hd⟩,hw,k⟩:=h
  refine⟨(show 0<=sizeLine by decide),fun t0 h0=>⟨(show 1<=sizeLine by decide),fun l0 hl0=>?_⟩⟩
  have St:=Same.upd (o:=.tup []) h0
  have Sl:=Same.upd (o:=.lst [.ref t0]) hl0
  have ft:H t0=none:=h0
  have fl:H l0=none:=St.free hl0
  have et:upd (upd H t0 (.tup [])) l0 (.lst [.ref t0]) t0=some (Dg []):=Sl _ _ Ad
  have el:upd (upd H t0 (.tup [])) l0 (.lst [.ref t0]) l0=some (.lst [.ref t0]):=Ad
  have S0:=St.trans Sl
  generalize upd (upd H t0 (.tup [])) l0 (.lst [.ref t0])=H0 at S0 et el ⊢
  have od0:=S0 _ _ od
  refine .inr (.inr (.inl ⟨_,od0,fun o=>?_⟩))
  have len:ds.length=sw.length:=by rw [<- ed];simp
  have kf:Kp (fresh H) H0 (fresh H) (upd H0 d (.frz o (.dK (ds.map kR)))):=Kp.off (Gb od)
  have ef:upd H0 d (.frz o (.dK (ds.map kR))) d=some (.frz o (.dK (ds.map kR))):=Ad
  have ht0:∀ x∈ds,upd H0 d (.frz o (.dK (ds.map kR))) x.2=some (Dg x.1.2):=fun x hx=>by
   rw [Ai (fun e=>by have:=(hd x hx).2;rw [e,od] at this;cases this)]
   exact S0 _ _ (hd x hx).2
  have T0:TupsAt (fresh H) (upd H0 d (.frz o (.dK (ds.map kR)))) l0 (Ah (sw.take 0)):=⟨[([],t0)],rfl,kf _ _ ⟨fl,el⟩,fun x hx=>by
   have:x=([],t0):=by simpa using hx
   subst this
   exact kf _ _ ⟨ft,et⟩⟩
  have frees:∀ {H':Hp} {b:Addr},Same (upd H0 d (.frz o (.dK (ds.map kR)))) H'->H' b=none->H b=none:=fun {H' b} S e=>by
   have e1:=S.free e
   have nb:b≠d:=fun z=>by rw [z,ef] at e1;cases e1
   rw [Ai nb] at e1
   exact S0.free e1
  generalize hHf:upd H0 d (.frz o (.dK (ds.map kR)))=Hf at kf ef ht0 T0 frees ⊢
  refine Bc (Qa (ds.map kR)) (fun i σ H'=>(∃ l v2 v3 v4,σ=[some (.ref d),some (.ref l),v2,v3,v4]/\TupsAt (fresh H) H' l (Ah (sw.take i)))/\Same Hf H') ⟨⟨_,_,_,_,rfl,T0⟩,Same.refl _⟩ (fun i σ H' _ q=>q.2 _ _ ef) ?_ ?_
  ·rintro i x σ H1 hx ⟨⟨l,v2,v3,v4,rfl,⟨es,ee,⟨fl1,el1⟩,he⟩⟩,S1⟩
   obtain⟨kv,hi0,rfl⟩:=Ao hx
   obtain⟨⟨e,ta⟩,hi,rfl⟩:=Ao hi0
   have hi2:sw[i]? = some e:=by rw [<- ed,ak,hi];rfl
   have hta:=ht0 _ (ai hi)
   have hoke:=hw.sets e (ai hi2)
   have hv:Bn (ds.map kR) (.inr e.1)=some (.ref ta):=Cy (E5 ed hw.2.2.1) hi0
   refine⟨by decide,fun l2 hl2=>.inl ⟨⟨_,(Same.upd hl2).seqL (SqL.of el1)⟩,?_⟩⟩
   have f2:H l2=none:=frees S1 hl2
   have Sl2:=Same.upd (o:=.lst []) hl2
   have rl:∀ r∈Ah (sw.take i),r.length<=100:=fun r hr=>by
    have h1:=(Dv (sw:=sw.take i) (fun x hx=>hw.sets x (d8 hx))).2.1 r hr
    rw [h1,aO]
    have:=hw.2.1
    omega
   have lenr:es.length=(Ah (sw.take i)).length:=by rw [<- ee];simp
   have few:(Ah (sw.take i)).length<=256:=by rw [Lb];exact aQ (N3 hw i) hw.2.2.2.2
   refine Bc (A5 (es.map fun x=>V.ref x.2)) (fun j σ H'=>(∃ v4,σ=[some (.ref d),some (.ref l),some (.str e.1),some (.ref l2),v4])/\Same H1 H' /\ ∃ fs:List (List Str×Addr),fs.map (·.1)=Df ((Ah (sw.take i)).take j) e /\
     H' l2=some (.lst (fs.map fun x=>.ref x.2)) /\ ∀ x∈fs,H x.2=none/\H' x.2=some (Dg x.1))
    ⟨⟨_,rfl⟩,Sl2,[],rfl,Ad,fun x hx=>by cases hx⟩ (fun j σ H' _ q=>q.2.1.seqL (SqL.of el1)) ?_ ?_
   ·rintro j y σ H2 hy ⟨⟨v4,rfl⟩,S2,fs,efs,e2l,hf⟩
    obtain⟨⟨r,ra⟩,hj,rfl⟩:=Ao hy
    have hj2:(Ah (sw.take i))[j]? = some r:=by rw [<- ee,ak,hj];rfl
    obtain⟨_,hra⟩:=he _ (ai hj)
    have S12:=S1.trans S2
    refine⟨.inl ⟨rfl,_,SqL.of e2l⟩,.ref ta,.inl ⟨_,.inr e.1,.inr ⟨o,S12 _ _ ef⟩,rfl,hv.symm⟩,.inr (.inl ⟨⟨_,SqT.of (S12 _ _ hta)⟩,?_⟩)⟩
    refine Uo (H0:=H1) ⟨_,rfl⟩ S2 (S2 _ _ hra) (S12 _ _ hta) (rl r (ai hj2)) (aQ hoke.2.2 (by decide)) fun D H3 S3 hD gs eg eD hg=>?_
    have e3l:=S3 _ _ e2l
    have lfs:fs.length<=1024:=by
     have:=congrArg cD efs
     rw [ae,Oa,aO] at this
     have h4:=hoke.2.2
     have:min j (Ah (sw.take i)).length * e.2.length<=256 * 4:=Nat.mul_le_mul (by omega) h4
     omega
    have lgs:gs.length<=4:=by
     have h1:gs.length=e.2.length:=by simpa using congrArg cD eg
     have h2:e.2.length<=4:=hoke.2.2
     omega
    refine⟨l2,D,_,_,rfl,rfl,e3l,eD,?_,⟨_,rfl⟩,(S2.trans S3).set hl2,fs++gs,?_,?_,?_⟩
    ·rw [ae,ae]
     exact aQ (show fs.length+gs.length<=1028 by omega) (by decide)
    ·rw [az,efs,eg,Zi hj2]
    ·rw [Ad,az]
    ·have h3:∀ x∈fs++gs,H x.2=none/\H3 x.2=some (Dg x.1):=fun x hx=>by
      rcases List.mem_append.mp hx with hx|hx
      ·exact⟨(hf x hx).1,S3 _ _ (hf x hx).2⟩
      ·exact⟨frees S1 (hg x hx).1,(hg x hx).2⟩
     intro x hx
     refine⟨(h3 x hx).1,?_⟩
     rw [Ai (fun e=>by have:=(h3 x hx).2;rw [e,e3l] at this;cases this)]
     exact (h3 x hx).2
   ·rintro σ H2 ⟨⟨v4,rfl⟩,S2,fs,efs,e2l,hf⟩
    rw [ae,lenr,aX] at efs
    refine .inl ⟨⟨_,_,_,_,rfl,fs,?_,⟨f2,e2l⟩,hf⟩,S1.trans S2⟩
    rw [efs]
    exact (C8 hi2 _ _).symm
  ·rintro σ H1 ⟨⟨l,v2,v3,v4,rfl,T1⟩,S1⟩
   rw [ae,ae,len,aX] at T1
   refine .inr ⟨d,o,_,od0,S1 _ _ ef,?_⟩
   exact k _ l (S0.trans (Same.thaw od0 (hHf▸S1))) (T1.mono (Kp.off (Gb od)))
noncomputable def Off (d:Addr) (H H':Hp):Prop:=∀ b u,b≠d->H b=some u->H' b=some u
theorem Off.up {d:Addr} {H H1 H2:Hp} (h:Off d H H1) (S:Same H1 H2):Off d H H2:=fun b u n e=>S _ _ (h b u n e)
theorem Off.set {d a:Addr} {o:HO} {H H1:Hp} (h:Off d H H1) (e:H a=none):Off d H (upd H1 a o):=fun b u n q=>by rw [Ai (Ak q e)];exact h b u n q
theorem Off.free {d b:Addr} {H H1:Hp} (h:Off d H H1) (n:b≠d) (e:H1 b=none):H b=none:=by
 cases q:H b with
 | none=>rfl
 | some u=>rw [h b u n q] at e;cases e
theorem Off.thaw {d:Addr} {kvs:List (Key×V)} {H H1:Hp} (h:Off d H H1) (e:H d=some (.dK kvs)):Same H (upd H1 d (.dK kvs)):=fun b u q=>by
 by_cases n:b=d
 ·subst n;rw [Ad,<- e,q]
 ·rw [Ai n];exact h b u n q
theorem Nk (p:Nat) (z:Str):∀ (a:List (List Str)) (r:List Str) (k:Nat),Dz p z k (a++[r])=Dz p z k a++(if r[p]? = some z then [k+a.length] else [])
 | [],r,k=>by
  rw [List.nil_append,Dz,Dz,Dz,List.nil_append]
  rfl
 | b::a,r,k=>by
  rw [eK,Dz,Dz,Nk p z a r (k+1),aN,show k+1+a.length=k+(a.length+1) by omega]
  split <;> simp
theorem Oz (p:Nat) (z:Str):∀ (a:List (List Str)) (k n:Nat),n∈Dz p z k a->n<k+a.length
 | [],k,n,h=>by cases h
 | b::a,k,n,h=>by
  rw [Dz] at h
  rw [aN]
  split at h
  ·rcases List.mem_cons.mp h with h|h
   ·omega
   ·have:=Oz p z a (k+1) n h;omega
  ·have:=Oz p z a (k+1) n h;omega
theorem Kl (p:Nat) (z:Str):∀ (a:List (List Str)) (k:Nat),(Dz p z k a).length<=a.length
 | [],k=>ay _
 | b::a,k=>by
  rw [Dz,aN]
  split
  ·rw [aN];have:=Kl p z a (k+1);omega
  ·have:=Kl p z a (k+1);omega
theorem au5 {α:Type} {ds:List (α×Addr)} {i:Nat} {x y:V} (h:(Eo 0 (ds.map fun x=>V.ref x.2))[i]? = some (x,y)):∃ z,ds[i]? = some z/\x=.int (i:Int)/\y=.ref z.2:=by
 have hi:=An h
 rw [B4,ae] at hi
 refine⟨_,ah hi,?_⟩
 have:=C7 (k:=0) (xs:=ds.map fun x=>V.ref x.2) (i:=i) (x:=.ref ds[i].2) (by rw [ak,ah hi];rfl)
 rw [this,dg] at h
 obtain⟨rfl,rfl⟩:V.int (i:Int)=x/\V.ref ds[i].2=y:=by simpa using h
 exact⟨rfl,rfl⟩
theorem bb1 {E:EK} {H:Hp} {l:Addr} {ds:List (List Str×Addr)} {rows:List (List Str)} {i:Nat} {z:Str} {R:Hp->Addr->Prop} (ed:ds.map (·.1)=rows) (ol:H l=some (.lst (ds.map fun x=>.ref x.2))) (hd:∀ x∈ds,H x.2=some (Dg x.1)) (hr:∀ r∈rows,i<r.length) (few:rows.length<=256)
  (k:∀ D H',Same H H'->H D=none->H' D=some (.lst ((Dz i z 0 rows).map fun n:Nat=>V.int (n:Int)))->R H' D) :
  ∀ D,H D=none->Fg (Ite K l) (gdT K 2 [gdN 0,gdN 1]) (Az (Ae (A3 K false) (Ae (Aq K) (Aa 1) (Aa 2)) (Aa 3))) (Aa 0) D (fun H'=>R H' D) [none,none,some (.int (i:Int)),some (.str z)] (upd H D (.lst [])) E:=by
 intro D hD
 have len:(Eo 0 (ds.map fun x=>V.ref x.2)).length=rows.length:=by rw [B4,<- ed];simp
 refine at6 (Qb (ds.map fun x=>V.ref x.2)) (fun m σ H'=>(∃ v0 v1,σ=[v0,v1,some (.int (i:Int)),some (.str z)])/\Same H H'/\H' D=some (.lst ((Dz i z 0 (rows.take m)).map fun n:Nat=>V.int (n:Int))))
  ⟨⟨_,_,rfl⟩,Same.upd hD,Ad⟩ (fun m σ H' _ q=>q.2.1.seqL (SqL.of ol)) ?_ ?_
 ·rintro m x y T σ H1 hxy hT ⟨⟨v0,v1,rfl⟩,S1,eD⟩
  obtain⟨⟨r,b⟩,hm,rfl,rfl⟩:=au5 hxy
  have hm2:rows[m]? = some r:=by rw [<- ed,ak,hm];rfl
  have hb:=hd _ (ai hm)
  have hi:=hr r (ai hm2)
  have ST:=Same.upd (o:=.tup [.int (m:Int),.ref b]) hT
  refine⟨_,SqT.of Ad,rfl,?_⟩
  show Az _ [some (.int (m:Int)),some (.ref b),some (.int (i:Int)),some (.str z)] (upd H1 T (.tup [.int (m:Int),.ref b])) _ _
  generalize upd H1 T (.tup [.int (m:Int),.ref b])=H2 at ST ⊢
  have S2:=S1.trans ST
  have eD2:=ST _ _ eD
  have mm:min m rows.length=m:=jJ (fc (An hm2))
  have he:Dz i z 0 (rows.take (m+1))=Dz i z 0 (rows.take m)++(if r[i]? = some z then [m] else []):=by
   rw [b_,hm2,cW,Nk,aO,mm,dg]
  refine⟨_,_,.inr (SqT.of (S2 _ _ hb)),Bw (j:=i) (by rw [ak,ah hi];rfl),?_⟩
  rw [ah hi] at he
  show if decide (r[i]=z)=true then _ else _
  refine Mt (fun e=>?_) (fun e=>?_)
  ·have e:r[i]=z:=by simpa using e
   rw [if_pos (by rw [e])] at he
   refine⟨_,eD2,?_,⟨_,_,rfl⟩,S2.set hD,?_⟩
   ·rw [ae]
    have h1:=Kl i z (rows.take m) 0
    rw [aO] at h1
    exact aM (show (Dz i z 0 (rows.take m)).length<=256 by omega) (by decide)
   ·rw [Ad,he,az];rfl
  ·have e:¬ r[i]=z:=by simpa using e
   rw [if_neg (by simpa using e),cv] at he
   exact⟨⟨_,_,rfl⟩,S2,by rw [he];exact eD2⟩
 ·rintro σ H1 ⟨_,S1,eD⟩
  rw [len,aX] at eD
  exact k D H1 S1 hD eD
theorem Zh {rows:List (List Str)} {i m:Nat} {l:List Str} {z:Str} (hz:l[m]? = some z) (nd:l.Nodup) :
  Dl ((l.take m).map fun z=>((.inr z:Key),V.int (C4 rows i z))) (.inr z) (.int (C4 rows i z))=(l.take (m+1)).map fun z=>((.inr z:Key),V.int (C4 rows i z)):=by
 rw [Hj,Be hz]
 refine E1 ?_
 rw [bA]
 intro hm
 obtain⟨y,hy,e⟩:=List.mem_map.mp hm
 have e:y=z:=by injection e
 subst e
 exact Sv nd hz hy
theorem bw9 {f:Addr} {fd:aA} (Z:Au K t) (F:FunD K "sets_of_settings" "sets_of_settings" Vj f fd .none) (T:Tab P w K mg base 1 (Eb K t) bl):FnOk P w K mg base CX0 2 f fd ab5 (ao8 K t):=by
 refine F.okW0 b46 ca3 T (b20 K t) (fun vs H Q E h=>?_) (fun vs H Q E h=>?_)
 ·obtain⟨d,l,sw,rfl,_⟩:=h;rfl
 ·obtain⟨d,l,sw,rfl,⟨ds,ed,⟨_,od⟩,hd⟩,⟨ts,et,⟨_,ol⟩,htp⟩,hw,k⟩:=h
  intro s hs
  have nds:d≠s:=Ak od hs
  have nld:l≠d:=fun e=>by rw [e,od] at ol;cases ol
  have od1:upd H s (.dK []) d=some (.dK (ds.map kR)):=by rw [Ai nds];exact od
  refine .inl (.inr (.inl ⟨_,od1,fun o=>?_⟩))
  have O0:Off d H (upd (upd H s (.dK [])) d (.frz o (.dK (ds.map kR)))):=fun b u n e=>by rw [Ai n,Ai (Ak e hs)];exact e
  have ef:upd (upd H s (.dK [])) d (.frz o (.dK (ds.map kR))) d=some (.frz o (.dK (ds.map kR))):=Ad
  have es0:upd (upd H s (.dK [])) d (.frz o (.dK (ds.map kR))) s=some (.dK []):=by rw [Ai (ck nds),Ad]
  have len:(Eo 0 ((ds.map kR).map fun kv=>kV kv.1)).length=sw.length:=by rw [B4,<- ed];simp
  have few:=hw.len
  have rlen:=(Dv hw.sets).2.1
  show Xu (Zx d o (ds.map kR)) _ _ _ [some (.ref d),some (.ref l),some (.ref s),none,none,none,none] _
  generalize upd (upd H s (.dK [])) d (.frz o (.dK (ds.map kR)))=H0 at O0 ef es0 ⊢
  refine Oy (ar6 (ds.map kR)) (fun i σ H'=>(∃ v3 v4 v5 v6,σ=[some (.ref d),some (.ref l),some (.ref s),v3,v4,v5,v6])/\Off d H H'/\H' d=some (.frz o (.dK (ds.map kR))) /\
    ∃ es:List ((Str×List Str)×Addr),es.map (·.1)=sw.take i/\H' s=some (.dK (es.map kR)) /\ ∀ j x,es[j]? = some x->H x.2=none/\H' x.2=some (V2 (Ah sw) j x.1.2))
   ⟨⟨_,_,_,_,rfl⟩,O0,ef,[],rfl,es0,fun j x hx=>by simp at hx⟩ (fun i σ H' _ q=>q.2.2.1) ?_ ?_
  ·rintro i x y T σ H1 hxy hT ⟨⟨v3,v4,v5,v6,rfl⟩,O1,f1,es,ee,e1s,he⟩
   have hi':=An hxy
   rw [len] at hi'
   have hids:i<ds.length:=by rw [<- ed,ae] at hi';exact hi'
   obtain⟨⟨e,ta⟩,hi⟩:∃ z,ds[i]? = some z:=⟨_,ah hids⟩
   have hxy2:=C7 (k:=0) (xs:=(ds.map kR).map fun kv=>kV kv.1) (i:=i) (x:=.str e.1) (by rw [ak,ak,hi];rfl)
   rw [hxy2,dg] at hxy
   obtain⟨rfl,rfl⟩:V.int (i:Int)=x/\V.str e.1=y:=by simpa using hxy
   have hi2:sw[i]? = some e:=by rw [<- ed,ak,hi];rfl
   have hta:=(hd _ (ai hi)).2
   have nta:ta≠d:=fun z=>by rw [z,od] at hta;cases hta
   have hoke:=hw.sets e (ai hi2)
   have hv:Bn (ds.map kR) (.inr e.1)=some (.ref ta):=Cy (E5 ed hw.2.2.1) (by rw [ak,hi];rfl)
   have nk:=Pe ee hi2 hw.2.2.1
   have les:es.length=i:=by
    have:=congrArg cD ee
    rw [ae,aO] at this
    omega
   have ST:=Same.upd (o:=.tup [.int (i:Int),.str e.1]) hT
   refine⟨_,SqT.of Ad,rfl,?_⟩
   show Ag _ _ _ [some (.ref d),some (.ref l),some (.ref s),some (.int (i:Int)),some (.str e.1),v5,v6] (upd H1 T (.tup [.int (i:Int),.str e.1]))
   generalize upd H1 T (.tup [.int (i:Int),.str e.1])=H2 at ST ⊢
   have O2:=O1.up ST
   have f2:=ST _ _ f1
   have e2s:=ST _ _ e1s
   intro q hq
   have nqd:q≠d:=(Ak f2 hq).symm
   have nqs:q≠s:=(Ak e2s hq).symm
   have fq:H q=none:=O2.free nqd hq
   have Sq:=Same.upd (o:=.dK []) hq
   have eq:upd H2 q (.dK []) q=some (.dK []):=Ad
   refine .inl ?_
   show Eh K (Aa 2) (Aa 4) (.ref q) [some (.ref d),some (.ref l),some (.ref s),some (.int (i:Int)),some (.str e.1),v5,v6] (upd H2 q (.dK [])) _
   generalize upd H2 q (.dK [])=H3 at Sq eq ⊢
   refine⟨_,DPut.k (k:=.inr e.1) (Sq _ _ e2s) ?_,?_⟩
   ·rw [ae]
    have:=hw.2.1
    exact aM (show es.length<=5 by omega) (by decide)
   rw [Jw nk]
   have O4:Off d H (upd H3 s (.dK ((es++[(e,q)]).map kR))):=(O2.up Sq).set hs
   have f4:upd H3 s (.dK ((es++[(e,q)]).map kR)) d=some (.frz o (.dK (ds.map kR))):=by rw [Ai nds];exact Sq _ _ f2
   have e4s:upd H3 s (.dK ((es++[(e,q)]).map kR)) s=some (.dK ((es++[(e,q)]).map kR)):=Ad
   have e4q:upd H3 s (.dK ((es++[(e,q)]).map kR)) q=some (V2 (Ah sw) i (e.2.take 0)):=by rw [Ai nqs];exact eq
   have he4:∀ j x,es[j]? = some x->H x.2=none/\upd H3 s (.dK ((es++[(e,q)]).map kR)) x.2=some (V2 (Ah sw) j x.1.2)/\x.2≠q/\x.2≠s:=fun j x hx=>by
    obtain⟨a1,a2⟩:=he j x hx
    have b1:=Ak (ST _ _ a2) hq
    have b2:x.2≠s:=fun z=>by
     rw [z,e1s] at a2
     unfold V2 at a2
     have a3:es.map kR=x.1.2.map fun z=>((.inr z:Key),V.int (C4 (Ah sw) j z)):=by injection (aF a2)
     have m1:kR x∈es.map kR:=List.mem_map_of_mem (ai hx)
     rw [a3] at m1
     obtain⟨y,_,hy⟩:=List.mem_map.mp m1
     injection hy with _ hy
     cases hy
    refine⟨a1,?_,b1,b2⟩
    rw [Ai b2];exact Sq _ _ (ST _ _ a2)
   generalize upd H3 s (.dK ((es++[(e,q)]).map kR))=H4 at O4 f4 e4s e4q he4 ⊢
   have nd4:(((es++[(e,q)]).map kR).map (·.1)).Nodup:=E5 (Hc ee hi2) (by rw [List.map_take];exact hw.2.2.1.sublist (iO _ _))
   have hq4:Bn ((es++[(e,q)]).map kR) (.inr e.1)=some (.ref q):=Cy (i:=es.length) nd4 (by rw [ak,bL (ay _),fV];rfl)
   refine⟨.ref ta,.inl ⟨_,.inr e.1,.inr ⟨o,f4⟩,rfl,hv.symm⟩,.inr (.inl ⟨⟨_,SqT.of (O4 _ _ nta hta)⟩,?_⟩)⟩
   refine Bc (Wi (e.2.map V.str)) (fun m σ H'=>(∃ v5 v6,σ=[some (.ref d),some (.ref l),some (.ref s),some (.int (i:Int)),some (.str e.1),v5,v6])/\Off d H H'/\H' d=some (.frz o (.dK (ds.map kR)))/\H' s=some (.dK ((es++[(e,q)]).map kR)) /\
     H' q=some (V2 (Ah sw) i (e.2.take m)) /\ ∀ j x,es[j]? = some x->H' x.2=some (V2 (Ah sw) j x.1.2))
    ⟨⟨_,_,rfl⟩,O4,f4,e4s,e4q,fun j x hx=>(he4 j x hx).2.1⟩ (fun m σ H' _ q=>SqT.of (q.2.1 _ _ nta hta)) ?_ ?_
   ·rintro m x σ H5 hx ⟨⟨v5,v6,rfl⟩,O5,f5,e5s,e5q,he5⟩
    obtain⟨z,hz,rfl⟩:=Ao hx
    refine .inl ⟨⟨_,SqL.of (O5 _ _ nld ol)⟩,?_⟩
    refine bb1 et (O5 _ _ nld ol) (fun x hx=>O5 _ _ (fun e=>by have:=(htp x hx).2;rw [e,od] at this;cases this) (htp x hx).2) (fun r hr=>by rw [rlen r hr];exact hi') few fun D H6 S6 hD eD=>?_
    refine⟨D,_,rfl,SqL.of eD,(fun n hn=>?_),?_⟩
    ·have:=Oz i z (Ah sw) 0 n hn
     omega
    show Eh K (Ae (Aq K) (Aa 2) (Aa 4)) (Aa 5) (.int (C4 (Ah sw) i z)) [some (.ref d),some (.ref l),some (.ref s),some (.int (i:Int)),some (.str e.1),some (.str z),some (.ref D)] H6 _
    refine⟨.ref q,.inl ⟨_,.inr e.1,.inl (S6 _ _ e5s),rfl,hq4.symm⟩,_,DPut.k (k:=.inr z) (S6 _ _ e5q) ?_,?_⟩
    ·rw [ae,aO]
     have:=hoke.2.2
     exact aM (show min m e.2.length<=4 by omega) (by decide)
    rw [Zh hz hoke.1.2.1]
    refine⟨⟨_,_,rfl⟩,(O5.up S6).set fq,?_,?_,Ad,fun j x hx=>?_⟩
    ·rw [Ai (ck nqd)];exact S6 _ _ f5
    ·rw [Ai (ck nqs)];exact S6 _ _ e5s
    ·rw [Ai (he4 j x hx).2.2.1];exact S6 _ _ (he5 j x hx)
   ·rintro σ H5 ⟨⟨v5,v6,rfl⟩,O5,f5,e5s,e5q,he5⟩
    rw [ae,aX] at e5q
    refine .inl ⟨⟨_,_,_,_,rfl⟩,O5,f5,es++[(e,q)],Hc ee hi2,e5s,fun j x hx=>?_⟩
    by_cases hj:j<es.length
    ·rw [cI hj] at hx
     exact⟨(he4 j x hx).1,he5 j x hx⟩
    ·have hj2:=An hx
     rw [aJ] at hj2
     have hj3:j=es.length:=by have:[(e,q)].length=1:=rfl;omega
     subst hj3
     rw [bL (ay _),fV] at hx
     have:(e,q)=x:=by simpa using hx
     subst this
     rw [les]
     exact⟨fq,e5q⟩
  ·rintro σ H1 ⟨⟨v3,v4,v5,v6,rfl⟩,O1,f1,es,ee,e1s,he⟩
   rw [len,aX] at ee
   refine .inr ⟨d,o,_,od1,f1,?_⟩
   refine k _ s (O1.thaw od) ⟨es,ee,⟨hs,?_⟩,fun j x hx=>⟨(he j x hx).1,?_⟩⟩
   ·rw [Ai (ck nds)];exact e1s
   ·rw [Ai (fun z=>by have:=(he j x hx).1;rw [z,od] at this;cases this)];exact (he j x hx).2
theorem Yd (l:List Str):(l.map V.str).all B7=true:=by rw [fU,aW];exact fun _ _=>rfl
theorem Ew {sw:Sw} {i:Nat} {x:Str×List Str} (h:sw[i]? = some x) (nd:(sw.map (·.1)).Nodup):C9 sw x.1=i:=by
 have hi:=An h
 have ex:sw[i]=x:=by rw [ah hi] at h;exact aF h
 unfold C9
 rw [List.findIdx_eq hi]
 refine⟨by rw [ex];simp,fun j hj=>?_⟩
 have hj2:j<sw.length:=by omega
 refine decide_eq_false fun e=>?_
 have:=(c9 (i:=j) (j:=i) (h₀:=by rw [ae];exact hj2) (h₁:=by rw [ae];exact hi) nd).mp (by rw [dZ,dZ,e,ex])
 omega
theorem Sz {rows:List (List Str)} {i:Nat} {l:List Str} {z:Str} (nd:l.Nodup) (h:z∈l):Bn (l.map fun z=>((.inr z:Key),V.int (C4 rows i z))) (.inr z)=some (.int (C4 rows i z)):=by
 obtain⟨j,hj,e⟩:=List.mem_iff_getElem.mp h
 refine Cy (i:=j) ?_ ?_
 ·rw [bA];exact Ny nd
 ·rw [ak,ah hj,e];rfl
theorem by2 {f:Addr} {fd:aA} (Z:Au K t) (F:FunD K "term" "Panel.term" Vv f fd .none) (T:Tab P w K mg base 3 (Ri K t) bl):FnOk P w K mg base CX0 4 f fd ac8 (a66 K t):=by
 refine F.okW0 b59 cb6 T (b33 K t) (fun vs H Q E h=>?_) (fun vs H Q E h=>?_)
 ·obtain⟨p,a,l,s,wd,ss,sw,rfl,_⟩:=h;rfl
 ·obtain⟨p,a,l,s,wd,ss,sw,rfl,⟨dx,fs,⟨_,hp⟩,hl,hs,hm⟩,⟨ds,ed,⟨_,os⟩,hd⟩,hw,ha,⟨ne,hL,x,hx,ex,hin⟩,k⟩:=h
  have ex:x.1=wd:=ex
  have ne:ss≠[]:=ne
  have hL:okL ss:=hL
  have hin:∀ z∈ss,z∈x.2:=hin
  subst ex
  obtain⟨i,hi2⟩:=List.mem_iff_getElem?.mp hx
  have hids:i<ds.length:=by have:=An hi2;rw [<- ed,ae] at this;exact this
  obtain⟨⟨x',q⟩,hi⟩:∃ z,ds[i]? = some z:=⟨_,ah hids⟩
  have:x'=x:=by
   rw [<- ed,ak,hi] at hi2
   exact aF hi2
  subst this
  have oq:=(hd i _ hi).2
  have hok:=hw.sets x' hx
  have hv:Bn (ds.map kR) (.inr x'.1)=some (.ref q):=Cy (E5 ed hw.2.2.1) (by rw [ak,hi];rfl)
  have pl:=Ew hi2 hw.2.2.1
  have cl:=Z.pf.cl
  have na:NoAttr K t.c_zbe "sets" := Z.pf.na _ (by simp)
  have gq:∀ {H'},Same H H'->DGet H' s (.str x'.1) (some (.ref q)):=fun S=>.inl ⟨_,.inr x'.1,.inl (S _ _ os),rfl,hv.symm⟩
  refine⟨rfl,?_⟩
  refine iR ⟨_,_,_,_,hp,cl,na,hs,?_⟩
  refine .inr ⟨_,gq (Same.refl _),?_⟩
  refine⟨a,ss,rfl,SqL.of ha,hL,fun H1 S1=>⟨by decide,fun e he=>.inl ⟨a,e,_,_,rfl,rfl,(S1.trans (Same.upd he)).seqL (SqL.of ha),SqL.of Ad,Yd ss,rfl,Gk ?_ ?_⟩⟩⟩
  ·exact Hb (by rw [ae];intro z;exact ne (List.length_eq_zero_iff.mp z))
  have S2:=S1.trans (Same.upd (o:=.lst []) he)
  generalize upd H1 e (.lst [])=H2 at S2 ⊢
  refine .inl ⟨⟨_,S2.seqL (SqL.of ha)⟩,?_⟩
  refine Q4 (K:=K) (σ:=[none,some (.ref p),some (.str x'.1)]) (A5 (ss.map V.str)) (fun σ=>∃ v,σ=[v,some (.ref p),some (.str x'.1)]) (fun H3 S3=>(S2.trans S3).seqL (SqL.of ha)) ?_ ⟨_,rfl⟩ (fun σ x ⟨v,e⟩=>⟨some x,by rw [e];rfl⟩) ?_ fun D3 H3 S3 q3=>⟨_,q3,?_⟩
  ·rw [ae];exact aM hL.2.2 (by decide)
  ·rintro y σ H3 Q1 hy ⟨v,rfl⟩ S3 q1
   obtain⟨z,hz,rfl⟩:=List.mem_map.mp hy
   have S:=S2.trans S3
   refine iR ⟨_,_,_,_,(S _ _ hp),cl,na,hs,⟨.ref q,gq S,.inr ⟨_,.inl ⟨_,.inr z,.inl (S _ _ oq),rfl,rfl⟩,?_⟩⟩⟩
   rw [Sz hok.1.2.1 (hin z hz)]
   exact q1 H3 (Same.refl _)
  ·rw [Wm]
   have S:=S2.trans S3
   refine .inl ⟨⟨_,S.seqL (SqL.of ha)⟩,fun D hD=>?_⟩
   refine Oq (A5 (ss.map V.str)) (fun σ=>∃ v,σ=[v,some (.ref p),some (.str x'.1)]) (fun _=>true) (fun v=>match v with | .str z=>.int (C4 (Ah sw) i z)|_=>.non) hD (fun H4 S4=>(S.trans S4).seqL (SqL.of ha)) ?_ ⟨_,rfl⟩ ?_ ?_
   ·rw [ae];exact aM hL.2.2 (by decide)
   ·rintro y σ H4 hy ⟨v,rfl⟩ S4 Fin Skip hF hK
    obtain⟨z,hz,rfl⟩:=List.mem_map.mp hy
    have S5:=S.trans S4
    refine (iR ⟨_,_,_,_,(S5 _ _ hp),cl,na,hs,⟨.ref q,gq S5,.int (C4 (Ah sw) i z),.inl ⟨_,.inr z,.inl (S5 _ _ oq),rfl,?_⟩,?_⟩⟩)
    ·rw [Sz hok.1.2.1 (hin z hz)]
    ·exact hF _ _ _ ⟨_,rfl⟩ (Same.refl _) rfl rfl
   ·intro H4 S4 eD
    refine⟨D,ss.map (C4 (Ah sw) i),rfl,SqL.of (eD.trans ?_),?_⟩
    ·rw [List.filter_eq_self.mpr (fun _ _=>rfl),bA,bA];rfl
    ·have:=k H4 (S.trans S4)
     unfold Jj at this
     rw [pl] at this
     exact this
theorem bc9 {f:Addr} {fd:aA} (Z:Au K t) (F:FunD K "box" "Panel.box" Lc f fd .none) (T:Tab P w K mg base 4 (Yh K t) bl):FnOk P w K mg base CX0 5 f fd Qe (ao4 K t):=by
 refine F.okW0 bn2 bq4 T (bk9 K t) (fun vs H Q E h=>?_) (fun vs H Q E h=>?_)
 ·obtain⟨p,r,l,s,sw,rule,rfl,_⟩:=h;rfl
 ·obtain⟨p,r,l,s,sw,rule,rfl,hs,ht,hse,hw,⟨ds,ed,⟨_,od⟩,hd⟩,hr,k⟩:=h
  obtain⟨dx,fs,⟨np,hp⟩,_,_,hm⟩:=id hs
  have len:ds.length=rule.length:=by rw [<- ed];simp
  refine⟨_,true,.of (.dK od),rfl,⟨p,dx,fs,⟨t.c_zbe,av1 K t⟩,rfl,.head _,hp,hm _ (by decide),⟨au rfl,au rfl⟩,p,l,s,sw,rfl,hs.mono Kp.any,ht.mono Kp.any,hw.len,?_⟩⟩
  refine .inr (.inr (.inl ⟨_,od,fun o=>?_⟩))
  have kf:Kp (· ≠ r) H (· ≠ r) (upd H r (.frz o (.dK (ds.map kR)))):=Kp.off (fun e=>e rfl)
  have ef:upd H r (.frz o (.dK (ds.map kR))) r=some (.frz o (.dK (ds.map kR))):=Ad
  have hd2:∀ x∈ds,upd H r (.frz o (.dK (ds.map kR))) x.2=some (A8 x.1.2):=fun x hx=>by
   rw [Ai (fun e=>by have:=(hd x hx).2;rw [e,od] at this;cases this)]
   exact (hd x hx).2
  show Xu (Itd r o (ds.map kR)) _ _ _ [some (.ref p),some (.ref r),some (.int (Of sw)),none] _
  generalize hHf:upd H r (.frz o (.dK (ds.map kR)))=Hf at kf ef hd2 ⊢
  refine Bc (Qa (ds.map kR)) (fun i σ H'=>(∃ v3,σ=[some (.ref p),some (.ref r),some (.int ((rule.take i).foldl (fun c e=>bj c (Jj sw e)) (Of sw))),v3])/\Same Hf H') ⟨⟨_,rfl⟩,Same.refl _⟩ (fun i σ H' _ q=>q.2 _ _ ef) ?_ ?_
  ·rintro i x σ H1 hx ⟨⟨v3,rfl⟩,S1⟩
   obtain⟨kv,hi0,rfl⟩:=Ao hx
   obtain⟨⟨e,la⟩,hi,rfl⟩:=Ao hi0
   have hi2:rule[i]? = some e:=by rw [<- ed,ak,hi];rfl
   have hv:Bn (ds.map kR) (.inr e.1)=some (.ref la):=Cy (E5 ed hr.1) hi0
   have kn:Kp (· ≠ r) H any H1:=(kf.trans (Kp.same S1)).trans Kp.any
   refine⟨p,dx,fs,⟨t.c_zbe,bb7 K t⟩,rfl,.head _,(kn _ _ ⟨np,hp⟩).2,hm _ (by decide),⟨au rfl,au rfl⟩,.ref la,.inl ⟨_,.inr e.1,.inr ⟨o,S1 _ _ ef⟩,rfl,hv.symm⟩,?_⟩
   refine⟨p,la,l,s,e.1,e.2,sw,rfl,hs.mono kn,hse.mono kn,hw,S1 _ _ (hd2 _ (ai hi)),hr.2 e (ai hi2),fun H2 S2=>?_⟩
   exact⟨⟨_,congrArg (fun z=>[some (V.ref p),some (V.ref r),some (V.int z),some (V.str e.1)]) (C8 hi2 (fun c e=>bj c (Jj sw e)) (Of sw)).symm⟩,S1.trans S2⟩
  ·rintro σ H1 ⟨⟨v3,rfl⟩,S1⟩
   rw [ae,ae,len,aX]
   exact .inr ⟨r,o,_,od,S1 _ _ ef,k _ (Same.thaw od (hHf▸S1))⟩
theorem bx0 {f:Addr} {fd:aA} (Z:Au K t) (F:FunD K "read_rule" "Panel.read_rule" Vk f fd .none) (T:Tab P w K mg base 5 (Yi K t) bl):FnOk P w K mg base CX0 6 f fd ab6 (a62 K t):=by
 refine F.okW0 b47 ca4 T (b21 K t) (fun vs H Q E h=>?_) (fun vs H Q E h=>?_)
 ·obtain⟨p,r,l,s,sw,rule,rfl,_⟩:=h;rfl
 ·obtain⟨p,r,l,s,sw,rule,rfl,hs,ht,hse,hw,hrl,hr,k⟩:=h
  obtain⟨ds,ed,⟨_,od⟩,hd⟩:=id hrl
  obtain⟨dx,fs,⟨np,hp⟩,_,_,hm⟩:=id hs
  have len:ds.length=rule.length:=by rw [<- ed];simp
  have pos:0<rule.length:=List.length_pos_iff.mpr hr.1
  refine⟨_,true,.of (.dK od),rfl,(.inr ⟨_,.inl od,Gk ?_ ?_⟩)⟩
  ·refine decide_eq_false fun e=>?_
   rw [ae] at e
   omega
  refine⟨p,dx,fs,⟨t.c_zbe,Rj K t⟩,rfl,.head _,hp,hm _ (by decide),⟨au rfl,au rfl⟩,p,r,l,s,sw,rule,rfl,hs,ht,hse,hw,hrl,⟨hr.2.2.1,hr.2.2.2⟩,fun H1 S1=>?_⟩
  exact⟨r,rule,rfl,hrl.mono (Kp.same S1),hr.2.2.1,hr.2.1,fun H2 c S2 R2=>k H2 c (S1.trans S2) (R2.mono (Kp.fresh S1))⟩
theorem bw7 {f:Addr} {fd:aA} (Z:Au K t) (F:FunD K "read_rules" "Panel.read_rules" Vh f fd .none) (T:Tab P w K mg base 6 (Yj K t) bl):FnOk P w K mg base CX0 7 f fd ab3 (a61 K t):=by
 refine F.okW0 b44 ca1 T (b18 K t) (fun vs H Q E h=>?_) (fun vs H Q E h=>?_)
 ·obtain⟨p,l,s,ok,v,sw,rules,rfl,_⟩:=h;rfl
 ·obtain⟨p,l,s,ok,v,sw,rules,rfl,hs,ht,hse,hw,hv,hr,h8,k⟩:=h
  rcases hv with ⟨rfl,rfl⟩|⟨kk,rfl,ds,ed,⟨nk,ok1⟩,hd⟩
  ·refine⟨by decide,fun q hq=>k _ q (Same.upd hq) ⟨[],rfl,⟨hq,Ad⟩,fun x hx=>by cases hx⟩⟩
  ·obtain⟨dx,fs,⟨op,hp⟩,_,_,hm⟩:=id hs
   have len:(ds.map fun x=>V.ref x.2).length=rules.length:=by rw [<- ed];simp
   refine⟨_,true,.sqL rfl (SqL.of ok1) rfl,rfl,(.inl ⟨_,.inl (SqL.of ok1),Gk ?_ ?_⟩)⟩
   ·refine decide_eq_false fun e=>?_
    rw [len] at e
    omega
   refine .inl ⟨⟨_,SqL.of ok1⟩,fun D hD=>?_⟩
   refine Ce (A5 (ds.map fun x=>V.ref x.2)) (fun m σ H'=>(∃ v,σ=[v,some (.ref p)])/\Same H H' /\ ∃ fs:List (Sw×Addr),fs.map (·.1)=rules.take m/\H' D=some (.lst (fs.map fun x=>.ref x.2)) /\ ∀ x∈fs,RuleAt (fun a=>H a=none/\a≠D) H' x.2 x.1)
    ⟨⟨_,rfl⟩,Same.upd hD,[],rfl,Ad,fun x hx=>by cases hx⟩ (fun m σ H' _ q=>q.2.1.seqL (SqL.of ok1)) ?_ ?_
   ·rintro m x σ H1 hx ⟨⟨v,rfl⟩,S1,gs,eg,eD,hg⟩
    obtain⟨⟨rule,r⟩,hm2,rfl⟩:=Ao hx
    have hm3:rules[m]? = some rule:=by rw [<- ed,ak,hm2];rfl
    have hrl:=hd _ (ai hm2)
    have nr:¬ ok r:=by obtain⟨_,_,o,_⟩:=hrl;exact o.1
    have kw:Kp ok H (· ≠ r) H1:=(Kp.same S1).trans (Kp.weak fun a h e=>nr (e▸h))
    refine⟨p,dx,fs,⟨t.c_zbe,bb5 K t⟩,rfl,.head _,S1 _ _ hp,hm _ (by decide),⟨au rfl,au rfl⟩,p,r,l,s,sw,rule,rfl,hs.mono kw,ht.mono kw,hse.mono kw,hw,hrl.mono ((Kp.same S1).trans Kp.any),hr rule (ai hm3),fun H2 c S2 R2=>?_⟩
    have eD2:=S2 _ _ eD
    refine⟨_,eD2,?_,⟨_,rfl⟩,(S1.trans S2).set hD,gs++[(rule,c)],Hc eg hm3,?_,?_⟩
    ·rw [ae]
     have:=Tw eg
     exact aM (show gs.length<=8 by omega) (by decide)
    ·rw [Ad,az];rfl
    ·have ko:Kp (fun a=>H a=none/\a≠D) H2 (fun a=>H a=none/\a≠D) (upd H2 D (.lst ((gs.map fun x=>V.ref x.2)++[.ref c]))):=Kp.off (fun e=>e.2 rfl)
     intro x hx
     rcases List.mem_append.mp hx with hx|hx
     ·exact (hg x hx).mono ((Kp.same S2).trans ko)
     ·have:x=(rule,c):=by simpa using hx
      subst this
      exact R2.mono ((Kp.weak fun a h=>⟨S1.free h,(Ak eD h).symm⟩).trans ko)
   ·rintro σ H1 ⟨_,S1,gs,eg,eD,hg⟩
    rw [len,aX] at eg
    exact k H1 D S1 ⟨gs,eg,⟨hD,eD⟩,fun x hx=>(hg x hx).mono (Kp.weak fun a h=>h.1)⟩
theorem _root_.Pn.PanAt.self {C p dx d l n s k b:Addr} {ok:Addr->Prop} {H:Hp} {sw:Sw} {rules:List Sw} (h:PanAt C ok H p sw rules dx d l n s k b):SelfAt C ok H p l s:=by
 refine⟨dx,_,h.ins,rfl,rfl,fun m hm=>?_⟩
 simp only [aE,dL,or_false] at hm
 rcases hm with rfl|rfl|rfl|rfl|rfl|rfl <;> rfl
theorem bw6 {f:Addr} {fd:aA} (Z:Au K t) (F:FunD K "need_number" "Panel.need_number" Vg f fd .none) (T:Tab P w K mg base 1 (Eb K t) bl):FnOk P w K mg base CX0 2 f fd ab2 (a60 K t):=by
 refine F.okW0 b43 ca0 T (b17 K t) (fun vs H Q E h=>?_) (fun vs H Q E h=>?_)
 ·obtain⟨p,i,sw,rules,rfl,_⟩:=h;rfl
 ·obtain⟨p,i,sw,rules,rfl,⟨dx,d,l,n,s,kk,b,h⟩,hi,k⟩:=h
  refine⟨_,rfl,rfl,?_⟩
  have e2:decide ((i:Int)<((Ah sw).length:Int))=true:=by simp;exact hi
  exact⟨p,dx,_,⟨t.c_zbe,av3 K t⟩,rfl,.head _,h.ins.2,rfl,⟨au rfl,au rfl⟩,p,l,s,sw,rfl,h.self,h.tps,Gk (by rw [e2];rfl) k⟩
theorem by3 {f:Addr} {fd:aA} (Z:Au K t) (F:FunD K "told" "Panel.told" Vw f fd .none) (T:Tab P w K mg base 2 (Rh K t) bl):FnOk P w K mg base CX0 3 f fd ac9 (a67 K t):=by
 refine F.okW0 b60 cb7 T (b34 K t) (fun vs H Q E h=>?_) (fun vs H Q E h=>?_)
 ·obtain⟨p,i,r,sw,rules,rfl,_⟩:=h;rfl
 ·obtain⟨p,i,r,sw,rules,rfl,hP,hi,k⟩:=h
  obtain⟨dx,d,l,n,s,kk,b,h⟩:=id hP
  refine⟨p,dx,_,⟨t.c_zbe,bb3 K t⟩,rfl,.head _,h.ins.2,rfl,⟨au rfl,au rfl⟩,p,i,sw,rules,rfl,hP,An hi,?_⟩
  obtain⟨ds,ed,⟨_,ol⟩,hd⟩:=h.tps
  have hids:i<ds.length:=by have:=An hi;rw [<- ed,ae] at this;exact this
  obtain⟨⟨r',q⟩,hi'⟩:∃ z,ds[i]? = some z:=⟨_,ah hids⟩
  have:r'=r:=by
   rw [<- ed,ak,hi'] at hi
   exact aF hi
  subst this
  refine iR ⟨_,_,_,_,h.ins.2,Z.pf.cl,(Z.pf.na _ (by simp)),rfl,⟨_,.ref q,.inl (SqL.of ol),Bw (j:=i) (by rw [ak,hi'];rfl),?_⟩⟩
  exact k q (hd _ (ai hi')).2
theorem Gq (m n:Nat):decide (bj ((m:Int) / 2 ^ ((n:Int)).toNat) 1=1)=m.testBit n:=by
 rw [aK,Cw,<- Int.natCast_ediv,show (1:Int)=((1:Nat):Int) from rfl,Bx,kD,Nat.testBit_eq_decide_div_mod_eq]
 exact decide_eq_decide.mpr (by omega)
theorem bx2 {f:Addr} {fd:aA} (Z:Au K t) (F:FunD K "switches" "Panel.switches" Vm f fd .none) (T:Tab P w K mg base 0 (Bj K t) bl):FnOk P w K mg base CX0 1 f fd ab8 (a63 K t):=by
 refine F.okW0 b49 ca6 T (b23 K t) (fun vs H Q E h=>?_) (fun vs H Q E h=>?_)
 ·obtain⟨p,sw,rules,rfl,_⟩:=h;rfl
 ·obtain⟨p,sw,rules,rfl,⟨dx,d,l,n,s,kk,b,h⟩,hw,k⟩:=h
  obtain⟨ds,ed,⟨_,od⟩,hd⟩:=h.sws
  have len:ds.length=sw.length:=by rw [<- ed];simp
  refine iR ⟨_,_,_,_,h.ins.2,Z.pf.cl,(Z.pf.na _ (by simp)),rfl,⟨_,.inl od,?_,fun q Ts H' S hq eq lt la=>?_⟩⟩
  ·rw [ae,len];have:=hw.2.1;omega
  have lt:Ts.length=ds.length:=by rw [lt,ae]
  refine k H' q (ds.zip Ts) S hq ?_ ?_ ?_
  ·rw [<- ed,show (ds.zip Ts).map (·.1.1)=((ds.zip Ts).map (·.1)).map (·.1) by rw [bA];rfl,List.map_fst_zip (by omega)]
  ·rw [eq,show ((ds.zip Ts).map fun x=>V.ref x.2)=((ds.zip Ts).map (·.2)).map V.ref by rw [bA];rfl,List.map_snd_zip (by omega)]
  ·intro x hx
   obtain⟨j,hj,e⟩:=List.mem_iff_getElem.mp hx
   have e2:(ds.zip Ts)[j]? = some x:=by rw [ah hj,e]
   obtain⟨x1,x2⟩:=x
   rw [bZ] at e2
   obtain⟨e3,e4⟩:=e2
   have hl:=la j _ _ x2 (show (ds.map kR)[j]? = some (.inr x1.1.1,.ref x1.2) by rw [ak,e3];rfl) e4
   exact⟨hl.2,S _ _ (hd x1 (ai e3)).2⟩
theorem bx4 {f:Addr} {fd:aA} (Z:Au K t) (F:FunD K "parted" "Panel.parted" Vo f fd .none) (T:Tab P w K mg base 0 (Bj K t) bl):FnOk P w K mg base CX0 1 f fd ac0 (a64 K t):=by
 refine F.okW0 b51 ca8 T (b25 K t) (fun vs H Q E h=>?_) (fun vs H Q E h=>?_)
 ·obtain⟨p,i,x,sw,rules,rfl,_⟩:=h;rfl
 ·obtain⟨p,i,x,sw,rules,rfl,⟨dx,d,l,n,s,kk,b,h⟩,hw,hi,k⟩:=h
  obtain⟨ds,ed,⟨_,od⟩,hd⟩:=h.sts
  obtain⟨⟨x',q⟩,hi',ex⟩:∃ m,ds[i]? = some m/\x=m.1:=Ao (by rw [ed];exact hi)
  have ex:x=x':=ex
  subst ex
  have hv:Bn (ds.map kR) (.inr x.1)=some (.ref q):=Cy (E5 ed hw.2.2.1) (by rw [ak,hi'];rfl)
  have oq:=(hd i _ hi').2
  have hk:=hw.sets x (ai hi)
  refine iR ⟨_,_,_,_,h.ins.2,Z.pf.cl,(Z.pf.na _ (by simp)),rfl,⟨.ref q,.inl ⟨_,.inr x.1,.inl od,rfl,hv.symm⟩,_,.inl oq,?_,fun r Ts H' S hq eq lt la=>k H' r S ⟨Ts,eq,?_,fun j y z T e1 e2=>?_⟩⟩⟩
  ·rw [ae];have:=hk.2.2;show x.2.length<1000;omega
  ·rw [lt,ae,ae]
  ·rw [ak] at e1
   cases e:x.2[j]? with
   | none=>rw [e] at e1;cases e1
   | some z'=>
    rw [e] at e1
    cases e1
    exact (la j (.inr z') (.int (C4 (Ah sw) i z')) T (by rw [ak,e];rfl) e2).2
theorem Gs {f:Str} {p C dx:Addr} {fs fs':List (Str×V)} {y:V} {H:Hp} {N:Hp->Prop} (hp:H p=some (.ins C dx fs)) (c:Cls K C) (n:NoAttr K C f) (l:fs.length<1000) (e:Fr f y fs=fs') (k:∀ H',(∀ b,b≠p->H' b=H b)->H' p=some (.ins C dx fs')->N H'):an3 K f (.ref p) y H N:=
 .inl ⟨C,dx,fs,hp,c,n,l,k _ (fun b hb=>Ai hb) (by rw [Ad,e])⟩
theorem Kp.but {ok:Addr->Prop} {p:Addr} {H H':Hp} (h:∀ b,b≠p->H' b=H b) (n:¬ ok p):Kp ok H ok H':=fun a o q=>⟨q.1,by rw [h a (fun e=>n (e▸q.1))];exact q.2⟩
theorem Off.but {p:Addr} {H H1 H2:Hp} (h:Off p H H1) (e:∀ b,b≠p->H2 b=H1 b):Off p H H2:=fun b u n q=>by rw [e b n];exact h b u n q
theorem Off.fr {p:Addr} {u:HO} {H H1:Hp} (h:Off p H H1) (e:H1 p=some u):∀ b,H1 b=none->H b=none:=fun b q=>h.free (fun z=>by rw [z,e] at q;cases q) q
structure Pc (ok:Addr->Prop) (H:Hp) (d l n s:Addr) (sw:Sw):Prop where
 sws:SwAt ok H d sw
 tps:TupsAt ok H l (Ah sw)
 nms:NumAt ok H n (Ah sw)
 sts:SetsAt ok H s sw
theorem Pc.mono {ok ok':Addr->Prop} {H H':Hp} {d l n s:Addr} {sw:Sw} (h:Pc ok H d l n s sw) (k:Kp ok H ok' H'):Pc ok' H' d l n s sw:=⟨h.sws.mono k,h.tps.mono k,h.nms.mono k,h.sts.mono k⟩
noncomputable abbrev fl1 (d:Addr):List (Str×V):=[("settings", .ref d)]
noncomputable abbrev fl2 (d l:Addr):List (Str×V):=[("settings", .ref d),("tuples", .ref l)]
noncomputable abbrev fl3 (d l n:Addr):List (Str×V):=[("settings", .ref d),("tuples", .ref l),("numbers", .ref n)]
noncomputable abbrev fl4 (d l n s:Addr):List (Str×V):=[("settings", .ref d),("tuples", .ref l),("numbers", .ref n),("sets", .ref s)]
noncomputable abbrev fl5 (d l n s k:Addr):List (Str×V):=[("settings", .ref d),("tuples", .ref l),("numbers", .ref n),("sets", .ref s),("kept_rules", .ref k)]
noncomputable abbrev fl6 (d l n s k b:Addr):List (Str×V):=[("settings", .ref d),("tuples", .ref l),("numbers", .ref n),("sets", .ref s),("kept_rules", .ref k),("bars", .ref b)]
theorem Pg {fs:List (Str×V)} (h:fs.lookup ("all_choices" : Str)=none/\fs.lookup ("box" : Str)=none/\fs.lookup ("many" : Str)=none/\fs.lookup ("term" : Str)=none/\fs.lookup ("read_rule" : Str)=none/\fs.lookup ("read_rules" : Str)=none):∀ m∈(["all_choices", "box", "many", "term", "read_rule", "read_rules"]:List Str),fs.lookup m=none:=by
 intro m hm
 simp only [aE,dL,or_false] at hm
 rcases hm with rfl|rfl|rfl|rfl|rfl|rfl
 ·exact h.1
 ·exact h.2.1
 ·exact h.2.2.1
 ·exact h.2.2.2.1
 ·exact h.2.2.2.2.1
 ·exact h.2.2.2.2.2
theorem by0 {f:Addr} {fd:aA} (Z:Au K t) (F:FunD K "__init__" "Panel.__init__" Ip f fd t.dv_zr) (T:Tab P w K mg base 7 (Yk K t) bl):FnOk P w K mg base CX0 8 f fd ac6 (ap6 K t):=by
 refine F.okW0 b57 cb4 T (b31 K t) (fun vs H Q E h=>?_) (fun vs H Q E h=>?_)
 ·obtain⟨p,a,dx,v,sw,rules,rfl,_⟩:=h;rfl
 ·obtain⟨p,a,dx,v,sw,rules,rfl,hp,hsw,hw,hrl,hr,h8,hf,k⟩:=h
  have cl:=Z.pf.cl
  have na:=Z.pf.na
  have nf:¬ fresh H p:=(Gb hp)
  refine⟨a,sw,rfl,hsw.mono Kp.any,hw,fun H1 d S1 A1=>?_⟩
  refine Gs (S1 _ _ hp) cl (na _ (by simp)) (au rfl) (fs':=fl1 d) rfl fun H2 b2 p2=>?_
  have O2:Off p H H2:=fun b u n e=>by rw [b2 b n];exact S1 _ _ e
  have A2:=A1.mono (Kp.but b2 nf)
  refine iR ⟨_,_,_,_,p2,cl,(na _ (by simp)),rfl,⟨d,sw,rfl,A2.mono Kp.any,hw,fun H3 l S3 T3=>?_⟩⟩
  refine Gs (S3 _ _ p2) cl (na _ (by simp)) (au rfl) (fs':=fl2 d l) rfl fun H4 b4 p4=>?_
  have O4:=(O2.up S3).but b4
  have A4:=A2.mono ((Kp.same S3).trans (Kp.but b4 nf))
  have T4:=T3.mono ((Kp.weak (O2.fr p2)).trans (Kp.but b4 nf))
  refine iR ⟨_,_,_,_,p4,cl,(na _ (by simp)),rfl,⟨l,Ah sw,rfl,T4.mono Kp.any,(Dv hw.sets).1,hw.len,fun H5 n S5 N5=>?_⟩⟩
  refine Gs (S5 _ _ p4) cl (na _ (by simp)) (au rfl) (fs':=fl3 d l n) rfl fun H6 b6 p6=>?_
  have O6:=(O4.up S5).but b6
  have A6:=A4.mono ((Kp.same S5).trans (Kp.but b6 nf))
  have T6:=T4.mono ((Kp.same S5).trans (Kp.but b6 nf))
  have N6:=N5.mono ((Kp.weak (O4.fr p4)).trans (Kp.but b6 nf))
  refine iR ⟨_,_,_,_,p6,cl,(na _ (by simp)),rfl,(iR ⟨_,_,_,_,p6,cl,(na _ (by simp)),rfl,⟨d,l,sw,rfl,A6.mono Kp.any,T6.mono Kp.any,hw,fun H7 s S7 E7=>?_⟩⟩)⟩
  refine Gs (S7 _ _ p6) cl (na _ (by simp)) (au rfl) (fs':=fl4 d l n s) rfl fun H8 b8 p8=>?_
  have O8:=(O6.up S7).but b8
  have k78:=(Kp.same (ok:=fresh H) S7).trans (Kp.but b8 nf)
  have P8:Pc (fresh H) H8 d l n s sw:=⟨A6.mono k78,T6.mono k78,N6.mono k78,E7.mono ((Kp.weak (O6.fr p6)).trans (Kp.but b8 nf))⟩
  have P8':Pc (fun b=>H b=none/\H8 b≠none) H8 d l n s sw:=P8.mono fun b o q=>⟨⟨q.1,by rw [q.2];exact fun z=>nomatch z⟩,q.2⟩
  have w8:Kp (fresh H) H8 (fun b=>b=p\/H b=none) H8:=Kp.weak fun b e=>.inr e
  have RI:Ed (fun b=>¬ (b=p\/H b=none)) H8 v rules:=by
   rcases hrl with h|⟨kk,e,R⟩
   ·exact .inl h
   ·refine .inr ⟨kk,e,R.mono fun b o q=>⟨fun z=>?_,O8 _ _ q.1 q.2⟩⟩
    rcases z with z|z
    ·exact q.1 z
    ·have:=q.2;rw [z] at this;cases this
  refine⟨p,dx,_,⟨t.c_zbe,bb4 K t⟩,rfl,.head _,p8,rfl,⟨au rfl,au rfl⟩,p,l,s,(fun b=>b=p\/H b=none),v,sw,rules,rfl,⟨dx,_,⟨.inl rfl,p8⟩,rfl,rfl,Pg ⟨rfl,rfl,rfl,rfl,rfl,rfl⟩⟩,P8.tps.mono w8,P8.sts.mono w8,hw,RI,hr,h8,fun H9 kk S9 R9=>?_⟩
  refine Gs (S9 _ _ p8) cl (na _ (by simp)) (au rfl) (fs':=fl5 d l n s kk) rfl fun H10 b10 p10=>?_
  have O10:=(O8.up S9).but b10
  have n8:¬ fresh H8 p:=(Gb p8)
  have R10:=R9.mono (Kp.but b10 n8)
  have P10:Pc (fun b=>H b=none/\H8 b≠none) H10 d l n s sw:=P8'.mono ((Kp.same S9).trans (Kp.but b10 (fun e=>nf e.1)))
  obtain⟨rs,er,⟨fk,ok⟩,hrs⟩:=id R10
  have lenr:(rs.map fun x=>V.ref x.2).length=rules.length:=by rw [<- er];simp
  refine iR ⟨_,_,_,_,p10,cl,(na _ (by simp)),rfl,(.inl ⟨⟨_,SqL.of ok⟩,fun D hD=>?_⟩)⟩
  have fD:H D=none:=O10.fr p10 D hD
  refine Ce (A5 (rs.map fun x=>V.ref x.2)) (fun m σ H'=>(∃ v,σ=[v,some (.ref p)])/\Same H10 H'/\H' D=some (.lst ((Iu sw (rules.take m)).map V.int))) ⟨⟨_,rfl⟩,Same.upd hD,Ad⟩ (fun m σ H' _ q=>q.2.1.seqL (SqL.of ok)) ?_ ?_
  ·rintro m x σ H11 hx ⟨⟨v,rfl⟩,S11,eD⟩
   obtain⟨⟨rule,r⟩,hm2,rfl⟩:=Ao hx
   have hm3:rules[m]? = some rule:=by rw [<- er,ak,hm2];rfl
   have hrl2:=hrs _ (ai hm2)
   have nr:H8 r=none:=by obtain⟨_,_,o,_⟩:=hrl2;exact o.1
   have npr:p≠r:=Ak p8 nr
   have kw:Kp (fun b=>H b=none/\H8 b≠none) H10 (· ≠ r) H11:=(Kp.same S11).trans (Kp.weak fun b h e=>h.2 (e▸nr))
   refine⟨p,dx,_,⟨t.c_zbe,Rj K t⟩,rfl,.head _,S11 _ _ p10,rfl,⟨au rfl,au rfl⟩,p,r,l,s,sw,rule,rfl,⟨dx,_,⟨npr,S11 _ _ p10⟩,rfl,rfl,Pg ⟨rfl,rfl,rfl,rfl,rfl,rfl⟩⟩,P10.tps.mono kw,P10.sts.mono kw,hw,hrl2.mono ((Kp.same S11).trans Kp.any),(hr rule (ai hm3)).2.2,fun H12 S12=>?_⟩
   refine⟨_,S12 _ _ eD,?_,⟨_,rfl⟩,(S11.trans S12).set hD,?_⟩
   ·rw [ae]
    unfold Iu
    rw [ae,aO]
    exact aM (show min m rules.length<=8 by omega) (by decide)
   ·rw [Ad]
    unfold Iu
    rw [Be hm3,az]
    rfl
  rintro σ H11 ⟨_,S11,eD⟩
  rw [lenr,aX] at eD
  refine Gs (S11 _ _ p10) cl (na _ (by simp)) (au rfl) (fs':=fl6 d l n s kk D) rfl fun H12 b12 p12=>?_
  have O12:=(O10.up S11).but b12
  have nDp:D≠p:=(Ak p10 hD).symm
  have B12:H12 D=some (.lst ((Iu sw rules).map V.int)):=by rw [b12 D nDp];exact eD
  have k12:∀ {ok:Addr->Prop},¬ ok p->Kp ok H10 ok H12:=fun h=>(Kp.same S11).trans (Kp.but b12 h)
  have P12:=P10.mono (k12 fun e=>nf e.1)
  have R12:=R10.mono (k12 n8)
  refine⟨p,dx,_,⟨t.c_zbe,av1 K t⟩,rfl,.head _,p12,rfl,⟨au rfl,au rfl⟩,p,l,s,sw,rfl,⟨dx,_,⟨trivial,p12⟩,rfl,rfl,Pg ⟨rfl,rfl,rfl,rfl,rfl,rfl⟩⟩,P12.tps.mono Kp.any,hw.len,iR ⟨_,_,_,_,p12,cl,(na _ (by simp)),rfl,⟨D,Iu sw rules,rfl,SqL.of B12,?_⟩⟩⟩
  refine Gs p12 cl (na _ (by simp)) (au rfl) (fs':=bt7 d l n s kk D (Gj sw rules)) rfl fun H14 b14 p14=>?_
  refine iR ⟨_,_,_,_,p14,cl,(na _ (by simp)),rfl,(Gk (decide_eq_false hf) ?_)⟩
  have kk14:∀ {ok:Addr->Prop},¬ ok p->(∀ b,ok b->H b=none)->Kp ok H12 (fun b=>b=p\/H b=none) H14:=fun h g=>(Kp.but b14 h).trans (Kp.weak fun b e=>.inr (g b e))
  have P14:=P12.mono (kk14 (fun e=>nf e.1) fun b e=>e.1)
  refine k H14 ((O12.but b14)) ⟨dx,d,l,n,s,kk,D,⟨.inl rfl,p14⟩,P14.sws,P14.tps,P14.nms,P14.sts,R12.mono (kk14 n8 (O8.fr p8)),⟨.inr fD,?_⟩⟩
  rw [b14 D nDp];exact B12
theorem bd8 {f:Addr} {fd:aA} (Z:Au K t) (F:FunD K "_law_cell" "_law_cell" Lm f fd .none) (T:Tab P w K mg base 0 (Bj K t) bl):FnOk P w K mg base CX0 1 f fd Qo (Cv K t):=by
 refine F.okW0 bo1 br3 T (bl8 K t) (fun vs H Q E h=>?_) (fun vs H Q E h=>?_)
 ·obtain⟨a,ns,k,rfl,_⟩:=h;rfl
 ·obtain⟨a,ns,k,rfl,hS,q⟩:=h
  refine .inl ⟨_,.inl hS,?_⟩
  refine Mt (fun e=>?_) (fun e=>?_)
  ·have e:(k:Int)<((ns.map V.int).length:Int):=by simpa using e
   have hk:k<ns.length:=by rw [ae] at e;omega
   refine⟨_,_,.inl hS,Bw (j:=k) (by rw [ak,ah hk];rfl),?_⟩
   have:Ay ns k=ns[k]:=by unfold Ay;rw [aC,ah hk];rfl
   rw [this] at q
   exact q
  ·have e:¬ (k:Int)<((ns.map V.int).length:Int):=by simpa using e
   have hk:ns.length<=k:=by rw [ae] at e;omega
   refine⟨.inr ⟨by decide,by decide⟩,?_⟩
   have:Ay ns k=((k:Int)+3) * 7919:=by unfold Ay;rw [aC,dy hk];rfl
   rw [this] at q
   exact q
theorem cc9 {c1 c2 c3:Bool} {A B:Prop} (a:A) (b:B):if c1=true then (if c2=true then (if c3=true then A else B) else (if false=true then A else B)) else (if false=true then A else B):=by
 cases c1 <;> cases c2 <;> cases c3 <;> first|exact Dj (Dj b)|exact Dj b|exact D0 (Dj (Dj b))|exact D0 (D0 (Dj b))|exact D0 (D0 (D0 a))
theorem by7 {f:Addr} {fd:aA} (Z:Au K t) (F:FunD K "_law_stream" "_law_stream" V0 f fd .none) (T:Tab P w K mg base 0 (Bj K t) bl):FnOk P w K mg base CX0 1 f fd ad3 (Xj K t):=by
 refine F.okW0 b64 cc1 T (b38 K t) (fun vs H Q E h=>?_) (fun vs H Q E h=>?_)
 ·obtain⟨c,n,rfl,_⟩:=h;rfl
 ·obtain⟨c,n,rfl,hn,k⟩:=h
  refine⟨by decide,fun l hl=>⟨⟨by decide,by decide⟩,by decide,⟨by omega,by omega⟩,?_⟩⟩
  rw [aK]
  have m1:=b9 c (show (2147483629:Int)≠0 by decide)
  have m2:=bU c (show (0:Int)<2147483629 by decide)
  refine Bc (Bu 0 n) (fun i σ H'=>(∃ left num v,σ=[some (.int c),some (.int n),some (.ref l),some (.int left),some (.int num),v]/\0<=num/\num<4294967296)/\Same H H' /\ ∃ ns:List Int,ns.length=i/\H' l=some (.lst (ns.map V.int)) /\ ∀ z∈ns,0<=z)
   ⟨⟨_,_,_,rfl,by omega,by omega⟩,Same.upd hl,[],rfl,Ad,(fun z hz=>by cases hz)⟩ (fun _ _ _ _ _=>bC) ?_ ?_
  ·rintro i x σ H' hx ⟨⟨left,num,v,rfl,u1,u2⟩,S,ns,e1,e2,e3⟩
   obtain⟨hi,rfl⟩:=Dm hx
   refine⟨.inr ⟨by decide,by decide⟩,.inl ⟨by decide,by decide⟩,by decide,by decide,?_⟩
   have w1:=b9 (num * 48271+7919 * (i:Int)+1) (show (2147483647:Int)≠0 by decide)
   have w2:=bU (num * 48271+7919 * (i:Int)+1) (show (0:Int)<2147483647 by decide)
   generalize (num * 48271+7919 * (i:Int)+1) % 2147483647=nu at w1 w2 ⊢
   have put:∀ y:Int,0<=y->Same H (upd H' l (.lst (ns.map V.int++[.int y]))) /\ ∃ ns2:List Int,ns2.length=i+1/\upd H' l (.lst (ns.map V.int++[.int y])) l=some (.lst (ns2.map V.int)) /\ ∀ z∈ns2,0<=z:=fun y y1=>
    ⟨S.set hl,ns++[y],by rw [aJ,e1];rfl,by rw [Ad,az];rfl,fun z hz=>by
     rcases List.mem_append.mp hz with h|h
     ·exact e3 z h
     ·have:z=y:=by simpa using h
      subst this;exact y1⟩
   have hsz:(ns.map V.int).length<sizeLine:=by rw [ae,e1];exact aG (show i<100 by omega) (by decide)
   refine cc9 ?_ ?_
   ·have y1:=b9 left (show (268435456:Int)≠0 by decide)
    exact⟨.inl ⟨rfl,_,SqL.of e2⟩,by decide,l,_,_,rfl,rfl,e2,hsz,⟨by decide,by decide⟩,⟨_,_,_,rfl,by omega,by omega⟩,put _ y1⟩
   ·have y1:=b9 (nu * nu % 2147483629 * 16807+(i:Int)) (show (2147483587:Int)≠0 by decide)
    exact⟨.inl ⟨rfl,_,SqL.of e2⟩,.inl ⟨by omega,by omega⟩,by decide,.inr ⟨by decide,by decide⟩,by decide,⟨by decide,by decide⟩,l,_,_,rfl,rfl,e2,hsz,⟨_,_,_,rfl,by omega,by omega⟩,put _ (by omega)⟩
  ·rintro σ H' ⟨⟨left,num,v,rfl,_⟩,S,ns,e1,e2,e3⟩
   rw [A9] at e1
   exact .inl (k _ l ns S hl e2 e1 e3)
noncomputable abbrev lettersS:Str := "abcdefghijklmnopqrstuvwxyz"
theorem Yt:lettersS.cps.toList=(aq 26).map (97 + ·):=by decide +kernel
theorem F8 {i:Int} (h0:0<=i) (h:i<26):atI lettersS.cps.toList i=some (97+i.toNat):=by
 have e:i=((i.toNat:Nat):Int):=by omega
 rw [e,aK]
 refine Bw ?_
 rw [Yt,ak,dU (by omega)]
 rfl
theorem O9 (l:List Nat):Txt.join (cS "") (l.map fun k=>(⟨#[k]⟩:Str))=⟨l.toArray⟩:=by
 show Builtin.Str.glued (cS "") _=_
 rw [StrLaws.glued_eq_join,show cS "" = (⟨#[]⟩:Str) from by decide +kernel]
 exact PyProof.Rows.join_ones l
theorem Ss (l:List Nat):((l.map fun k=>(⟨#[k]⟩:Str)).map (·.length)).sum+(l.map fun k=>(⟨#[k]⟩:Str)).length * (cS "").length=l.length:=by
 rw [show (cS "").length=0 from by decide +kernel,Nat.mul_zero,Nat.add_zero]
 induction l with
 | nil=>rfl
 | cons a l ih=>rw [be,be,List.sum_cons,ih,aN,show (⟨#[a]⟩:Str).length=1 from rfl,lv]
theorem Ks {i:Int} (h0:0<=i) (h:i<26):Br (97+i.toNat)=true:=by
 unfold Br
 simp
 omega
theorem as6 {l:List Nat} {g:Nat->Nat} (h:∀ j,Br (g j)=true):(l.map g).all Br=true:=by rw [fU,aW];exact fun _ _=>h _
theorem a07 {lo:Int} {n i:Nat} {x:V} (h:(Sj lo n)[i]? = some x):i<n/\x=.int (lo+(i:Int)):=by
 have hi:=An h
 rw [A9] at hi
 rw [La hi] at h
 exact⟨hi,by simpa using h.symm⟩
theorem ah7 {E:EK} {te:DE} {lo:Int} {n:Nat} {g:Nat->Nat} {rest:St} {H:Hp} {R:Hp->Addr->Prop} (hn:n<=8) (he:∀ (j:Nat) (H1:Hp) (Q1:VK),j<n->(∀ H2,Same H1 H2->Q1 (.str ⟨#[g j]⟩) H2)->te (some (.int (lo+(j:Int)))::rest) H1 Q1 E)
  (k:∀ D H',Same H H'->H D=none->H' D=some (.lst ((((aq n).map g).map fun c=>(⟨#[c]⟩:Str)).map V.str))->R H' D):∀ D,H D=none->Fg (Itr lo n) (gdN 0) B5 te D (fun H'=>R H' D) (none::rest) (upd H D (.lst [])) E:=by
 intro D hD
 refine Ce (Bu lo n) (fun m σ H'=>(∃ v,σ=v::rest)/\Same H H'/\H' D=some (.lst ((((aq m).map g).map fun c=>(⟨#[c]⟩:Str)).map V.str))) ⟨⟨_,rfl⟩,Same.upd hD,Ad⟩ (fun _ _ _ _ _=>bC) ?_ ?_
 ·rintro m x σ H1 hx ⟨⟨v,rfl⟩,S1,eD⟩
  obtain⟨hm,rfl⟩:=a07 hx
  refine (he m H1 _ hm fun H2 S2=>⟨_,S2 _ _ eD,?_,⟨_,rfl⟩,(S1.trans S2).set hD,?_⟩)
  ·rw [ae,ae,ae,bB]
   exact aG (show m<8 by omega) (by decide)
  ·rw [Ad,dz,az,az,az];rfl
 ·rintro σ H1 ⟨_,S1,eD⟩
  rw [A9] at eD
  exact k D H1 S1 hD eD
theorem Lz {l:List Nat} {n:Int} (h0:0<=n) (h:n.toNat<=l.length):iX ⟨l.toArray⟩ none (some n)=⟨(l.take n.toNat).toArray⟩:=by
 have e:=cU (PyProof.Rows.slice_closes_to (x:=⟨l.toArray⟩) (j:=n) ⟨h0,by show n<=(l.length:Int);omega⟩)
 rw [e,ll]
 rfl
theorem V4 {l:List Nat} {n:Int} (h0:0<=n) (h:n.toNat<=l.length):iX ⟨l.toArray⟩ (some n) none=⟨(l.drop n.toNat).toArray⟩:=by
 have e:=cU (PyProof.Rows.slice_closes_from (x:=⟨l.toArray⟩) (i:=n) ⟨h0,by show n<=(l.length:Int);omega⟩)
 rw [e]
 show (⟨((l.drop n.toNat).take ((l.length:Int) - n).toNat).toArray⟩:Str)=_
 rw [gw (by rw [cz];omega)]
theorem Jq (a b:List Nat):((⟨a.toArray⟩:Str)++⟨b.toArray⟩)=⟨(a++b).toArray⟩:=by
 apply a15
 rw [Str.cps_append]
 simp
noncomputable abbrev D9 (c:Int):List Nat:=(aq 7).map (Xm c)
noncomputable abbrev Fd (c:Int):Nat:=(1+c / 4 % 8).toNat
noncomputable abbrev atB (c:Int):Nat:=(c / 32 % (1+c / 4 % 8)).toNat
noncomputable abbrev B0 (c:Int):List Nat:=([97+(c / 256 % 26).toNat]++D9 c).take (Fd c)
theorem J3 {c:Int} (h:c % 4=3) (k:Nat):Bq c k=⟨([97+((c / 4+(k:Int) / 8) % 26).toNat]++(D9 c).take (k % 8)).toArray⟩:=by unfold Bq;rw [if_pos h]
theorem J4 {c:Int} (h:¬ c % 4=3) (k:Nat):Bq c k=⟨((B0 c).take (atB c)++[97+((c / 6656+(k:Int)) % 26).toNat]++(B0 c).drop (atB c+1)).toArray⟩:=by unfold Bq;rw [if_neg h]
theorem Gd (c:Int):(D9 c).length=7:=by simp
theorem ao2 (c:Int):1<=Fd c/\Fd c<=8/\atB c<Fd c/\(B0 c).length=Fd c:=by
 have h1:0<=c / 32 % (1+c / 4 % 8)/\c / 32 % (1+c / 4 % 8)<1+c / 4 % 8:=⟨b9 _ (by omega),bU _ (by omega)⟩
 have hs:1<=Fd c/\Fd c<=8:=by show 1<=(1+c / 4 % 8).toNat/\(1+c / 4 % 8).toNat<=8;omega
 refine⟨hs.1,hs.2,?_,?_⟩
 ·show (c / 32 % (1+c / 4 % 8)).toNat<(1+c / 4 % 8).toNat
  omega
 ·show (([97+(c / 256 % 26).toNat]++D9 c).take (Fd c)).length=_
  rw [aO,aJ,Gd]
  show min (Fd c) (1+7)=_
  omega
theorem Su (c:Int):(D9 c).all Br=true:=as6 fun j=>Ks (b9 _ (by decide)) (bU _ (by decide))
theorem Kb {l:List Nat} {n:Nat} (h:l.all Br=true):(l.take n).all Br=true:=List.all_eq_true.mpr fun x hx=>List.all_eq_true.mp h x (d8 hx)
theorem ad6 {l:List Nat} {n:Nat} (h:l.all Br=true):(l.drop n).all Br=true:=List.all_eq_true.mpr fun x hx=>List.all_eq_true.mp h x (g7 hx)
theorem Pi (i:Int):([97+(i % 26).toNat]:List Nat).all Br=true:=by
 rw [bw,Ks (b9 _ (by decide)) (bU _ (by decide))]
 rfl
theorem a21 (c:Int) (k:Nat):okW (Bq c k):=by
 by_cases h:c % 4=3
 ·rw [J3 h]
  have e:([97+((c / 4+(k:Int) / 8) % 26).toNat]++(D9 c).take (k % 8)).length=1+k % 8:=by
   rw [aJ,aO,Gd]
   show 1+min (k % 8) 7=_
   omega
  refine⟨?_,?_,?_⟩
  ·show 1<=([97+((c / 4+(k:Int) / 8) % 26).toNat]++(D9 c).take (k % 8)).toArray.size
   rw [av,e];omega
  ·show ([97+((c / 4+(k:Int) / 8) % 26).toNat]++(D9 c).take (k % 8)).toArray.size<=8
   rw [av,e];omega
  ·show ([97+((c / 4+(k:Int) / 8) % 26).toNat]++(D9 c).take (k % 8)).all Br=true
   rw [ia,Pi,Kb (Su c)];rfl
 ·rw [J4 h]
  obtain⟨s1,s2,s3,s4⟩:=ao2 c
  have hb:(B0 c).all Br=true:=Kb (by rw [ia,Pi,Su];rfl)
  have e:((B0 c).take (atB c)++[97+((c / 6656+(k:Int)) % 26).toNat]++(B0 c).drop (atB c+1)).length=Fd c:=by
   rw [aJ,aJ,aO,cz,s4]
   show min (atB c) (Fd c)+1+(Fd c - (atB c+1))=_
   omega
  refine⟨?_,?_,?_⟩
  ·show 1<=((B0 c).take (atB c)++[97+((c / 6656+(k:Int)) % 26).toNat]++(B0 c).drop (atB c+1)).toArray.size
   rw [av,e];exact s1
  ·show ((B0 c).take (atB c)++[97+((c / 6656+(k:Int)) % 26).toNat]++(B0 c).drop (atB c+1)).toArray.size<=8
   rw [av,e];exact s2
  ·show ((B0 c).take (atB c)++[97+((c / 6656+(k:Int)) % 26).toNat]++(B0 c).drop (atB c+1)).all Br=true
   rw [ia,ia,Pi,Kb hb,ad6 hb];rfl
theorem ar5 {c:Int} {i j:Nat} (hi:i<=8) (hj:j<=8) (h:Bq c i=Bq c j):i=j:=by
 have h:=congrArg (fun z:Str=>z.cps.toList) h
 by_cases hc:c % 4=3
 ·rw [J3 hc,J3 hc] at h
  have h:[97+((c / 4+(i:Int) / 8) % 26).toNat]++(D9 c).take (i % 8)=[97+((c / 4+(j:Int) / 8) % 26).toNat]++(D9 c).take (j % 8):=h
  have h1:97+((c / 4+(i:Int) / 8) % 26).toNat=97+((c / 4+(j:Int) / 8) % 26).toNat:=(i6 h).1
  have h2:((D9 c).take (i % 8)).length=((D9 c).take (j % 8)).length:=congrArg cD (i6 h).2
  rw [aO,aO,Gd] at h2
  omega
 ·rw [J4 hc,J4 hc] at h
  obtain⟨s1,s2,s3,s4⟩:=ao2 c
  have h:(B0 c).take (atB c)++[97+((c / 6656+(i:Int)) % 26).toNat]++(B0 c).drop (atB c+1)=(B0 c).take (atB c)++[97+((c / 6656+(j:Int)) % 26).toNat]++(B0 c).drop (atB c+1):=h
  have h1:=List.append_cancel_right h
  have h2:=List.append_cancel_left h1
  have h3:97+((c / 6656+(i:Int)) % 26).toNat=97+((c / 6656+(j:Int)) % 26).toNat:=(i6 h2).1
  omega
theorem be0 {f:Addr} {fd:aA} (Z:Au K t) (F:FunD K "_law_word" "_law_word" Lo f fd .none) (T:Tab P w K mg base 0 (Bj K t) bl):FnOk P w K mg base CX0 1 f fd Qq (Ir K t):=by
 refine F.okW0 bo3 br5 T (bm0 K t) (fun vs H Q E h=>?_) (fun vs H Q E h=>?_)
 ·obtain⟨c,k,rfl,_⟩:=h;rfl
 ·obtain⟨c,k,rfl,hk,q⟩:=h
  have big:(100:Nat)<=sizeLine:=by decide
  refine⟨rfl,⟨by decide,by decide,by decide,by decide⟩,?_⟩
  refine ah7 (lo:=1) (n:=7) (g:=Xm c) (rest:=[some (.int c),some (.str lettersS)]) (by decide) (fun j H2 Q1 hj q=>?_) fun D H2 S2 hD eD=>?_
  ·exact⟨⟨by decide,by decide⟩,.inl ⟨by decide,by decide⟩,.inl ⟨by omega,by omega⟩,by decide,by decide,_,F8 (b9 _ (by decide)) (bU _ (by decide)),q H2 (Same.refl _)⟩
  ·refine⟨_,D,_,rfl,rfl,SqL.of eD,?_,?_⟩
   ·rw [Ss,ae,bB];decide
   rw [O9]
   have q:=q H2 S2
   have tl:=Gd c
   refine⟨by decide,Mt (fun hc=>?_) (fun hc=>?_)⟩
   ·have hc:c % 4=3:=by simpa using hc
    refine⟨⟨by decide,by decide⟩,⟨by decide,by decide⟩,by decide,by decide,_,F8 (b9 _ (by decide)) (bU _ (by decide)),by decide,(show 7<=sizeLine by decide),?_⟩
    rw [Lz (by omega) (by rw [tl];omega)]
    have e:((k:Int) % 8).toNat=k % 8:=by omega
    rw [e]
    refine⟨aQ (Nat.add_le_add_left (show ((D9 c).take (k % 8)).toArray.size<=7 by rw [av,aO,tl];omega) _) (show 1+7<=sizeLine by decide),?_⟩
    rw [J3 hc,<- Jq] at q
    exact q
   ·have hc:¬ c % 4=3:=by simpa using hc
    obtain⟨s1,s2,s3,s4⟩:=ao2 c
    have h1:0<=c / 32 % (1+c / 4 % 8)/\c / 32 % (1+c / 4 % 8)<1+c / 4 % 8:=⟨b9 _ (by omega),bU _ (by omega)⟩
    refine⟨⟨by decide,by decide⟩,by decide,⟨by decide,by decide⟩,by omega,⟨by decide,by decide⟩,by decide,by decide,_,F8 (b9 _ (by decide)) (bU _ (by decide)),(show 1+7<=sizeLine by decide),(show 8<=sizeLine by decide),?_⟩
    have eb:iX ((⟨#[97+(c / 256 % 26).toNat]⟩:Str)++⟨(D9 c).toArray⟩) none (some (1+c / 4 % 8))=⟨(B0 c).toArray⟩:=by
     rw [show (#[97+(c / 256 % 26).toNat]:Array Nat)=[97+(c / 256 % 26).toNat].toArray from rfl,Jq,Lz (by omega) (by rw [aJ,tl];show _<=1+7;omega)]
    rw [eb]
    have lb:(⟨(B0 c).toArray⟩:Str).length<=8:=by
     show (B0 c).toArray.size<=8
     rw [av,s4];exact s2
    have ea:iX ⟨(B0 c).toArray⟩ none (some (c / 32 % (1+c / 4 % 8)))=⟨((B0 c).take (atB c)).toArray⟩:=Lz h1.1 (by rw [s4];exact fc s3)
    have ed:iX ⟨(B0 c).toArray⟩ (some (c / 32 % (1+c / 4 % 8)+1)) none=⟨((B0 c).drop (atB c+1)).toArray⟩:=by
     rw [V4 (by omega) (by rw [s4];show (c / 32 % (1+c / 4 % 8)+1).toNat<=(1+c / 4 % 8).toNat;omega),show (c / 32 % (1+c / 4 % 8)+1).toNat=atB c+1 by show _=(c / 32 % (1+c / 4 % 8)).toNat+1;omega]
    have la:=Txt.slice_le (⟨(B0 c).toArray⟩:Str) none (some (c / 32 % (1+c / 4 % 8)))
    have ld:=Txt.slice_le (⟨(B0 c).toArray⟩:Str) (some (c / 32 % (1+c / 4 % 8)+1)) none
    refine⟨by omega,⟨by decide,by decide⟩,by decide,by decide,_,F8 (b9 _ (by decide)) (bU _ (by decide)),aQ (jW (aQ la lb) _) (show 8+1<=sizeLine by decide),by omega,?_,?_⟩
    ·rw [as8]
     exact aQ (Nat.add_le_add (jW (aQ la lb) _) (aQ ld lb)) (show 8+1+8<=sizeLine by decide)
    ·rw [J4 hc,<- Jq,<- Jq] at q
     rw [ea,ed]
     exact q
structure SwL (H H':Hp) (ls:Addr) (ds:List (((Str×List Str)×Addr)×Addr)):Prop where
 at_:H' ls=some (.lst (ds.map fun x=>.ref x.2))
 tup:∀ x∈ds,H' x.2=some (.tup [.str x.1.1.1,.ref x.1.2])
 lst:∀ x∈ds,H' x.1.2=some (A8 x.1.1.2)
 ne:∀ x∈ds,x.1.2≠ls/\H x.1.2=none
theorem SwL.up {H H1 H2:Hp} {ls:Addr} {ds:List (((Str×List Str)×Addr)×Addr)} (h:SwL H H1 ls ds) (S:Same H1 H2):SwL H H2 ls ds:=⟨S _ _ h.at_,fun x hx=>S _ _ (h.tup x hx),fun x hx=>S _ _ (h.lst x hx),h.ne⟩
theorem SwL.snoc {H H1:Hp} {ls:Addr} {ds:List (((Str×List Str)×Addr)×Addr)} (h:SwL H H1 ls ds) {e:Str×List Str} {la ta:Addr} (ht:H1 ta=some (.tup [.str e.1,.ref la])) (hl:H1 la=some (A8 e.2)) (nl:la≠ls) (fl:H la=none) :
  SwL H (upd H1 ls (.lst ((ds.map fun x=>V.ref x.2)++[.ref ta]))) ls (ds++[((e,la),ta)]):=by
 have nt:∀ {a:Addr} {xs:List V},H1 a=some (.tup xs)->a≠ls:=fun q z=>by rw [z,h.at_] at q;cases q
 refine⟨by rw [Ad,az];rfl,fun x hx=>?_,fun x hx=>?_,fun x hx=>?_⟩
 ·rcases List.mem_append.mp hx with hx|hx
  ·rw [Ai (nt (h.tup x hx))];exact h.tup x hx
  ·have:x=((e,la),ta):=by simpa using hx
   subst this
   rw [Ai (nt ht)];exact ht
 ·rcases List.mem_append.mp hx with hx|hx
  ·rw [Ai (h.ne x hx).1];exact h.lst x hx
  ·have:x=((e,la),ta):=by simpa using hx
   subst this
   rw [Ai nl];exact hl
 ·rcases List.mem_append.mp hx with hx|hx
  ·exact h.ne x hx
  ·have:x=((e,la),ta):=by simpa using hx
   subst this
   exact⟨nl,fl⟩
theorem U1 (sw:Sw) (e:Str×List Str):Bo (sw++[e])=Bo sw * e.2.length:=by unfold Bo;rw [fm];rfl
theorem SwL.swIn {H H':Hp} {ls:Addr} {ds:List (((Str×List Str)×Addr)×Addr)} (h:SwL H H' ls ds):SwIn any H' ls (ds.map (·.1.1)):=⟨ds,rfl,⟨trivial,h.at_⟩,fun x hx=>⟨⟨trivial,h.tup x hx⟩,trivial,h.lst x hx⟩⟩
theorem cc3 (b:Bool):∃ m:Int,atI [V.int 24,.int 256] (if b=true then 1 else 0)=some (.int m)/\4<=m/\m<=256:=by
 cases b
 ·exact⟨24,rfl,by decide,by decide⟩
 ·exact⟨256,rfl,by decide,by decide⟩
theorem Tc {c:Int} {s n:Nat} (h:s+n<=9):((aq n).map fun j=>Bq c (s+j)).Nodup:=by
 refine List.pairwise_iff_getElem.mpr fun i j hi hj hij=>?_
 rw [ae,bB] at hi hj
 rw [dZ,dZ,gc,gc]
 intro e
 have:=ar5 (by omega) (by omega) e
 omega
theorem Td {c:Int} {f:Nat->Nat} {n:Nat}:∀ z∈(aq n).map (fun j=>Bq c (f j)),okW z:=fun z hz=>by
 obtain⟨j,_,rfl⟩:=List.mem_map.mp hz
 exact a21 _ _
theorem bx7 {f:Addr} {fd:aA} (Z:Au K t) (F:FunD K "_law_switches" "_law_switches" Vr f fd .none) (T:Tab P w K mg base 1 (Eb K t) bl):FnOk P w K mg base CX0 2 f fd ac3 (ap3 K t):=by
 refine F.okW0 b54 cb1 T (b28 K t) (fun vs H Q E h=>?_) (fun vs H Q E h=>?_)
 ·obtain⟨a,ns,rfl,_⟩:=h;rfl
 ·obtain⟨a,ns,rfl,hS,k⟩:=h
  refine⟨a,ns,0,rfl,hS,(show 2<=sizeLine by decide),fun q hq=>⟨⟨by decide,by decide⟩,by decide,?_⟩⟩
  obtain⟨m,hm,hm4,hm256⟩:=cc3 (decide (Ay ns 0 / 5 % 8=3))
  refine⟨_,.int m,.inl (SqL.of Ad),hm,?_⟩
  have S1:=Same.upd (o:=.lst [.int 24,.int 256]) hq
  generalize upd H q (.lst [.int 24,.int 256])=H1 at S1 ⊢
  refine⟨a,ns,1,rfl,S1.seqL hS,⟨by decide,by decide⟩,by decide,.inr ⟨by decide,by decide⟩,by decide,fun ls hls=>?_⟩
  have S2:=S1.trans (Same.upd (o:=.lst []) hls)
  have fls:=S1.free hls
  have L2:SwL H (upd H1 ls (.lst [])) ls []:=⟨Ad,fun x hx=>(by cases hx),fun x hx=>(by cases hx),fun x hx=>(by cases hx)⟩
  generalize upd H1 ls (.lst [])=H2 at S2 L2 ⊢
  obtain⟨sh,hsh,hsh2⟩:∃ sh:Nat,Ay ns 1 / 3 % 2 * 5=(sh:Int)/\(sh=0\/sh=5):=⟨(Ay ns 1 / 3 % 2 * 5).toNat,by omega,by omega⟩
  have hN:0<=1+Ay ns 0 % 5/\1<=(1+Ay ns 0 % 5).toNat/\(1+Ay ns 0 % 5).toNat<=5:=by omega
  refine⟨by decide,Ay ns 0,(1+Ay ns 0 % 5).toNat,by rw [show (((1+Ay ns 0 % 5).toNat:Nat):Int)=1+Ay ns 0 % 5 by omega];rfl,by omega,fun H3 lx xs S3 hlx elx lxs pos=>.inl ⟨⟨_,SqL.of elx⟩,?_⟩⟩
  have nlx:lx≠ls:=(Ak L2.at_ hlx).symm
  have hq':∀ {H'},Same H H'->SqL K H' a (ns.map V.int):=fun S=>S.seqL hS
  refine Bc (A5 (xs.map V.int)) (fun i σ H'=>∃ ds:List (((Str×List Str)×Addr)×Addr),(∃ v6 v7 v8,σ=[some (.ref a),some (.int (Ay ns 0)),some (.int m),some (.int (Ay ns 1 / 3 % 2 * 5)),some (.ref ls),some (.int (Bo (ds.map (·.1.1)):Nat)),v6,v7,v8])/\Same H H'/\H' lx=some (.lst (xs.map V.int))/\SwL H H' ls ds /\
    ds.map (·.1.1.1)=(aq ds.length).map (fun j=>Bq (Ay ns 1) (0+j))/\ds.length<=i/\(∀ x∈ds,Hi x.1.1.2)/\(Bo (ds.map (·.1.1)):Int)<=m/\(i=0->ds=[])/\(1<=i->ds≠[]))
   ⟨[],⟨_,_,_,rfl⟩,S2.trans S3,elx,L2.up S3,rfl,ay _,fun x hx=>(by cases hx),(show ((1:Nat):Int)<=m by omega),fun _=>rfl,fun h=>(by omega)⟩ (fun i σ H' _ q=>by obtain⟨_,_,_,q,_⟩:=q;exact SqL.of q) ?_ ?_
  ·rintro i x σ H4 hx ⟨ds,⟨v6,v7,v8,rfl⟩,S4,elx4,L4,nm,dl,oks,pm,z0,z1⟩
   obtain⟨xi,hxi,rfl⟩:=Ao hx
   have hi5:=An hxi
   have hp0:1<=Bo (ds.map (·.1.1)):=Ci (ay 1) (fun y hy=>by obtain⟨x,hx,rfl⟩:=List.mem_map.mp hy;exact oks x hx)
   refine⟨by decide,?_⟩
   have hs:2<=2+xi % 3/\2+xi % 3<=4:=by omega
   have rest:∀ sz:Int,2<=sz->sz<=4->(i=0->(Bo (ds.map (·.1.1)):Int) * sz<=m) -> ∀ D:J8,D.nx=(fun σ H'=>∃ ds:List (((Str×List Str)×Addr)×Addr),(∃ v6 v7 v8,σ=[some (.ref a),some (.int (Ay ns 0)),some (.int m),some (.int (Ay ns 1 / 3 % 2 * 5)),some (.ref ls),some (.int (Bo (ds.map (·.1.1)):Nat)),v6,v7,v8])/\Same H H'/\H' lx=some (.lst (xs.map V.int))/\SwL H H' ls ds /\
     ds.map (·.1.1.1)=(aq ds.length).map (fun j=>Bq (Ay ns 1) (0+j))/\ds.length<=i+1/\(∀ x∈ds,Hi x.1.1.2)/\(Bo (ds.map (·.1.1)):Int)<=m/\(i+1=0->ds=[])/\(1<=i+1->ds≠[])) ->
     (Ag (dIf (Az (Ae Gh (Ae Cd (Aa 5) (Aa 7)) (Aa 2))) (Ag (Ap 5 (Ae Cd (Aa 5) (Aa 7)))
   (Ag (Ap 8 (Bg [none,some 0,some 3] (Gg (Ac (Aa 7) Aj)) (gdN 0) B5 (dFn (spE (Ir K t) []) (Ac (dFn (spE (Cv K t) []) (Ac (Aa 1) (Ac (dC (.int 1)) Aj))) (Ac (Ae (Bb K) (Aa 2) (Aa 0)) Aj)))))
   (Ag (Ef (dMt (rMt K [⟨"list", "list.append", El⟩]) (Aa 4) (Ac (Hv (Ac (dFn (spE (Ir K t) []) (Ac (dFn (spE (Cv K t) []) (Ac (Aa 0) (Ac (dC (.int 1)) Aj))) (Ac (dFn (fun vs H Q _=>(Cq K) vs H Q) (Ac (Aa 4) Aj)) Aj))) (Ac (Aa 8) Aj))) Aj)))
   Af))) Af) Af) D [some (.ref a),some (.int (Ay ns 0)),some (.int m),some (.int (Ay ns 1 / 3 % 2 * 5)),some (.ref ls),some (.int (Bo (ds.map (·.1.1)):Nat)),some (.int xi),some (.int sz),v8] H4:=by
    intro sz h2 h4 hz D hD
    have cm:CMul (Bo (ds.map (·.1.1)):Nat) sz:=.inr ⟨by omega,by omega⟩
    refine⟨cm,Mt (fun e=>⟨cm,⟨by omega,by omega⟩,fun L hL=>?_⟩) (fun e=>?_)⟩
    ·have e:((Bo (ds.map (·.1.1)):Nat):Int) * sz<=m:=by simpa using e
     have fL:=S4.free hL
     have nLs:L≠ls:=(Ak L4.at_ hL).symm
     refine Ce (Bu 0 sz.toNat) (fun g σ H'=>(∃ v,σ=[v,some (.ref a),some (.int (Ay ns 1 / 3 % 2 * 5))])/\Same H4 H'/\H' L=some (A8 ((aq g).map fun j=>Bq (Ay ns 1) (sh+j)))) ⟨⟨_,rfl⟩,Same.upd hL,Ad⟩ (fun _ _ _ _ _=>bC) ?_ ?_
     ·rintro g y σ H5 hy ⟨⟨v,rfl⟩,S5,eL⟩
      obtain⟨hg,rfl⟩:=Dm hy
      refine⟨a,ns,1,rfl,hq' (S4.trans S5),?_⟩
      refine⟨Ay ns 1,sh+g,by rw [hsh,show ((sh:Int)+(g:Int))=((sh+g:Nat):Int) by omega];rfl,by omega,fun H6 S6=>?_⟩
      refine⟨_,S6 _ _ eL,?_,⟨_,rfl⟩,(S5.trans S6).set hL,?_⟩
      ·rw [ae,ae,bB]
       exact aG (show g<4 by omega) (by decide)
      ·rw [Ad,A8,dz,az,az];rfl
     ·rintro σ H5 ⟨_,S5,eL⟩
      rw [A9] at eL
      have L5:=L4.up S5
      have lds:ds.length<=4:=by omega
      refine⟨.inl ⟨rfl,_,SqL.of L5.at_⟩,a,ns,1,rfl,hq' (S4.trans S5),.inl ⟨_,.inl (SqL.of L5.at_),?_⟩⟩
      rw [ae]
      refine⟨Ay ns 1,ds.length,rfl,by omega,fun H6 S6=>⟨(show 2<=sizeLine by decide),fun ta hta=>?_⟩⟩
      have ST:=Same.upd (o:=.tup [.str (Bq (Ay ns 1) ds.length),.ref L]) hta
      have et:upd H6 ta (.tup [.str (Bq (Ay ns 1) ds.length),.ref L]) ta=some (.tup [.str (Bq (Ay ns 1) ds.length),.ref L]):=Ad
      generalize upd H6 ta (.tup [.str (Bq (Ay ns 1) ds.length),.ref L])=H7 at ST et ⊢
      have S7:=S6.trans ST
      have L7:=L5.up S7
      refine⟨ls,_,_,rfl,rfl,L7.at_,?_,?_⟩
      ·rw [ae];exact aM lds (by decide)
      show D.nx _ _
      rw [hD]
      have lss:((aq sz.toNat).map fun j=>Bq (Ay ns 1) (sh+j)).length=sz.toNat:=by simp
      have pe:((Bo ((ds++[(((Bq (Ay ns 1) ds.length,(aq sz.toNat).map fun j=>Bq (Ay ns 1) (sh+j)),L),ta)]).map (·.1.1)):Nat):Int)=(Bo (ds.map (·.1.1)):Nat) * sz:=by
       rw [az]
       show ((Bo (_++[(Bq (Ay ns 1) ds.length,(aq sz.toNat).map fun j=>Bq (Ay ns 1) (sh+j))]):Nat):Int)=_
       rw [U1,Int.natCast_mul,lss,show ((sz.toNat:Nat):Int)=sz by omega]
      refine⟨ds++[(((Bq (Ay ns 1) ds.length,(aq sz.toNat).map fun j=>Bq (Ay ns 1) (sh+j)),L),ta)],⟨_,_,_,congrArg (fun z=>[some (V.ref a),some (V.int (Ay ns 0)),some (V.int m),some (V.int (Ay ns 1 / 3 % 2 * 5)),some (V.ref ls),some (V.int z),some (V.int xi),some (V.int sz),some (V.ref L)]) pe.symm⟩,(S4.trans (S5.trans S7)).set fls,?_,L7.snoc et (S7 _ _ eL) nLs fL,?_,?_,?_,by rw [pe];exact e,fun h=>(by omega),fun _ h=>by simp at h⟩
      ·rw [Ai nlx]
       exact (S5.trans S7) _ _ elx4
      ·rw [az,nm,aJ]
       show _=(aq (ds.length+1)).map _
       rw [dz,az]
       show _++[Bq (Ay ns 1) ds.length]=_++[Bq (Ay ns 1) (0+ds.length)]
       rw [dg]
      ·rw [aJ]
       show ds.length+1<=_
       omega
      ·intro x hx
       rcases List.mem_append.mp hx with hx|hx
       ·exact oks x hx
       ·have:x=(((Bq (Ay ns 1) ds.length,(aq sz.toNat).map fun j=>Bq (Ay ns 1) (sh+j)),L),ta):=by simpa using hx
        subst this
        exact⟨⟨Td,Tc (by omega),by rw [lss];omega⟩,by rw [lss];omega,by rw [lss];omega⟩
    ·have e:¬ ((Bo (ds.map (·.1.1)):Nat):Int) * sz<=m:=by simpa using e
     show D.nx _ _
     rw [hD]
     have hi0:i≠0:=fun z=>e (hz z)
     exact⟨ds,⟨_,_,_,rfl⟩,S4,elx4,L4,nm,by omega,oks,pm,fun h=>(by omega),fun _=>z1 (by omega)⟩
   refine⟨.inr ⟨by omega,by omega⟩,Mt (fun e=>?_) (fun e=>?_)⟩
   ·refine rest 2 (by decide) (by decide) (fun hz=>?_) _ (by rfl)
    rw [z0 hz]
    show ((1:Nat):Int) * 2<=m
    omega
   ·refine rest (2+xi % 3) hs.1 hs.2 (fun hz=>?_) _ (by rfl)
    rw [z0 hz]
    show ((1:Nat):Int) * (2+xi % 3)<=m
    omega
  ·rintro σ H4 ⟨ds,⟨v6,v7,v8,rfl⟩,S4,elx4,L4,nm,dl,oks,pm,z0,z1⟩
   rw [ae] at dl z0 z1
   have e1:(ds.map (·.1.1)).map (·.1)=ds.map (·.1.1.1):=by rw [bA];rfl
   have l5:ds.length<=5:=by omega
   refine .inl (k H4 ls (ds.map (·.1.1)) S4 L4.swIn ⟨?_,?_,?_,?_,?_⟩)
   ·rw [ae]
    exact List.length_pos_iff.mpr (z1 (by omega))
   ·rw [ae];exact l5
   ·rw [e1,nm];exact Tc (by omega)
   ·intro y hy
    obtain⟨x,hx,rfl⟩:=List.mem_map.mp hy
    refine⟨?_,oks x hx⟩
    have hm:x.1.1.1∈ds.map (·.1.1.1):=List.mem_map.mpr ⟨x,hx,rfl⟩
    rw [nm] at hm
    exact Td _ hm
   ·omega
theorem N9 (acc:List (List Nat)) (n:Nat):(Fe acc n).length=acc.length * n:=by
 unfold Fe
 induction acc with
 | nil=>simp
 | cons a acc ih=>rw [fj,aJ,ih,ae,bB,aN,Nat.add_mul,Nat.one_mul,lv]
theorem Hx {sw:Sw} {i:Nat} {e:Str×List Str} (h:sw[i]? = some e):B6 (sw.take (i+1))=Fe (B6 (sw.take i)) e.2.length:=by
 unfold B6
 rw [Be h,fm]
 rfl
theorem Ix:∀ (ns:List Nat) (acc:List (List Nat)),(ns.foldl Fe acc).length=ns.foldl (fun n m=>n * m) acc.length
 | [],_=>rfl
 | n::ns,acc=>by rw [bG,bG,Ix ns,N9]
theorem au1 (sw:Sw):(B6 sw).length=Bo sw:=by
 unfold B6 Bo
 rw [Ix,List.foldl_map]
 rfl
noncomputable def a51 (k:Nat) (ds:List (List Nat)):Prop:=∀ d∈ds,d.length=k
theorem Iy:∀ (ns:List Nat) (k:Nat) (acc:List (List Nat)),a51 k acc->a51 (k+ns.length) (ns.foldl Fe acc)
 | [],_,_,h=>h
 | n::ns,k,acc,h=>by
  have:=Iy ns (k+1) (Fe acc n) (fun d hd=>by
   obtain⟨a,ha,hd⟩:=List.mem_flatMap.mp hd
   obtain⟨j,_,rfl⟩:=List.mem_map.mp hd
   rw [aJ,h a ha]
   rfl)
  rw [bG,aN,show k+(ns.length+1)=k+1+ns.length by omega]
  exact this
theorem Ow {sw:Sw}:∀ d∈B6 sw,d.length=sw.length:=fun d hd=>by
 have:=Iy (sw.map fun x:Str×List Str=>x.2.length) 0 [[]] (fun d hd=>by simp at hd;rw [hd];rfl) d hd
 rw [dg,ae] at this
 exact this
theorem Wa {rows:List (List Nat)} {j:Nat} {r:List Nat} {n:Nat} (h:rows[j]? = some r):Fe (rows.take (j+1)) n=Fe (rows.take j) n++(aq n).map fun z=>r++[z]:=by
 unfold Fe
 rw [b_,h,cW,eF]
 simp
theorem au3 {E:EK} {H:Hp} {ra:Addr} {a:List Nat} {n:Nat} {σ:St} {R:Hp->Addr->Prop} (hσ:∃ v,σ=[v,some (.ref ra)]) (ha:H ra=some (nO a)) (hl:a.length<=100) (hn:n<=8)
  (k:∀ D H',Same H H'->H D=none -> ∀ fs:List (List Nat×Addr),fs.map (·.1)=(aq n).map (fun z=>a++[z])->H' D=some (.lst (fs.map fun x=>.ref x.2))->(∀ x∈fs,x.2≠D/\H x.2=none/\H' x.2=some (nO x.1))->R H' D) :
  ∀ D,H D=none->Fg (Itr 0 n) (gdN 0) B5 (Ae (Bb K) (Aa 1) (Dh (Ac (Aa 0) Aj))) D (fun H'=>R H' D) σ (upd H D (.lst [])) E:=by
 intro D hD
 refine Ce (Bu 0 n) (fun m σ H'=>(∃ v,σ=[v,some (.ref ra)])/\Same H H' /\ ∃ fs:List (List Nat×Addr),fs.map (·.1)=(aq m).map (fun z=>a++[z])/\H' D=some (.lst (fs.map fun x=>.ref x.2)) /\ ∀ x∈fs,x.2≠D/\H x.2=none/\H' x.2=some (nO x.1))
  ⟨hσ,Same.upd hD,[],rfl,Ad,fun x hx=>by cases hx⟩ (fun _ _ _ _ _=>bC) ?_ ?_
 ·rintro m x σ H1 hx ⟨⟨v,rfl⟩,S1,fs,ef,eD,hf⟩
  obtain⟨hm,rfl⟩:=Dm hx
  refine⟨(show 1<=sizeLine by decide),fun p hp=>.inl ⟨ra,p,_,_,rfl,rfl,(Same.upd hp) _ _ (S1 _ _ ha),Ad,?_,fun q hq=>?_⟩⟩
  ·rw [ae];exact aQ (show a.length+1<=101 by omega) (by decide)
  have Sp:=Same.upd (o:=.lst [.int (m:Int)]) hp
  have Sq:=Same.upd (o:=.lst ((a.map fun n:Nat=>V.int (n:Int))++[.int (m:Int)])) hq
  have eq:upd (upd H1 p (.lst [.int (m:Int)])) q (.lst ((a.map fun n:Nat=>V.int (n:Int))++[.int (m:Int)])) q=some (nO (a++[m])):=by rw [Ad,nO,az];rfl
  have S12:=Sp.trans Sq
  have qD:q≠D:=(Ak (Sp _ _ eD) hq).symm
  have hq0:H q=none:=(S1.trans Sp).free hq
  generalize upd (upd H1 p (.lst [.int (m:Int)])) q (.lst ((a.map fun n:Nat=>V.int (n:Int))++[.int (m:Int)]))=H2 at S12 eq ⊢
  have eD2:=S12 _ _ eD
  refine⟨_,eD2,?_,⟨_,rfl⟩,(S1.trans S12).set hD,fs++[(a++[m],q)],?_,?_,fun x hx=>?_⟩
  ·rw [ae]
   have:=congrArg cD ef
   rw [ae,ae,bB] at this
   exact aM (show fs.length<=8 by omega) (by decide)
  ·rw [az,ef,dz,az];rfl
  ·rw [Ad,az];rfl
  ·rcases List.mem_append.mp hx with hx|hx
   ·obtain⟨a1,a2,a3⟩:=hf x hx
    exact⟨a1,a2,by rw [Ai a1];exact S12 _ _ a3⟩
   ·have:x=(a++[m],q):=by simpa using hx
    subst this
    exact⟨qD,hq0,by rw [Ai qD];exact eq⟩
 ·rintro σ H1 ⟨_,S1,fs,ef,eD,hf⟩
  rw [A9] at ef
  exact k D H1 S1 hD fs ef eD hf
theorem by6 {f:Addr} {fd:aA} (Z:Au K t) (F:FunD K "_law_digits" "_law_digits" Vz f fd .none) (T:Tab P w K mg base 0 (Bj K t) bl):FnOk P w K mg base CX0 1 f fd ad2 (ap9 K t):=by
 refine F.okW0 b63 cc0 T (b37 K t) (fun vs H Q E h=>?_) (fun vs H Q E h=>?_)
 ·obtain⟨l,sw,rfl,_⟩:=h;rfl
 ·obtain⟨l,sw,rfl,⟨ds,ed,⟨_,ol⟩,hd⟩,hw,k⟩:=h
  refine⟨(show 0<=sizeLine by decide),fun r0 h0=>⟨(show 1<=sizeLine by decide),fun l0 hl0=>?_⟩⟩
  have Sr:=Same.upd (o:=.lst []) h0
  have Sl:=Same.upd (o:=.lst [.ref r0]) hl0
  have S0:=Sr.trans Sl
  have er:upd (upd H r0 (.lst [])) l0 (.lst [.ref r0]) r0=some (nO []):=Sl _ _ Ad
  have el:upd (upd H r0 (.lst [])) l0 (.lst [.ref r0]) l0=some (.lst [.ref r0]):=Ad
  have len:(ds.map fun x=>V.ref x.2).length=sw.length:=by rw [<- ed];simp
  generalize upd (upd H r0 (.lst [])) l0 (.lst [.ref r0])=H0 at S0 er el ⊢
  refine .inl ⟨⟨_,S0.seqL (SqL.of ol)⟩,?_⟩
  have T0:DigAt H0 l0 (B6 (sw.take 0)):=⟨[([],r0)],rfl,el,fun x hx=>by
   have:x=([],r0):=by simpa using hx
   subst this
   exact er⟩
  refine Bc (A5 (ds.map fun x=>V.ref x.2)) (fun i σ H'=>(∃ l1 v2 v3 v4 v5,σ=[some (.ref l),some (.ref l1),v2,v3,v4,v5]/\DigAt H' l1 (B6 (sw.take i)))/\Same H0 H') ⟨⟨_,_,_,_,_,rfl,T0⟩,Same.refl _⟩ (fun i σ H' _ q=>(S0.trans q.2).seqL (SqL.of ol)) ?_ ?_
  ·rintro i x σ H1 hx ⟨⟨l1,v2,v3,v4,v5,rfl,⟨es,ee,el1,he⟩⟩,S1⟩
   obtain⟨⟨⟨e,la⟩,ta⟩,hi,rfl⟩:=Ao hx
   have hi2:sw[i]? = some e:=by rw [<- ed,ak,hi];rfl
   obtain⟨⟨_,h1⟩,_,h2⟩:=hd _ (ai hi)
   have h2:H la=some (A8 e.2):=h2
   have S01:=S0.trans S1
   have hoke:=hw.sets e (ai hi2)
   refine⟨_,SqT.of (S01 _ _ h1),rfl,by decide,fun l2 hl2=>.inl ⟨⟨_,(Same.upd hl2).seqL (SqL.of el1)⟩,?_⟩⟩
   have Sl2:=Same.upd (o:=.lst []) hl2
   have lenr:es.length=(B6 (sw.take i)).length:=by rw [<- ee];simp
   have few:(B6 (sw.take i)).length<=256:=by rw [au1];exact aQ (N3 hw i) hw.2.2.2.2
   have rl:∀ r∈B6 (sw.take i),r.length<=100:=fun r hr=>by
    rw [Ow r hr,aO]
    have:=hw.2.1
    omega
   refine Bc (A5 (es.map fun x=>V.ref x.2)) (fun j σ H'=>(∃ v5,σ=[some (.ref l),some (.ref l1),some (.str e.1),some (.ref la),some (.ref l2),v5])/\Same H1 H' /\ ∃ fs:List (List Nat×Addr),fs.map (·.1)=Fe ((B6 (sw.take i)).take j) e.2.length /\
     H' l2=some (.lst (fs.map fun x=>.ref x.2)) /\ ∀ x∈fs,x.2≠l2/\H' x.2=some (nO x.1))
    ⟨⟨_,rfl⟩,Sl2,[],rfl,Ad,fun x hx=>by cases hx⟩ (fun j σ H' _ q=>q.2.1.seqL (SqL.of el1)) ?_ ?_
   ·rintro j y σ H2 hy ⟨⟨v5,rfl⟩,S2,fs,efs,e2l,hf⟩
    obtain⟨⟨r,ra⟩,hj,rfl⟩:=Ao hy
    have hj2:(B6 (sw.take i))[j]? = some r:=by rw [<- ee,ak,hj];rfl
    have hra:=he _ (ai hj)
    refine⟨.inl ⟨rfl,_,SqL.of e2l⟩,.inl ⟨_,.inl (SqL.of ((S01.trans S2) _ _ h2)),?_⟩⟩
    rw [ae]
    have h4:e.2.length<=4:=hoke.2.2
    refine⟨⟨by omega,by omega⟩,?_⟩
    rw [aK]
    refine au3 ⟨_,rfl⟩ (S2 _ _ hra) (rl r (ai hj2)) (by omega) fun D H3 S3 hD gs eg eD hg=>?_
    have e3l:=S3 _ _ e2l
    have lfs:fs.length<=1024:=by
     have:=congrArg cD efs
     rw [ae,N9,aO] at this
     have:min j (B6 (sw.take i)).length * e.2.length<=256 * 4:=Nat.mul_le_mul (by omega) h4
     omega
    have lgs:gs.length<=4:=by
     have:=congrArg cD eg
     rw [ae,ae,bB] at this
     omega
    refine⟨l2,D,_,_,rfl,rfl,e3l,eD,?_,⟨_,rfl⟩,(S2.trans S3).set hl2,fs++gs,?_,?_,fun x hx=>?_⟩
    ·rw [ae,ae]
     exact aQ (show fs.length+gs.length<=1028 by omega) (by decide)
    ·rw [az,efs,eg,Wa hj2]
    ·rw [Ad,az]
    ·rcases List.mem_append.mp hx with hx|hx
     ·exact⟨(hf x hx).1,by rw [Ai (hf x hx).1];exact S3 _ _ (hf x hx).2⟩
     ·obtain⟨a1,a2,a3⟩:=hg x hx
      have a4:x.2≠l2:=(Ak e2l a2).symm
      exact⟨a4,by rw [Ai a4];exact a3⟩
   ·rintro σ H2 ⟨⟨v5,rfl⟩,S2,fs,efs,e2l,hf⟩
    rw [ae,lenr,aX] at efs
    refine .inl ⟨⟨_,_,_,_,_,rfl,fs,?_,e2l,fun x hx=>(hf x hx).2⟩,S1.trans S2⟩
    rw [efs,Hx hi2]
  ·rintro σ H1 ⟨⟨l1,v2,v3,v4,v5,rfl,T1⟩,S1⟩
   rw [len,aX] at T1
   exact .inl (k _ l1 (S0.trans S1) T1)
theorem Hu (xs:List V) (n:Nat):E3 xs (some (n:Int)) none=xs.drop n:=by
 unfold E3
 rw [HT.sIx_none,HT.sIx_nat]
 by_cases h:n<=xs.length
 ·rw [jJ h,gw (by rw [cz];omega)]
 ·rw [Nat.min_eq_right (by omega),jp (ay _),jp (by omega),List.take_nil]
theorem aj2 {H:Hp} {R:Addr->Hp->Prop} {E:EK} {a:Addr} {sw:Sw} {rules:List Sw} {v:V} (hs:SwIn any H a sw) (hw:okSw sw) (hr:Ed any H v rules) (ho:∀ r∈rules,Gw sw r) (h8:rules.length<=8) (hf:Gj sw rules≠0)
  (k:∀ H' p,Same H H'->PanelAt t.c_zbe (fresh H) H' p sw rules->R p H') :
  ∀ p dx,H p=none->H dx=none->dx≠p->ap6 K t [.ref p,.ref a,v] (upd (upd H dx (.own p)) p (.ins t.c_zbe dx [])) (fun v H2=>v=.non/\R p H2) (fun v _ H'=>∃ b,v=.ref b/\E b H'):=by
 intro p dx hp hd ne
 have S1:Same H (upd (upd H dx (.own p)) p (.ins t.c_zbe dx [])):=fun b o e=>by rw [Ai (Ak e hp),Ai (Ak e hd)];exact e
 have ep:upd (upd H dx (.own p)) p (.ins t.c_zbe dx []) p=some (.ins t.c_zbe dx []):=Ad
 generalize upd (upd H dx (.own p)) p (.ins t.c_zbe dx [])=H1 at S1 ep ⊢
 have kp:Kp any H (· ≠ p) H1:=fun b o q=>⟨Ak q.2 hp,S1 _ _ q.2⟩
 have RI:Ed (· ≠ p) H1 v rules:=hr.imp id fun⟨k,e,R⟩=>⟨k,e,R.mono kp⟩
 refine⟨p,a,dx,v,sw,rules,rfl,ep,hs.mono kp,hw,RI,ho,h8,hf,fun H2 O2 P2=>⟨rfl,k H2 p (fun b o e=>O2 b o (Ak e hp) (S1 _ _ e)) (P2.mono (Kp.weak fun b h=>?_))⟩⟩
 rcases h with rfl|h
 ·exact hp
 ·exact S1.free h
theorem Nt {acc:List (List Str)} {x:Str×List Str} {a:List Str} {z:Str} (h:acc.getLast? = some a) (hz:x.2.getLast? = some z):(Df acc x).getLast? = some (a++[z]):=by
 obtain⟨ini,rfl⟩:=List.getLast?_eq_some_iff.mp h
 unfold Df
 rw [eF]
 obtain⟨ini2,e2⟩:=List.getLast?_eq_some_iff.mp hz
 refine List.getLast?_eq_some_iff.mpr ⟨(ini.flatMap fun a=>x.2.map fun z=>a++[z])++ini2.map fun z=>a++[z],?_⟩
 rw [fj,List.flatMap_nil,cv,e2,az,List.append_assoc]
 rfl
theorem Nr:∀ {sw:Sw} {acc:List (List Str)} {a:List Str},acc.getLast? = some a->(∀ x∈sw,x.2≠[]) -> ∃ tl,(sw.foldl Df acc).getLast? = some (a++tl)
 | [],_,a,h,_=>⟨[],by rw [cv];exact h⟩
 | x::sw,acc,a,h,hs=>by
  have hx:=hs x aZ
  obtain⟨tl,e⟩:=Nr (sw:=sw) (Nt h (gU hx)) fun y hy=>hs y (aL _ hy)
  exact⟨[x.2.getLast hx]++tl,by rw [bG,e,List.append_assoc]⟩
theorem Ye {x:Str×List Str} {sw:Sw} (hw:okSw (x::sw)) {z:Str} (hz:x.2[0]? = some z):Gj (x::sw) [[(x.1,[z])]]≠0:=by
 have hs:=hw.sets
 have hx:=hs x aZ
 have ne:∀ y∈x::sw,y.2≠[]:=fun y hy e=>by have:=(hs y hy).2.1;rw [e] at this;simp at this
 obtain⟨tl,e⟩:=Nr (sw:=sw) (acc:=Df [[]] x) (Nt (a:=[]) rfl (gU (ne x aZ))) fun y hy=>ne y (aL _ hy)
 have e:(Ah (x::sw)).getLast? = some ([]++[x.2.getLast (ne x aZ)]++tl):=e
 rw [List.getLast?_eq_getElem?] at e
 have h2:=hx.2.1
 have dif:x.2.getLast (ne x aZ)≠z:=fun q=>by
  have h0:0<x.2.length:=by omega
  have hl:x.2.length - 1<x.2.length:=by omega
  rw [ah h0] at hz
  rw [List.getLast_eq_getElem] at q
  have:=(c9 (h₀:=hl) (h₁:=h0) hx.1.2.1).mp (q.trans (aF hz).symm)
  omega
 have hp:=hw.pos
 have bit:(Jc (x::sw) [[(x.1,[z])]]).testBit ((Ah (x::sw)).length - 1)=true:=by
  rw [Nh,decide_eq_true (by omega),du,dM,jE,eE,Ra,bw,List.all_nil,kz]
  have pl:C9 (x::sw) x.1=0:=Ew (i:=0) rfl hw.2.2.1
  show (!(_&&([z].any fun z=>Jl (Ah (x::sw)) (C9 (x::sw) x.1) z _)))=true
  rw [dM,jE,eE,pl]
  have:Jl (Ah (x::sw)) 0 z ((Ah (x::sw)).length - 1)=false:=by
   unfold Jl
   rw [e]
   refine decide_eq_false fun q=>dif ?_
   simpa using q
  rw [this,dO]
  rfl
 rw [Ng]
 intro q
 have q:Jc (x::sw) [[(x.1,[z])]]=0:=by omega
 rw [q,d3] at bit
 cases bit
theorem Ni {sw:Sw} (hw:okSw sw):Gj sw []≠0:=by
 have hp:=hw.pos
 rw [Ng]
 intro q
 have q:Jc sw []=0:=by omega
 have bit:(Jc sw []).testBit 0=true:=by
  rw [Nh,decide_eq_true (by omega)]
  rfl
 rw [q,d3] at bit
 cases bit
theorem an8 {x:Str×List Str} {sw:Sw} (hw:okSw (x::sw)) {z:Str} (hz:x.2[0]? = some z):Gw (x::sw) [(x.1,[z])]:=by
 have hx:=(hw.2.2.2.1 x aZ).2
 have hm:z∈x.2:=ai hz
 refine⟨by simp,by simp,by simp,fun e he=>?_⟩
 have:e=(x.1,[z]):=by simpa using he
 subst this
 refine⟨by simp,⟨fun y hy=>?_,by simp,by simp⟩,x,aZ,rfl,fun y hy=>?_⟩
 ·have:y=z:=by simpa using hy
  subst this
  exact hx.1.1 y hm
 ·have:y=z:=by simpa using hy
  subst this
  exact hm
theorem bd4 {f:Addr} {fd:aA} (Z:Au K t) (F:FunD K "_law_panel" "_law_panel" Li f fd .none) (T:Tab P w K mg base 9 (av0 K t) bl):FnOk P w K mg base CX0 10 f fd Qk (V7 K t):=by
 refine F.okW0 bn7 bq9 T (bl4 K t) (fun vs H Q E h=>?_) (fun vs H Q E h=>?_)
 ·obtain⟨a,l,ns,sw,rfl,_⟩:=h;rfl
 ·obtain⟨a,l,ns,sw,rfl,hS,hsw,hw,k⟩:=h
  obtain⟨ds,ed,⟨_,ol⟩,hd⟩:=id hsw
  have len:(ds.map fun x=>V.ref x.2).length=sw.length:=by rw [<- ed];simp
  have tail:∀ H' v rules (Du:J8),Du.rt=Q->Same H H'->Ed any H' v rules->(∀ r∈rules,Gw sw r)->rules.length<=8->Gj sw rules≠0 ->
    (Ag (As (dFn (mkC t.c_zbe (some (ag9 K t)) 1) (Ac (Bg [none,none] (Bs K (Aa 1)) (gdT K 2 [(gdN 0),(gdN 1)]) B5 (Hv (Ac (Aa 0) (Ac (dFn (fun vs H Q _=>(Ds K) vs H Q) (Ac (Aa 1) Aj)) Aj)))) (Ac (Aa 2) Aj))))
 Af) Du [some (.ref a),some (.ref l),some v] H':=by
   intro H1 v rules Du hDu S1 RI hok h8 hf
   refine .inl ⟨⟨_,S1.seqL (SqL.of ol)⟩,fun D hD=>?_⟩
   refine Ce (A5 (ds.map fun x=>V.ref x.2)) (fun m σ H'=>(∃ v0 v1,σ=[v0,v1])/\Same H1 H' /\ ∃ es:List (((Str×List Str)×Addr)×Addr),es.map (·.1.1)=sw.take m/\SwL H1 H' D es)
    ⟨⟨_,_,rfl⟩,Same.upd hD,[],rfl,Ad,fun x hx=>(by cases hx),fun x hx=>(by cases hx),fun x hx=>(by cases hx)⟩ (fun m σ H' _ q=>(S1.trans q.2.1).seqL (SqL.of ol)) ?_ ?_
   ·rintro m x σ H2 hx ⟨⟨v0,v1,rfl⟩,S2,es,ee,L1⟩
    obtain⟨⟨⟨e,la⟩,ta⟩,hi,rfl⟩:=Ao hx
    have hi2:sw[m]? = some e:=by rw [<- ed,ak,hi];rfl
    obtain⟨⟨_,h1⟩,_,h2⟩:=hd _ (ai hi)
    have S12:=S1.trans S2
    refine⟨_,SqT.of (S12 _ _ h1),rfl,⟨_,.inl (SqL.of (S12 _ _ h2)),fun lb hlb=>⟨(show 2<=sizeLine by decide),fun tb htb=>?_⟩⟩⟩
    have Sb:=Same.upd (o:=A8 e.2) hlb
    have eb:upd H2 lb (A8 e.2) lb=some (A8 e.2):=Ad
    have fb:=S2.free hlb
    have nb:lb≠D:=(Ak L1.at_ hlb).symm
    have St:=Same.upd (o:=.tup [.str e.1,.ref lb]) htb
    have et:upd (upd H2 lb (A8 e.2)) tb (.tup [.str e.1,.ref lb]) tb=some (.tup [.str e.1,.ref lb]):=Ad
    have S3:=Sb.trans St
    have eb2:=St _ _ eb
    show ∃ ys,upd (upd H2 lb (A8 e.2)) tb (.tup [.str e.1,.ref lb]) D=some (.lst ys)/\_
    generalize upd (upd H2 lb (A8 e.2)) tb (.tup [.str e.1,.ref lb])=H3 at S3 et eb2 ⊢
    have L2:=L1.up S3
    refine⟨_,L2.at_,?_,⟨_,_,rfl⟩,(S2.trans S3).set hD,es++[((e,lb),tb)],?_,L2.snoc et eb2 nb fb⟩
    ·rw [ae]
     have:=congrArg cD ee
     rw [ae,aO] at this
     have:=hw.2.1
     exact aM (show es.length<=5 by omega) (by decide)
    ·rw [az,ee,b_,hi2];rfl
   ·rintro σ Hh ⟨_,Sh,es,ee,Lh⟩
    rw [len,aX] at ee
    have RI2:Ed any Hh v rules:=RI.imp id fun⟨kk,e,R⟩=>⟨kk,e,R.mono (Kp.same Sh)⟩
    refine aj2 (K:=K) (E:=fun _ _=>False) (v:=v) (ee▸Lh.swIn) hw RI2 hok h8 hf fun H2 p S2 P2=>?_
    show Du.rt _ _
    rw [hDu]
    exact k H2 p rules (S1.trans (Sh.trans S2)) (P2.mono Kp.any)
  have mid:∀ H' v rules (Du:J8),Du.rt=Q->Same H H'->Ed any H' v rules->(∀ r∈rules,Gw sw r)->rules.length<=8->Gj sw rules≠0 ->
    (Ag (dIf (Az (Ae (A3 K false) (Ae Av (dFn (spE (Cv K t) []) (Ac (Aa 0) (Ac (dC (.int 2)) Aj))) (dC (.int 3))) (dC (.int 2)))) (Ag (Ap 2 (dC .non))
  Af) Af)
 (Ag (As (dFn (mkC t.c_zbe (some (ag9 K t)) 1) (Ac (Bg [none,none] (Bs K (Aa 1)) (gdT K 2 [(gdN 0),(gdN 1)]) B5 (Hv (Ac (Aa 0) (Ac (dFn (fun vs H Q _=>(Ds K) vs H Q) (Ac (Aa 1) Aj)) Aj)))) (Ac (Aa 2) Aj))))
 Af)) Du [some (.ref a),some (.ref l),some v] H':=by
   intro H1 v rules Du hDu S1 RI hok h8 hf
   exact⟨a,ns,2,rfl,S1.seqL hS,by decide,Mt (fun _=>tail H1 .non [] Du hDu S1 (.inl ⟨rfl,rfl⟩) (fun r hr=>by cases hr) (by decide) (Ni hw)) (fun _=>tail H1 v rules Du hDu S1 RI hok h8 hf)⟩
  refine⟨(show 0<=sizeLine by decide),fun l0 hl0=>?_⟩
  have S0:=Same.upd (o:=.lst []) hl0
  have e0:upd H l0 (.lst []) l0=some (.lst []):=Ad
  generalize upd H l0 (.lst [])=H0 at S0 e0 ⊢
  refine⟨a,ns,2,rfl,S0.seqL hS,by decide,Mt (fun _=>?_) (fun _=>mid H0 (.ref l0) [] _ rfl S0 (.inr ⟨l0,rfl,[],rfl,⟨trivial,e0⟩,fun x hx=>by cases hx⟩) (fun r hr=>by cases hr) (by decide) (Ni hw))⟩
  cases sw with
  | nil=>have:=hw.1;simp at this
  | cons x sw=>
   cases ds with
   | nil=>simp at ed
   | cons d0 ds=>
    obtain⟨⟨x',la⟩,ta⟩:=d0
    have:x'=x:=(i6 ed).1
    subst this
    obtain⟨⟨_,h1⟩,_,h2⟩:=hd _ aZ
    have hx:=hw.sets x' aZ
    have h2l:=hx.2.1
    obtain⟨z,hz⟩:∃ z,x'.2[0]? = some z:=⟨_,ah (show 0<x'.2.length by omega)⟩
    intro dd hdd
    have Sd:=Same.upd (o:=.dK []) hdd
    have ed0:upd H0 dd (.dK []) dd=some (.dK []):=Ad
    generalize upd H0 dd (.dK [])=H1 at Sd ed0 ⊢
    have S1:=S0.trans Sd
    have q1:=SqL.of (K:=K) (S1 _ _ ol)
    have q2:=SqT.of (K:=K) (S1 _ _ h1)
    have q3:=SqL.of (K:=K) (S1 _ _ h2)
    refine⟨_,.ref ta,.inl q1,Bw (j:=0) rfl,_,.str x'.1,.inr q2,rfl,_,.ref ta,.inl q1,Bw (j:=0) rfl,_,.ref la,.inr q2,rfl,_,.str z,.inl q3,Bw (j:=0) (by rw [ak,hz];rfl),(show 1<=sizeLine by decide),fun lb hlb=>?_⟩
    have Sb:=Same.upd (o:=.lst [.str z]) hlb
    have eb:upd H1 lb (.lst [.str z]) lb=some (A8 [z]):=Ad
    have ed2:=Sb _ _ ed0
    have ndb:dd≠lb:=Ak ed0 hlb
    refine⟨ed2,[(.inr x'.1,.ref lb)],rfl,au rfl,(show 1<=sizeLine by decide),fun lr hlr=>?_⟩
    have S2:Same H0 (upd (upd H1 lb (.lst [.str z])) dd (.dK (D4 [] [(.inr x'.1,.ref lb)]))):=(Sd.trans Sb).set hdd
    have ed3:upd (upd H1 lb (.lst [.str z])) dd (.dK (D4 [] [(.inr x'.1,.ref lb)])) dd=some (.dK [(.inr x'.1,.ref lb)]):=Ad
    have eb3:upd (upd H1 lb (.lst [.str z])) dd (.dK (D4 [] [(.inr x'.1,.ref lb)])) lb=some (A8 [z]):=by rw [Ai (ck ndb)];exact eb
    have Sr:=Same.upd (o:=.lst [.ref dd]) hlr
    have er:upd (upd (upd H1 lb (.lst [.str z])) dd (.dK (D4 [] [(.inr x'.1,.ref lb)]))) lr (.lst [.ref dd]) lr=some (.lst [.ref dd]):=Ad
    have S3:=S0.trans (S2.trans Sr)
    have ed4:=Sr _ _ ed3
    have eb4:=Sr _ _ eb3
    generalize upd (upd (upd H1 lb (.lst [.str z])) dd (.dK (D4 [] [(.inr x'.1,.ref lb)]))) lr (.lst [.ref dd])=H4 at S3 er ed4 eb4 ⊢
    refine mid H4 (.ref lr) [[(x'.1,[z])]] _ (by rfl) S3 (.inr ⟨lr,rfl,[([(x'.1,[z])],dd)],rfl,⟨trivial,er⟩,fun y hy=>?_⟩) (fun r hr=>?_) (au rfl) (Ye hw hz)
    ·have:y=([(x'.1,[z])],dd):=by simpa using hy
     subst this
     exact⟨[((x'.1,[z]),lb)],rfl,⟨trivial,ed4⟩,fun u hu=>by
      have:u=((x'.1,[z]),lb):=by simpa using hu
      subst this
      exact⟨trivial,eb4⟩⟩
    ·have:r=[(x'.1,[z])]:=by simpa using hr
     subst this
     exact an8 hw hz
end
noncomputable def conv (sw:Sw) (d:List Nat):List Str:=List.zipWith (fun (x:Str×List Str) j=>x.2.getD j gm) sw d
theorem Vb (l:List Str):l=(aq l.length).map fun j=>l.getD j gm:=by
 refine List.ext_getElem (by simp) fun i h1 h2=>?_
 rw [dZ,gc,aC,ah h1]
 rfl
theorem N7 (sw:Sw):∀ i,i<=sw.length->Ah (sw.take i)=(B6 (sw.take i)).map (conv (sw.take i)) /\ ∀ d∈B6 (sw.take i),∀ (p:Nat) x,(sw.take i)[p]? = some x -> ∃ j,d[p]? = some j/\j<x.2.length:=by
 intro i
 induction i with
 | zero=>exact fun _=>⟨rfl,fun d _ p x h=>by simp at h⟩
 | succ i ih=>
  intro hi
  obtain⟨e1,e2⟩:=ih (by omega)
  have hx:sw[i]? = some sw[i]:=ah (by omega)
  generalize sw[i]=x at hx
  have lt:(sw.take i).length=i:=by rw [aO];omega
  have dl:∀ d∈B6 (sw.take i),d.length=i:=fun d hd=>by rw [Ow d hd,lt]
  have r1:Ah (sw.take (i+1))=Df (Ah (sw.take i)) x:=C8 hx _ _
  have tk:sw.take (i+1)=sw.take i++[x]:=by rw [b_,hx];rfl
  refine⟨?_,fun d hd p y hp=>?_⟩
  ·rw [r1,Hx hx,e1]
   unfold Df Fe
   rw [List.flatMap_map,jh]
   refine congrArg lu (cN fun d hd=>?_)
   show x.2.map (fun z=>conv (sw.take i) d++[z])=((aq x.2.length).map fun j=>d++[j]).map (conv (sw.take (i+1)))
   conv=>lhs;rw [Vb x.2]
   rw [bA,bA]
   refine cN fun j _=>?_
   show conv (sw.take i) d++[x.2.getD j gm]=conv (sw.take (i+1)) (d++[j])
   unfold conv
   rw [tk,List.zipWith_append (by rw [lt,dl d hd])]
   rfl
  ·rw [Hx hx] at hd
   obtain⟨a,ha,hd⟩:=List.mem_flatMap.mp hd
   obtain⟨j,hj,rfl⟩:=List.mem_map.mp hd
   have la:=dl a ha
   rw [tk] at hp
   by_cases hpi:p<i
   ·rw [cI (by omega)] at hp ⊢
    exact e2 a ha p y hp
   ·have hp2:=An hp
    rw [aJ,lt] at hp2
    have hp3:p=i:=by have:[x].length=1:=rfl;omega
    subst hp3
    rw [bL (by omega),lt,fV] at hp
    have:x=y:=by simpa using hp
    subst this
    refine⟨j,?_,List.mem_range.mp hj⟩
    rw [bL (by omega),la,fV]
    rfl
theorem Fu (sw:Sw):Ah sw=(B6 sw).map (conv sw):=by
 have:=(N7 sw sw.length (ay _)).1
 rwa [aX] at this
theorem Tq {sw:Sw} {d:List Nat} (hd:d∈B6 sw) {p:Nat} {x:Str×List Str} (hp:sw[p]? = some x):∃ j,d[p]? = some j/\j<x.2.length:=by
 have:=(N7 sw sw.length (ay _)).2
 rw [aX] at this
 exact this d hd p x hp
theorem bn0 {sw:Sw} {n p j:Nat} {d:List Nat} {x:Str×List Str} (hn:(B6 sw)[n]? = some d) (hp:sw[p]? = some x) (hj:d[p]? = some j):((Ah sw)[n]?.bind fun r=>r[p]?)=some (x.2.getD j gm):=by
 rw [Fu,ak,hn]
 show (conv sw d)[p]? = _
 unfold conv
 rw [List.getElem?_zipWith,hp,hj]
theorem K2 (a b k:Nat):(Ij a b).testBit k=(a.testBit k && !b.testBit k):=by
 unfold Ij
 rw [Xl,ij,cg]
 cases a.testBit k <;> cases b.testBit k <;> rfl
theorem Rx (a b:Nat):bj (a:Int) (bv (b:Int))=(Ij a b:Nat):=by
 unfold Ij
 rw [js (by omega) (by unfold bv;omega),show bv (bv (b:Int))=(b:Int) by unfold bv;omega,aK,aK]
 have:=jI (n:=a) (m:=b)
 omega
theorem ax0 {a b n:Nat} (h:a<2 ^ n):Ij a b<2 ^ n:=aM (Nat.sub_le _ _) h
theorem Og {a b n:Nat} (h:a<2 ^ n):a &&& b<2 ^ n:=aM jI h
theorem as7 {a b n:Nat} (h:b<2 ^ n):a &&& b<2 ^ n:=aM Nat.and_le_right h
theorem Tj {c n j:Nat} (h:c<2 ^ n) (hj:c.testBit j=true):j<n:=by
 rcases dA j n with q|q
 ·exact q
 ·rw [Nat.testBit_lt_two_pow (aG h (c6 (by decide) q))] at hj;cases hj
theorem ad9 {c n:Nat} (h:c<2 ^ n) (h0:c≠0):∃ i,i<n/\c.testBit i=true:=by
 obtain⟨i,hi⟩:=Nat.exists_testBit_of_ne_zero h0
 exact⟨i,Tj h hi,hi⟩
theorem ae9 {sw:Sw} {i:Nat} (hi:i<(Ah sw).length):∃ d,(B6 sw)[i]? = some d/\d∈B6 sw:=by
 have h:i<(B6 sw).length:=by rw [Fu,ae] at hi;exact hi
 exact⟨_,ah h,cy h⟩
theorem G3 {sw:Sw} {i p:Nat} {x:Str×List Str} (hi:i<(Ah sw).length) (hp:sw[p]? = some x):Dd sw i p<x.2.length/\Bl sw i p=some (x.2.getD (Dd sw i p) gm):=by
 obtain⟨d,hd,hm⟩:=ae9 hi
 obtain⟨j,hj,lj⟩:=Tq hm hp
 have e:Dd sw i p=j:=by unfold Dd;rw [hd];show (d[p]?).getD 0=j;rw [hj];rfl
 rw [e]
 exact⟨lj,bn0 hd hp hj⟩
theorem G4 {sw:Sw} (hw:okSw sw) {i j p:Nat} {x:Str×List Str} (hi:i<(Ah sw).length) (hj:j<(Ah sw).length) (hp:sw[p]? = some x):Bl sw i p=Bl sw j p ↔ Dd sw i p=Dd sw j p:=by
 obtain⟨l1,e1⟩:=G3 hi hp
 obtain⟨l2,e2⟩:=G3 hj hp
 rw [e1,e2]
 refine⟨fun e=>?_,fun e=>by rw [e]⟩
 have e:=aF e
 rw [aC,aC,ah l1,ah l2] at e
 exact (c9 (hw.sets x (ai hp)).1.2.1).mp e
theorem Rt {sw:Sw} {k:Nat} {e:Str×List Str} (h:sw[k]? = some e):nmS sw k=e.1:=by
 unfold nmS
 rw [aC,ak,h]
 rfl
theorem bc8 {sw:Sw} (nd:(sw.map (·.1)).Nodup) {p q:Nat} (hp:p<sw.length) (hq:q<sw.length) (h:nmS sw p=nmS sw q):p=q:=by
 unfold nmS at h
 rw [aC,aC,ah (by rw [ae];exact hp),ah (by rw [ae];exact hq)] at h
 exact (c9 nd).mp h
theorem F9 {sw:Sw} {ps:List Nat} {i j:Nat}:B1 sw ps i j=ps.all fun p=>decide (Dd sw i p=Dd sw j p):=by
 unfold B1
 rw [bQ,decide_eq_true_iff,aW,List.map_inj_left]
 exact⟨fun h p hp=>decide_eq_true (h p hp),fun h p hp=>of_decide_eq_true (h p hp)⟩
theorem aw1 {sw:Sw} (hw:okSw sw) {ps:List Nat} (hp:∀ p∈ps,p<sw.length) {i j:Nat} (hi:i<(Ah sw).length) (hj:j<(Ah sw).length):Dp sw (ps.map (nmS sw)) i j=B1 sw ps i j:=by
 rw [F9]
 unfold Dp
 rw [fU,bQ,aW,aW]
 have key:∀ p∈ps,(decide (Bl sw i (C9 sw (nmS sw p))=Bl sw j (C9 sw (nmS sw p)))=true ↔ decide (Dd sw i p=Dd sw j p)=true):=fun p hm=>by
  have hx:sw[p]? = some (sw[p]'(hp p hm)):=ah _
  rw [Rt hx,Ew hx hw.2.2.1,decide_eq_true_iff,decide_eq_true_iff]
  exact G4 hw hi hj hx
 exact⟨fun h p hm=>(key p hm).mp (h p hm),fun h p hm=>(key p hm).mpr (h p hm)⟩
theorem aw0 {sw:Sw} (hw:okSw sw) {ps:List Nat} {ws:List Str} (hp:∀ p∈ps,p<sw.length) (hs:∀ x,x∈ws ↔ x∈ps.map (nmS sw)) {i j:Nat} (hi:i<(Ah sw).length) (hj:j<(Ah sw).length):Hd sw ws i j=B1 sw ps i j:=by
 rw [F9]
 unfold Hd
 rw [bQ,aW,aW]
 constructor
 ·intro h p hm
  have hx:sw[p]? = some (sw[p]'(hp p hm)):=ah _
  have:=h p (List.mem_range.mpr (hp p hm))
  rw [decide_eq_true ((hs _).mpr (List.mem_map.mpr ⟨p,hm,rfl⟩))] at this
  exact decide_eq_true ((G4 hw hi hj hx).mp (by simpa using this))
 ·intro h p hm
  have hl:=List.mem_range.mp hm
  have hx:sw[p]? = some (sw[p]'hl):=ah _
  by_cases q:nmS sw p∈ws
  ·obtain⟨p',hp',e⟩:=List.mem_map.mp ((hs _).mp q)
   have e:=bc8 hw.2.2.1 (hp p' hp') hl e
   subst e
   have:=of_decide_eq_true (h p' hp')
   rw [decide_eq_true ((G4 hw hi hj hx).mpr this),eX]
  ·rw [decide_eq_false q];rfl
theorem Gr {l:List Nat} {p q:Nat->Bool} (h:∀ a∈l,p a=q a):l.find? p=l.find? q:=by
 induction l with
 | nil=>rfl
 | cons a l ih=>rw [bR,bR,h a aZ,ih fun b hb=>h b (aL _ hb)]
theorem Fm {β:Type} {l:List Nat} {p q:Nat->Option β} (h:∀ a∈l,p a=q a):l.findSome? p=l.findSome? q:=by
 induction l with
 | nil=>rfl
 | cons a l ih=>rw [dS,dS,h a aZ,ih fun b hb=>h b (aL _ hb)]
theorem Rz {n c w:Nat} {f g:Nat->Nat->Bool} (h:∀ i j,i<n->j<n->f i j=g i j):Ch n c w f=Ch n c w g:=by
 unfold Ch
 refine Fm fun i hi=>?_
 have hi:=List.mem_range.mp hi
 rw [Gr fun j hj=>by rw [h i j hi (List.mem_range.mp hj)]]
theorem Wh {n a b:Nat} {f g:Nat->Nat->Bool} (h:∀ i j,i<n->j<n->f i j=g i j):Ea n a b f=Ea n a b g:=by
 unfold Ea
 rw [bQ,bD,bD]
 constructor
 ·rintro⟨i,hi,q⟩
  refine⟨i,hi,?_⟩
  rw [ax,bD] at q ⊢
  obtain⟨q1,j,hj,q2⟩:=q
  exact⟨q1,j,hj,by rw [<- h i j (List.mem_range.mp hi) (List.mem_range.mp hj)];exact q2⟩
 ·rintro⟨i,hi,q⟩
  refine⟨i,hi,?_⟩
  rw [ax,bD] at q ⊢
  obtain⟨q1,j,hj,q2⟩:=q
  exact⟨q1,j,hj,by rw [h i j (List.mem_range.mp hi) (List.mem_range.mp hj)];exact q2⟩
theorem K4 {n c w:Nat} {f:Nat->Nat->Bool}:(Ch n c w f).isNone = !Ea n (c &&& w) (Ij w c) f:=by
 unfold Ch Ea
 rw [bQ,iI,fA,fh,cR]
 refine forall_congr' fun i=>forall_congr' fun hi=>?_
 rw [cg]
 cases e:(c.testBit i&&w.testBit i) with
 | false=>simp
 | true=>
  rw [if_pos rfl,jr,f9,du,Bool.not_eq_true,cR]
  refine forall_congr' fun j=>forall_congr' fun hj=>?_
  rw [K2]
theorem K6 {α β:Type} (f:α->β):∀ (k:Nat) (l:List α),Ba k (l.map f)=(Ba k l).map (i7 f)
 | 0,l=>rfl
 | k+1,l=>by
  unfold Ba
  rw [ae,jh]
  refine congrArg lu (cN fun i _=>?_)
  show ((l.map f)[i]?).elim [] _=((l[i]?).elim [] _).map (i7 f)
  rw [ak]
  cases l[i]? with
  | none=>rfl
  | some x=>
   show (Ba k ((l.map f).drop (i+1))).map (f x :: ·)=((Ba k (l.drop (i+1))).map (x :: ·)).map (i7 f)
   rw [<- kB,K6 f k,bA,bA]
   rfl
theorem E9 {α:Type}:∀ (k:Nat) (l:List α) (p:List α),p∈Ba k l->p.length=k /\ ∀ x∈p,x∈l
 | 0,l,p,h=>by
  have:p=[]:=by simpa [Ba] using h
  subst this
  exact⟨rfl,fun x hx=>by cases hx⟩
 | k+1,l,p,h=>by
  unfold Ba at h
  obtain⟨i,hi,h⟩:=List.mem_flatMap.mp h
  cases e:l[i]? with
  | none=>rw [e] at h;cases h
  | some x=>
   rw [e] at h
   obtain⟨q,hq,rfl⟩:=List.mem_map.mp h
   obtain⟨h1,h2⟩:=E9 k _ q hq
   refine⟨by rw [aN,h1],fun y hy=>?_⟩
   rcases List.mem_cons.mp hy with rfl|hy
   ·exact ai e
   ·exact g7 (h2 y hy)
theorem X2 {α β:Type} (f:α->β) (l:List α):Cj (l.map f)=(Cj l).map (i7 f):=by
 unfold Cj
 rw [ae,jh]
 exact congrArg lu (cN fun k _=>K6 f k l)
theorem M4 {α:Type} {l p:List α} (h:p∈Cj l):p.length<l.length /\ ∀ x∈p,x∈l:=by
 unfold Cj at h
 obtain⟨k,hk,h⟩:=List.mem_flatMap.mp h
 obtain⟨h1,h2⟩:=E9 k l p h
 exact⟨by rw [h1];exact List.mem_range.mp hk,h2⟩
theorem aj5 (sw:Sw):sw.map (·.1)=(aq sw.length).map (nmS sw):=by
 refine List.ext_getElem (by simp) fun i h1 h2=>?_
 rw [dZ,dZ,gc]
 have hi:i<sw.length:=by simpa using h1
 rw [Rt (ah hi)]
theorem Yf {sw:Sw} (hw:okSw sw) {i j:Nat} (hi:i<(Ah sw).length) (hj:j<(Ah sw).length) (h:B1 sw (aq sw.length) i j=true):i=j:=by
 rw [F9,aW] at h
 have nd:=(Dv hw.sets).1
 have ln:=(Dv hw.sets).2.1
 refine (c9 (h₀:=hi) (h₁:=hj) nd).mp (List.ext_getElem? fun p=>?_)
 have l1:=ln _ (cy hi)
 have l2:=ln _ (cy hj)
 by_cases hp:p<sw.length
 ·have e:=(G4 hw hi hj (ah hp)).mpr (of_decide_eq_true (h p (List.mem_range.mpr hp)))
  unfold Bl at e
  rw [ah hi,ah hj] at e
  exact e
 ·rw [dy (by omega),dy (by omega)]
theorem Yg {sw:Sw} (hw:okSw sw) (c w:Nat):Ch (Ah sw).length c w (B1 sw (aq sw.length))=none:=by
 rw [<- iI,K4,fh]
 unfold Ea
 rw [cR]
 intro i hi q
 rw [ax,bD,cg,ax] at q
 obtain⟨⟨q1,_⟩,j,hj,q2⟩:=q
 rw [ax,K2,ax] at q2
 have e:=Yf hw (List.mem_range.mp hi) (List.mem_range.mp hj) q2.2
 subst e
 rw [q1] at q2
 simp at q2
theorem Jb {α β:Type} {f:α->β} {p:α->Bool} {q:β->Bool}:∀ {l:List α},(∀ a∈l,q (f a)=p a)->(l.map f).find? q=(l.find? p).map f
 | [],_=>rfl
 | a::l,h=>by
  rw [be,bR,bR,h a aZ]
  cases p a with
  | true=>rfl
  | false=>exact Jb fun b hb=>h b (aL _ hb)
theorem ae8 {sw:Sw} (hw:okSw sw) (c w:Nat):Mo sw c w=(X7 sw c w).map (nmS sw)/\(Dk sw.length).find? (fun ps=>(Ch (Ah sw).length c w (B1 sw ps)).isNone)=some (X7 sw c w):=by
 have e:(Dk sw.length).find? (fun ps=>(Ch (Ah sw).length c w (B1 sw ps)).isNone)=some (((Cj (aq sw.length)).find? fun ps=>(Ch (Ah sw).length c w (B1 sw ps)).isNone).getD (aq sw.length)):=by
  unfold Dk
  rw [List.find?_append]
  cases (Cj (aq sw.length)).find? (fun ps=>(Ch (Ah sw).length c w (B1 sw ps)).isNone) with
  | some p=>rfl
  | none=>rw [bR,Yg hw];rfl
 have d:X7 sw c w=((Cj (aq sw.length)).find? fun ps=>(Ch (Ah sw).length c w (B1 sw ps)).isNone).getD (aq sw.length):=by unfold X7;rw [e];rfl
 refine⟨?_,by rw [e,d]⟩
 rw [d]
 unfold Mo
 rw [aj5,X2,Jb (p:=fun ps=>(Ch (Ah sw).length c w (B1 sw ps)).isNone)]
 ·cases (Cj (aq sw.length)).find? (fun ps=>(Ch (Ah sw).length c w (B1 sw ps)).isNone) <;> rfl
 ·intro ps hps
  rw [K4,Wh fun i j hi hj=>aw1 hw (fun p hp=>List.mem_range.mp ((M4 hps).2 p hp)) hi hj]
section
variable {P:aV} {w:bM} {K:ac} {mg:Str->Option Value} {base:Heap} {t:Adr}
noncomputable def Ge (c:Nat):Nat:=hZ (c:Int)
theorem Wo (c:Nat):c<2 ^ Ge c:=by
 have h:=(jZ (m:=Ge c) (x:=(c:Int))).mp (ay _)
 simpa using h
theorem Oj {c m:Nat} (h:c<2 ^ m):Ge c<=m:=(jZ (m:=m) (x:=(c:Int))).mpr (by simpa using h)
theorem Ep (c m:Nat):(aq (m+1)).filter (fun j=>c.testBit j)=(aq m).filter (fun j=>c.testBit j)++(if c.testBit m=true then [m] else []):=by
 rw [dz,iC,List.filter_cons]
 rfl
theorem Nd {c n:Nat} (h:c<2 ^ n):∀ k,(aq (n+k)).filter (fun j=>c.testBit j)=(aq n).filter (fun j=>c.testBit j)
 | 0=>rfl
 | k+1=>by
  rw [<- Nat.add_assoc,Ep,Nd h k,if_neg,cv]
  intro q
  have:=Tj h q
  omega
theorem Yc {c n:Nat} (h:c<2 ^ n):(aq n).filter (fun j=>c.testBit j)=(aq (Ge c)).filter (fun j=>c.testBit j):=by
 have:=Nd (Wo c) (n - Ge c)
 rw [show Ge c+(n - Ge c)=n by have:=Oj h;omega] at this
 exact this
theorem Uk {c n:Nat} (h:∀ j,j<n->c.testBit j=false):Gu n c=none:=by
 unfold Gu
 rw [f9]
 intro j hj q
 rw [h j (List.mem_range.mp hj)] at q
 cases q
theorem ah6 {c n m:Nat} (hm:m<n) (h:c.testBit m=true) (no:∀ j,j<m->c.testBit j=false):Gu n c=some m:=by
 unfold Gu
 rw [List.find?_range_eq_some]
 exact⟨h,List.mem_range.mpr hm,fun j hj=>by rw [no j hj];rfl⟩
theorem by4 {f:Addr} {fd:aA} (Z:Au K t) (F:FunD K "choices_of" "choices_of" Vx f fd .none) (T:Tab P w K mg base 1 (Eb K t) bl):FnOk P w K mg base CX0 2 f fd ad0 (ap7 K t):=by
 refine F.okW0 b61 cb8 T (b35 K t) (fun vs H Q E h=>?_) (fun vs H Q E h=>?_)
 ·obtain⟨c,n,rfl,_⟩:=h;rfl
 ·obtain⟨c,n,rfl,hc,hn,k⟩:=h
  have hb:=Oj hc
  refine⟨rfl,_,rfl,rfl,⟨by show -(2 ^ 62)<=((Ge c:Nat):Int);omega,by show ((Ge c:Nat):Int)<2 ^ 62;omega⟩,fun D hD=>?_⟩
  rw [Yc hc] at k
  show Fg (Itr 0 (Ge c)) _ _ _ _ _ [none,some (.int (c:Int))] _ _
  refine Ce (Bu 0 (Ge c)) (fun m σ H'=>(∃ v,σ=[v,some (.int (c:Int))])/\Same H H'/\H' D=some (nO ((aq m).filter fun j=>c.testBit j))) ⟨⟨_,rfl⟩,Same.upd hD,Ad⟩ (fun _ _ _ _ _=>bC) ?_ ?_
  ·rintro m x σ H1 hx ⟨⟨v,rfl⟩,S1,eD⟩
   obtain⟨hm,rfl⟩:=Dm hx
   refine⟨(c:Int),(m:Int),rfl,by omega,?_⟩
   show if decide (bj ((c:Int) / 2 ^ ((m:Int)).toNat) 1=1)=true then _ else _
   rw [Gq]
   cases e:c.testBit m with
   | true=>
    refine D0 ⟨_,eD,?_,⟨_,rfl⟩,S1.set hD,?_⟩
    ·rw [ae]
     have:=e9 (fun j=>c.testBit j) (aq m)
     rw [bB] at this
     exact aG (show _<257 by omega) (by decide)
    ·rw [Ad,Ep,if_pos e]
     unfold nO
     rw [az]
     rfl
   | false=>exact Dj ⟨⟨_,rfl⟩,S1,by rw [Ep,if_neg (by rw [e];exact am),cv];exact eD⟩
  ·rintro σ H1 ⟨_,S1,eD⟩
   rw [A9] at eD
   exact k H1 D S1 hD eD
theorem bx8 {f:Addr} {fd:aA} (Z:Au K t) (F:FunD K "least_choice" "least_choice" Vs f fd .none) (T:Tab P w K mg base 1 (Eb K t) bl):FnOk P w K mg base CX0 2 f fd ac4 (ap4 K t):=by
 refine F.okW0 b55 cb2 T (b29 K t) (fun vs H Q E h=>?_) (fun vs H Q E h=>?_)
 ·obtain⟨c,n,rfl,_⟩:=h;rfl
 ·obtain⟨c,n,rfl,hc,hn,k⟩:=h
  have hb:=Oj hc
  refine⟨rfl,_,rfl,rfl,⟨by show -(2 ^ 62)<=((Ge c:Nat):Int);omega,by show ((Ge c:Nat):Int)<2 ^ 62;omega⟩,?_⟩
  show Xu (Itr 0 (Ge c)) _ _ _ [some (.int (c:Int)),none] _
  refine Bc (Bu 0 (Ge c)) (fun m σ H'=>(∃ v,σ=[some (.int (c:Int)),v])/\H'=H /\ ∀ j,j<m->c.testBit j=false) ⟨⟨_,rfl⟩,rfl,fun j hj=>absurd hj (dB _)⟩ (fun _ _ _ _ _=>bC) ?_ ?_
  ·rintro m x σ H1 hx ⟨⟨v,rfl⟩,rfl,no⟩
   obtain⟨hm,rfl⟩:=Dm hx
   refine⟨(c:Int),(m:Int),rfl,by omega,?_⟩
   show if decide (bj ((c:Int) / 2 ^ ((m:Int)).toNat) 1=1)=true then _ else _
   rw [Gq]
   cases e:c.testBit m with
   | true=>
    rw [ah6 (by omega) e no] at k
    exact D0 k
   | false=>
    refine Dj ⟨⟨_,rfl⟩,rfl,fun j hj=>?_⟩
    rcases dA j m with q|q
    ·exact no j q
    ·rw [show j=m by omega];exact e
  ·rintro σ H1 ⟨⟨v,rfl⟩,rfl,no⟩
   rw [A9] at no
   rw [Uk fun j hj=>?_] at k
   ·exact .inl k
   ·rcases dA j (Ge c) with q|q
    ·exact no j q
    ·cases e:c.testBit j with
     | false=>rfl
     | true=>have:=Tj (Wo c) e;omega
theorem Us {E:EK} {H:Hp} {l:Addr} {ds:List ((Str×V)×Addr)} {R:Hp->Addr->Prop} (hl:H l=some (.lst (ds.map fun x=>.ref x.2))) (hd:∀ x∈ds,H x.2=some (.tup [.str x.1.1,x.1.2])) (few:ds.length<=1000)
  (k:∀ D H',Same H H'->H D=none->H' D=some (A8 (ds.map (·.1.1)))->R H' D) :
  ∀ D,H D=none->Fg (Itl K l) (gdT K 2 [(gdN 0),(gdN 1)]) B5 (Aa 0) D (fun H'=>R H' D) [none,none] (upd H D (.lst [])) E:=by
 intro D hD
 refine Ce (A5 (ds.map fun x=>V.ref x.2)) (fun m σ H'=>(∃ a b,σ=[a,b])/\Same H H'/\H' D=some (A8 ((ds.take m).map (·.1.1)))) ⟨⟨_,_,rfl⟩,Same.upd hD,Ad⟩ (fun m σ H' _ q=>q.2.1.seqL (SqL.of hl)) ?_ ?_
 ·rintro m x σ H1 hx ⟨⟨a,b,rfl⟩,S1,eD⟩
  obtain⟨d,hm,rfl⟩:=Ao hx
  refine⟨_,SqT.of (S1 _ _ (hd d (ai hm))),rfl,_,eD,?_,⟨_,_,rfl⟩,S1.set hD,?_⟩
  ·rw [ae,ae,aO]
   exact aM (show _<=1000 by omega) (by decide)
  ·rw [Ad,Be hm];unfold A8;rw [az];rfl
 ·rintro σ H1 ⟨_,S1,eD⟩
  rw [ae,aX] at eD
  exact k D H1 S1 hD eD
theorem L8 {E:EK} {H:Hp} {l:Addr} {sw:Sw} {ds:List (((Str×List Str)×Addr)×Addr)} {R:Hp->Addr->Prop} (hw:okSw sw) (ed:ds.map (·.1.1)=sw) (hl:H l=some (.lst (ds.map fun x=>.ref x.2))) (hd:∀ x∈ds,H x.2=some (.tup [.str x.1.1.1,.ref x.1.2]))
  (k:∀ D H',Same H H'->H D=none->H' D=some (A8 (sw.map (·.1)))->R H' D) :
  ∀ D,H D=none->Fg (Itl K l) (gdT K 2 [(gdN 0),(gdN 1)]) B5 (Aa 0) D (fun H'=>R H' D) [none,none] (upd H D (.lst [])) E:=by
 have len:ds.length=sw.length:=by rw [<- ed,ae]
 refine Us (ds:=ds.map fun x=>((x.1.1.1,V.ref x.1.2),x.2)) (by rw [hl,bA];rfl) (fun x hx=>?_) (by rw [ae];have:=hw.2.1;omega) fun D H' S fD eD=>k D H' S fD (by rw [eD,bA,<- ed,bA];rfl)
 obtain⟨y,hy,rfl⟩:=List.mem_map.mp hx
 exact hd y hy
theorem bx1 {f:Addr} {fd:aA} (Z:Au K t) (F:FunD K "terms_of_choice" "terms_of_choice" Vl f fd .none) (T:Tab P w K mg base 3 (Ri K t) bl):FnOk P w K mg base CX0 4 f fd ab7 (ao9 K t):=by
 refine F.okW0 b48 ca5 T (b22 K t) (fun vs H Q E h=>?_) (fun vs H Q E h=>?_)
 ·obtain⟨p,i,r,sw,rules,rfl,_⟩:=h;rfl
 ·obtain⟨p,i,r,sw,rules,rfl,hP,hw,hr,k⟩:=h
  obtain⟨dx,d,l,n,s,kk,b,h⟩:=id hP
  refine⟨p,dx,_,⟨t.c_zbe,av2 K t⟩,rfl,.head _,h.ins.2,rfl,⟨au rfl,au rfl⟩,p,sw,rules,rfl,hP,hw,fun H1 q ds S1 fq ed eq hd=>?_⟩
  refine .inl ⟨⟨_,SqL.of eq⟩,?_⟩
  refine L8 hw ed eq (fun x hx=>(hd x hx).1) fun D H2 S2 fD eD=>?_
  have S:=S1.trans S2
  refine⟨p,dx,_,⟨t.c_zbe,bb8 K t⟩,rfl,.head _,S _ _ h.ins.2,rfl,⟨au rfl,au rfl⟩,p,i,r,sw,rules,rfl,hP.mono (Kp.same S),hr,fun a ha=>?_⟩
  have lr:r.length=sw.length:=(Dv hw.sets).2.1 r (ai hr)
  have l1:=hw.1
  have l2:=hw.2.1
  refine⟨_,_,eD,ha,?_,?_,?_,fun D2 Ts H3 top fr hl ln laid=>k H3 D2 (S.trans top) ⟨Ts,hl,?_,fun j x y T e1 e2=>?_⟩⟩
  ·rw [ae,ae,ae,lr]
  ·rw [ae,ae];omega
  ·rw [ae,ae];omega
  ·rw [ln,jG,ae,ae,ae,ae,lr];omega
  ·rw [bZ] at e1
   exact (laid j x y T (by rw [bA];exact e1.1) e1.2 e2).2
theorem ah0 (z:Str) (l:List Str):inV (.str z) (l.map V.str)=decide (z∈l):=by
 unfold inV
 rw [lq,bQ,decide_eq_true_iff,bD]
 constructor
 ·rintro⟨y,hy,e⟩
  have e:(y==z)=true:=e
  rw [<- cU e]
  exact hy
 ·intro h
  exact⟨z,h,beq_self_eq_true z⟩
noncomputable def tmS (sw:Sw) (r ws:List Str) (m:Nat):Sw:=((((sw.map (·.1)).zip r).take m).filter fun e=>decide (e.1∈ws)).map fun e=>(e.1,[e.2])
theorem Xn {sw:Sw} {r ws:List Str} {m:Nat} {x z:Str} (h:((sw.map (·.1)).zip r)[m]? = some (x,z)):tmS sw r ws (m+1)=tmS sw r ws m++(if x∈ws then [(x,[z])] else []):=by
 unfold tmS
 rw [b_,h,cW,iC,az]
 congr 1
 by_cases q:x∈ws <;> simp [q]
theorem aq5 {sw:Sw} {r ws:List Str} {m:Nat} (hl:r.length=sw.length):∀ e∈tmS sw r ws m,∃ p,p<m/\(sw.map (·.1))[p]? = some e.1:=by
 intro e he
 unfold tmS at he
 obtain⟨a,ha,rfl⟩:=List.mem_map.mp he
 have ha:=(List.mem_filter.mp ha).1
 obtain⟨p,hp⟩:=List.mem_iff_getElem?.mp ha
 rw [List.getElem?_take] at hp
 split at hp
 ·exact⟨p,‹_›,(List.getElem?_zip_eq_some.mp hp).1⟩
 ·cases hp
theorem b92 {sw:Sw} (nd:(sw.map (·.1)).Nodup) {r ws:List Str} (m:Nat) (hl:r.length=sw.length):((tmS sw r ws m).map (·.1)).Nodup:=by
 unfold tmS
 rw [bA]
 have e:(((((sw.map (·.1)).zip r).take m).filter fun e=>decide (e.1∈ws)).map ((·.1)∘fun e=>(e.1,[e.2])))=((((sw.map (·.1)).zip r).take m).filter fun e=>decide (e.1∈ws)).map (·.1):=cN fun _ _=>rfl
 rw [e]
 have s1:(((((sw.map (·.1)).zip r).take m).filter fun e=>decide (e.1∈ws)).map (·.1)).Sublist (((sw.map (·.1)).zip r).map (·.1)):=((List.filter_sublist).trans (iO _ _)).map _
 rw [List.map_fst_zip (by rw [ae];omega)] at s1
 exact nd.sublist s1
theorem bp8 {sw:Sw} {r ws:List Str} {m:Nat}:(tmS sw r ws m).length<=m:=by
 unfold tmS
 rw [ae]
 exact aQ (e9 _ _) (by rw [aO];omega)
theorem b93 {sw:Sw} (hw:okSw sw) {i:Nat} {r ws:List Str} (hr:(Ah sw)[i]? = some r):okB sw (tmS sw r ws sw.length):=by
 have hl:r.length=sw.length:=(Dv hw.sets).2.1 r (ai hr)
 refine⟨b92 hw.2.2.1 _ hl,fun e he=>?_⟩
 unfold tmS at he
 obtain⟨a,ha,rfl⟩:=List.mem_map.mp he
 have ha:=(List.mem_filter.mp ha).1
 obtain⟨p,hp⟩:=List.mem_iff_getElem?.mp (d8 ha)
 obtain⟨e1,e2⟩:=List.getElem?_zip_eq_some.mp hp
 obtain⟨x,hx,ex⟩:=Ao e1
 have hi:i<(Ah sw).length:=An hr
 obtain⟨l1,c1⟩:=G3 hi hx
 have ce:Bl sw i p=r[p]?:=by unfold Bl;rw [hr];rfl
 rw [ce,e2] at c1
 have c1:=aF c1
 have hz:a.2∈x.2:=by
  rw [c1,aC,ah l1]
  exact cy l1
 have hm:=ai hx
 refine⟨by simp,⟨fun z hz'=>?_,by simp,by simp⟩,x,hm,ex.symm,fun z hz'=>?_⟩
 ·have:z=a.2:=by simpa using hz'
  rw [this]
  exact (hw.sets x hm).1.1 _ hz
 ·have:z=a.2:=by simpa using hz'
  rw [this]
  exact hz
theorem aq4 {sw:Sw} (hw:okSw sw) {i:Nat} {r ws:List Str} (hr:(Ah sw)[i]? = some r) (j:Nat):(Hr sw (tmS sw r ws sw.length)).testBit j=(decide (j<(Ah sw).length)&&Hd sw ws i j):=by
 have hl:r.length=sw.length:=(Dv hw.sets).2.1 r (ai hr)
 rw [Ra]
 congr 1
 unfold Hd
 have ce:∀ p,Bl sw i p=r[p]?:=fun p=>by unfold Bl;rw [hr];rfl
 rw [bQ,aW,aW]
 constructor
 ·intro h p hp
  have hp:=List.mem_range.mp hp
  by_cases q:nmS sw p∈ws
  ·rw [decide_eq_true q]
   have hx:sw[p]? = some (sw[p]'hp):=ah _
   have hrp:r[p]? = some (r[p]'(by omega)):=ah _
   have hm:(sw[p].1,[r[p]'(by omega)])∈tmS sw r ws sw.length:=by
    unfold tmS
    refine List.mem_map.mpr ⟨(sw[p].1,r[p]'(by omega)),List.mem_filter.mpr ⟨?_,decide_eq_true (by rw [<- Rt hx];exact q)⟩,rfl⟩
    rw [gw (by rw [jG,ae];omega)]
    exact ai (i:=p) (List.getElem?_zip_eq_some.mpr ⟨by rw [ak,hx];rfl,hrp⟩)
   have:=h _ hm
   rw [dM,jE,eE] at this
   unfold Jl at this
   rw [Ew hx hw.2.2.1] at this
   have this:=of_decide_eq_true this
   rw [decide_eq_true (show Bl sw i p=Bl sw j p by rw [ce,hrp];exact this.symm)]
   rfl
  ·rw [decide_eq_false q];rfl
 ·intro h e he
  unfold tmS at he
  obtain⟨a,ha,rfl⟩:=List.mem_map.mp he
  obtain⟨ha,q⟩:=List.mem_filter.mp ha
  obtain⟨p,hp⟩:=List.mem_iff_getElem?.mp (d8 ha)
  obtain⟨e1,e2⟩:=List.getElem?_zip_eq_some.mp hp
  obtain⟨x,hx,ex⟩:=Ao e1
  have:=h p (List.mem_range.mpr (An hx))
  rw [Rt hx,<- ex,q,Bool.not_true,i3] at this
  have this:=of_decide_eq_true this
  rw [ce,e2] at this
  rw [dM,jE,eE]
  unfold Jl
  rw [ex,Ew hx hw.2.2.1]
  exact decide_eq_true this.symm
theorem B8 (l:List Str):(l.map V.str).all B7=true:=by rw [fU,aW];exact fun _ _=>rfl
theorem Kp.new {H H':Hp} {q:Addr} (S:Same H H') (f:H q=none):Kp any H (· ≠ q) H':=fun a o ⟨_,h⟩=>⟨fun e=>(by rw [e,f] at h;cases h),S _ _ h⟩
theorem bx5 {f:Addr} {fd:aA} (Z:Au K t) (F:FunD K "choices_like" "choices_like" Vp f fd .none) (T:Tab P w K mg base 5 (Yi K t) bl):FnOk P w K mg base CX0 6 f fd ac1 (ap1 K t):=by
 refine F.okW0 b52 ca9 T (b26 K t) (fun vs H Q E h=>?_) (fun vs H Q E h=>?_)
 ·obtain⟨p,l,i,ws,sw,rules,rfl,_⟩:=h;rfl
 ·obtain⟨p,l,i,ws,sw,rules,rfl,hP,hw,hi,hl,few,k⟩:=h
  obtain⟨r,hr⟩:∃ r,(Ah sw)[i]? = some r:=⟨_,ah hi⟩
  have lr:r.length=sw.length:=(Dv hw.sets).2.1 r (ai hr)
  have l5:=hw.2.1
  refine fun q hq=>.inl ?_
  have S0:Same H (upd H q (.dK [])):=Same.upd hq
  have e0:upd H q (.dK []) q=some (.dK []):=Ad
  show Ag _ _ _ [some (.ref p),some (.int (i:Int)),some (.ref l),some (.ref q),none,none] _
  generalize upd H q (.dK [])=H0 at S0 e0 ⊢
  refine⟨p,i,r,sw,rules,rfl,hP.mono (Kp.same S0),hw,hr,fun H1 a S1 ⟨Ts,ea,et,tw⟩=>?_⟩
  have et:Ts.length=sw.length:=by rw [et,jG,ae,ae];omega
  refine .inl ⟨⟨_,SqL.of ea⟩,?_⟩
  refine Bc (A5 (Ts.map V.ref)) (fun m σ H'=>(∃ v1 v2,σ=[some (.ref p),some (.int (i:Int)),some (.ref l),some (.ref q),v1,v2])/\(∀ b o,b≠q->H1 b=some o->H' b=some o) /\
    ∃ es:List ((Str×List Str)×Addr),es.map (·.1)=tmS sw r ws m/\H' q=some (.dK (es.map kR)) /\ ∀ x∈es,H' x.2=some (A8 x.1.2))
   ⟨⟨_,_,rfl⟩,fun b o _ e=>e,[],rfl,S1 _ _ e0,fun x hx=>by cases hx⟩ (fun m σ H' _ ⟨_,S,_⟩=>SqL.of (S a _ (fun e=>by rw [e,S1 _ _ e0] at ea;cases ea) ea)) ?_ ?_
  ·rintro m x σ H2 hx ⟨⟨v1,v2,rfl⟩,S2,es,ee,eq,he⟩
   obtain⟨T,hT,rfl⟩:=Ao hx
   have hm:m<sw.length:=by rw [<- et];exact An hT
   have hx2:sw[m]? = some (sw[m]'hm):=ah _
   have hz2:r[m]? = some (r[m]'(by omega)):=ah _
   generalize sw[m]'hm=x at hx2
   generalize r[m]'(by omega)=z at hz2
   have hzip:((sw.map (·.1)).zip r)[m]? = some (x.1,z):=List.getElem?_zip_eq_some.mpr ⟨by rw [ak,hx2];rfl,hz2⟩
   have tT:=tw m (.str x.1) (.str z) T (List.getElem?_zip_eq_some.mpr ⟨by rw [ak,hx2];rfl,by rw [ak,hz2];rfl⟩) hT
   have nT:T≠q:=fun e=>by rw [e,S1 _ _ e0] at tT;cases tT
   have nl:l≠q:=Ak hl hq
   refine⟨_,SqT.of (S2 _ _ nT tT),rfl,.inl ⟨_,_,rfl,.inl (SqL.of (S2 _ _ nl (S1 _ _ (S0 _ _ hl)))),rfl,B8 ws,?_⟩⟩
   show if inV (.str x.1) (ws.map V.str)=true then _ else _
   rw [ah0]
   by_cases hin:x.1∈ws
   ·rw [decide_eq_true hin]
    refine D0 ⟨by show 1<=sizeLine;decide,fun L hL=>?_⟩
    have SL:=Same.upd (o:=.lst [.str z]) hL
    have eL:upd H2 L (.lst [.str z]) L=some (.lst [.str z]):=Ad
    have nL:q≠L:=Ak eq hL
    show Eh K (Aa 3) (Aa 4) (.ref L) [some (.ref p),some (.int (i:Int)),some (.ref l),some (.ref q),some (.str x.1),some (.str z)] (upd H2 L (.lst [.str z])) _
    generalize upd H2 L (.lst [.str z])=H3 at SL eL ⊢
    have nk:Bn (es.map kR) (.inr x.1)=none:=E1 fun hmem=>by
     rw [Pa,ee] at hmem
     obtain⟨y,hy,e⟩:=List.mem_map.mp hmem
     obtain⟨y2,hy2,rfl⟩:=List.mem_map.mp hy
     injection e with e
     obtain⟨p',hp',e'⟩:=aq5 lr y2 hy2
     rw [e] at e'
     have:=(c9 (i:=p') (j:=m) (h₀:=An e') (h₁:=by rw [ae];exact hm) hw.2.2.1).mp (by
      have q1:(sw.map (·.1))[m]? = some x.1:=by rw [ak,hx2];rfl
      rw [ah (An e')] at e'
      rw [ah (by rw [ae];exact hm)] at q1
      rw [aF e',aF q1])
     omega
    refine⟨_,DPut.k (k:=.inr x.1) (SL _ _ eq) ?_,?_⟩
    ·rw [ae]
     have h1:es.length=(tmS sw r ws m).length:=by rw [<- ee,ae]
     have h2:=bp8 (sw:=sw) (r:=r) (ws:=ws) (m:=m)
     exact aM (show es.length<=5 by omega) (by decide)
    rw [Jw (e:=(x.1,[z])) nk]
    refine⟨⟨_,_,rfl⟩,fun b o nb e=>by rw [Ai nb];exact SL _ _ (S2 _ _ nb e),es++[((x.1,[z]),L)],?_,Ad,fun y hy=>?_⟩
    ·rw [az,ee,Xn hzip,if_pos hin];rfl
    ·rcases List.mem_append.mp hy with hy|hy
     ·rw [Ai (fun e=>by have:=he y hy;rw [e,eq] at this;cases this)]
      exact SL _ _ (he y hy)
     ·have:y=((x.1,[z]),L):=by simpa using hy
      subst this
      rw [Ai (ck nL)]
      exact eL
   ·rw [decide_eq_false hin]
    refine Dj ⟨⟨_,_,rfl⟩,S2,es,?_,eq,he⟩
    rw [ee,Xn hzip,if_neg hin,cv]
  ·rintro σ H2 ⟨⟨v1,v2,rfl⟩,S2,es,ee,eq,he⟩
   rw [ae,et] at ee
   refine .inl ?_
   obtain⟨dx,d,la,n,s,kk,b,h⟩:=id hP
   have S:Same H H2:=fun b o e=>S2 b o (Ak e hq) (S1 _ _ (S0 _ _ e))
   have kn:Kp any H (· ≠ q) H2:=Kp.new S hq
   refine⟨p,dx,_,⟨t.c_zbe,Rj K t⟩,rfl,.head _,S _ _ h.ins.2,rfl,⟨au rfl,au rfl⟩,p,q,la,s,sw,tmS sw r ws sw.length,rfl,h.self.mono kn,h.tps.mono kn,h.sts.mono kn,hw,⟨es,ee,⟨trivial,eq⟩,fun x hx=>⟨trivial,he x hx⟩⟩,b93 hw hr,fun H3 S3=>?_⟩
   rw [Q8]
   refine k H3 _ (S.trans S3) ?_ (aq4 hw hr)
   refine Nat.lt_pow_two_of_testBit _ fun j hj=>?_
   rw [aq4 hw hr,decide_eq_false (by omega)]
   rfl
theorem Eg {α β:Type} {f:α->Option β} {b:β}:∀ {l:List α} {k:Nat} {x:α},l[k]? = some x->(∀ (j:Nat) y,j<k->l[j]? = some y->f y=none)->f x=some b->l.findSome? f=some b
 | [],_,_,h,_,_=>by simp at h
 | a::l,0,x,h,_,hb=>by
  have:a=x:=by simpa using h
  subst this
  rw [dS,hb]
 | a::l,k+1,x,h,no,hb=>by
  rw [dS,no 0 a (by omega) rfl]
  exact Eg (by simpa using h) (fun j y hj hy=>no (j+1) y (by omega) (by simpa using hy)) hb
theorem Di {β:Type} {p:Nat->Bool} {f:Nat->Option β}:∀ l:List Nat,(l.filter p).findSome? f=l.findSome? fun i=>if p i=true then f i else none
 | []=>rfl
 | a::l=>by
  rw [List.filter_cons,dS]
  cases e:p a with
  | true=>rw [if_pos rfl,if_pos rfl,dS,Di l]
  | false=>rw [if_neg am,if_neg am,Di l]
theorem Pk (n c w:Nat) (f:Nat->Nat->Bool):Ch n c w f=((aq n).filter fun j=>(c &&& w).testBit j).findSome? fun i=>((aq n).find? fun j=>w.testBit j && !c.testBit j&&f i j).map fun j=>(i,j):=by
 rw [Di]
 unfold Ch
 refine Fm fun i _=>?_
 rw [cg]
theorem Uj {n c w m:Nat} {f:Nat->Bool} (h:∀ j,m.testBit j=(decide (j<n)&&f j)):Gu n (Ij w c &&& m)=(aq n).find? fun j=>w.testBit j && !c.testBit j&&f j:=by
 unfold Gu
 refine Gr fun j hj=>?_
 rw [cg,K2,h,decide_eq_true (List.mem_range.mp hj),du]
theorem Wn {H:Hp} {T:Addr} {i j:Nat} (hT:H T=none):At K (upd H T (.tup [.int (i:Int),.int (j:Int)])) (.tup [.at_ (.int (i:Int)),.at_ (.int (j:Int))]) (.ref T):=by
 unfold At
 refine⟨T,_,rfl,SqT.of Ad,?_⟩
 unfold AtL
 refine⟨_,_,rfl,by unfold At;exact⟨rfl,rfl⟩,?_⟩
 unfold AtL
 refine⟨_,_,rfl,by unfold At;exact⟨rfl,rfl⟩,?_⟩
 unfold AtL
 rfl
theorem bd5 {f:Addr} {fd:aA} (Z:Au K t) (F:FunD K "undecided" "undecided" Lj f fd .none) (T:Tab P w K mg base 6 (Yj K t) bl):FnOk P w K mg base CX0 7 f fd Ql (Px K t):=by
 refine F.okW0 bn8 br0 T (bl5 K t) (fun vs H Q E h=>?_) (fun vs H Q E h=>?_)
 ·obtain⟨p,l,c,w,ws,sw,rules,rfl,_⟩:=h;rfl
 ·obtain⟨p,l,c,w,ws,sw,rules,rfl,hP,hw,hc,hww,hl,few,k⟩:=h
  have n256:=hw.len
  rw [Pk] at k
  refine⟨c &&& w,(Ah sw).length,by rw [<- Bx];rfl,Og hc,n256,fun H1 a S1 fa ea=>?_⟩
  refine .inl ⟨⟨_,SqL.of ea⟩,?_⟩
  refine Bc (A5 (((aq (Ah sw).length).filter fun j=>(c &&& w).testBit j).map fun n:Nat=>V.int (n:Int))) (fun m σ H'=>(∃ v5 v6,σ=[some (.ref p),some (.int (c:Int)),some (.int (w:Int)),some (.ref l),some (.int (bj (w:Int) (bv (c:Int)))),v5,v6])/\Same H1 H' /\
    ∀ (j:Nat) y,j<m->((aq (Ah sw).length).filter fun j=>(c &&& w).testBit j)[j]? = some y->(((aq (Ah sw).length).find? fun j=>w.testBit j && !c.testBit j&&Hd sw ws y j).map fun j=>(y,j))=none)
   ⟨⟨_,_,rfl⟩,Same.refl _,fun j y hj=>absurd hj (dB _)⟩ (fun m σ H' _ q=>q.2.1.seqL (SqL.of ea)) ?_ ?_
  ·rintro m x σ H2 hx ⟨⟨v5,v6,rfl⟩,S2,no⟩
   obtain⟨i,hi,rfl⟩:=Ao hx
   have him:=List.mem_range.mp (List.mem_filter.mp (ai hi)).1
   have S:=S1.trans S2
   refine⟨p,l,i,ws,sw,rules,rfl,hP.mono (Kp.same S),hw,him,S _ _ hl,few,fun H3 mm S3 hmm hb=>?_⟩
   refine⟨Ij w c &&& mm,(Ah sw).length,by rw [<- Bx,<- Rx];rfl,as7 hmm,n256,?_⟩
   rw [Uj hb]
   have S':=S.trans S3
   cases e:(aq (Ah sw).length).find? fun j=>w.testBit j && !c.testBit j&&Hd sw ws i j with
   | none=>
    refine⟨⟨_,_,rfl⟩,S2.trans S3,fun j y hj hy=>?_⟩
    rcases dA j m with q|q
    ·exact no j y q hy
    ·have:j=m:=by omega
     subst this
     rw [hi] at hy
     rw [<- aF hy,e]
     rfl
   | some j=>
    rw [Eg (b:=(i,j)) hi no (by rw [e];rfl)] at k
    refine⟨by show 2<=sizeLine;decide,fun T hT=>k _ _ (S'.trans (Same.upd hT)) ?_⟩
    unfold Ev
    exact Wn hT
  ·rintro σ H2 ⟨⟨v5,v6,rfl⟩,S2,no⟩
   have e:((aq (Ah sw).length).filter fun j=>(c &&& w).testBit j).findSome? (fun i=>((aq (Ah sw).length).find? fun j=>w.testBit j && !c.testBit j&&Hd sw ws i j).map fun j=>(i,j))=none:=by
    rw [fA]
    intro y hy
    obtain⟨j,hj⟩:=List.mem_iff_getElem?.mp hy
    exact no j y (by rw [ae];exact An hj) hj
   rw [e] at k
   refine .inl (k H2 .non (S1.trans S2) ?_)
   unfold Ev At
   exact⟨rfl,rfl⟩
noncomputable def pkS (k:Nat) (ws:List Str) (m:Nat):List (List Str):=(aq m).flatMap fun i=>(ws[i]?).elim [] fun x=>(Ba k (ws.drop (i+1))).map (x :: ·)
theorem W3 {k:Nat} {ws:List Str} {m:Nat} {x:Str} (h:ws[m]? = some x):pkS k ws (m+1)=pkS k ws m++(Ba k (ws.drop (m+1))).map (x :: ·):=by
 unfold pkS
 rw [dz,eF,fj,List.flatMap_nil,cv,h]
 rfl
theorem Ik:∀ (k:Nat) (ws:List Str),(Ba k ws).length<=2 ^ ws.length
 | 0,ws=>by show 1<=_;exact Nat.one_le_two_pow
 | k+1,ws=>by
  have key:∀ m,m<=ws.length->(pkS k ws m).length+2 ^ (ws.length - m)<=2 ^ ws.length:=by
   intro m
   induction m with
   | zero=>intro _;show 0+_<=_;rw [dg];exact ay _
   | succ m ih=>
    intro hm
    have:=ih (by omega)
    rw [W3 (ah (by omega)),aJ,ae]
    have h2:=Ik k (ws.drop (m+1))
    rw [cz] at h2
    have h3:2 ^ (ws.length - m)=2 ^ (ws.length - (m+1)) * 2:=by rw [<- Nat.pow_succ];congr 1;omega
    omega
  have:=key ws.length (ay _)
  exact aQ (bK _ _) this
theorem bh2 {k:Nat} {ws:List Str} {m:Nat} (hm:m<=ws.length):(pkS k ws m).length<=2 ^ ws.length:=by
 refine aQ ?_ (Ik (k+1) ws)
 show _<=(pkS k ws ws.length).length
 have:∀ j,(pkS k ws m).length<=(pkS k ws (m+j)).length:=by
  intro j
  induction j with
  | zero=>exact ay _
  | succ j ih=>
   refine aQ ih ?_
   unfold pkS
   rw [<- Nat.add_assoc,dz,eF,aJ]
   exact bK _ _
 have:=this (ws.length - m)
 rwa [show m+(ws.length - m)=ws.length by omega] at this
theorem X4 {E:EK} {H:Hp} {r:Addr} {x:Str} {es:List (List Str×Addr)} {R:Hp->Addr->Prop} (hr:H r=some (.lst (es.map fun e=>.ref e.2))) (he:∀ e∈es,H e.2=some (A8 e.1)) (few:es.length<=64) (fl:∀ e∈es,e.1.length<=100)
  (k:∀ D H',Same H H'->H D=none -> ∀ fs:List (List Str×Addr),fs.map (·.1)=(es.map (·.1)).map (x :: ·)->H' D=some (.lst (fs.map fun y=>.ref y.2))->(∀ y∈fs,y.2≠D/\H y.2=none/\H' y.2=some (A8 y.1))->R H' D) :
  ∀ D,H D=none->Fg (Itl K r) (gdN 0) B5 (Ae (Bb K) (Dh (Ac (Aa 1) Aj)) (Aa 0)) D (fun H'=>R H' D) [none,some (.str x)] (upd H D (.lst [])) E:=by
 intro D hD
 refine Ce (A5 (es.map fun e=>V.ref e.2)) (fun m σ H'=>(∃ v,σ=[v,some (.str x)])/\Same H H' /\ ∃ fs:List (List Str×Addr),fs.map (·.1)=((es.take m).map (·.1)).map (x :: ·)/\H' D=some (.lst (fs.map fun y=>.ref y.2)) /\ ∀ y∈fs,y.2≠D/\H y.2=none/\H' y.2=some (A8 y.1))
  ⟨⟨_,rfl⟩,Same.upd hD,[],rfl,Ad,fun x hx=>by cases hx⟩ (fun m σ H' _ q=>q.2.1.seqL (SqL.of hr)) ?_ ?_
 ·rintro m y σ H1 hy ⟨⟨v,rfl⟩,S1,fs,ef,eD,hf⟩
  obtain⟨⟨e,ea⟩,hm,rfl⟩:=Ao hy
  have hea:=S1 _ _ (he _ (ai hm))
  have le:=fl _ (ai hm)
  have lm:=An hm
  refine⟨(show 1<=sizeLine by decide),fun p hp=>.inl ⟨p,ea,_,_,rfl,rfl,Ad,(Same.upd hp) _ _ hea,?_,fun q hq=>?_⟩⟩
  ·rw [ae];exact aQ (show 1+e.length<=101 by have:e.length<=100:=le;omega) (by decide)
  have Sp:=Same.upd (o:=.lst [.str x]) hp
  have Sq:=Same.upd (o:=.lst ([.str x]++e.map V.str)) hq
  have eq:upd (upd H1 p (.lst [.str x])) q (.lst ([.str x]++e.map V.str)) q=some (A8 (x::e)):=Ad
  have S12:=Sp.trans Sq
  have qD:q≠D:=(Ak (Sp _ _ eD) hq).symm
  have hq0:H q=none:=(S1.trans Sp).free hq
  generalize upd (upd H1 p (.lst [.str x])) q (.lst ([.str x]++e.map V.str))=H2 at S12 eq ⊢
  have eD2:=S12 _ _ eD
  refine⟨_,eD2,?_,⟨_,rfl⟩,(S1.trans S12).set hD,fs++[(x::e,q)],?_,?_,fun y hy=>?_⟩
  ·rw [ae]
   have:=congrArg cD ef
   rw [ae,ae,ae,aO] at this
   exact aM (show fs.length<=64 by omega) (by decide)
  ·rw [az,ef,Be hm,az];rfl
  ·rw [Ad,az];rfl
  ·rcases List.mem_append.mp hy with hy|hy
   ·obtain⟨a1,a2,a3⟩:=hf y hy
    exact⟨a1,a2,by rw [Ai a1];exact S12 _ _ a3⟩
   ·have:y=(x::e,q):=by simpa using hy
    subst this
    exact⟨qD,hq0,by rw [Ai qD];exact eq⟩
 ·rintro σ H1 ⟨_,S1,fs,ef,eD,hf⟩
  rw [ae,aX] at ef
  exact k D H1 S1 hD fs ef eD hf
theorem ak8 {k:Nat} {ws:List Str} (h:Ba k ws≠[]):k<=ws.length:=by
 induction k generalizing ws with
 | zero=>exact cq _
 | succ k ih=>
  obtain⟨p,hp⟩:=List.exists_mem_of_ne_nil _ h
  unfold Ba at hp
  obtain⟨i,hi,hp⟩:=List.mem_flatMap.mp hp
  cases e:ws[i]? with
  | none=>rw [e] at hp;cases hp
  | some x=>
   rw [e] at hp
   obtain⟨q,hq,rfl⟩:=List.mem_map.mp hp
   have:=ih (ws:=ws.drop (i+1)) (fun z=>by rw [z] at hq;cases hq)
   rw [cz] at this
   have:=List.mem_range.mp hi
   omega
theorem au6 {xs:List V} {i:Nat} {x y:V} (h:(Eo 0 xs)[i]? = some (x,y)):x=.int (i:Int)/\xs[i]? = some y:=by
 have hi:=An h
 rw [B4] at hi
 have:=C7 (k:=0) (ah hi)
 rw [h,dg] at this
 have:=aF this
 injection this with a b
 exact⟨a,by rw [ah hi,b]⟩
theorem be8 (Z:Au K t) (g:DOk K mg "picks" Lx t.f_zat t.d_zat Ka) (T:Tab P w K mg base 0 (Bj K t) bl):∀ n,FnOk P w K mg base CX0 (0+n+1) t.f_zat t.d_zat Ka (Hm K t n):=by
 refine an6 (Hm K t) (a71 K t) g bp1 bs3 T 40 (bm8 K t) (fun n vs H Q E h=>?_) (fun vs H Q E h=>?_) (fun n vs H Q E h=>?_)
 ·obtain⟨l,k,ws,rfl,_⟩:=h;rfl
 ·obtain⟨l,k,ws,_,_,_,h,_⟩:=h;exact absurd h (dB _)
 ·obtain⟨l,k,ws,rfl,hl,few,hk,kk⟩:=h
  refine Mt (fun e=>?_) (fun e=>?_)
  ·have e:(k:Int)=0:=by simpa using e
   have e:k=0:=by omega
   subst e
   refine⟨(show 0<=sizeLine by decide),fun a ha=>⟨(show 1<=sizeLine by decide),fun b hb=>kk _ b ((Same.upd ha).trans (Same.upd hb)) ⟨[([],a)],rfl,⟨(Same.upd ha).free hb,Ad⟩,fun x hx=>?_⟩⟩⟩
   have:x=([],a):=by simpa using hx
   subst this
   exact⟨ha,(Same.upd hb) _ _ Ad⟩
  ·have e:¬ (k:Int)=0:=by simpa using e
   obtain⟨j,rfl⟩:∃ j,k=j+1:=⟨k - 1,by omega⟩
   refine⟨(show 0<=sizeLine by decide),fun D hD=>?_⟩
   have S0:=Same.upd (o:=.lst []) hD
   have e0:upd H D (.lst []) D=some (.lst []):=Ad
   show Ag _ _ _ [some (.ref l),some (.int ((j+1:Nat):Int)),some (.ref D),none,none] _
   generalize upd H D (.lst [])=H0 at S0 e0 ⊢
   refine .inl ⟨⟨_,S0.seqL (SqL.of hl)⟩,?_⟩
   refine Oy (Qb (ws.map V.str)) (fun m σ H'=>(∃ v3 v4,σ=[some (.ref l),some (.int ((j+1:Nat):Int)),some (.ref D),v3,v4])/\Same H H' /\ ∃ fs:List (List Str×Addr),fs.map (·.1)=pkS j ws m/\H' D=some (.lst (fs.map fun y=>.ref y.2)) /\ ∀ y∈fs,y.2≠D/\H y.2=none/\H' y.2=some (A8 y.1))
    ⟨⟨_,_,rfl⟩,S0,[],rfl,e0,fun x hx=>by cases hx⟩ (fun m σ H' _ q=>q.2.1.seqL (SqL.of hl)) ?_ ?_
   ·rintro m x y T σ H1 hx hT ⟨⟨v3,v4,rfl⟩,S1,fs,ef,eD,hf⟩
    obtain⟨rfl,hy⟩:=au6 hx
    obtain⟨z,hz,rfl⟩:=Ao hy
    have lm:=An hz
    have ST:=Same.upd (o:=.tup [.int (m:Int),.str z]) hT
    have tT:upd H1 T (.tup [.int (m:Int),.str z]) T=some (.tup [.int (m:Int),.str z]):=Ad
    generalize upd H1 T (.tup [.int (m:Int),.str z])=H2 at ST tT ⊢
    have S2:=S1.trans ST
    refine⟨_,SqT.of tT,rfl,.inl ⟨rfl,_,SqL.of (ST _ _ eD)⟩,.inl ⟨_,SqL.of (S2 _ _ hl),fun L hL=>?_⟩⟩
    have SL:=Same.upd (o:=.lst (E3 (ws.map V.str) (some ((m:Int)+1)) none)) hL
    have eL:upd H2 L (.lst (E3 (ws.map V.str) (some ((m:Int)+1)) none)) L=some (A8 (ws.drop (m+1))):=by
     rw [Ad,show ((m:Int)+1)=((m+1:Nat):Int) by omega,Hu];unfold A8;rw [kB]
    generalize upd H2 L (.lst (E3 (ws.map V.str) (some ((m:Int)+1)) none))=H3 at SL eL ⊢
    have S3:=S2.trans SL
    refine⟨L,j,ws.drop (m+1),by show [V.ref L,.int (((j+1:Nat):Int) - 1)]=_;rw [show ((j+1:Nat):Int) - 1=(j:Int) by omega],eL,by rw [cz];omega,by omega,fun H4 r S4 ⟨es,ee,⟨_,er⟩,he⟩=>?_⟩
    have S5:=(ST.trans SL).trans S4
    have lp:(Ba j (ws.drop (m+1))).length<=32:=aQ (Ik _ _) (c6 (j:=5) (show 2 > 0 by decide) (show (ws.drop (m+1)).length<=5 by rw [cz];omega))
    have le:es.length=(Ba j (ws.drop (m+1))).length:=by rw [<- ee,ae]
    refine .inl ⟨⟨_,SqL.of er⟩,?_⟩
    refine X4 er (fun e h=>(he e h).2) (by omega) (fun e h=>?_) fun D2 H5 S6 fD2 gs eg eD2 hg=>?_
    ·have:=(E9 j _ e.1 (by rw [<- ee];exact List.mem_map.mpr ⟨e,h,rfl⟩)).1
     rw [this]
     have:(Ba j (ws.drop (m+1)))≠[]:=fun q=>by rw [q] at ee;have:=List.map_eq_nil_iff.mp ee;subst this;cases h
     exact aQ (ak8 this) (by rw [cz];omega)
    have S7:=S5.trans S6
    refine⟨D,D2,_,_,rfl,rfl,S7 _ _ eD,eD2,?_,⟨_,_,rfl⟩,(S1.trans S7).set hD,fs++gs,?_,?_,fun y hy=>?_⟩
    ·rw [ae,ae]
     have h1:=congrArg cD ef
     have h2:=congrArg cD eg
     rw [ae] at h1
     rw [ae,ae,ae] at h2
     have h3:(pkS j ws m).length<=32:=aQ (bh2 (by omega)) (c6 (j:=5) (show 2 > 0 by decide) few)
     exact aQ (show _<=64 by omega) (by decide)
    ·rw [az,ef,eg,ee,W3 hz]
    ·rw [Ad,az]
    ·have nD:∀ {b},H4 b=none->b≠D:=fun q=>(Ak (S5 _ _ eD) q).symm
     rcases List.mem_append.mp hy with hy|hy
     ·obtain⟨a1,a2,a3⟩:=hf y hy
      exact⟨a1,a2,by rw [Ai a1];exact S7 _ _ a3⟩
     ·obtain⟨a1,a2,a3⟩:=hg y hy
      exact⟨nD a2,(S1.trans S5).free a2,by rw [Ai (nD a2)];exact a3⟩
   ·rintro σ H1 ⟨⟨v3,v4,rfl⟩,S1,fs,ef,eD,hf⟩
    rw [B4,ae] at ef
    exact .inl (kk H1 D S1 ⟨fs,ef,⟨hD,eD⟩,fun y hy=>(hf y hy).2⟩)
theorem b94 {n b:Nat} {f:Nat->Nat->Bool}:Ea n 0 b f=false:=by
 unfold Ea
 rw [cR]
 intro i _
 rw [d3]
 exact am
theorem b95 {n a:Nat} {f:Nat->Nat->Bool}:Ea n a 0 f=false:=by
 unfold Ea
 rw [cR]
 intro i _
 have:((aq n).any fun j=>(0:Nat).testBit j&&f i j)=false:=by
  rw [cR]
  intro j _
  rw [d3]
  exact am
 rw [this,dO]
 exact am
theorem a18 {sw:Sw} {n a b:Nat} (ha:a<2 ^ n) (hb:b<2 ^ n) (a0:a≠0) (b0:b≠0):Ea n a b (Dp sw [])=true:=by
 obtain⟨i,hi,ei⟩:=ad9 ha a0
 obtain⟨j,hj,ej⟩:=ad9 hb b0
 unfold Ea
 rw [bD]
 refine⟨i,List.mem_range.mpr hi,?_⟩
 rw [ei,du,bD]
 refine⟨j,List.mem_range.mpr hj,?_⟩
 rw [ej]
 rfl
theorem Sx {sw:Sw} (hw:okSw sw) {p:Nat} {x:Str×List Str} (hp:sw[p]? = some x) {a b:Nat} {ws:List Str}:Ea (Ah sw).length a b (Dp sw (x.1::ws))=x.2.any fun z=>Ea (Ah sw).length (a &&& Ej (Ah sw) p z) (b &&& Ej (Ah sw) p z) (Dp sw ws):=by
 have lk:∀ i j,Dp sw (x.1::ws) i j=(decide (Bl sw i p=Bl sw j p)&&Dp sw ws i j):=fun i j=>by
  unfold Dp
  rw [bw,Ew hp hw.2.2.1]
 unfold Ea
 rw [bQ,bD,bD]
 constructor
 ·rintro⟨i,hi,q⟩
  rw [ax,bD] at q
  obtain⟨q1,j,hj,q2⟩:=q
  rw [ax,lk,ax] at q2
  have hi':=List.mem_range.mp hi
  obtain⟨l1,c1⟩:=G3 hi' hp
  have hz:x.2.getD (Dd sw i p) gm∈x.2:=by
   rw [aC,ah l1]
   exact cy l1
  generalize x.2.getD (Dd sw i p) gm=z at hz c1
  have c2:Bl sw j p=some z:=by rw [<- of_decide_eq_true q2.2.1,c1]
  refine⟨z,hz,List.any_eq_true.mpr ⟨i,hi,?_⟩⟩
  rw [cg,q1,Et,show Jl (Ah sw) p z i=true from decide_eq_true c1,du,du,bD]
  refine⟨j,hj,?_⟩
  rw [cg,q2.1,Et,show Jl (Ah sw) p z j=true from decide_eq_true c2,q2.2.2]
  rfl
 ·rintro⟨z,hz,q⟩
  obtain⟨i,hi,q⟩:=List.any_eq_true.mp q
  rw [ax,cg,ax,Et,bD] at q
  obtain⟨⟨q1,q2⟩,j,hj,q3⟩:=q
  rw [ax,cg,ax,Et] at q3
  refine⟨i,hi,?_⟩
  rw [q1,du,bD]
  refine⟨j,hj,?_⟩
  have e:Bl sw i p=Bl sw j p:=(of_decide_eq_true q2).trans (of_decide_eq_true q3.1.2).symm
  rw [q3.1.1,lk,decide_eq_true e,q3.2]
  rfl
theorem aw7 {sw:Sw} {x:Str} (h:x∈sw.map (·.1)):∃ (i:Nat) (e:Str×List Str),sw[i]? = some e/\x=e.1:=by
 obtain⟨i,hi⟩:=List.mem_iff_getElem?.mp h
 obtain⟨e,he,ex⟩:=Ao hi
 exact⟨i,e,he,ex⟩
theorem be2 (Z:Au K t) (g:DOk K mg "decides" Lq t.f_zan t.d_zan J9) (T:Tab P w K mg base 1 (Eb K t) bl):∀ n,FnOk P w K mg base CX0 (1+n+1) t.f_zan t.d_zan J9 (Hl K t n):=by
 refine an6 (Hl K t) (a70 K t) g bo5 br7 T 40 (bm2 K t) (fun n vs H Q E h=>?_) (fun vs H Q E h=>?_) (fun n vs H Q E h=>?_)
 ·obtain⟨p,l,a,b,ws,sw,rules,rfl,_⟩:=h;rfl
 ·obtain⟨p,l,a,b,ws,sw,rules,_,_,_,_,_,_,h,_⟩:=h;exact absurd h (dB _)
 ·obtain⟨p,l,a,b,ws,sw,rules,rfl,hP,hw,ha,hb,hl,lw,n9,hin,kk⟩:=h
  refine Mt (fun e=>?_) (fun e=>?_)
  ·have e:(a:Int)=0:=by simpa using e
   have e:a=0:=by omega
   subst e
   rw [b94] at kk
   exact kk H (Same.refl _)
  have a0:¬ (a:Int)=0:=by simpa using e
  refine Mt (fun e=>?_) (fun e=>?_)
  ·have e:(b:Int)=0:=by simpa using e
   have e:b=0:=by omega
   subst e
   rw [b95] at kk
   exact kk H (Same.refl _)
  have b0:¬ (b:Int)=0:=by simpa using e
  refine⟨(show 0<=sizeLine by decide),fun el hel=>?_⟩
  have S0:=Same.upd (o:=.lst []) hel
  have e0:upd H el (.lst []) el=some (.lst []):=Ad
  generalize upd H el (.lst [])=H0 at S0 e0 ⊢
  refine .inl ⟨l,el,_,_,rfl,rfl,SqL.of (S0 _ _ hl),SqL.of e0,B8 ws,rfl,?_⟩
  cases ws with
  | nil=>
   rw [a18 ha hb (by omega) (by omega)] at kk
   exact kk H0 S0
  | cons y ws=>
   refine Gk (Hb (by rw [ae];exact fun z=>by cases z)) ?_
   refine .inl ⟨_,SqL.of (S0 _ _ hl),fun L hL=>?_⟩
   have SL:=Same.upd (o:=.lst (E3 ((y::ws).map V.str) (some 1) none)) hL
   have eL:upd H0 L (.lst (E3 ((y::ws).map V.str) (some 1) none)) L=some (A8 ws):=by
    rw [Ad,show (1:Int)=((1:Nat):Int) from rfl,Hu];rfl
   show Ag _ _ _ [some (.ref p),some (.int (a:Int)),some (.int (b:Int)),some (.ref l),some (.ref L),none,none] _
   generalize upd H0 L (.lst (E3 ((y::ws).map V.str) (some 1) none))=H1 at SL eL ⊢
   have S1:=S0.trans SL
   obtain⟨i,x,hi,ex⟩:=aw7 (hin y aZ)
   subst ex
   obtain⟨dx,d,la,nn,s,kx,bb,h⟩:=id hP
   refine⟨p,dx,_,⟨t.c_zbe,bb6 K t⟩,rfl,.head _,S1 _ _ h.ins.2,rfl,⟨au rfl,au rfl⟩,_,_,.inl (SqL.of (S1 _ _ hl)),Bw (j:=0) rfl,p,i,x,sw,rules,rfl,hP.mono (Kp.same S1),hw,hi,fun H2 r S2 ⟨Ts,er,et,tw⟩=>?_⟩
   rw [ae] at et
   refine .inl ⟨⟨_,SqL.of er⟩,?_⟩
   refine Bc (A5 (Ts.map V.ref)) (fun m σ H'=>(∃ v5 v6,σ=[some (.ref p),some (.int (a:Int)),some (.int (b:Int)),some (.ref l),some (.ref L),v5,v6])/\Same H2 H' /\ ∀ (j:Nat) z,j<m->x.2[j]? = some z->Ea (Ah sw).length (a &&& Ej (Ah sw) i z) (b &&& Ej (Ah sw) i z) (Dp sw ws)=false)
    ⟨⟨_,_,rfl⟩,Same.refl _,fun j z hj=>absurd hj (dB _)⟩ (fun m σ H' _ q=>q.2.1.seqL (SqL.of er)) ?_ ?_
   ·rintro m v σ H3 hv ⟨⟨v5,v6,rfl⟩,S3,no⟩
    obtain⟨T,hT,rfl⟩:=Ao hv
    have hz:x.2[m]? = some (x.2[m]'(by rw [<- et];exact An hT)):=ah _
    generalize x.2[m]'(by rw [<- et];exact An hT)=z at hz
    have tT:=tw m (.str z) (.int (C4 (Ah sw) i z)) T (by rw [ak,hz];rfl) hT
    have S13:=S2.trans S3
    refine⟨_,SqT.of (S3 _ _ tT),rfl,p,L,a &&& Ej (Ah sw) i z,b &&& Ej (Ah sw) i z,ws,sw,rules,?_,hP.mono (Kp.same (S1.trans S13)),hw,Og ha,Og hb,S13 _ _ eL,?_,by omega,fun y hy=>hin y (aL _ hy),fun H4 S4=>?_⟩
    ·show [V.ref p,.int (bj (a:Int) (C4 (Ah sw) i z)),.int (bj (b:Int) (C4 (Ah sw) i z)),.ref L]=_
     rw [Nv,Bx,Bx]
    ·have:(x.1::ws).length<n+1:=lw
     rw [aN] at this
     omega
    cases e:Ea (Ah sw).length (a &&& Ej (Ah sw) i z) (b &&& Ej (Ah sw) i z) (Dp sw ws) with
    | true=>
     rw [Sx hw hi,List.any_eq_true.mpr ⟨z,ai hz,e⟩] at kk
     exact kk H4 ((S1.trans S13).trans S4)
    | false=>
     refine⟨⟨_,_,rfl⟩,S3.trans S4,fun j z' hj hz'=>?_⟩
     rcases dA j m with q|q
     ·exact no j z' q hz'
     ·have:j=m:=by omega
      subst this
      rw [hz] at hz'
      rw [<- aF hz']
      exact e
   ·rintro σ H3 ⟨⟨v5,v6,rfl⟩,S3,no⟩
    rw [ae,et] at no
    have e:(x.2.any fun z=>Ea (Ah sw).length (a &&& Ej (Ah sw) i z) (b &&& Ej (Ah sw) i z) (Dp sw ws))=false:=by
     rw [cR]
     intro z hz
     obtain⟨j,hj⟩:=List.mem_iff_getElem?.mp hz
     rw [no j z (An hj) hj]
     exact am
    rw [Sx hw hi,e] at kk
    exact .inl (kk H3 ((S1.trans S2).trans S3))
theorem Ox {α:Type} {p:α->Bool}:∀ {l:List α} {j:Nat} {x:α},l[j]? = some x->p x=true->(∀ (j':Nat) y,j'<j->l[j']? = some y->p y=false)->l.find? p=some x
 | [],_,_,h,_,_=>by simp at h
 | a::l,0,x,h,hp,_=>by
  have:a=x:=by simpa using h
  subst this
  rw [bR,hp]
 | a::l,j+1,x,h,hp,no=>by
  rw [bR,no 0 a (by omega) rfl]
  exact Ox (by simpa using h) hp fun j' y hj hy=>no (j'+1) y (by omega) (by simpa using hy)
theorem Wv {α:Type} {p:α->Bool} {l:List α} (no:∀ (j:Nat) y,l[j]? = some y->p y=false):l.find? p=none:=by
 rw [f9]
 intro y hy q
 obtain⟨j,hj⟩:=List.mem_iff_getElem?.mp hy
 rw [no j y hj] at q
 cases q
theorem Ty {α:Type} {l:List α} {k j:Nat} {x:List α} {p:List α->Bool} (hk:k<l.length) (hj:(Ba k l)[j]? = some x) (hp:p x=true) (n1:∀ k',k'<k -> ∀ y∈Ba k' l,p y=false) (n2:∀ (j':Nat) y,j'<j->(Ba k l)[j']? = some y->p y=false):(Cj l).find? p=some x:=by
 unfold Cj
 rw [List.find?_flatMap]
 refine Eg (k:=k) (x:=k) (by rw [dU hk]) (fun k' y hk' hy=>?_) (Ox hj hp n2)
 rw [dU (by omega)] at hy
 cases hy
 exact Wv fun i z hz=>n1 _ hk' z (ai hz)
theorem Ms {α:Type} {l:List α} {p:List α->Bool} (n1:∀ k',k'<l.length -> ∀ y∈Ba k' l,p y=false):(Cj l).find? p=none:=by
 rw [f9]
 intro y hy q
 unfold Cj at hy
 obtain⟨k,hk,hy⟩:=List.mem_flatMap.mp hy
 rw [n1 k (List.mem_range.mp hk) y hy] at q
 cases q
theorem bd6 {f:Addr} {fd:aA} (Z:Au K t) (F:FunD K "deciding" "deciding" Lk f fd .none) (T:Tab P w K mg base 7 (Yk K t) bl):FnOk P w K mg base CX0 8 f fd Qm (Py K t):=by
 refine F.okW0 bn9 br1 T (bl6 K t) (fun vs H Q E h=>?_) (fun vs H Q E h=>?_)
 ·obtain⟨p,c,w,sw,rules,rfl,_⟩:=h;rfl
 ·obtain⟨p,c,w,sw,rules,rfl,hP,hw,hc,hww,k⟩:=h
  obtain⟨dx,d,l,n,s,kk,b,h⟩:=id hP
  have l5:=hw.2.1
  refine⟨p,dx,_,⟨t.c_zbe,av2 K t⟩,rfl,.head _,h.ins.2,rfl,⟨au rfl,au rfl⟩,p,sw,rules,rfl,hP,hw,fun H1 q ds S1 fq ed eq hd=>?_⟩
  refine .inl ⟨⟨_,SqL.of eq⟩,?_⟩
  refine L8 hw ed eq (fun x hx=>(hd x hx).1) fun D H2 S2 fD eD=>?_
  have S:=S1.trans S2
  have ln:(sw.map (·.1)).length=sw.length:=ae _
  refine .inl ⟨_,.inl (SqL.of eD),?_⟩
  rw [ae,ln]
  refine⟨⟨by omega,by omega⟩,?_⟩
  rw [aK]
  refine Bc (Bu 0 sw.length) (fun m σ H'=>(∃ v4 v5,σ=[some (.ref p),some (.int (c:Int)),some (.int (w:Int)),some (.ref D),v4,v5])/\Same H2 H' /\ ∀ k',k'<m -> ∀ y∈Ba k' (sw.map (·.1)),(!Ea (Ah sw).length (c &&& w) (Ij w c) (Dp sw y))=false)
   ⟨⟨_,_,rfl⟩,Same.refl _,fun k' hk=>absurd hk (dB _)⟩ (fun _ _ _ _ _=>bC) ?_ ?_
  ·rintro m x σ H3 hx ⟨⟨v4,v5,rfl⟩,S3,no⟩
   obtain⟨hm,rfl⟩:=Dm hx
   refine⟨D,m,sw.map (·.1),rfl,S3 _ _ eD,by omega,by omega,fun H4 r S4 ⟨es,ee,⟨_,er⟩,he⟩=>?_⟩
   refine .inl ⟨⟨_,SqL.of er⟩,?_⟩
   refine Bc (A5 (es.map fun x=>V.ref x.2)) (fun j σ H'=>(∃ v5,σ=[some (.ref p),some (.int (c:Int)),some (.int (w:Int)),some (.ref D),some (.int (m:Int)),v5])/\Same H4 H' /\ ∀ (j':Nat) y,j'<j->(Ba m (sw.map (·.1)))[j']? = some y->(!Ea (Ah sw).length (c &&& w) (Ij w c) (Dp sw y))=false)
    ⟨⟨_,rfl⟩,Same.refl _,fun j' y hj=>absurd hj (dB _)⟩ (fun j σ H' _ q=>q.2.1.seqL (SqL.of er)) ?_ ?_
   ·rintro j v σ H5 hv ⟨⟨v5,rfl⟩,S5,no2⟩
    obtain⟨⟨ws,e⟩,hj,rfl⟩:=Ao hv
    have hj2:(Ba m (sw.map (·.1)))[j]? = some ws:=by rw [<- ee,ak,hj];rfl
    obtain⟨p1,p2⟩:=E9 m _ ws (ai hj2)
    obtain⟨fe,oe⟩:=he _ (ai hj)
    have S25:=(S3.trans S4).trans S5
    refine⟨p,e,c &&& w,Ij w c,ws,sw,rules,?_,hP.mono (Kp.same (S.trans S25)),hw,Og hc,ax0 hww,S5 _ _ oe,by omega,by omega,p2,fun H6 S6=>?_⟩
    ·show [V.ref p,.int (bj (c:Int) (w:Int)),.int (bj (w:Int) (bv (c:Int))),.ref e]=_
     rw [Rx,Bx]
    cases eu:Ea (Ah sw).length (c &&& w) (Ij w c) (Dp sw ws) with
    | false=>
     have ed2:Mo sw c w=ws:=by
      unfold Mo
      rw [Ty (k:=m) (j:=j) (x:=ws) (by rw [ln];exact hm) hj2 (by rw [eu];rfl) no no2]
      rfl
     refine k H6 e ((S.trans S25).trans S6) ((S.trans S3).free fe) ?_
     rw [ed2]
     exact S6 _ _ (S5 _ _ oe)
    | true=>
     refine⟨⟨_,rfl⟩,S5.trans S6,fun j' y hj' hy=>?_⟩
     rcases dA j' j with q|q
     ·exact no2 j' y q hy
     ·have:j'=j:=by omega
      subst this
      rw [hj2] at hy
      rw [<- aF hy,eu]
      rfl
   ·rintro σ H5 ⟨⟨v5,rfl⟩,S5,no2⟩
    have le:es.length=(Ba m (sw.map (·.1))).length:=by rw [<- ee,ae]
    rw [ae,le] at no2
    refine .inl ⟨⟨_,_,rfl⟩,(S3.trans S4).trans S5,fun k' hk' y hy=>?_⟩
    rcases dA k' m with q|q
    ·exact no k' q y hy
    ·have:k'=m:=by omega
     subst this
     obtain⟨j,hj⟩:=List.mem_iff_getElem?.mp hy
     exact no2 j y (An hj) hj
  ·rintro σ H3 ⟨⟨v4,v5,rfl⟩,S3,no⟩
   rw [A9] at no
   have ed2:Mo sw c w=sw.map (·.1):=by
    unfold Mo
    rw [Ms (by rw [ln];exact no)]
    rfl
   refine .inl (k H3 D (S.trans S3) (S1.free fD) ?_)
   rw [ed2]
   exact S3 _ _ eD
theorem Cg {xs:List Int} {j:Nat} (h:j<xs.length):atI (xs.map V.int) (j:Int)=some (.int (xs.getD j 0)):=by
 refine Bw ?_
 rw [ak,aC,ah h]
 rfl
theorem be4 {f:Addr} {fd:aA} (Z:Au K t) (F:FunD K "_law_key" "_law_key" Ls f fd .none) (T:Tab P w K mg base 0 (Bj K t) bl):FnOk P w K mg base CX0 1 f fd Qt (Fb K t):=by
 refine F.okW0 bo7 br9 T (bm4 K t) (fun vs H Q E h=>?_) (fun vs H Q E h=>?_)
 ·obtain⟨r,l,d,xs,m,rfl,_⟩:=h;rfl
 ·obtain⟨r,l,d,xs,m,rfl,hr,dne,d4,hl,mx,m3,k⟩:=h
  have dp:0<d.length:=List.length_pos_iff.mpr dne
  refine⟨⟨by omega,by omega⟩,?_⟩
  rw [aK]
  refine Bc (Bu 0 m) (fun i σ H'=>(∃ (key:Int) (v:Option V),σ=[some (.ref r),some (.ref l),some (.int (m:Int)),some (.int key),v]/\0<=key/\key<4 ^ i)/\H'=H) ⟨⟨0,_,rfl,by omega,by decide⟩,rfl⟩ (fun _ _ _ _ _=>bC) ?_ ?_
  ·rintro i x σ H1 hx ⟨⟨key,v,rfl,k0,k4⟩,rfl⟩
   obtain⟨hi,rfl⟩:=Dm hx
   have q0:=b9 (xs.getD i 0) (show ((d.length:Nat):Int)≠0 by omega)
   have q1:=bU (xs.getD i 0) (show (0:Int)<((d.length:Nat):Int) by omega)
   obtain⟨q,hq⟩:∃ q:Nat,xs.getD i 0 % ((d.length:Nat):Int)=(q:Int):=⟨(xs.getD i 0 % ((d.length:Nat):Int)).toNat,by omega⟩
   have ql:q<d.length:=by omega
   refine⟨.inl ⟨by decide,by decide⟩,_,_,.inl (SqL.of hl),Cg (by omega),.inl ⟨_,.inl (SqL.of hr),?_⟩⟩
   rw [ae]
   refine⟨by omega,_,.int ((d[q]'ql:Nat):Int),.inl (SqL.of hr),?_,?_⟩
   ·rw [hq]
    refine Bw ?_
    rw [ak,ah ql]
    rfl
   ·have:=d4 _ (cy ql)
    generalize d[q]'ql=z at this ⊢
    refine⟨⟨_,_,rfl,by omega,?_⟩,rfl⟩
    rw [Int.pow_succ]
    omega
  ·rintro σ H1 ⟨⟨key,v,rfl,k0,k4⟩,rfl⟩
   rw [A9] at k4
   refine .inl (k key k0 ?_)
   have:m=0\/m=1\/m=2\/m=3:=by omega
   rcases this with rfl|rfl|rfl|rfl
   ·have:(4:Int) ^ 0=1:=by decide
    omega
   ·have:(4:Int) ^ 1=4:=by decide
    omega
   ·have:(4:Int) ^ 2=16:=by decide
    omega
   ·have:(4:Int) ^ 3=64:=by decide
    omega
noncomputable def ls6 (K:ac) (t:Adr):DS:=Ag (dIf (C6 K (Aa 5)) (Ag (Ap 3 (Ae an1 (Aa 3) (Ae Jh (dC (.int 1)) (Aa 4))))     Af) Af) Af
noncomputable def ls5 (K:ac) (t:Adr):DS:=Ag (dIf (Kg (Az (Ae (A3 K false) (Ae Av (Ae (Aq K) (Aa 2) (dC (.int 0))) (dC (.int 6))) (dC (.int 5)))) (Az (Ae Zb (Ae Av (Ae (Aq K) (Aa 2) (dC (.int 5))) (dC (.int 3))) (dC (.int 0))))) (Ag (Ap 5 (Ae (A3 K false) (Ae Av (Ae (Aq K) (Aa 2) (dC (.int 5))) (dC (.int 3))) (dC (.int 1))))     Af) Af) (ls6 K t)
noncomputable def ls4 (K:ac) (t:Adr):DS:=Ag (dIf (Az (Ae (A3 K false) (Ae Av (Ae (Aq K) (Aa 2) (dC (.int 0))) (dC (.int 6))) (dC (.int 4)))) (Ag (Ap 5 (Ae (A3 K false) (Ae (A3 K false) (Aa 4) (Ae Av (Ae (Aq K) (Aa 2) (dC (.int 4))) (dFn (fun vs H Q _=>(Cq K) vs H Q) (Ac (Aa 0) Aj)))) (Ae (A3 K false) (Ae Av (Ae (Aq K) (Aa 2) (dC (.int 5))) (dC (.int 2))) (dC (.int 1)))))     Af) Af) (ls5 K t)
noncomputable def ls3 (K:ac) (t:Adr):DS:=Ag (dIf (Az (Ae (A3 K false) (Ae Av (Ae (Aq K) (Aa 2) (dC (.int 0))) (dC (.int 6))) (dC (.int 3)))) (Ag (Ap 6 (Ae (Bb K) (Ae (Bb K) (Ae Cd (Ae (Aq K) (Aa 2) (dC (.int 4))) (Ae R8 (dC (.int 2)) (dC (.int 56)))) (Ae Cd (Ae (Aq K) (Aa 2) (dC (.int 5))) (Ae R8 (dC (.int 2)) (dC (.int 28))))) (Ae (Aq K) (Aa 2) (dC (.int 6)))))     (Ag (Ap 5 (Ae (A3 K false) (Ae B9 (Ae D8 (Aa 6) (dFn (spE (Fb K t) []) (Ac (Ae (Aq K) (Aa 0) (Aa 4)) (Ac (dSl K (Aa 2) (Do (dC (.int 1))) Cf) (Ac (dC (.int 3)) Aj))))) (dC (.int 1))) (dC (.int 1))))     Af)) Af) (ls4 K t)
noncomputable def ls2 (K:ac) (t:Adr):DS:=Ag (dIf (Az (Ae (A3 K false) (Ae Av (Ae (Aq K) (Aa 2) (dC (.int 0))) (dC (.int 6))) (dC (.int 2)))) (Ag (Ap 5 (Ae (A3 K false) (Ae B9 (Ae D8 (Ae (Aq K) (Aa 2) (dC (.int 4))) (dFn (spE (Fb K t) []) (Ac (Ae (Aq K) (Aa 0) (Aa 4)) (Ac (dSl K (Aa 2) (Do (dC (.int 1))) Cf) (Ac (dC (.int 2)) Aj))))) (dC (.int 1))) (dC (.int 1))))     Af) Af) (ls3 K t)
noncomputable def ls1 (K:ac) (t:Adr):DS:=Ag (dIf (Az (Ae (A3 K false) (Ae Av (Ae (Aq K) (Aa 2) (dC (.int 0))) (dC (.int 6))) (dC (.int 1)))) (Ag (Ap 5 (Ae (A3 K false) (Ae B9 (Ae D8 (Ae (Aq K) (Aa 2) (dC (.int 4))) (dFn (spE (Fb K t) []) (Ac (Ae (Aq K) (Aa 0) (Aa 4)) (Ac (dSl K (Aa 2) (Do (dC (.int 1))) Cf) (Ac (dC (.int 1)) Aj))))) (dC (.int 1))) (dC (.int 1))))     Af) Af) (ls2 K t)
noncomputable abbrev lsσ (r l:Addr) (c:Int) (f m:Nat) (b:Bool) (v:Option V):St:=[some (.ref r),some (.int c),some (.ref l),some (.int (f:Int)),some (.int (m:Int)),some (.bl b),v]
structure LsK (r l:Addr) (ds:List (List Nat×Addr)) (xs:List Int) (H1 H':Hp):Prop where
 S:Same H1 H'
 er:H' r=some (.lst (ds.map fun x=>.ref x.2))
 ed:∀ x∈ds,H' x.2=some (nO x.1)
 el:H' l=some (.lst (xs.map V.int))
theorem LsK.up {r l:Addr} {ds:List (List Nat×Addr)} {xs:List Int} {H1 H2 H3:Hp} (h:LsK r l ds xs H1 H2) (S:Same H2 H3):LsK r l ds xs H1 H3:=⟨h.S.trans S,S _ _ h.er,fun x hx=>S _ _ (h.ed x hx),S _ _ h.el⟩
theorem bg1 (f m:Nat):cV (f:Int) (1 * 2 ^ ((m:Int)).toNat)=((f ||| 2 ^ m:Nat):Int):=by
 rw [gz,aK,Cw,Fy]
theorem bz4 {f m:Nat} (h:f<2 ^ m):f ||| 2 ^ m<2 ^ (m+1):=Nat.or_lt_two_pow (aG h (c6 (by decide) (cE _))) (Nat.pow_lt_pow_right (by decide) (df _))
theorem lw {b1:Bool} {A B X:Prop} (hx:A->B->X) (a:A) (b:B):if b1=true then X else (if false=true then A else B):=by
 cases b1
 ·exact Dj (Dj b)
 ·exact D0 (hx a b)
theorem ba8 {b2 b3:Bool} {A B:Prop} (a:A) (b:B):if b2=true then (if (!b3)=true then A else B) else (if (!false)=true then A else B):=by
 cases b2 <;> cases b3 <;> first|exact Dj (D0 a)|exact D0 (Dj b)|exact D0 (D0 a)
theorem Gx {b:Bool} {A B:Prop} (a:A) (b':B):if b=true then A else B:=by
 cases b
 ·exact Dj b'
 ·exact D0 a
section
variable {r l:Addr} {c:Int} {f m:Nat} {ds:List (List Nat×Addr)} {xs:List Int} {H1:Hp} {D:J8} {e:List Nat×Addr}
theorem Uh {n:Nat} {b:Bool} {v:Option V} {H3:Hp} {Q:VK} {E:EK} (hn:n<=3) (h:LsK r l ds xs H1 H3) (hm:ds[m]? = some e) (dne:e.1≠[]) (d4:∀ j∈e.1,j<4) (lx:xs.length=8) (k:∀ (j:Int) H4,0<=j->LsK r l ds xs H1 H4->Q (.int j) H4) :
  dFn (spE (Fb K t) []) (Ac (Ae (Aq K) (Aa 0) (Aa 4)) (Ac (dSl K (Aa 2) (Do (dC (.int 1))) Cf) (Ac (dC (.int (n:Int))) Aj))) (lsσ r l c f m b v) H3 Q E:=by
 refine⟨_,_,.inl (SqL.of h.er),Bw (j:=m) (by rw [ak,hm];rfl),.inl ⟨_,SqL.of h.el,fun L hL=>?_⟩⟩
 have SL:=Same.upd (o:=.lst (E3 (xs.map V.int) (some 1) none)) hL
 have eL:upd H3 L (.lst (E3 (xs.map V.int) (some 1) none)) L=some (.lst ((xs.drop 1).map V.int)):=by
  rw [Ad,show (1:Int)=((1:Nat):Int) from rfl,Hu,kB]
 generalize upd H3 L (.lst (E3 (xs.map V.int) (some 1) none))=H4 at SL eL ⊢
 exact⟨e.2,L,e.1,xs.drop 1,n,rfl,SL _ _ (h.ed e (ai hm)),dne,d4,eL,by rw [cz];omega,hn,fun j j0 _=>k j H4 j0 (h.up SL)⟩
variable (hD:∀ (f':Nat) (b:Bool) (v:Option V) (H3:Hp),f'<2 ^ (m+1)->LsK r l ds xs H1 H3->D.nx (lsσ r l c f' m b v) H3) (hf:f<2 ^ m) (m256:m<256) (lx:xs.length=8) (hm:ds[m]? = some e) (dne:e.1≠[]) (d4:∀ j∈e.1,j<4)
include hD hf m256
theorem ai6 (b:Bool) (v:Option V) (H3:Hp) (h:LsK r l ds xs H1 H3):ls6 K t D (lsσ r l c f m b v) H3:=by
 have h0:=hD f b v H3 (aG hf (c6 (by decide) (cE _))) h
 cases b with
 | true=>
  refine⟨⟨by omega,by omega,by decide⟩,?_⟩
  show D.nx [some (.ref r),some (.int c),some (.ref l),some (.int (cV (f:Int) (1 * 2 ^ ((m:Int)).toNat))),some (.int (m:Int)),some (.bl true),v] H3
  rw [bg1]
  exact hD (f ||| 2 ^ m) true v H3 (bz4 hf) h
 | false=>exact h0
include lx
theorem ai5 (b:Bool) (v:Option V) (H3:Hp) (h:LsK r l ds xs H1 H3):ls5 K t D (lsσ r l c f m b v) H3:=by
 refine⟨_,_,.inl (SqL.of h.el),Cg (j:=0) (by omega),by decide,lw (fun a b=>⟨_,_,.inl (SqL.of h.el),Cg (j:=5) (by omega),by decide,Gx a b⟩) ?_ ?_⟩
 ·exact⟨_,_,.inl (SqL.of h.el),Cg (j:=5) (by omega),by decide,ai6 (K:=K) (t:=t) hD hf m256 _ v H3 h⟩
 ·exact ai6 (K:=K) (t:=t) hD hf m256 b v H3 h
include hm
theorem ai4 (b:Bool) (v:Option V) (H3:Hp) (h:LsK r l ds xs H1 H3):ls4 K t D (lsσ r l c f m b v) H3:=by
 have dp:0<ds.length:=aM (cq m) (An hm)
 refine⟨_,_,.inl (SqL.of h.el),Cg (j:=0) (by omega),by decide,Gx ?_ ?_⟩
 ·refine⟨_,_,.inl (SqL.of h.el),Cg (j:=4) (by omega),.inl ⟨_,.inl (SqL.of h.er),?_⟩⟩
  rw [ae]
  exact⟨by omega,_,_,.inl (SqL.of h.el),Cg (j:=5) (by omega),by decide,ai5 (K:=K) (t:=t) hD hf m256 lx _ v H3 h⟩
 ·exact ai5 (K:=K) (t:=t) hD hf m256 lx b v H3 h
include dne d4
theorem ai3 (b:Bool) (v:Option V) (H3:Hp) (h:LsK r l ds xs H1 H3):ls3 K t D (lsσ r l c f m b v) H3:=by
 refine⟨_,_,.inl (SqL.of h.el),Cg (j:=0) (by omega),by decide,Gx ?_ ?_⟩
 ·refine⟨_,_,.inl (SqL.of h.el),Cg (j:=4) (by omega),⟨by decide,by decide,by decide⟩,.inr ⟨by decide,by decide⟩,_,_,.inl (SqL.of h.el),Cg (j:=5) (by omega),⟨by decide,by decide,by decide⟩,.inr ⟨by decide,by decide⟩,_,_,.inl (SqL.of h.el),Cg (j:=6) (by omega),?_⟩
  refine Uh (n:=3) (by decide) h hm dne d4 lx fun j H4 j0 h4=>⟨j0,ai4 (K:=K) (t:=t) hD hf m256 lx hm _ _ H4 h4⟩
 ·exact ai4 (K:=K) (t:=t) hD hf m256 lx hm b v H3 h
theorem ai2 (b:Bool) (v:Option V) (H3:Hp) (h:LsK r l ds xs H1 H3):ls2 K t D (lsσ r l c f m b v) H3:=by
 refine⟨_,_,.inl (SqL.of h.el),Cg (j:=0) (by omega),by decide,Gx ?_ ?_⟩
 ·refine⟨_,_,.inl (SqL.of h.el),Cg (j:=4) (by omega),?_⟩
  exact Uh (n:=2) (by decide) h hm dne d4 lx fun j H4 j0 h4=>⟨j0,ai3 (K:=K) (t:=t) hD hf m256 lx hm dne d4 _ _ H4 h4⟩
 ·exact ai3 (K:=K) (t:=t) hD hf m256 lx hm dne d4 b v H3 h
theorem bc7 (b:Bool) (v:Option V) (H3:Hp) (h:LsK r l ds xs H1 H3):ls1 K t D (lsσ r l c f m b v) H3:=by
 refine⟨_,_,.inl (SqL.of h.el),Cg (j:=0) (by omega),by decide,Gx ?_ ?_⟩
 ·refine⟨_,_,.inl (SqL.of h.el),Cg (j:=4) (by omega),?_⟩
  exact Uh (n:=1) (by decide) h hm dne d4 lx fun j H4 j0 h4=>⟨j0,ai2 (K:=K) (t:=t) hD hf m256 lx hm dne d4 _ _ H4 h4⟩
 ·exact ai2 (K:=K) (t:=t) hD hf m256 lx hm dne d4 b v H3 h
end
theorem au2 {sw:Sw} (hw:okSw sw) {d:List Nat} (hd:d∈B6 sw):d≠[] /\ ∀ j∈d,j<4:=by
 have hl:=Ow d hd
 have h1:=hw.1
 refine⟨fun e=>by rw [e] at hl;simp at hl;omega,fun j hj=>?_⟩
 obtain⟨p,hp⟩:=List.mem_iff_getElem?.mp hj
 have hs:p<sw.length:=by rw [<- hl];exact An hp
 have hx:sw[p]? = some (sw[p]'hs):=ah _
 obtain⟨j',e,lt⟩:=Tq hd hx
 rw [hp] at e
 rw [aF e]
 have:=(hw.sets _ (ai hx)).2.2
 omega
theorem be5 {f:Addr} {fd:aA} (Z:Au K t) (F:FunD K "_law_set" "_law_set" Lu f fd .none) (T:Tab P w K mg base 1 (Eb K t) bl):FnOk P w K mg base CX0 2 f fd Qu (P1 K t):=by
 refine F.okW0 bo8 bs0 T (bm5 K t) (fun vs H Q E h=>?_) (fun vs H Q E h=>?_)
 ·obtain⟨r,c,sw,rfl,_⟩:=h;rfl
 ·obtain⟨r,c,sw,rfl,⟨ds,ed,er,hd⟩,hw,k⟩:=h
  have ln:ds.length=(Ah sw).length:=by rw [Fu,ae,<- ed,ae]
  have n256:=hw.len
  have lnV:(ds.map fun x=>V.ref x.2).length=(Ah sw).length:=by rw [ae,ln]
  refine⟨by decide,lw (fun a b=>⟨⟨by decide,by decide⟩,.inl ⟨_,.inl (SqL.of er),⟨by omega,ba8 a b⟩⟩⟩) ?_ ?_⟩
  ·refine⟨⟨by decide,by decide⟩,.inl ⟨_,.inl (SqL.of er),?_⟩⟩
   rw [lnV]
   have p0:(0:Int)<1 * 2 ^ (((Ah sw).length:Int)).toNat:=by
    rw [gz,aK,Cw]
    exact Int.natCast_pos.mpr (gd _)
   refine⟨⟨by omega,by omega,by decide⟩,p0,?_⟩
   rw [gz,aK,Cw]
   have q0:=b9 (c / 2) (show ((2 ^ (Ah sw).length:Nat):Int)≠0 by have:=gd (Ah sw).length;omega)
   have q1:=bU (c / 2) (show (0:Int)<((2 ^ (Ah sw).length:Nat):Int) by have:=gd (Ah sw).length;omega)
   have qe:c / 2 % ((2 ^ (Ah sw).length:Nat):Int)=(((c / 2 % ((2 ^ (Ah sw).length:Nat):Int)).toNat:Nat):Int):=by omega
   show Q (.int (c / 2 % ((2 ^ (Ah sw).length:Nat):Int))) H
   rw [qe]
   exact k H _ (Same.refl _) (by omega)
  ·refine⟨⟨by decide,by decide⟩,c / 2,8,rfl,by decide,fun H1 l xs S1 fl el lx nn=>?_⟩
   refine .inl ⟨_,.inl (SqL.of (S1 _ _ er)),?_⟩
   rw [lnV]
   refine⟨⟨by omega,by omega⟩,?_⟩
   rw [aK]
   refine Bc (Bu 0 (Ah sw).length) (fun m σ H'=>(∃ (f:Nat) (v4 v5 v6:Option V),σ=[some (.ref r),some (.int c),some (.ref l),some (.int (f:Int)),v4,v5,v6]/\f<2 ^ m)/\LsK r l ds xs H1 H')
    ⟨⟨0,_,_,_,rfl,by decide⟩,Same.refl _,S1 _ _ er,fun x hx=>S1 _ _ (hd x hx),el⟩ (fun _ _ _ _ _=>bC) ?_ ?_
   ·rintro m x σ H2 hx ⟨⟨f,v4,v5,v6,rfl,hf⟩,h2⟩
    obtain⟨hm,rfl⟩:=Dm hx
    obtain⟨e,he⟩:∃ e,ds[m]? = some e:=⟨_,ah (by omega)⟩
    obtain⟨d1,d2⟩:=au2 hw (show e.1∈B6 sw by rw [<- ed];exact List.mem_map.mpr ⟨e,ai he,rfl⟩)
    refine⟨_,_,.inl (SqL.of h2.el),Cg (j:=4) (by omega),.inl ⟨by decide,by decide⟩,.inr ⟨by decide,by decide⟩,by decide,by decide,by decide,?_⟩
    refine bc7 (K:=K) (t:=t) ?_ hf (by omega) lx he d1 d2 _ _ H2 h2
    exact fun f' b v H3 hf' h3=>⟨⟨f',_,_,_,rfl,hf'⟩,h3⟩
   ·rintro σ H2 ⟨⟨f,v4,v5,v6,rfl,hf⟩,h2⟩
    rw [A9] at hf
    exact .inl (k H2 f (S1.trans h2.S) hf)
theorem by8 {f:Addr} {fd:aA} (Z:Au K t) (F:FunD K "_law_within" "_law_within" V1 f fd .none) (T:Tab P w K mg base 2 (Rh K t) bl):FnOk P w K mg base CX0 3 f fd ad4 (aq0 K t):=by
 refine F.okW0 b65 cc2 T (b39 K t) (fun vs H Q E h=>?_) (fun vs H Q E h=>?_)
 ·obtain⟨r,c,sw,rfl,_⟩:=h;rfl
 ·obtain⟨r,c,sw,rfl,hr,hw,k⟩:=h
  refine⟨by decide,Gx ?_ ?_⟩
  ·obtain⟨ds,ed,er,hd⟩:=hr
   have ln:(ds.map fun x=>V.ref x.2).length=(Ah sw).length:=by rw [ae,Fu,ae,<- ed,ae]
   have n256:=hw.len
   refine .inl ⟨_,.inl (SqL.of er),?_⟩
   rw [ln]
   refine⟨⟨by omega,by omega,by decide⟩,?_⟩
   have p:=gd (Ah sw).length
   have e:(1 * 2 ^ (((Ah sw).length:Int)).toNat - 1:Int)=((2 ^ (Ah sw).length - 1:Nat):Int):=by
    rw [gz,aK,Cw]
    omega
   show Q (.int (1 * 2 ^ (((Ah sw).length:Int)).toNat - 1)) H
   rw [e]
   exact k H _ (Same.refl _) (by omega)
  ·exact⟨⟨by decide,by decide⟩,r,c / 2,sw,rfl,hr,hw,k⟩
end
section
variable {P:aV} {w:bM} {K:ac} {mg:Str->Option Value} {base:Heap} {t:Adr}
noncomputable def Cu (n b:Nat):List Nat:=(aq n).filter fun a=>b.testBit a
noncomputable def Jd (n b:Nat):Int×List Int:=(((Cu n b).length:Int),(Cu n b).map fun a:Nat=>(a:Int))
noncomputable def O7 (n:Nat):List (Int×List Int):=(aq (2 ^ n)).map (Jd n)
theorem a12 (n:Nat) (h1:1<=n) (h5:n<=5):∃ p:Array Nat,PySem.W.kRun (2 ^ n) (ai7 (O7 n)) (jk (2 ^ n))=some p/\p.toList.length=2 ^ n/\(p.toList.all fun i=>decide (i<2 ^ n))=true/\p.toList.map (Cu n)=Dk n:=by
 have:n=1\/n=2\/n=3\/n=4\/n=5:=by omega
 rcases this with rfl|rfl|rfl|rfl|rfl
 ·exact⟨#[0,1],by kernel_rfl,rfl,by decide,by decide +kernel⟩
 ·exact⟨#[0,1,2,3],by kernel_rfl,rfl,by decide,by decide +kernel⟩
 ·exact⟨#[0,1,2,4,3,5,6,7],by kernel_rfl,rfl,by decide,by decide +kernel⟩
 ·exact⟨#[0,1,2,4,8,3,5,9,6,10,12,7,11,13,14,15],by kernel_rfl,rfl,by decide,by decide +kernel⟩
 ·exact⟨#[0,1,2,4,8,16,3,5,9,17,6,10,18,12,20,24,7,11,19,13,21,25,14,22,26,28,15,23,27,29,30,31],by kernel_rfl,rfl,by decide,by decide +kernel⟩
theorem R1 {E:EK} {H:Hp} {n m:Nat} {R:Hp->Addr->Prop} (hn:n<=5) (k:∀ D H',Same H H'->H D=none->H' D=some (nO (Cu n m))->R H' D) :
  ∀ D,H D=none->Fg (Itr 0 n) (gdN 0) (Az (Ae (A3 K false) (Ae B9 (Ae D8 (Aa 1) (Aa 0)) (dC (.int 1))) (dC (.int 1)))) (Aa 0) D (fun H'=>R H' D) [none,some (.int (m:Int))] (upd H D (.lst [])) E:=by
 intro D hD
 refine Ce (Bu 0 n) (fun i σ H'=>(∃ v,σ=[v,some (.int (m:Int))])/\Same H H'/\H' D=some (nO ((aq i).filter fun a=>m.testBit a))) ⟨⟨_,rfl⟩,Same.upd hD,Ad⟩ (fun _ _ _ _ _=>bC) ?_ ?_
 ·rintro i x σ H1 hx ⟨⟨v,rfl⟩,S1,eD⟩
  obtain⟨hi,rfl⟩:=Dm hx
  refine⟨by omega,?_⟩
  show if decide (bj ((m:Int) / 2 ^ ((i:Int)).toNat) 1=1)=true then _ else _
  rw [Gq]
  cases e:m.testBit i with
  | true=>
   refine D0 ⟨_,eD,?_,⟨_,rfl⟩,S1.set hD,?_⟩
   ·rw [ae]
    have:=e9 (fun j=>m.testBit j) (aq i)
    rw [bB] at this
    exact aG (show _<6 by omega) (by decide)
   ·rw [Ad,Ep,if_pos e]
    unfold nO
    rw [az]
    rfl
  | false=>exact Dj ⟨⟨_,rfl⟩,S1,by rw [Ep,if_neg (by rw [e];exact am),cv];exact eD⟩
 ·rintro σ H1 ⟨_,S1,eD⟩
  rw [A9] at eD
  exact k D H1 S1 hD eD
theorem bd3 {f:Addr} {fd:aA} (Z:Au K t) (F:FunD K "_law_lists" "_law_lists" Lg f fd .none) (T:Tab P w K mg base 0 (Bj K t) bl):FnOk P w K mg base CX0 1 f fd Qj (Pw K t):=by
 refine F.okW0 bn6 bq8 T (bl3 K t) (fun vs H Q E h=>?_) (fun vs H Q E h=>?_)
 ·obtain⟨n,rfl,_⟩:=h;rfl
 ·obtain⟨n,rfl,h1,h5,k⟩:=h
  refine⟨(show 0<=sizeLine by decide),fun D hD=>?_⟩
  have S0:=Same.upd (o:=.lst []) hD
  have e0:upd H D (.lst []) D=some (.lst []):=Ad
  generalize upd H D (.lst [])=H0 at S0 e0 ⊢
  have p32:2 ^ n<=32:=c6 (j:=5) (show 2 > 0 by decide) h5
  have p2:2<=2 ^ n:=c6 (i:=1) (show 2 > 0 by decide) h1
  have en:(1 * 2 ^ ((n:Int)).toNat:Int)=((2 ^ n:Nat):Int):=by rw [gz,aK,Cw]
  refine⟨⟨by omega,by omega,by decide⟩,⟨by rw [en];omega,by rw [en];omega⟩,?_⟩
  rw [en,aK]
  refine Bc (Bu 0 (2 ^ n)) (fun m σ H'=>(∃ v2 v3,σ=[some (.int (n:Int)),some (.ref D),v2,v3])/\Same H H' /\ ∃ ds:List ((Int×List Int)×Addr×Addr),ds.map (·.1)=(aq m).map (Jd n)/\H' D=some (.lst (soV ds)) /\ ∀ d∈ds,d.2.1≠D/\d.2.2≠D/\H' d.2.1=some (.tup [.int d.1.1,.ref d.2.2])/\H' d.2.2=some (.lst (d.1.2.map V.int)))
   ⟨⟨_,_,rfl⟩,S0,[],rfl,e0,fun x hx=>by cases hx⟩ (fun _ _ _ _ _=>bC) ?_ ?_
  ·rintro m x σ H1 hx ⟨⟨v2,v3,rfl⟩,S1,ds,ed,eD,hd⟩
   obtain⟨hm,rfl⟩:=Dm hx
   refine⟨⟨by omega,by omega⟩,?_⟩
   rw [aK]
   refine R1 h5 fun L H2 S2 fL eL=>?_
   refine⟨.inl ⟨rfl,_,SqL.of (S2 _ _ eD)⟩,.inl ⟨_,.inl (SqL.of eL),?_⟩⟩
   rw [ae]
   refine⟨(show 2<=sizeLine by decide),fun T hT=>?_⟩
   have ST:=Same.upd (o:=.tup [.int ((Cu n m).length:Int),.ref L]) hT
   have eT:upd H2 T (.tup [.int ((Cu n m).length:Int),.ref L]) T=some (.tup [.int ((Cu n m).length:Int),.ref L]):=Ad
   have nT:T≠D:=(Ak (S2 _ _ eD) hT).symm
   have nL:L≠D:=(Ak eD fL).symm
   generalize upd H2 T (.tup [.int ((Cu n m).length:Int),.ref L])=H3 at ST eT ⊢
   have S3:=S2.trans ST
   refine⟨D,_,_,rfl,rfl,S3 _ _ eD,?_,⟨_,_,rfl⟩,(S1.trans S3).set hD,ds++[(Jd n m,T,L)],?_,?_,fun d hd'=>?_⟩
   ·have:=congrArg cD ed
    rw [ae,ae,bB] at this
    rw [ae]
    exact aM (show ds.length<=32 by omega) (by decide)
   ·rw [az,ed,dz,az];rfl
   ·rw [Ad];unfold soV;rw [az];rfl
   ·rcases List.mem_append.mp hd' with hd'|hd'
    ·obtain⟨a1,a2,a3,a4⟩:=hd d hd'
     exact⟨a1,a2,by rw [Ai a1];exact S3 _ _ a3,by rw [Ai a2];exact S3 _ _ a4⟩
    ·have:d=(Jd n m,T,L):=by simpa using hd'
     subst this
     refine⟨nT,nL,by rw [Ai nT];exact eT,?_⟩
     rw [Ai nL,ST _ _ eL]
     unfold nO Jd
     rw [bA]
     rfl
  ·rintro σ H1 ⟨⟨v2,v3,rfl⟩,S1,ds,ed,eD,hd⟩
   rw [A9] at ed
   have ed:ds.map (·.1)=O7 n:=ed
   have ln:ds.length=2 ^ n:=by
    have:=congrArg cD ed
    rw [ae] at this
    rw [this]
    unfold O7
    rw [ae,bB]
   obtain⟨p,r1,r2,r3,r4⟩:=a12 n h1 h5
   refine .inl ⟨ds,p,SqL.of eD,fun d hx=>(hd d hx).2.2,by omega,by omega,by rw [ln,ed];exact r1,by rw [ln];exact r2,by rw [ln];exact r3,fun A hA=>?_⟩
   have SA:=Same.upd (o:=.lst (p.toList.map fun i=>(soV ds).getD i .non)) hA
   have eA:upd H1 A (.lst (p.toList.map fun i=>(soV ds).getD i .non)) A=some (.lst (p.toList.map fun i=>(soV ds).getD i .non)):=Ad
   generalize upd H1 A (.lst (p.toList.map fun i=>(soV ds).getD i .non))=H2 at SA eA ⊢
   have S2:=S1.trans SA
   have dAt:∀ i,i<2 ^ n -> ∃ d,ds[i]? = some d/\d.1=Jd n i:=fun i hi=>by
    refine⟨_,ah (by omega),?_⟩
    have:(ds.map (·.1))[i]? = some (Jd n i):=by rw [ed];unfold O7;rw [ak,dU hi];rfl
    rw [ak,ah (by omega)] at this
    exact aF this
   have pl:∀ i∈p.toList,i<2 ^ n:=fun i hi=>by simpa using List.all_eq_true.mp r3 i hi
   refine .inl ⟨⟨_,SqL.of eA⟩,fun D2 hD2=>?_⟩
   refine Ce (A5 (p.toList.map fun i=>(soV ds).getD i .non)) (fun m σ H'=>(∃ v,σ=[v])/\Same H2 H' /\ ∃ fs:List (List Nat×Addr),fs.map (·.1)=(p.toList.take m).map (Cu n)/\H' D2=some (.lst (fs.map fun x=>.ref x.2)) /\ ∀ x∈fs,H2 x.2=some (nO x.1))
    ⟨⟨_,rfl⟩,Same.upd hD2,[],rfl,Ad,fun x hx=>by cases hx⟩ (fun m σ H' _ q=>q.2.1.seqL (SqL.of eA)) ?_ ?_
   ·rintro m x σ H3 hx ⟨⟨v,rfl⟩,S3,fs,ef,eD2,hf⟩
    obtain⟨i,hi,rfl⟩:=Ao hx
    obtain⟨d,hd1,hd2⟩:=dAt i (pl i (ai hi))
    obtain⟨_,_,a3,a4⟩:=hd d (ai hd1)
    have ex:(soV ds).getD i .non=.ref d.2.1:=by
     unfold soV
     rw [aC,ak,hd1]
     rfl
    rw [ex]
    refine⟨_,_,.inr (SqT.of ((SA.trans S3) _ _ a3)),Bw (j:=1) rfl,_,eD2,?_,⟨_,rfl⟩,S3.set hD2,fs++[(Cu n i,d.2.2)],?_,?_,fun y hy=>?_⟩
    ·rw [ae]
     have:=congrArg cD ef
     rw [ae,ae,aO] at this
     exact aM (show fs.length<=32 by omega) (by decide)
    ·rw [az,ef,Be hi];rfl
    ·rw [Ad,az];rfl
    ·rcases List.mem_append.mp hy with hy|hy
     ·exact hf y hy
     ·have:y=(Cu n i,d.2.2):=by simpa using hy
      subst this
      rw [SA _ _ a4,hd2]
      unfold nO Jd
      rw [bA]
      rfl
   ·rintro σ H3 ⟨_,S3,fs,ef,eD2,hf⟩
    rw [ae,aX,r4] at ef
    exact k H3 D2 (S2.trans S3) ⟨fs,ef,eD2,fun x hx=>S3 _ _ (hf x hx)⟩
theorem DigAt.up {H H':Hp} {r:Addr} {rows:List (List Nat)} (h:DigAt H r rows) (S:Same H H'):DigAt H' r rows:=by
 obtain⟨ds,a,b,c⟩:=h
 exact⟨ds,a,S _ _ b,fun x hx=>S _ _ (c x hx)⟩
theorem Id {n:Nat} {ps:List Nat} (h:ps∈Dk n):ps.length<=n /\ ∀ p∈ps,p<n:=by
 unfold Dk at h
 rcases List.mem_append.mp h with h|h
 ·obtain⟨h1,h2⟩:=M4 h
  rw [bB] at h1
  exact⟨fc h1,fun p hp=>List.mem_range.mp (h2 p hp)⟩
 ·have:ps=aq n:=by simpa using h
  subst this
  exact⟨by rw [bB];exact ay _,fun p hp=>List.mem_range.mp hp⟩
theorem bx6 {f:Addr} {fd:aA} (Z:Au K t) (F:FunD K "_law_deciding" "_law_deciding" Vq f fd .none) (T:Tab P w K mg base 1 (Eb K t) bl):FnOk P w K mg base CX0 2 f fd ac2 (ap2 K t):=by
 refine F.okW0 b53 cb0 T (b27 K t) (fun vs H Q E h=>?_) (fun vs H Q E h=>?_)
 ·obtain⟨r,c,w,sw,rfl,_⟩:=h;rfl
 ·obtain⟨r,c,w,sw,rfl,hr,hw,hc,hww,k⟩:=h
  refine⟨sw.length,rfl,hw.1,hw.2.1,fun H1 a S1 ⟨ds,ed,ea,hd⟩=>?_⟩
  obtain⟨_,de⟩:=ae8 hw c w
  refine .inl ⟨⟨_,SqL.of ea⟩,?_⟩
  refine Bc (A5 (ds.map fun x=>V.ref x.2)) (fun m σ H'=>(∃ v,σ=[some (.ref r),some (.int (c:Int)),some (.int (w:Int)),some (.int (sw.length:Int)),v])/\Same H1 H' /\ ∀ (j:Nat) y,j<m->(Dk sw.length)[j]? = some y->(Ch (Ah sw).length c w (B1 sw y)).isNone=false)
   ⟨⟨_,rfl⟩,Same.refl _,fun j y hj=>absurd hj (dB _)⟩ (fun m σ H' _ q=>q.2.1.seqL (SqL.of ea)) ?_ ?_
  ·rintro m x σ H2 hx ⟨⟨v,rfl⟩,S2,no⟩
   obtain⟨⟨ps,la⟩,hm,rfl⟩:=Ao hx
   have hm2:(Dk sw.length)[m]? = some ps:=by rw [<- ed,ak,hm];rfl
   have sub:=Id (ai hm2)
   have S:=S1.trans S2
   have l5:=hw.2.1
   refine⟨r,la,c,w,ps,sw,rfl,hr.up S,hw,hc,hww,S2 _ _ (hd _ (ai hm)),by omega,sub.2,fun H3 v S3 hv=>?_⟩
   cases e:Ch (Ah sw).length c w (B1 sw ps) with
   | none=>
    rw [e] at hv
    unfold Ev At at hv
    obtain⟨rfl,_⟩:=hv
    have:X7 sw c w=ps:=by
     rw [Ox hm2 (by rw [e];rfl) no] at de
     exact (aF de).symm
    refine k H3 la (S.trans S3) ?_
    rw [this]
    exact (S2.trans S3) _ _ (hd _ (ai hm))
   | some o=>
    rw [e] at hv
    obtain⟨i,j⟩:=o
    unfold Ev At at hv
    obtain⟨b,xs,rfl,_⟩:=hv
    refine⟨⟨_,rfl⟩,S2.trans S3,fun j' y hj' hy=>?_⟩
    rcases dA j' m with q|q
    ·exact no j' y q hy
    ·have:j'=m:=by omega
     subst this
     rw [hm2] at hy
     rw [<- aF hy,e]
     rfl
  ·rintro σ H2 ⟨⟨v,rfl⟩,S2,no⟩
   exfalso
   have ln:ds.length=(Dk sw.length).length:=by rw [<- ed,ae]
   rw [ae,ln] at no
   rw [Wv fun j y hy=>no j y (An hy) hy] at de
   cases de
theorem aq8 {H:Hp} {i j:Int} {xs:List V} (h:AtL K H [.at_ (.int i),.at_ (.int j)] xs):xs=[.int i,.int j]:=by
 unfold AtL at h
 obtain⟨y,ys,rfl,h1,h⟩:=h
 unfold At at h1
 unfold AtL at h
 obtain⟨z,zs,rfl,h2,h⟩:=h
 unfold At at h2
 unfold AtL at h
 rw [h1.1,h2.1,h]
theorem bd2 {f:Addr} {fd:aA} (Z:Au K t) (F:FunD K "_law_alike" "_law_alike" Lf f fd .none) (T:Tab P w K mg base 0 (Bj K t) bl):FnOk P w K mg base CX0 1 f fd Qi (Pu K t):=by
 refine F.okW0 bn5 bq7 T (bl2 K t) (fun vs H Q E h=>?_) (fun vs H Q E h=>?_)
 ·obtain⟨v,u,o,rfl,_⟩:=h;rfl
 ·obtain⟨v,u,o,rfl,hv,hu,k⟩:=h
  cases o with
  | none=>
   unfold Ev At at hv hu
   obtain⟨rfl,_⟩:=hv
   obtain⟨rfl,_⟩:=hu
   exact k H (Same.refl _)
  | some o=>
   obtain⟨i,j⟩:=o
   have hv0:=hv
   have hu0:=hu
   unfold Ev At at hv hu
   obtain⟨a,xs,rfl,qa,lx⟩:=hv
   obtain⟨b,ys,rfl,qb,_⟩:=hu
   have ex:xs=[.int (i:Int),.int (j:Int)]:=aq8 lx
   subst ex
   refine⟨_,true,.sqT rfl qa rfl,rfl,.inr (.inl ⟨_,_,hv0,hu0,?_,?_⟩)⟩
   ·unfold Ev;simp [dep,Gf]
   rw [G9 hv0]
   refine .inr (.inl ⟨⟨_,qa⟩,fun D hD=>?_⟩)
   refine Ce (Wi [V.int (i:Int),V.int (j:Int)]) (fun m σ H'=>(∃ v,σ=[v])/\Same H H'/\H' D=some (.lst ([V.int (i:Int),V.int (j:Int)].take m))) ⟨⟨_,rfl⟩,Same.upd hD,Ad⟩ (fun m σ H' _ q=>q.2.1.seqT qa) ?_ ?_
   ·rintro m x σ H1 hx ⟨⟨v,rfl⟩,S1,eD⟩
    have hm:=An hx
    have hm:m<2:=hm
    obtain⟨z,rfl⟩:∃ z:Int,x=.int z:=by
     have:m=0\/m=1:=by omega
     rcases this with rfl|rfl
     ·exact⟨_,(aF hx).symm⟩
     ·exact⟨_,(aF hx).symm⟩
    refine⟨rfl,rfl,_,eD,?_,⟨_,rfl⟩,S1.set hD,?_⟩
    ·rw [aO]
     exact aM (show _<=2 by omega) (by decide)
    ·rw [Ad,b_,hx];rfl
   ·rintro σ H1 ⟨_,S1,eD⟩
    exact .inl ⟨_,.inl (SqL.of eD),k H1 S1⟩
theorem at0 (m n:Nat):decide (bj ((m:Int) / 2 ^ ((n:Int)).toNat) 1=0) = !m.testBit n:=by
 rw [<- Gq,<- decide_not]
 refine decide_eq_decide.mpr ?_
 rw [aK,Cw,<- Int.natCast_ediv,show (1:Int)=((1:Nat):Int) from rfl,Bx,kD]
 omega
noncomputable def Cp (sw:Sw) (ps:List Nat) (j:Nat):List Key:=ps.map fun p=>.inl ((Dd sw j p:Nat):Int)
theorem av5 {sw:Sw} {ps:List Nat} {i j:Nat}:Cp sw ps j=Cp sw ps i ↔ B1 sw ps i j=true:=by
 rw [F9,aW]
 unfold Cp
 rw [List.map_inj_left]
 refine forall_congr' fun p=>forall_congr' fun _=>?_
 rw [decide_eq_true_iff]
 constructor
 ·intro h
  injection h with h
  omega
 ·intro h
  rw [h]
theorem Rk {E:EK} {H:Hp} {l r:Addr} {m:Nat} {ps:List Nat} {ds:List (List Nat×Addr)} {sw:Sw} {e:List Nat×Addr} {R:Hp->Addr->Prop} (hl:H l=some (nO ps)) (er:H r=some (.lst (ds.map fun x=>.ref x.2))) (ed:ds.map (·.1)=B6 sw) (hd:∀ x∈ds,H x.2=some (nO x.1))
  (hm:ds[m]? = some e) (hp:∀ p∈ps,p<sw.length) (few:ps.length<=5) (k:∀ D H',Same H H'->H D=none->H' D=some (.lst ((Cp sw ps m).map kV))->R H' D) :
  ∀ D,H D=none->Fg (Itl K l) (gdN 0) B5 (Ae (Aq K) (Ae (Aq K) (Aa 2) (Aa 1)) (Aa 0)) D (fun H'=>R H' D) [none,some (.int (m:Int)),some (.ref r)] (upd H D (.lst [])) E:=by
 intro D hD
 have he:(B6 sw)[m]? = some e.1:=by rw [<- ed,ak,hm];rfl
 refine Ce (A5 (ps.map fun n:Nat=>V.int (n:Int))) (fun i σ H'=>(∃ v,σ=[v,some (.int (m:Int)),some (.ref r)])/\Same H H'/\H' D=some (.lst ((Cp sw (ps.take i) m).map kV))) ⟨⟨_,rfl⟩,Same.upd hD,Ad⟩ (fun i σ H' _ q=>q.2.1.seqL (SqL.of hl)) ?_ ?_
 ·rintro i x σ H1 hx ⟨⟨v,rfl⟩,S1,eD⟩
  obtain⟨p,hi,rfl⟩:=Ao hx
  have hps:=hp p (ai hi)
  obtain⟨j,hj,_⟩:=Tq (ai he) (ah hps)
  have ej:Dd sw m p=j:=by unfold Dd;rw [he];show (e.1[p]?).getD 0=j;rw [hj];rfl
  refine⟨_,.ref e.2,.inl (SqL.of (S1 _ _ er)),Bw (j:=m) (by rw [ak,hm];rfl),_,.int (j:Int),.inl (SqL.of (S1 _ _ (hd e (ai hm)))),Bw (j:=p) (by rw [ak,hj];rfl),_,eD,?_,⟨_,rfl⟩,S1.set hD,?_⟩
  ·rw [ae]
   unfold Cp
   rw [ae,aO]
   exact aM (show _<=5 by omega) (by decide)
  ·rw [Ad]
   unfold Cp
   rw [Be hi,az,ej]
   rfl
 ·rintro σ H1 ⟨_,S1,eD⟩
  rw [ae,aX] at eD
  exact k D H1 S1 hD eD
noncomputable def X8 (n c w:Nat) (f:Nat->Bool) (m:Nat):Option Nat:=(aq m).find? fun j=>w.testBit j && !c.testBit j&&f j
theorem Kh {n c w m:Nat} {f:Nat->Bool}:X8 n c w f (m+1)=(X8 n c w f m).or (if (w.testBit m && !c.testBit m&&f m)=true then some m else none):=by
 unfold X8
 rw [dz,List.find?_append,bR,List.find?_nil]
 cases (aq m).find? (fun j=>w.testBit j && !c.testBit j&&f j) with
 | some x=>rfl
 | none=>
  cases w.testBit m && !c.testBit m&&f m <;> rfl
noncomputable def J7 (sw:Sw) (c w:Nat) (ps:List Nat) (m:Nat) (kvs:List (List Key×V)):Prop:=kvs.length<=m /\ ∀ ks,Bn kvs ks=(X8 0 c w (fun j=>decide (Cp sw ps j=ks)) m).map fun j:Nat=>V.int (j:Int)
theorem Qd {sw:Sw} {c w m:Nat} {ps:List Nat} {kvs:List (List Key×V)} (h:J7 sw c w ps m kvs) (q:(w.testBit m && !c.testBit m)=false):J7 sw c w ps (m+1) kvs:=by
 refine⟨Nat.le_succ_of_le h.1,fun ks=>?_⟩
 rw [h.2 ks,Kh,q]
 simp
theorem as4 {sw:Sw} {c w m:Nat} {ps:List Nat} {kvs:List (List Key×V)} {v:V} (h:J7 sw c w ps m kvs) (q:Bn kvs (Cp sw ps m)=some v):J7 sw c w ps (m+1) kvs:=by
 refine⟨Nat.le_succ_of_le h.1,fun ks=>?_⟩
 rw [h.2 ks,Kh]
 by_cases e:Cp sw ps m=ks
 ·subst e
  rw [h.2] at q
  cases z:X8 0 c w (fun j=>decide (Cp sw ps j=Cp sw ps m)) m with
  | none=>rw [z] at q;cases q
  | some x=>rfl
 ·rw [decide_eq_false e,dO,if_neg am,Option.or_none]
theorem as3 {sw:Sw} {c w m:Nat} {ps:List Nat} {kvs:List (List Key×V)} (h:J7 sw c w ps m kvs) (q:Bn kvs (Cp sw ps m)=none) (b:(w.testBit m && !c.testBit m)=true):J7 sw c w ps (m+1) (Dl kvs (Cp sw ps m) (.int (m:Int))):=by
 refine⟨?_,fun ks=>?_⟩
 ·rw [Hj _ q,aJ]
  have:=h.1
  show kvs.length+1<=_
  omega
 ·rw [ar0,Kh,b,du]
  by_cases e:Cp sw ps m=ks
  ·subst e
   rw [if_pos rfl,decide_eq_true rfl,if_pos rfl]
   rw [h.2] at q
   rw [Option.map_eq_none_iff.mp q]
   rfl
  ·rw [if_neg (fun z=>e z.symm),decide_eq_false e,if_neg am,Option.or_none,h.2]
theorem bd9 {f:Addr} {fd:aA} (Z:Au K t) (F:FunD K "_law_pair" "_law_pair" Ln f fd .none) (T:Tab P w K mg base 0 (Bj K t) bl):FnOk P w K mg base CX0 1 f fd Qp (L6 K t):=by
 refine F.okW0 bo2 br4 T (bl9 K t) (fun vs H Q E h=>?_) (fun vs H Q E h=>?_)
 ·obtain⟨r,l,c,w,ps,sw,rfl,_⟩:=h;rfl
 ·obtain⟨r,l,c,w,ps,sw,rfl,⟨ds,ed,er,hd⟩,hw,hc,hww,hl,few,hp,k⟩:=h
  have ln:ds.length=(Ah sw).length:=by rw [Fu,ae,<- ed,ae]
  have n256:=hw.len
  have lnV:(ds.map fun x=>V.ref x.2).length=(Ah sw).length:=by rw [ae,ln]
  refine fun q hq=>.inr ?_
  have Sq:=Same.upd (o:=.dT []) hq
  have eq0:upd H q (.dT []) q=some (.dT []):=Ad
  show Ag _ _ _ [some (.ref r),some (.int (c:Int)),some (.int (w:Int)),some (.ref l),some (.ref q),none,none] _
  generalize upd H q (.dT [])=H0 at Sq eq0 ⊢
  refine .inl ⟨_,.inl (SqL.of (Sq _ _ er)),?_⟩
  rw [lnV]
  refine⟨⟨by omega,by omega⟩,?_⟩
  rw [aK]
  refine Bc (Bu 0 (Ah sw).length) (fun m σ H'=>(∃ v5 v6,σ=[some (.ref r),some (.int (c:Int)),some (.int (w:Int)),some (.ref l),some (.ref q),v5,v6])/\Same H H' /\ ∃ kvs,H' q=some (.dT kvs)/\J7 sw c w ps m kvs)
   ⟨⟨_,_,rfl⟩,Sq,[],eq0,ay _,fun ks=>rfl⟩ (fun _ _ _ _ _=>bC) ?_ ?_
  ·rintro m x σ H1 hx ⟨⟨v5,v6,rfl⟩,S1,kvs,e1,o1⟩
   obtain⟨hm,rfl⟩:=Dm hx
   obtain⟨e,he⟩:∃ e,ds[m]? = some e:=⟨_,ah (by omega)⟩
   refine⟨by omega,?_⟩
   show if decide (bj ((w:Int) / 2 ^ ((m:Int)).toNat) 1=1)=true then _ else _
   rw [Gq]
   cases ew:w.testBit m with
   | false=>exact Dj (Dj ⟨⟨_,_,rfl⟩,S1,kvs,e1,Qd o1 (by rw [ew];rfl)⟩)
   | true=>
    refine D0 ⟨by omega,?_⟩
    show if decide (bj ((c:Int) / 2 ^ ((m:Int)).toNat) 1=0)=true then _ else _
    rw [at0]
    cases ec:c.testBit m with
    | true=>exact Dj ⟨⟨_,_,rfl⟩,S1,kvs,e1,Qd o1 (by rw [ec,Bool.not_true,dO])⟩
    | false=>
     refine D0 ⟨.inr (.inr (.inl ⟨rfl,.inr ⟨_,e1⟩⟩)),.inl ⟨⟨_,SqL.of (S1 _ _ hl)⟩,?_⟩⟩
     refine Rk (S1 _ _ hl) (S1 _ _ er) ed (fun x hx=>S1 _ _ (hd x hx)) he hp few fun D H2 S2 fD eD=>⟨_,.inl ⟨SqL.of eD,fun T hT=>?_⟩⟩
     have ST:=Same.upd (o:=.tup ((Cp sw ps m).map kV)) hT
     have eT:upd H2 T (.tup ((Cp sw ps m).map kV)) T=some (.tup ((Cp sw ps m).map kV)):=Ad
     generalize upd H2 T (.tup ((Cp sw ps m).map kV))=H3 at ST eT ⊢
     have S3:=S2.trans ST
     refine⟨q,T,kvs,Cp sw ps m,.int (m:Int),rfl,rfl,S3 _ _ e1,eT,aM (aQ o1.1 (fc hm)) (aM n256 (by decide)),?_⟩
     cases ev:Bn kvs (Cp sw ps m) with
     | some v=>exact⟨⟨_,_,rfl⟩,S1.trans S3,kvs,S3 _ _ e1,as4 o1 ev⟩
     | none=>exact⟨⟨_,_,rfl⟩,(S1.trans S3).set hq,_,Ad,as3 o1 ev (by rw [ew,ec];rfl)⟩
  ·rintro σ H1 ⟨⟨v5,v6,rfl⟩,S1,kvs,e1,o1⟩
   rw [A9] at o1
   have due:∀ i,Bn kvs (Cp sw ps i)=((aq (Ah sw).length).find? fun j=>w.testBit j && !c.testBit j&&B1 sw ps i j).map fun j:Nat=>V.int (j:Int):=fun i=>by
    rw [o1.2]
    unfold X8
    refine congrArg (Option.map fun j:Nat=>V.int (j:Int)) (Gr fun j _=>?_)
    show (w.testBit j && !c.testBit j&&decide (Cp sw ps j=Cp sw ps i))=_
    rw [show decide (Cp sw ps j=Cp sw ps i)=B1 sw ps i j by rw [bQ,decide_eq_true_iff];exact av5]
   refine .inl (.inl ⟨_,.inl (SqL.of (S1 _ _ er)),?_⟩)
   rw [lnV]
   refine⟨⟨by omega,by omega⟩,?_⟩
   rw [aK]
   unfold Ch at k
   refine Bc (Bu 0 (Ah sw).length) (fun m σ H'=>(∃ v5 v6,σ=[some (.ref r),some (.int (c:Int)),some (.int (w:Int)),some (.ref l),some (.ref q),v5,v6])/\Same H1 H' /\ ∀ (j:Nat) y,j<m->(aq (Ah sw).length)[j]? = some y->(if (c.testBit y&&w.testBit y)=true then ((aq (Ah sw).length).find? fun j=>w.testBit j && !c.testBit j&&B1 sw ps y j).map fun j=>(y,j) else none)=none)
    ⟨⟨_,_,rfl⟩,Same.refl _,fun j y hj=>absurd hj (dB _)⟩ (fun _ _ _ _ _=>bC) ?_ ?_
   ·rintro m x σ H2 hx ⟨⟨v5,v6,rfl⟩,S2,no⟩
    obtain⟨hm,rfl⟩:=Dm hx
    obtain⟨e,he⟩:∃ e,ds[m]? = some e:=⟨_,ah (by omega)⟩
    have S12:=S1.trans S2
    have rm:(aq (Ah sw).length)[m]? = some m:=dU hm
    have stay:∀ H3,Same H2 H3->(if (c.testBit m&&w.testBit m)=true then ((aq (Ah sw).length).find? fun j=>w.testBit j && !c.testBit j&&B1 sw ps m j).map fun j=>(m,j) else none)=none->Same H1 H3 /\ ∀ (j:Nat) y,j<m+1->(aq (Ah sw).length)[j]? = some y->(if (c.testBit y&&w.testBit y)=true then ((aq (Ah sw).length).find? fun j=>w.testBit j && !c.testBit j&&B1 sw ps y j).map fun j=>(y,j) else none)=none:=fun H3 S3 h0=>⟨S2.trans S3,fun j y hj hy=>by
     rcases dA j m with z|z
     ·exact no j y z hy
     ·have:j=m:=by omega
      subst this
      rw [rm] at hy
      rw [<- aF hy]
      exact h0⟩
    refine .inl ⟨⟨_,SqL.of (S12 _ _ hl)⟩,?_⟩
    refine Rk (S12 _ _ hl) (S12 _ _ er) ed (fun x hx=>S12 _ _ (hd x hx)) he hp few fun D H3 S3 fD eD=>⟨_,.inl ⟨SqL.of eD,fun T hT=>?_⟩⟩
    have ST:=Same.upd (o:=.tup ((Cp sw ps m).map kV)) hT
    have eT:upd H3 T (.tup ((Cp sw ps m).map kV)) T=some (.tup ((Cp sw ps m).map kV)):=Ad
    show Ag _ _ _ [some (.ref r),some (.int (c:Int)),some (.int (w:Int)),some (.ref l),some (.ref q),some (.int (m:Int)),some (.ref T)] _
    generalize upd H3 T (.tup ((Cp sw ps m).map kV))=H4 at ST eT ⊢
    have S4:=S3.trans ST
    have e4:=(S2.trans S4) _ _ e1
    refine⟨by omega,?_⟩
    show if decide (bj ((w:Int) / 2 ^ ((m:Int)).toNat) 1=1)=true then _ else _
    rw [Gq]
    cases ew:w.testBit m with
    | false=>exact Dj (Dj ⟨⟨_,_,rfl⟩,stay H4 S4 (by rw [ew,dO];rfl)⟩)
    | true=>
     refine D0 ⟨by omega,?_⟩
     show if decide (bj ((c:Int) / 2 ^ ((m:Int)).toNat) 1=1)=true then _ else _
     rw [Gq]
     cases ec:c.testBit m with
     | false=>exact Dj (Dj ⟨⟨_,_,rfl⟩,stay H4 S4 (by rw [ec];rfl)⟩)
     | true=>
      refine D0 (.inr ⟨_,DGet.t e4 eT,?_⟩)
      rw [due m]
      cases ef:(aq (Ah sw).length).find? fun j=>w.testBit j && !c.testBit j&&B1 sw ps m j with
      | none=>exact⟨⟨_,_,rfl⟩,stay H4 S4 (by rw [ef];simp)⟩
      | some j=>
       have g:DGet H4 q (.ref T) (some (.int (j:Int))):=by
        have:=DGet.t e4 eT
        rw [due m,ef] at this
        exact this
       rw [Eg (b:=(m,j)) rm no (by rw [ef,ew,ec];rfl)] at k
       refine⟨_,g,(show 2<=sizeLine by decide),fun T2 hT2=>k _ _ ((S12.trans S4).trans (Same.upd hT2)) ?_⟩
       unfold Ev
       exact Wn hT2
   ·rintro σ H2 ⟨⟨v5,v6,rfl⟩,S2,no⟩
    rw [A9] at no
    have e:(aq (Ah sw).length).findSome? (fun i=>if (c.testBit i&&w.testBit i)=true then ((aq (Ah sw).length).find? fun j=>w.testBit j && !c.testBit j&&B1 sw ps i j).map fun j=>(i,j) else none)=none:=by
     rw [fA]
     intro y hy
     obtain⟨j,hj⟩:=List.mem_iff_getElem?.mp hy
     exact no j y (by have:=An hj;rwa [bB] at this) hj
    rw [e] at k
    refine .inl (k H2 .non (S1.trans S2) ?_)
    unfold Ev At
    exact⟨rfl,rfl⟩
noncomputable def lw9 (K:ac) (t:Adr):DS:=(Ag (Ap 9 (dFn (fun vs H Q _=>(Ds K) vs H Q) (Ac (Aa 8) Aj))) (Ag (dIf (Dq (C6 K (dFn (spE (Pu K t) []) (Ac (dFn (spE (Px K t) []) (Ac (Aa 4) (Ac (Aa 5) (Ac (Aa 6) (Ac (Aa 9) Aj))))) (Ac (dFn (spE (L6 K t) []) (Ac (Aa 3) (Ac (Aa 5) (Ac (Aa 6) (Ac (Aa 7) Aj))))) Aj))))) (Ag (As (dC (.bl false)))     Af) Af) (Ag (dIf (Az (Ae (A3 K true) (Aa 9) (Aa 8))) (Ag (As (dC (.bl false)))     Af) Af) Af)))
theorem Hy (l:List Str):Ki (l.map V.str) (l.map V.str)=true:=by
 unfold Ki
 rw [decide_eq_true rfl,du,aW]
 intro j hj
 have hj:=List.mem_range.mp hj
 rw [ae] at hj
 rw [aC,ak,ah hj]
 exact beq_self_eq_true (l[j])
theorem N2 {E:EK} {H:Hp} {D la:Addr} {sw:Sw} {ps:List Nat} {R:Hp->Addr->Prop} (eD:H D=some (A8 (sw.map (·.1)))) (ela:H la=some (nO ps)) (hp:∀ p∈ps,p<sw.length) (few:ps.length<=5)
  (k:∀ L H',Same H H'->H L=none->H' L=some (A8 (ps.map (nmS sw)))->R H' L) :
  ∀ L,H L=none->Fg (Itl K la) (gdN 0) B5 (Ae (Aq K) (Aa 1) (Aa 0)) L (fun H'=>R H' L) [none,some (.ref D)] (upd H L (.lst [])) E:=by
 intro L hL
 refine Ce (A5 (ps.map fun n:Nat=>V.int (n:Int))) (fun i σ H'=>(∃ v,σ=[v,some (.ref D)])/\Same H H'/\H' L=some (A8 ((ps.take i).map (nmS sw)))) ⟨⟨_,rfl⟩,Same.upd hL,Ad⟩ (fun i σ H' _ q=>q.2.1.seqL (SqL.of ela)) ?_ ?_
 ·rintro i x σ H1 hx ⟨⟨v,rfl⟩,S1,eL⟩
  obtain⟨p,hi,rfl⟩:=Ao hx
  have hps:=hp p (ai hi)
  have hx:sw[p]? = some (sw[p]'hps):=ah _
  refine⟨_,.str (nmS sw p),.inl (SqL.of (S1 _ _ eD)),Bw (j:=p) (by rw [ak,ak,hx,Rt hx];rfl),_,eL,?_,⟨_,rfl⟩,S1.set hL,?_⟩
  ·rw [ae,ae,aO]
   exact aM (show _<=5 by omega) (by decide)
  ·rw [Ad,Be hi];unfold A8;rw [az];rfl
 ·rintro σ H1 ⟨_,S1,eL⟩
  rw [ae,aX] at eL
  exact k L H1 S1 hL eL
structure LwK (t:Adr) (K:ac) (p r la:Addr) (sw:Sw) (rules:List Sw) (ps:List Nat) (H:Hp):Prop where
 P:PanelAt t.c_zbe any H p sw rules
 D:DigAt H r (B6 sw)
 l:H la=some (nO ps)
theorem LwK.up {p r la:Addr} {sw:Sw} {rules:List Sw} {ps:List Nat} {H H':Hp} (h:LwK t K p r la sw rules ps H) (S:Same H H'):LwK t K p r la sw rules ps H':=⟨h.P.mono (Kp.same S),h.D.up S,S _ _ h.l⟩
theorem ai8 {D:J8} {a l d p r la L:Addr} {c w:Nat} {sw:Sw} {rules:List Sw} {ps:List Nat} {ws:List Str} {v9 v10 v11:Option V} {H:Hp} (h:LwK t K p r la sw rules ps H) (hw:okSw sw) (hc:c<2 ^ (Ah sw).length) (hww:w<2 ^ (Ah sw).length) (hp:∀ p∈ps,p<sw.length) (few:ps.length<=5)
  (eL:H L=some (A8 ws)) (hs:∀ x,x∈ws ↔ x∈ps.map (nmS sw)) (few2:ws.length<=5) (hD:∀ v8 v9 H',Same H H'->D.nx [some (.ref a),some (.ref l),some (.ref d),some (.ref r),some (.ref p),some (.int (c:Int)),some (.int (w:Int)),some (.ref la),v8,v9,v10,v11] H') :
  lw9 K t D [some (.ref a),some (.ref l),some (.ref d),some (.ref r),some (.ref p),some (.int (c:Int)),some (.int (w:Int)),some (.ref la),some (.ref L),v9,v10,v11] H:=by
 refine⟨_,.inl (SqL.of eL),fun M hM=>?_⟩
 have SM:=Same.upd (o:=A8 ws) hM
 have eM:upd H M (A8 ws) M=some (A8 ws):=Ad
 show Ag _ _ _ [some (.ref a),some (.ref l),some (.ref d),some (.ref r),some (.ref p),some (.int (c:Int)),some (.int (w:Int)),some (.ref la),some (.ref L),some (.ref M),v10,v11] (upd H M (A8 ws))
 generalize upd H M (A8 ws)=H1 at SM eM ⊢
 have h1:=h.up SM
 refine⟨p,M,c,w,ws,sw,rules,rfl,h1.P,hw,hc,hww,eM,few2,fun H2 v S2 hv=>?_⟩
 have h2:=h1.up S2
 refine⟨r,la,c,w,ps,sw,rfl,h2.D,hw,hc,hww,h2.l,few,hp,fun H3 u S3 hu=>?_⟩
 rw [Rz fun i j hi hj=>aw0 hw hp hs hi hj] at hv
 refine⟨v,u,_,rfl,a24 S3 hv,hu,fun H4 S4=>?_⟩
 have S:=(S2.trans S3).trans S4
 refine .inl ⟨M,L,_,_,rfl,rfl,SqL.of (S _ _ eM),SqL.of ((SM.trans S) _ _ eL),B8 ws,B8 ws,?_⟩
 refine Gk (by rw [Hy];rfl) ?_
 exact hD _ _ H4 (SM.trans S)
theorem be9 {f:Addr} {fd:aA} (Z:Au K t) (F:FunD K "law" "law" Ez f fd .none) (T:Tab P w K mg base 10 (ag2 K t) bl):FnOk P w K mg base CX0 11 f fd Qx (P5 K t):=by
 refine F.okW0 bp2 bs4 T (bm9 K t) (fun vs H Q E h=>?_) (fun vs H Q E h=>?_)
 ·obtain⟨a,ns,rfl,_⟩:=h;rfl
 ·obtain⟨a,ns,rfl,hS,hn,k⟩:=h
  refine⟨a,ns,rfl,hS,fun H1 l sw S1 W1 hw=>?_⟩
  have l5:=hw.2.1
  obtain⟨ds,ed,⟨_,ol⟩,hd⟩:=id W1
  refine .inl ⟨⟨_,SqL.of ol⟩,?_⟩
  refine L8 hw ed ol (fun x hx=>(hd x hx).1.2) fun D H2 S2 fD eD=>?_
  have ln:((sw.map (·.1)).map V.str).length=sw.length:=by rw [ae,ae]
  refine⟨l,sw,rfl,W1.mono (Kp.same S2),hw,fun H3 r S3 D3=>?_⟩
  have S03:=(S1.trans S2).trans S3
  refine⟨a,l,ns,sw,rfl,S03.seqL hS,W1.mono (Kp.same (S2.trans S3)),hw,fun H4 p rules S4 P4=>?_⟩
  have S04:=S03.trans S4
  refine⟨a,ns,3,rfl,S04.seqL hS,r,_,sw,rfl,D3.up S4,hw,fun H5 c S5 hc=>?_⟩
  have S05:=S04.trans S5
  refine⟨a,ns,4,rfl,S05.seqL hS,r,_,sw,rfl,D3.up (S4.trans S5),hw,fun H6 w S6 hww=>?_⟩
  have S06:=S05.trans S6
  have S26:=(S3.trans S4).trans (S5.trans S6)
  have S46:=S5.trans S6
  refine .inl ⟨_,.inl (SqL.of (S26 _ _ eD)),?_⟩
  rw [ln]
  refine⟨sw.length,rfl,hw.1,l5,fun H7 q S7 ⟨gs,eg,eq,hg⟩=>?_⟩
  refine .inl ⟨⟨_,SqL.of eq⟩,?_⟩
  have P7:PanelAt t.c_zbe any H7 p sw rules:=P4.mono (Kp.same (S46.trans S7))
  have D7:DigAt H7 r (B6 sw):=D3.up ((S4.trans S46).trans S7)
  have e7:H7 D=some (A8 (sw.map (·.1))):=(S26.trans S7) _ _ eD
  have S07:=S06.trans S7
  refine Bc (A5 (gs.map fun x=>V.ref x.2)) (fun m σ H'=>(∃ v7 v8 v9,σ=[some (.ref a),some (.ref l),some (.ref D),some (.ref r),some (.ref p),some (.int (c:Int)),some (.int (w:Int)),v7,v8,v9,none,none])/\Same H7 H')
   ⟨⟨_,_,_,rfl⟩,Same.refl _⟩ (fun m σ H' _ q=>q.2.seqL (SqL.of eq)) ?_ ?_
  ·rintro m x σ H8 hx ⟨⟨v7,v8,v9,rfl⟩,S8⟩
   obtain⟨⟨ps,la⟩,hm,rfl⟩:=Ao hx
   have hm2:(Dk sw.length)[m]? = some ps:=by rw [<- eg,ak,hm];rfl
   have sub:=Id (ai hm2)
   have ela:H8 la=some (nO ps):=S8 _ _ (hg _ (ai hm))
   have fw:ps.length<=5:=by have:=sub.1;omega
   refine .inl ⟨⟨_,SqL.of ela⟩,?_⟩
   refine N2 (S8 _ _ e7) ela sub.2 fw fun L H9 S9 fL eL=>?_
   have K9:LwK t K p r la sw rules ps H9:=⟨P7.mono (Kp.same (S8.trans S9)),D7.up (S8.trans S9),S9 _ _ ela⟩
   refine⟨a,ns,5,rfl,(S07.trans (S8.trans S9)).seqL hS,by decide,Gx ?_ ?_⟩
   ·refine⟨_,SqL.of eL,fun L2 hL2=>?_⟩
    have SL:=Same.upd (o:=.lst ((ps.map (nmS sw)).map V.str).reverse) hL2
    have eL2:upd H9 L2 (.lst ((ps.map (nmS sw)).map V.str).reverse) L2=some (A8 (ps.map (nmS sw)).reverse):=by
     rw [Ad];unfold A8;rw [List.map_reverse]
    generalize upd H9 L2 (.lst ((ps.map (nmS sw)).map V.str).reverse)=H10 at SL eL2 ⊢
    refine ai8 (K:=K) (t:=t) (K9.up SL) hw hc hww sub.2 fw eL2 (fun x=>List.mem_reverse) (by rw [ig,ae];omega) ?_
    exact fun v8 v9 H' S'=>⟨⟨_,_,_,rfl⟩,((S8.trans S9).trans SL).trans S'⟩
   ·refine ai8 (K:=K) (t:=t) K9 hw hc hww sub.2 fw eL (fun x=>Iff.rfl) (by rw [ae];omega) ?_
    exact fun v8 v9 H' S'=>⟨⟨_,_,_,rfl⟩,(S8.trans S9).trans S'⟩
  ·rintro σ H8 ⟨⟨v7,v8,v9,rfl⟩,S8⟩
   obtain⟨d1,d2⟩:=ae8 hw c w
   have sub:=Id (List.mem_of_find?_eq_some d2)
   refine .inl (.inl ⟨_,.inl (SqL.of (S8 _ _ e7)),?_⟩)
   rw [ln]
   refine⟨r,c,w,sw,rfl,D7.up S8,hw,hc,hww,fun H9 la S9 ela=>?_⟩
   refine .inl ⟨⟨_,SqL.of ela⟩,?_⟩
   refine N2 ((S8.trans S9) _ _ e7) ela sub.2 (by omega) fun L H10 S10 fL eL=>?_
   rw [<- d1] at eL
   have P10:PanelAt t.c_zbe any H10 p sw rules:=P7.mono (Kp.same ((S8.trans S9).trans S10))
   refine⟨p,c,w,sw,rules,rfl,P10,hw,hc,hww,fun H11 f S11 ff ef=>?_⟩
   refine⟨_,true,.sqL rfl (SqL.of ef) rfl,rfl,.inl ⟨f,L,_,_,rfl,rfl,SqL.of ef,SqL.of (S11 _ _ eL),B8 _,B8 _,?_⟩⟩
   refine Gk (by rw [Hy];rfl) ?_
   refine .inl ⟨.inl ⟨rfl,_,SqL.of ef⟩,f,_,rfl,rfl,ef,?_⟩
   have nL:L≠f:=Ak eL ff
   have P12:PanelAt t.c_zbe any (upd H11 f (.lst [])) p sw rules:=P10.mono (((Kp.new S11 ff).trans (Kp.off (fun z=>z rfl))).trans Kp.any)
   have eL12:upd H11 f (.lst []) L=some (A8 (Mo sw c w)):=by rw [Ai nL];exact S11 _ _ eL
   generalize upd H11 f (.lst [])=H12 at P12 eL12 ⊢
   refine⟨p,c,w,sw,rules,rfl,P12,hw,hc,hww,fun H13 f2 S13 ff2 ef2=>?_⟩
   refine .inl ⟨f2,L,_,_,rfl,rfl,SqL.of ef2,SqL.of (S13 _ _ eL12),B8 _,B8 _,?_⟩
   show Q (.bl (Ki ((Mo sw c w).map V.str) ((Mo sw c w).map V.str))) H13
   rw [Hy]
   exact k H13
end
end K13
namespace K13
open PySem L2
structure a23 (K:ac) (mg:Str->Option Value) (t:Adr):Prop where
 g_zar:DOk K mg "in_set" Lv t.f_zar t.d_zar Qv
 g_zv:DOk K mg "choices_of" Vx t.f_zv t.d_zv ad0
 g_zp:DOk K mg "least_choice" Vs t.f_zp t.d_zp ac4
 g_zj:MOk K "switches" "Panel.switches" Vm t.f_zj t.d_zj ab8
 g_zai:DOk K mg "is_whole" Ll t.f_zai t.d_zai Qn
 g_zs:MOk K "many" "Panel.many" Vu t.f_zs t.d_zs ac7
 g_zd:MOk K "need_number" "Panel.need_number" Vg t.f_zd t.d_zd ab2
 g_zu:MOk K "told" "Panel.told" Vw t.f_zu t.d_zu ac9
 g_zi:DOk K mg "terms_of_choice" Vl t.f_zi t.d_zi ab7
 g_zc:MOk K "all_choices" "Panel.all_choices" Vf t.f_zc t.d_zc ab1
 g_zam:DOk K mg "union_of" Lp t.f_zam t.d_zam Qr
 g_zw:DOk K mg "has_length" Vy t.f_zw t.d_zw ad1
 g_zab:DOk K mg "is_letter" Ld t.f_zab t.d_zab Qg
 g_zao:DOk K mg "is_word" Lr t.f_zao t.d_zao Qs
 g_zf:DOk K mg "are_unlike_words" Vi t.f_zf t.d_zf ab4
 g_zt:MOk K "term" "Panel.term" Vv t.f_zt t.d_zt ac8
 g_zaa:MOk K "box" "Panel.box" Lc t.f_zaa t.d_zaa Qe
 g_zm:DOk K mg "choices_like" Vp t.f_zm t.d_zm ac1
 g_zag:DOk K mg "undecided" Lj t.f_zag t.d_zag Ql
 g_zat:DOk K mg "picks" Lx t.f_zat t.d_zat Ka
 g_zl:MOk K "parted" "Panel.parted" Vo t.f_zl t.d_zl ac0
 g_zan:DOk K mg "decides" Lq t.f_zan t.d_zan J9
 g_zah:DOk K mg "deciding" Lk t.f_zah t.d_zah Qm
 g_zaj:DOk K mg "_law_cell" Lm t.f_zaj t.d_zaj Qo
 g_zy:DOk K mg "_law_stream" V0 t.f_zy t.d_zy ad3
 g_zal:DOk K mg "_law_word" Lo t.f_zal t.d_zal Qq
 g_zo:DOk K mg "_law_switches" Vr t.f_zo t.d_zo ac3
 g_zx:DOk K mg "_law_digits" Vz t.f_zx t.d_zx ad2
 g_zq:DOk K mg "copied_rule" Vt t.f_zq t.d_zq ac5
 g_zh:MOk K "read_rule" "Panel.read_rule" Vk t.f_zh t.d_zh ab6
 g_ze:MOk K "read_rules" "Panel.read_rules" Vh t.f_ze t.d_ze ab3
 g_zac:DOk K mg "is_switch" Le t.f_zac t.d_zac Qh
 g_zk:DOk K mg "read_switches" Vn t.f_zk t.d_zk ab9
 g_zb:DOk K mg "settings_of_choices" Ve t.f_zb t.d_zb ab0
 g_za:DOk K mg "numbers_by_settings" Vd t.f_za t.d_za aa9
 g_zas:DOk K mg "set_of" Lw t.f_zas t.d_zas Qw
 g_zg:DOk K mg "sets_of_settings" Vj t.f_zg t.d_zg ab5
 F_zr:FunD K "__init__" "Panel.__init__" Ip t.f_zr t.d_zr t.dv_zr
 b_zr:∀ j,j<=1->Binds K t.d_zr ac6 (t.du_zr.drop j)
 w_zr:Vals [.non] t.du_zr
 if_zr:dE K (.ref t.f_zr)=true
 g_zaf:DOk K mg "_law_panel" Li t.f_zaf t.d_zaf Qk
 g_zap:DOk K mg "_law_key" Ls t.f_zap t.d_zap Qt
 g_zaq:DOk K mg "_law_set" Lu t.f_zaq t.d_zaq Qu
 g_zz:DOk K mg "_law_within" V1 t.f_zz t.d_zz ad4
 g_zak:DOk K mg "_law_pair" Ln t.f_zak t.d_zak Qp
 g_zae:DOk K mg "_law_lists" Lg t.f_zae t.d_zae Qj
 g_zn:DOk K mg "_law_deciding" Vq t.f_zn t.d_zn ac2
 g_zad:DOk K mg "_law_alike" Lf t.f_zad t.d_zad Qi
 F_zau:FunD K "law" "law" Ez t.f_zau t.d_zau .none
 b_zau:∀ j,j<=0->Binds K t.d_zau Qx (([]:List Value).drop j)
 w_zau:Vals [] ([]:List Value)
 m_zau:mg "law" = some (.ref t.f_zau)
 at_zba:mg "LeafError" = some (.ref t.c_zba)
 kp_zba:aR K (.ref t.c_zba)=true
 ec_zba:ECls K t.c_zba
 in_zba:aD K (.ref t.c_zba) "__init__" = some (some (.builtin "ValueError.__init__"))
 at_zbb:mg "BadPanel" = some (.ref t.c_zbb)
 kp_zbb:aR K (.ref t.c_zbb)=true
 ec_zbb:ECls K t.c_zbb
 in_zbb:aD K (.ref t.c_zbb) "__init__" = some (some (.builtin "ValueError.__init__"))
 at_zbc:mg "NoChoice" = some (.ref t.c_zbc)
 kp_zbc:aR K (.ref t.c_zbc)=true
 ec_zbc:ECls K t.c_zbc
 in_zbc:aD K (.ref t.c_zbc) "__init__" = some (some (.builtin "ValueError.__init__"))
 at_zbd:mg "BadCond" = some (.ref t.c_zbd)
 kp_zbd:aR K (.ref t.c_zbd)=true
 ec_zbd:ECls K t.c_zbd
 in_zbd:aD K (.ref t.c_zbd) "__init__" = some (some (.builtin "ValueError.__init__"))
 at_zbe:mg "Panel" = some (.ref t.c_zbe)
 kp_zbe:aR K (.ref t.c_zbe)=true
 mk_zbe:cX K t.c_zbe=true
 in_zbe:aD K (.ref t.c_zbe) "__init__" = some (some (.ref t.f_zr))
 cl_zbe:Cls K t.c_zbe
 mt_zc:Gp K t.c_zbe "all_choices" t.f_zc
 mt_zaa:Gp K t.c_zbe "box" t.f_zaa
 mt_zs:Gp K t.c_zbe "many" t.f_zs
 mt_zd:Gp K t.c_zbe "need_number" t.f_zd
 mt_zl:Gp K t.c_zbe "parted" t.f_zl
 mt_zh:Gp K t.c_zbe "read_rule" t.f_zh
 mt_ze:Gp K t.c_zbe "read_rules" t.f_ze
 mt_zj:Gp K t.c_zbe "switches" t.f_zj
 mt_zt:Gp K t.c_zbe "term" t.f_zt
 mt_zu:Gp K t.c_zbe "told" t.f_zu
 v_zax:mg "MOST_SWITCHES" = some t.u_zax
 r_zax:RelV (.int 5) t.u_zax
 v_zav:mg "LEAST_SETTINGS" = some t.u_zav
 r_zav:RelV (.int 2) t.u_zav
 v_zaw:mg "MOST_SETTINGS" = some t.u_zaw
 r_zaw:RelV (.int 4) t.u_zaw
 v_zay:mg "MOST_CHOICES" = some t.u_zay
 r_zay:RelV (.int 256) t.u_zay
 v_zaz:mg "MOST_RULES" = some t.u_zaz
 r_zaz:RelV (.int 8) t.u_zaz
 z:∀ x∈bl,mg x=none
 Z:Au K t
theorem bc6 {P:aV} {w:bM} {K:ac} {mg:Str->Option Value} {base:Heap} {t:Adr} (A:a23 K mg t):FnOk P w K mg base CX0 11 t.f_zau t.d_zau Qx (P5 K t):=by
 have T0:Tab P w K mg base 0 (Bj K t) bl:=((((((((((Tab.nil A.z).consV A.v_zaz A.r_zaz).consV A.v_zay A.r_zay).consV A.v_zaw A.r_zaw).consV A.v_zav A.r_zav).consV A.v_zax A.r_zax).consV (v:=.ref t.c_zbe) A.at_zbe rfl).consX (oi:=none) ⟨A.at_zbd,A.kp_zbd,A.ec_zbd,A.in_zbd⟩).consX (oi:=none) ⟨A.at_zbc,A.kp_zbc,A.ec_zbc,A.in_zbc⟩).consX (oi:=none) ⟨A.at_zbb,A.kp_zbb,A.ec_zbb,A.in_zbb⟩).consX (oi:=none) ⟨A.at_zba,A.kp_zba,A.ec_zba,A.in_zba⟩
 have T1:Tab P w K mg base 1 (Eb K t) bl:=((((((((((((((((((((T0.mono (show 0<=1 by decide)).con (a32 K t) A.g_zad (bd2 (t:=t) A.Z A.g_zad.F T0)).con (a33 K t) A.g_zae (bd3 (t:=t) A.Z A.g_zae.F T0)).con (a39 K t) A.g_zak (bd9 (t:=t) A.Z A.g_zak.F T0)).con (a44 K t) A.g_zap (be4 (t:=t) A.Z A.g_zap.F T0)).con (a47 K t) A.g_zas (be7 (t:=t) A.Z A.g_zas.F T0)).con (bu3 K t) A.g_za (bw3 (t:=t) A.Z A.g_za.F T0)).con (bu4 K t) A.g_zb (bw4 (t:=t) A.Z A.g_zb.F T0)).con (bv3 K t) A.g_zq (bx9 (t:=t) A.Z A.g_zq.F T0)).con (bv6 K t) A.g_zx (by6 (t:=t) A.Z A.g_zx.F T0)).con (a40 K t) A.g_zal (be0 (t:=t) A.Z A.g_zal.F T0)).con (bv7 K t) A.g_zy (by7 (t:=t) A.Z A.g_zy.F T0)).con (a38 K t) A.g_zaj (bd8 (t:=t) A.Z A.g_zaj.F T0)).con (a30 K t) A.g_zab (bd0 (t:=t) A.Z A.g_zab.F T0)).con (bv5 K t) A.g_zw (by5 (t:=t) A.Z A.g_zw.F T0)).con (a41 K t) A.g_zam (be1 (t:=t) A.Z A.g_zam.F T0)).con (a37 K t) A.g_zai (bd7 (t:=t) A.Z A.g_zai.F T0)).con (a46 K t) A.g_zar (be6 (t:=t) A.Z A.g_zar.F T0)).consM (m := "switches") (l:=Ek K t) (one ⟨A.cl_zbe,A.mt_zj,A.g_zj.fi (av2 K t) (bx2 (t:=t) A.Z A.g_zj.F T0)⟩)).consM (m := "parted") (l:=Ie K t) (one ⟨A.cl_zbe,A.mt_zl,A.g_zl.fi (bb6 K t) (bx4 (t:=t) A.Z A.g_zl.F T0)⟩)).consM (m := "many") (l:=Jx K t) (one ⟨A.cl_zbe,A.mt_zs,A.g_zs.fi (av3 K t) (by1 (t:=t) A.Z A.g_zs.F T0)⟩)
 have T2:Tab P w K mg base 2 (Rh K t) bl:=(((((((((T1.mono (show 1<=2 by decide)).con (bv0 K t) A.g_zn (bx6 (t:=t) A.Z A.g_zn.F T1)).con (a45 K t) A.g_zaq (be5 (t:=t) A.Z A.g_zaq.F T1)).con (bu6 K t) A.g_zg (bw9 (t:=t) A.Z A.g_zg.F T1)).con (bv1 K t) A.g_zo (bx7 (t:=t) A.Z A.g_zo.F T1)).con (a43 K t) A.g_zao (be3 (t:=t) A.Z A.g_zao.F T1)).con (bv2 K t) A.g_zp (bx8 (t:=t) A.Z A.g_zp.F T1)).con (bv4 K t) A.g_zv (by4 (t:=t) A.Z A.g_zv.F T1)).consM (m := "need_number") (l:=D5 K t) (one ⟨A.cl_zbe,A.mt_zd,A.g_zd.fi (bb3 K t) (bw6 (t:=t) A.Z A.g_zd.F T1)⟩)).consM (m := "all_choices") (l:=Ct K t) (one ⟨A.cl_zbe,A.mt_zc,A.g_zc.fi (av1 K t) (bw5 (t:=t) A.Z A.g_zc.F T1)⟩)
 have T3:Tab P w K mg base 3 (Ri K t) bl:=(((T2.mono (show 2<=3 by decide)).con (bv8 K t) A.g_zz (by8 (t:=t) A.Z A.g_zz.F T2)).con (bu5 K t) A.g_zf (bw8 (t:=t) A.Z A.g_zf.F T2)).consM (m := "told") (l:=Pd K t) (one ⟨A.cl_zbe,A.mt_zu,A.g_zu.fi (bb8 K t) (by3 (t:=t) A.Z A.g_zu.F T2)⟩)
 have T4:Tab P w K mg base 4 (Yh K t) bl:=(((T3.mono (show 3<=4 by decide)).con (a31 K t) A.g_zac (bd1 (t:=t) A.Z A.g_zac.F T3)).con (bu7 K t) A.g_zi (bx1 (t:=t) A.Z A.g_zi.F T3)).consM (m := "term") (l:=Pb K t) (one ⟨A.cl_zbe,A.mt_zt,A.g_zt.fi (bb7 K t) (by2 (t:=t) A.Z A.g_zt.F T3)⟩)
 have T5:Tab P w K mg base 5 (Yi K t) bl:=((T4.mono (show 4<=5 by decide)).con (bu8 K t) A.g_zk (bx3 (t:=t) A.Z A.g_zk.F T4)).consM (m := "box") (l:=Kx K t) (one ⟨A.cl_zbe,A.mt_zaa,A.g_zaa.fi (Rj K t) (bc9 (t:=t) A.Z A.g_zaa.F T4)⟩)
 have T6:Tab P w K mg base 6 (Yj K t) bl:=(((T5.mono (show 5<=6 by decide)).con (a48 K t) A.g_zat (be8 (t:=t) A.Z A.g_zat T0 5)).con (bu9 K t) A.g_zm (bx5 (t:=t) A.Z A.g_zm.F T5)).consM (m := "read_rule") (l:=E8 K t) (one ⟨A.cl_zbe,A.mt_zh,A.g_zh.fi (bb5 K t) (bx0 (t:=t) A.Z A.g_zh.F T5)⟩)
 have T7:Tab P w K mg base 7 (Yk K t) bl:=(((T6.mono (show 6<=7 by decide)).con (a42 K t) A.g_zan (be2 (t:=t) A.Z A.g_zan T1 5)).con (a35 K t) A.g_zag (bd5 (t:=t) A.Z A.g_zag.F T6)).consM (m := "read_rules") (l:=En K t) (one ⟨A.cl_zbe,A.mt_ze,A.g_ze.fi (bb4 K t) (bw7 (t:=t) A.Z A.g_ze.F T6)⟩)
 have T8:Tab P w K mg base 8 (bu1 K t) bl:=(T7.mono (show 7<=8 by decide)).con (a36 K t) A.g_zah (bd6 (t:=t) A.Z A.g_zah.F T7)
 have T9:Tab P w K mg base 9 (av0 K t) bl:=(T8.mono (show 8<=9 by decide)).consC (oi:=some (ag9 K t)) ⟨A.at_zbe,A.kp_zbe,A.mk_zbe,A.in_zbe,A.if_zr,⟨A.F_zr.kp,⟨CX0,fun X' _ _=>K5 X',by0 (t:=t) A.Z A.F_zr T7⟩,cE 8,A.b_zr,A.w_zr⟩,ay 9⟩
 have T10:Tab P w K mg base 10 (ag2 K t) bl:=(T9.mono (show 9<=10 by decide)).con (a34 K t) A.g_zaf (bd4 (t:=t) A.Z A.g_zaf.F T9)
 exact be9 (t:=t) A.Z A.F_zau T10
@[elab_as_elim] theorem Es {P:List Value->Prop} (h:∀ a,P [a]):∀ us:List Value,us.length=1->P us
 | [a],_=>h a
@[elab_as_elim] theorem Fj {P:List Value->Prop} (h:∀ a b,P [a,b]):∀ us:List Value,us.length=2->P us
 | [a,b],_=>h a b
@[elab_as_elim] theorem Ys {P:List Value->Prop} (h:∀ a b c,P [a,b,c]):∀ us:List Value,us.length=3->P us
 | [a,b,c],_=>h a b c
@[elab_as_elim] theorem av8 {P:List Value->Prop} (h:∀ a b c d,P [a,b,c,d]):∀ us:List Value,us.length=4->P us
 | [a,b,c,d],_=>h a b c d
theorem all_mk {l:jM} {w:bM} {K:ac} {h:Heap} {mg:Str->Option Value} {fa f_zar f_zv f_zp f_zj f_zai f_zs f_zd f_zu f_zi f_zc f_zam f_zw f_zab f_zao f_zf f_zt f_zaa f_zm f_zag f_zat f_zl f_zan f_zah f_zaj f_zy f_zal f_zo f_zx f_zq f_zh f_ze f_zac f_zk f_zb f_za f_zas f_zg f_zr f_zaf f_zap f_zaq f_zz f_zak f_zae f_zn f_zad f_zau c_zba c_zbb c_zbc c_zbd c_zbe Td_zr:Addr} (X:K.In h) (G:h.Ns a_ mg) (hfa:mg "law" = some (.ref fa))
  {od_zr an_zr od_zau an_zau td_zr:Option Addr} {sl_zr sl_zau ts_zr:Array (Option Value)}
  {oc_zr kV_zr dc_zr pm_zr cd_zr ct_zr oc_zau kV_zau dc_zau pm_zau cd_zau ct_zau tc_zr:Value}
  {tn_zr:Nat}
  {u_zax u_zav u_zaw u_zay u_zaz:Value}
  (a_zba:bq K a_ "LeafError" = some (some (.ref c_zba)))
  (a_zbb:bq K a_ "BadPanel" = some (some (.ref c_zbb)))
  (a_zbc:bq K a_ "NoChoice" = some (some (.ref c_zbc)))
  (a_zbd:bq K a_ "BadCond" = some (some (.ref c_zbd)))
  (in_zba:aD K (.ref c_zba) "__init__" = some (some (.builtin "ValueError.__init__")))
  (kp_zba:aR K (.ref c_zba)=true)
  (in_zbb:aD K (.ref c_zbb) "__init__" = some (some (.builtin "ValueError.__init__")))
  (kp_zbb:aR K (.ref c_zbb)=true)
  (in_zbc:aD K (.ref c_zbc) "__init__" = some (some (.builtin "ValueError.__init__")))
  (kp_zbc:aR K (.ref c_zbc)=true)
  (in_zbd:aD K (.ref c_zbd) "__init__" = some (some (.builtin "ValueError.__init__")))
  (kp_zbd:aR K (.ref c_zbd)=true)
  (a_zbe:bq K a_ "Panel" = some (some (.ref c_zbe)))
  (in_zbe:aD K (.ref c_zbe) "__init__" = some (some (.ref f_zr)))
  (kp_zbe:aR K (.ref c_zbe)=true)
  (mk_zbe:cX K c_zbe=true)
  (pg_zbe:fN K c_zbe gm=true)
  (hd_zbe:gA K c_zbe=true)
  (po_zbe:iV K c_zbe=true)
  (sa_zbe:aD K (.ref c_zbe) "__setattr__" = some (some (.builtin "object.__setattr__")))
  (mt_zc:aD K (.ref c_zbe) "all_choices" = some (some (.ref f_zc)))
  (mt_zaa:aD K (.ref c_zbe) "box" = some (some (.ref f_zaa)))
  (mt_zs:aD K (.ref c_zbe) "many" = some (some (.ref f_zs)))
  (mt_zd:aD K (.ref c_zbe) "need_number" = some (some (.ref f_zd)))
  (mt_zl:aD K (.ref c_zbe) "parted" = some (some (.ref f_zl)))
  (mt_zh:aD K (.ref c_zbe) "read_rule" = some (some (.ref f_zh)))
  (mt_ze:aD K (.ref c_zbe) "read_rules" = some (some (.ref f_ze)))
  (mt_zj:aD K (.ref c_zbe) "switches" = some (some (.ref f_zj)))
  (mt_zt:aD K (.ref c_zbe) "term" = some (some (.ref f_zt)))
  (mt_zu:aD K (.ref c_zbe) "told" = some (some (.ref f_zu)))
  (q_zar:TopD K "in_set" Lv f_zar)
  (q_zv:TopD K "choices_of" Vx f_zv)
  (q_zp:TopD K "least_choice" Vs f_zp)
  (q_zj:MetD K "switches" "Panel.switches" Vm f_zj)
  (q_zai:TopD K "is_whole" Ll f_zai)
  (q_zs:MetD K "many" "Panel.many" Vu f_zs)
  (q_zd:MetD K "need_number" "Panel.need_number" Vg f_zd)
  (q_zu:MetD K "told" "Panel.told" Vw f_zu)
  (q_zi:TopD K "terms_of_choice" Vl f_zi)
  (q_zc:MetD K "all_choices" "Panel.all_choices" Vf f_zc)
  (q_zam:TopD K "union_of" Lp f_zam)
  (q_zw:TopD K "has_length" Vy f_zw)
  (q_zab:TopD K "is_letter" Ld f_zab)
  (q_zao:TopD K "is_word" Lr f_zao)
  (q_zf:TopD K "are_unlike_words" Vi f_zf)
  (q_zt:MetD K "term" "Panel.term" Vv f_zt)
  (q_zaa:MetD K "box" "Panel.box" Lc f_zaa)
  (q_zm:TopD K "choices_like" Vp f_zm)
  (q_zag:TopD K "undecided" Lj f_zag)
  (q_zat:TopD K "picks" Lx f_zat)
  (q_zl:MetD K "parted" "Panel.parted" Vo f_zl)
  (q_zan:TopD K "decides" Lq f_zan)
  (q_zah:TopD K "deciding" Lk f_zah)
  (q_zaj:TopD K "_law_cell" Lm f_zaj)
  (q_zy:TopD K "_law_stream" V0 f_zy)
  (q_zal:TopD K "_law_word" Lo f_zal)
  (q_zo:TopD K "_law_switches" Vr f_zo)
  (q_zx:TopD K "_law_digits" Vz f_zx)
  (q_zq:TopD K "copied_rule" Vt f_zq)
  (q_zh:MetD K "read_rule" "Panel.read_rule" Vk f_zh)
  (q_ze:MetD K "read_rules" "Panel.read_rules" Vh f_ze)
  (q_zac:TopD K "is_switch" Le f_zac)
  (q_zk:TopD K "read_switches" Vn f_zk)
  (q_zb:TopD K "settings_of_choices" Ve f_zb)
  (q_za:TopD K "numbers_by_settings" Vd f_za)
  (q_zas:TopD K "set_of" Lw f_zas)
  (q_zg:TopD K "sets_of_settings" Vj f_zg)
  (l_zr:K.lookup f_zr=some ⟨oc_zr,od_zr,.func (cn "__init__" "Panel.__init__" (By Ip) (Al Ip) (Ab Ip) (.ref Td_zr) kV_zr dc_zr pm_zr an_zr cd_zr ct_zr),sl_zr⟩)
  (c_zr:dP K cd_zr "Panel.__init__" = true)
  (k_zr:aR K (.ref f_zr)=true)
  (if_zr:dE K (.ref f_zr)=true)
  (ld_zr:K.lookup Td_zr=some ⟨tc_zr,td_zr,.seq #[.none] tn_zr,ts_zr⟩)
  (q_zaf:TopD K "_law_panel" Li f_zaf)
  (q_zap:TopD K "_law_key" Ls f_zap)
  (q_zaq:TopD K "_law_set" Lu f_zaq)
  (q_zz:TopD K "_law_within" V1 f_zz)
  (q_zak:TopD K "_law_pair" Ln f_zak)
  (q_zae:TopD K "_law_lists" Lg f_zae)
  (q_zn:TopD K "_law_deciding" Vq f_zn)
  (q_zad:TopD K "_law_alike" Lf f_zad)
  (a_zau:bq K a_ "law" = some (some (.ref f_zau)))
  (l_zau:K.lookup f_zau=some ⟨oc_zau,od_zau,.func (cn "law" "law" (By Ez) (Al Ez) (Ab Ez) .none kV_zau dc_zau pm_zau an_zau cd_zau ct_zau),sl_zau⟩)
  (c_zau:dP K cd_zau "law" = true)
  (k_zau:aR K (.ref f_zau)=true)
  (x_zba:XC K c_zba (valTail))
  (x_zbb:XC K c_zbb (.ref c_zba::valTail))
  (x_zbc:XC K c_zbc (.ref c_zba::valTail))
  (x_zbd:XC K c_zbd (.ref c_zba::valTail))
  (v_zax:bq K a_ "MOST_SWITCHES" = some (some u_zax))
  (r_zax:RelV (.int 5) u_zax)
  (v_zav:bq K a_ "LEAST_SETTINGS" = some (some u_zav))
  (r_zav:RelV (.int 2) u_zav)
  (v_zaw:bq K a_ "MOST_SETTINGS" = some (some u_zaw))
  (r_zaw:RelV (.int 4) u_zaw)
  (v_zay:bq K a_ "MOST_CHOICES" = some (some u_zay))
  (r_zay:RelV (.int 256) u_zay)
  (v_zaz:bq K a_ "MOST_RULES" = some (some u_zaz))
  (r_zaz:RelV (.int 8) u_zaz)
  (z_all:bq K a_ "all" = some none)
  (z_bool:bq K a_ "bool" = some none)
  (z_dict:bq K a_ "dict" = some none)
  (z_enumerate:bq K a_ "enumerate" = some none)
  (z_int:bq K a_ "int" = some none)
  (z_isinstance:bq K a_ "isinstance" = some none)
  (z_len:bq K a_ "len" = some none)
  (z_list:bq K a_ "list" = some none)
  (z_range:bq K a_ "range" = some none)
  (z_reversed:bq K a_ "reversed" = some none)
  (z_set:bq K a_ "set" = some none)
  (z_sorted:bq K a_ "sorted" = some none)
  (z_str:bq K a_ "str" = some none)
  (z_tuple:bq K a_ "tuple" = some none)
  (z_zip:bq K a_ "zip" = some none)
  (na_settings:aD K (.ref c_zbe) "settings" = some none)
  (na_tuples:aD K (.ref c_zbe) "tuples" = some none)
  (na_numbers:aD K (.ref c_zbe) "numbers" = some none)
  (na_sets:aD K (.ref c_zbe) "sets" = some none)
  (na_kept_rules:aD K (.ref c_zbe) "kept_rules" = some none)
  (na_bars:aD K (.ref c_zbe) "bars" = some none)
  (na_free:aD K (.ref c_zbe) "free" = some none)
  (mr_zbc:hU K c_zbc (.ref c_zbc)=some true)
  : ∃ (t:Adr) (fd:aA),(∀ (s:aj) (v:Value),lI s fd ⟨[v],[]⟩ [("_law_script", v)]) /\ ∀ base:Heap,K.In base->base.Ns a_ mg->FnOk l.prog w K mg base CX0 11 fa fd ["_law_script"] (P5 K t):=by
 obtain⟨d_zar,g_zar⟩:=q_zar.ok X G (ps:=Qv) fun _ _ _ _ _ _ us hl=>Fj (fun _ _=>rfl) us hl
 obtain⟨d_zv,g_zv⟩:=q_zv.ok X G (ps:=ad0) fun _ _ _ _ _ _ us hl=>Es (fun _=>rfl) us hl
 obtain⟨d_zp,g_zp⟩:=q_zp.ok X G (ps:=ac4) fun _ _ _ _ _ _ us hl=>Es (fun _=>rfl) us hl
 obtain⟨d_zj,g_zj⟩:=q_zj.ok (ps:=ab8) fun _ _ _ _ _ _ us hl=>Es (fun _=>rfl) us hl
 obtain⟨d_zai,g_zai⟩:=q_zai.ok X G (ps:=Qn) fun _ _ _ _ _ _ us hl=>Es (fun _=>rfl) us hl
 obtain⟨d_zs,g_zs⟩:=q_zs.ok (ps:=ac7) fun _ _ _ _ _ _ us hl=>Es (fun _=>rfl) us hl
 obtain⟨d_zd,g_zd⟩:=q_zd.ok (ps:=ab2) fun _ _ _ _ _ _ us hl=>Fj (fun _ _=>rfl) us hl
 obtain⟨d_zu,g_zu⟩:=q_zu.ok (ps:=ac9) fun _ _ _ _ _ _ us hl=>Fj (fun _ _=>rfl) us hl
 obtain⟨d_zi,g_zi⟩:=q_zi.ok X G (ps:=ab7) fun _ _ _ _ _ _ us hl=>Fj (fun _ _=>rfl) us hl
 obtain⟨d_zc,g_zc⟩:=q_zc.ok (ps:=ab1) fun _ _ _ _ _ _ us hl=>Es (fun _=>rfl) us hl
 obtain⟨d_zam,g_zam⟩:=q_zam.ok X G (ps:=Qr) fun _ _ _ _ _ _ us hl=>Es (fun _=>rfl) us hl
 obtain⟨d_zw,g_zw⟩:=q_zw.ok X G (ps:=ad1) fun _ _ _ _ _ _ us hl=>Ys (fun _ _ _=>rfl) us hl
 obtain⟨d_zab,g_zab⟩:=q_zab.ok X G (ps:=Qg) fun _ _ _ _ _ _ us hl=>Es (fun _=>rfl) us hl
 obtain⟨d_zao,g_zao⟩:=q_zao.ok X G (ps:=Qs) fun _ _ _ _ _ _ us hl=>Es (fun _=>rfl) us hl
 obtain⟨d_zf,g_zf⟩:=q_zf.ok X G (ps:=ab4) fun _ _ _ _ _ _ us hl=>Es (fun _=>rfl) us hl
 obtain⟨d_zt,g_zt⟩:=q_zt.ok (ps:=ac8) fun _ _ _ _ _ _ us hl=>Ys (fun _ _ _=>rfl) us hl
 obtain⟨d_zaa,g_zaa⟩:=q_zaa.ok (ps:=Qe) fun _ _ _ _ _ _ us hl=>Fj (fun _ _=>rfl) us hl
 obtain⟨d_zm,g_zm⟩:=q_zm.ok X G (ps:=ac1) fun _ _ _ _ _ _ us hl=>Ys (fun _ _ _=>rfl) us hl
 obtain⟨d_zag,g_zag⟩:=q_zag.ok X G (ps:=Ql) fun _ _ _ _ _ _ us hl=>av8 (fun _ _ _ _=>rfl) us hl
 obtain⟨d_zat,g_zat⟩:=q_zat.ok X G (ps:=Ka) fun _ _ _ _ _ _ us hl=>Fj (fun _ _=>rfl) us hl
 obtain⟨d_zl,g_zl⟩:=q_zl.ok (ps:=ac0) fun _ _ _ _ _ _ us hl=>Fj (fun _ _=>rfl) us hl
 obtain⟨d_zan,g_zan⟩:=q_zan.ok X G (ps:=J9) fun _ _ _ _ _ _ us hl=>av8 (fun _ _ _ _=>rfl) us hl
 obtain⟨d_zah,g_zah⟩:=q_zah.ok X G (ps:=Qm) fun _ _ _ _ _ _ us hl=>Ys (fun _ _ _=>rfl) us hl
 obtain⟨d_zaj,g_zaj⟩:=q_zaj.ok X G (ps:=Qo) fun _ _ _ _ _ _ us hl=>Fj (fun _ _=>rfl) us hl
 obtain⟨d_zy,g_zy⟩:=q_zy.ok X G (ps:=ad3) fun _ _ _ _ _ _ us hl=>Fj (fun _ _=>rfl) us hl
 obtain⟨d_zal,g_zal⟩:=q_zal.ok X G (ps:=Qq) fun _ _ _ _ _ _ us hl=>Fj (fun _ _=>rfl) us hl
 obtain⟨d_zo,g_zo⟩:=q_zo.ok X G (ps:=ac3) fun _ _ _ _ _ _ us hl=>Es (fun _=>rfl) us hl
 obtain⟨d_zx,g_zx⟩:=q_zx.ok X G (ps:=ad2) fun _ _ _ _ _ _ us hl=>Es (fun _=>rfl) us hl
 obtain⟨d_zq,g_zq⟩:=q_zq.ok X G (ps:=ac5) fun _ _ _ _ _ _ us hl=>Es (fun _=>rfl) us hl
 obtain⟨d_zh,g_zh⟩:=q_zh.ok (ps:=ab6) fun _ _ _ _ _ _ us hl=>Fj (fun _ _=>rfl) us hl
 obtain⟨d_ze,g_ze⟩:=q_ze.ok (ps:=ab3) fun _ _ _ _ _ _ us hl=>Fj (fun _ _=>rfl) us hl
 obtain⟨d_zac,g_zac⟩:=q_zac.ok X G (ps:=Qh) fun _ _ _ _ _ _ us hl=>Es (fun _=>rfl) us hl
 obtain⟨d_zk,g_zk⟩:=q_zk.ok X G (ps:=ab9) fun _ _ _ _ _ _ us hl=>Es (fun _=>rfl) us hl
 obtain⟨d_zb,g_zb⟩:=q_zb.ok X G (ps:=ab0) fun _ _ _ _ _ _ us hl=>Es (fun _=>rfl) us hl
 obtain⟨d_za,g_za⟩:=q_za.ok X G (ps:=aa9) fun _ _ _ _ _ _ us hl=>Es (fun _=>rfl) us hl
 obtain⟨d_zas,g_zas⟩:=q_zas.ok X G (ps:=Qw) fun _ _ _ _ _ _ us hl=>Es (fun _=>rfl) us hl
 obtain⟨d_zg,g_zg⟩:=q_zg.ok X G (ps:=ab5) fun _ _ _ _ _ _ us hl=>Fj (fun _ _=>rfl) us hl
 have F_zr:=au9 (st:=Ip) l_zr c_zr k_zr
 have b_zr:∀ j,j<=1->Binds K (cn "__init__" "Panel.__init__" (By Ip) (Al Ip) (Ab Ip) (.ref Td_zr) kV_zr dc_zr pm_zr an_zr cd_zr ct_zr) ac6 ([bh].drop j):=fun j hj=>by
  match j,hj with
  | 0,_=>exact Iv 2 rfl ld_zr rfl rfl (fun us hl=>Fj (fun _ _=>⟨_,rfl,rfl⟩) us hl)
  | 1,_=>exact Iv 3 rfl ld_zr rfl rfl (fun us hl=>Ys (fun _ _ _=>⟨_,rfl,rfl⟩) us hl)
 obtain⟨d_zaf,g_zaf⟩:=q_zaf.ok X G (ps:=Qk) fun _ _ _ _ _ _ us hl=>Fj (fun _ _=>rfl) us hl
 obtain⟨d_zap,g_zap⟩:=q_zap.ok X G (ps:=Qt) fun _ _ _ _ _ _ us hl=>Ys (fun _ _ _=>rfl) us hl
 obtain⟨d_zaq,g_zaq⟩:=q_zaq.ok X G (ps:=Qu) fun _ _ _ _ _ _ us hl=>Fj (fun _ _=>rfl) us hl
 obtain⟨d_zz,g_zz⟩:=q_zz.ok X G (ps:=ad4) fun _ _ _ _ _ _ us hl=>Fj (fun _ _=>rfl) us hl
 obtain⟨d_zak,g_zak⟩:=q_zak.ok X G (ps:=Qp) fun _ _ _ _ _ _ us hl=>av8 (fun _ _ _ _=>rfl) us hl
 obtain⟨d_zae,g_zae⟩:=q_zae.ok X G (ps:=Qj) fun _ _ _ _ _ _ us hl=>Es (fun _=>rfl) us hl
 obtain⟨d_zn,g_zn⟩:=q_zn.ok X G (ps:=ac2) fun _ _ _ _ _ _ us hl=>av8 (fun _ _ _ _=>rfl) us hl
 obtain⟨d_zad,g_zad⟩:=q_zad.ok X G (ps:=Qi) fun _ _ _ _ _ _ us hl=>Fj (fun _ _=>rfl) us hl
 have F_zau:=Ua (st:=Ez) l_zau c_zau k_zau
 have b_zau:=F_zau.binds (ps:=Qx) fun _ _ _ _ _ _ us hl=>Es (fun _=>rfl) us hl
 have m:=cL X G a_zau
 have e:fa=f_zau:=by
  rw [hfa] at m
  injection m with m
  injection m
 subst e
 have tl_1:∀ {a:Addr},Bi (.ref a::valTail)=true:=fun {a}=>by show Bi valTail=true;decide +kernel
 have AO:a23 K mg ⟨f_zar,d_zar,f_zv,d_zv,f_zp,d_zp,f_zj,d_zj,f_zai,d_zai,f_zs,d_zs,f_zd,d_zd,f_zu,d_zu,f_zi,d_zi,f_zc,d_zc,f_zam,d_zam,f_zw,d_zw,f_zab,d_zab,f_zao,d_zao,f_zf,d_zf,f_zt,d_zt,f_zaa,d_zaa,f_zm,d_zm,f_zag,d_zag,f_zat,d_zat,f_zl,d_zl,f_zan,d_zan,f_zah,d_zah,f_zaj,d_zaj,f_zy,d_zy,f_zal,d_zal,f_zo,d_zo,f_zx,d_zx,f_zq,d_zq,f_zh,d_zh,f_ze,d_ze,f_zac,d_zac,f_zk,d_zk,f_zb,d_zb,f_za,d_za,f_zas,d_zas,f_zg,d_zg,f_zr,_,f_zaf,d_zaf,f_zap,d_zap,f_zaq,d_zaq,f_zz,d_zz,f_zak,d_zak,f_zae,d_zae,f_zn,d_zn,f_zad,d_zad,fa,_,.ref Td_zr,[bh],c_zba,c_zbb,c_zbc,c_zbd,c_zbe,u_zax,u_zav,u_zaw,u_zay,u_zaz⟩:=⟨g_zar,g_zv,g_zp,g_zj,g_zai,g_zs,g_zd,g_zu,g_zi,g_zc,g_zam,g_zw,g_zab,g_zao,g_zf,g_zt,g_zaa,g_zm,g_zag,g_zat,g_zl,g_zan,g_zah,g_zaj,g_zy,g_zal,g_zo,g_zx,g_zq,g_zh,g_ze,g_zac,g_zk,g_zb,g_za,g_zas,g_zg,F_zr,b_zr,(.cons rfl .nil),if_zr,g_zaf,g_zap,g_zaq,g_zz,g_zak,g_zae,g_zn,g_zad,F_zau.toD,(fun j _=>by rw [List.drop_nil];exact b_zau),.nil,cL X G a_zau,cL X G a_zba,kp_zba,x_zba.ecls (by decide +kernel),in_zba,cL X G a_zbb,kp_zbb,x_zbb.ecls tl_1,in_zbb,cL X G a_zbc,kp_zbc,x_zbc.ecls tl_1,in_zbc,cL X G a_zbd,kp_zbd,x_zbd.ecls tl_1,in_zbd,cL X G a_zbe,kp_zbe,mk_zbe,in_zbe,⟨pg_zbe,hd_zbe,po_zbe,sa_zbe⟩,⟨mt_zc,g_zc.i,g_zc.F.kp⟩,⟨mt_zaa,g_zaa.i,g_zaa.F.kp⟩,⟨mt_zs,g_zs.i,g_zs.F.kp⟩,⟨mt_zd,g_zd.i,g_zd.F.kp⟩,⟨mt_zl,g_zl.i,g_zl.F.kp⟩,⟨mt_zh,g_zh.i,g_zh.F.kp⟩,⟨mt_ze,g_ze.i,g_ze.F.kp⟩,⟨mt_zj,g_zj.i,g_zj.F.kp⟩,⟨mt_zt,g_zt.i,g_zt.F.kp⟩,⟨mt_zu,g_zu.i,g_zu.F.kp⟩,cL X G v_zax,r_zax,cL X G v_zav,r_zav,cL X G v_zaw,r_zaw,cL X G v_zay,r_zay,cL X G v_zaz,r_zaz,(fun x hx=>by
   simp only [bl,aE,dL,or_false] at hx
   rcases hx with rfl|rfl|rfl|rfl|rfl|rfl|rfl|rfl|rfl|rfl|rfl|rfl|rfl|rfl|rfl
   all_goals exact PySem.W.mg_none_of X G (by assumption)),⟨⟨⟨pg_zbe,hd_zbe,po_zbe,sa_zbe⟩,(fun f hf=>by
  simp only [aE,dL,or_false] at hf
  rcases hf with rfl|rfl|rfl|rfl|rfl|rfl|rfl
  ·exact na_settings
  ·exact na_tuples
  ·exact na_numbers
  ·exact na_sets
  ·exact na_kept_rules
  ·exact na_bars
  ·exact na_free),x_zbc.ecls tl_1,mr_zbc⟩⟩⟩
 exact⟨_,cn "law" "law" (By Ez) (Al Ez) (Ab Ez) .none kV_zau dc_zau pm_zau an_zau cd_zau ct_zau,fun s v=>.of_eq rfl,fun base _ _=>bc6 AO⟩
noncomputable def sp0 (K:ac):Sp:=fun vs H Q _=>∃ (a:Addr) (ns:List Int),vs=[.ref a]/\SqL K H a (ns.map V.int)/\ns.length<=63 /\ ∀ H',Q (.bl true) H'
theorem walk {l:jM} {q:aV} {loose:List Str} {XP:(Str->Option Value)->Heap->Prop} {YP:bM->Heap->Prop} {d:DefRec} {K:Params->ac} (hn:l.most=some 63) (hdf:d.params.defaults=[])
  (hY:∀ (w:bM) (h:Heap),YP w h->(K w.params).In h)
  (F:∀ (w:bM) (mg:Str->Option Value) (fa:Addr) (h:Heap),(K w.params).In h->h.Ns a_ mg->mg d.name=some (.ref fa) ->
   ∃ (t:Adr) (fd:aA),(∀ (s:aj) (u:Value),lI s fd ⟨[u],[]⟩ [("_law_script", u)]) /\ ∀ base:Heap,(K w.params).In base->base.Ns a_ mg->FnOk l.prog w (K w.params) mg base CX0 11 fa fd ["_law_script"] (P5 (K w.params) t)) :
  PySem.W.WalkO q loose XP YP l.row.toRowW d [] (fun f vs=>PySem.call f vs):=
 L2.walk_of (n:=63) (k:=11) (x := "_law_script") (CX:=fun _=>CX0) (sp:=fun w=>sp0 (K w.params)) hn (by decide) hdf ⟨rfl,by decide,by decide⟩ hY (fun w mg fa h a b c=>let ⟨t,fd,h1,h2⟩:=F w mg fa h a b c;⟨fd,h1,fun base x y=>(h2 base x y).imp fun vs H Q E z=>z⟩) (fun _ _ a ns hl _ hS=>⟨a,ns,rfl,hS,hl,fun _=>rfl⟩) fun _ _ _ _ _ z=>z
end K13
open PySem PySem.W PyProof.Rows
set_option maxRecDepth 100000 in
set_option maxHeartbeats 0 in
end
theorem PySem.Challenge.cw_manyleaf_k13_switches_that_decide_holds : PySem.Challenge.rw_manyleaf_k13_switches_that_decide.Holds := by
 refine head_k13 ?_
 k_fill
 refine K13.walk (l:=PySem.Challenge.rw_manyleaf_k13_switches_that_decide) rfl rfl (fun w h Y=>PySem.W.kIn_of Y) ?F
 case F=>
  intro w mg fa h KX G hmg
  refine' K13.all_mk KX G hmg ?a_zba ?a_zbb ?a_zbc ?a_zbd ?in_zba ?kp_zba ?in_zbb ?kp_zbb ?in_zbc ?kp_zbc ?in_zbd ?kp_zbd ?a_zbe ?in_zbe ?kp_zbe ?mk_zbe ?pg_zbe ?hd_zbe ?po_zbe ?sa_zbe ?mt_zc ?mt_zaa ?mt_zs ?mt_zd ?mt_zl ?mt_zh ?mt_ze ?mt_zj ?mt_zt ?mt_zu ?q_zar ?q_zv ?q_zp ?q_zj ?q_zai ?q_zs ?q_zd ?q_zu ?q_zi ?q_zc ?q_zam ?q_zw ?q_zab ?q_zao ?q_zf ?q_zt ?q_zaa ?q_zm ?q_zag ?q_zat ?q_zl ?q_zan ?q_zah ?q_zaj ?q_zy ?q_zal ?q_zo ?q_zx ?q_zq ?q_zh ?q_ze ?q_zac ?q_zk ?q_zb ?q_za ?q_zas ?q_zg ?l_zr ?c_zr ?k_zr ?if_zr ?ld_zr ?q_zaf ?q_zap ?q_zaq ?q_zz ?q_zak ?q_zae ?q_zn ?q_zad ?a_zau ?l_zau ?c_zau ?k_zau ?x_zba ?x_zbb ?x_zbc ?x_zbd ?v_zax ?r_zax ?v_zav ?r_zav ?v_zaw ?r_zaw ?v_zay ?r_zay ?v_zaz ?r_zaz ?z_all ?z_bool ?z_dict ?z_enumerate ?z_int ?z_isinstance ?z_len ?z_list ?z_range ?z_reversed ?z_set ?z_sorted ?z_str ?z_tuple ?z_zip ?na_settings ?na_tuples ?na_numbers ?na_sets ?na_kept_rules ?na_bars ?na_free ?mr_zbc
  (case a_zba=>k_is)
  (case a_zbb=>k_is)
  (case a_zbc=>k_is)
  (case a_zbd=>k_is)
  (case in_zba=>k_is)
  (case kp_zba=>k_is)
  (case in_zbb=>k_is)
  (case kp_zbb=>k_is)
  (case in_zbc=>k_is)
  (case kp_zbc=>k_is)
  (case in_zbd=>k_is)
  (case kp_zbd=>k_is)
  (case a_zbe=>k_is)
  (case in_zbe=>k_is)
  (case kp_zbe=>k_is)
  (case mk_zbe=>k_is)
  (case pg_zbe=>k_is)
  (case hd_zbe=>k_is)
  (case po_zbe=>k_is)
  (case sa_zbe=>k_is)
  (case mt_zc=>k_is)
  (case mt_zaa=>k_is)
  (case mt_zs=>k_is)
  (case mt_zd=>k_is)
  (case mt_zl=>k_is)
  (case mt_zh=>k_is)
  (case mt_ze=>k_is)
  (case mt_zj=>k_is)
  (case mt_zt=>k_is)
  (case mt_zu=>k_is)
  (case q_zar=>refine' L2.top_mk ?a ?l ?c ?k;(case a=>k_is);(case l=>k_is);(case c=>k_is);(case k=>k_is))
  (case q_zv=>refine' L2.top_mk ?a ?l ?c ?k;(case a=>k_is);(case l=>k_is);(case c=>k_is);(case k=>k_is))
  (case q_zp=>refine' L2.top_mk ?a ?l ?c ?k;(case a=>k_is);(case l=>k_is);(case c=>k_is);(case k=>k_is))
  (case q_zj=>refine' L2.met_mk ?l ?c ?k ?i;(case l=>k_is);(case c=>k_is);(case k=>k_is);(case i=>k_is))
  (case q_zai=>refine' L2.top_mk ?a ?l ?c ?k;(case a=>k_is);(case l=>k_is);(case c=>k_is);(case k=>k_is))
  (case q_zs=>refine' L2.met_mk ?l ?c ?k ?i;(case l=>k_is);(case c=>k_is);(case k=>k_is);(case i=>k_is))
  (case q_zd=>refine' L2.met_mk ?l ?c ?k ?i;(case l=>k_is);(case c=>k_is);(case k=>k_is);(case i=>k_is))
  (case q_zu=>refine' L2.met_mk ?l ?c ?k ?i;(case l=>k_is);(case c=>k_is);(case k=>k_is);(case i=>k_is))
  (case q_zi=>refine' L2.top_mk ?a ?l ?c ?k;(case a=>k_is);(case l=>k_is);(case c=>k_is);(case k=>k_is))
  (case q_zc=>refine' L2.met_mk ?l ?c ?k ?i;(case l=>k_is);(case c=>k_is);(case k=>k_is);(case i=>k_is))
  (case q_zam=>refine' L2.top_mk ?a ?l ?c ?k;(case a=>k_is);(case l=>k_is);(case c=>k_is);(case k=>k_is))
  (case q_zw=>refine' L2.top_mk ?a ?l ?c ?k;(case a=>k_is);(case l=>k_is);(case c=>k_is);(case k=>k_is))
  (case q_zab=>refine' L2.top_mk ?a ?l ?c ?k;(case a=>k_is);(case l=>k_is);(case c=>k_is);(case k=>k_is))
  (case q_zao=>refine' L2.top_mk ?a ?l ?c ?k;(case a=>k_is);(case l=>k_is);(case c=>k_is);(case k=>k_is))
  (case q_zf=>refine' L2.top_mk ?a ?l ?c ?k;(case a=>k_is);(case l=>k_is);(case c=>k_is);(case k=>k_is))
  (case q_zt=>refine' L2.met_mk ?l ?c ?k ?i;(case l=>k_is);(case c=>k_is);(case k=>k_is);(case i=>k_is))
  (case q_zaa=>refine' L2.met_mk ?l ?c ?k ?i;(case l=>k_is);(case c=>k_is);(case k=>k_is);(case i=>k_is))
  (case q_zm=>refine' L2.top_mk ?a ?l ?c ?k;(case a=>k_is);(case l=>k_is);(case c=>k_is);(case k=>k_is))
  (case q_zag=>refine' L2.top_mk ?a ?l ?c ?k;(case a=>k_is);(case l=>k_is);(case c=>k_is);(case k=>k_is))
  (case q_zat=>refine' L2.top_mk ?a ?l ?c ?k;(case a=>k_is);(case l=>k_is);(case c=>k_is);(case k=>k_is))
  (case q_zl=>refine' L2.met_mk ?l ?c ?k ?i;(case l=>k_is);(case c=>k_is);(case k=>k_is);(case i=>k_is))
  (case q_zan=>refine' L2.top_mk ?a ?l ?c ?k;(case a=>k_is);(case l=>k_is);(case c=>k_is);(case k=>k_is))
  (case q_zah=>refine' L2.top_mk ?a ?l ?c ?k;(case a=>k_is);(case l=>k_is);(case c=>k_is);(case k=>k_is))
  (case q_zaj=>refine' L2.top_mk ?a ?l ?c ?k;(case a=>k_is);(case l=>k_is);(case c=>k_is);(case k=>k_is))
  (case q_zy=>refine' L2.top_mk ?a ?l ?c ?k;(case a=>k_is);(case l=>k_is);(case c=>k_is);(case k=>k_is))
  (case q_zal=>refine' L2.top_mk ?a ?l ?c ?k;(case a=>k_is);(case l=>k_is);(case c=>k_is);(case k=>k_is))
  (case q_zo=>refine' L2.top_mk ?a ?l ?c ?k;(case a=>k_is);(case l=>k_is);(case c=>k_is);(case k=>k_is))
  (case q_zx=>refine' L2.top_mk ?a ?l ?c ?k;(case a=>k_is);(case l=>k_is);(case c=>k_is);(case k=>k_is))
  (case q_zq=>refine' L2.top_mk ?a ?l ?c ?k;(case a=>k_is);(case l=>k_is);(case c=>k_is);(case k=>k_is))
  (case q_zh=>refine' L2.met_mk ?l ?c ?k ?i;(case l=>k_is);(case c=>k_is);(case k=>k_is);(case i=>k_is))
  (case q_ze=>refine' L2.met_mk ?l ?c ?k ?i;(case l=>k_is);(case c=>k_is);(case k=>k_is);(case i=>k_is))
  (case q_zac=>refine' L2.top_mk ?a ?l ?c ?k;(case a=>k_is);(case l=>k_is);(case c=>k_is);(case k=>k_is))
  (case q_zk=>refine' L2.top_mk ?a ?l ?c ?k;(case a=>k_is);(case l=>k_is);(case c=>k_is);(case k=>k_is))
  (case q_zb=>refine' L2.top_mk ?a ?l ?c ?k;(case a=>k_is);(case l=>k_is);(case c=>k_is);(case k=>k_is))
  (case q_za=>refine' L2.top_mk ?a ?l ?c ?k;(case a=>k_is);(case l=>k_is);(case c=>k_is);(case k=>k_is))
  (case q_zas=>refine' L2.top_mk ?a ?l ?c ?k;(case a=>k_is);(case l=>k_is);(case c=>k_is);(case k=>k_is))
  (case q_zg=>refine' L2.top_mk ?a ?l ?c ?k;(case a=>k_is);(case l=>k_is);(case c=>k_is);(case k=>k_is))
  (case l_zr=>k_is)
  (case c_zr=>k_is)
  (case k_zr=>k_is)
  (case if_zr=>k_is)
  (case ld_zr=>k_is)
  (case q_zaf=>refine' L2.top_mk ?a ?l ?c ?k;(case a=>k_is);(case l=>k_is);(case c=>k_is);(case k=>k_is))
  (case q_zap=>refine' L2.top_mk ?a ?l ?c ?k;(case a=>k_is);(case l=>k_is);(case c=>k_is);(case k=>k_is))
  (case q_zaq=>refine' L2.top_mk ?a ?l ?c ?k;(case a=>k_is);(case l=>k_is);(case c=>k_is);(case k=>k_is))
  (case q_zz=>refine' L2.top_mk ?a ?l ?c ?k;(case a=>k_is);(case l=>k_is);(case c=>k_is);(case k=>k_is))
  (case q_zak=>refine' L2.top_mk ?a ?l ?c ?k;(case a=>k_is);(case l=>k_is);(case c=>k_is);(case k=>k_is))
  (case q_zae=>refine' L2.top_mk ?a ?l ?c ?k;(case a=>k_is);(case l=>k_is);(case c=>k_is);(case k=>k_is))
  (case q_zn=>refine' L2.top_mk ?a ?l ?c ?k;(case a=>k_is);(case l=>k_is);(case c=>k_is);(case k=>k_is))
  (case q_zad=>refine' L2.top_mk ?a ?l ?c ?k;(case a=>k_is);(case l=>k_is);(case c=>k_is);(case k=>k_is))
  (case a_zau=>k_is)
  (case l_zau=>k_is)
  (case c_zau=>k_is)
  (case k_zau=>k_is)
  (case x_zba=>(refine' L2.xc_mk ?l ?y ?s ?g ?t ?c ?n ?k;(case l=>k_is);(case y=>k_is);(case s=>k_is);(case g=>k_is);(case t=>k_is);(case c=>k_is);(case n=>k_is);(case k=>k_is)))
  (case x_zbb=>(refine' L2.xc_mk ?l ?y ?s ?g ?t ?c ?n ?k;(case l=>k_is);(case y=>k_is);(case s=>k_is);(case g=>k_is);(case t=>k_is);(case c=>k_is);(case n=>k_is);(case k=>k_is)))
  (case x_zbc=>(refine' L2.xc_mk ?l ?y ?s ?g ?t ?c ?n ?k;(case l=>k_is);(case y=>k_is);(case s=>k_is);(case g=>k_is);(case t=>k_is);(case c=>k_is);(case n=>k_is);(case k=>k_is)))
  (case x_zbd=>(refine' L2.xc_mk ?l ?y ?s ?g ?t ?c ?n ?k;(case l=>k_is);(case y=>k_is);(case s=>k_is);(case g=>k_is);(case t=>k_is);(case c=>k_is);(case n=>k_is);(case k=>k_is)))
  (case v_zax=>k_is)
  (case r_zax=>exact⟨_,rfl⟩)
  (case v_zav=>k_is)
  (case r_zav=>exact⟨_,rfl⟩)
  (case v_zaw=>k_is)
  (case r_zaw=>exact⟨_,rfl⟩)
  (case v_zay=>k_is)
  (case r_zay=>exact⟨_,rfl⟩)
  (case v_zaz=>k_is)
  (case r_zaz=>exact⟨_,rfl⟩)
  (case z_all=>k_is)
  (case z_bool=>k_is)
  (case z_dict=>k_is)
  (case z_enumerate=>k_is)
  (case z_int=>k_is)
  (case z_isinstance=>k_is)
  (case z_len=>k_is)
  (case z_list=>k_is)
  (case z_range=>k_is)
  (case z_reversed=>k_is)
  (case z_set=>k_is)
  (case z_sorted=>k_is)
  (case z_str=>k_is)
  (case z_tuple=>k_is)
  (case z_zip=>k_is)
  (case na_settings=>k_is)
  (case na_tuples=>k_is)
  (case na_numbers=>k_is)
  (case na_sets=>k_is)
  (case na_kept_rules=>k_is)
  (case na_bars=>k_is)
  (case na_free=>k_is)
  (case mr_zbc=>k_is)
#print axioms PySem.Challenge.cw_manyleaf_k13_switches_that_decide_holds
